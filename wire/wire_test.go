package wire

import (
	"bytes"
	"encoding/binary"
	"math"
	"slices"
	"testing"

	"embrasure/api"
)

const most = 1<<63 - 1 // the greatest number of a message

// kinds: how many numbers each kind has, as the document tells them.
var kinds = map[int]int{
	1: 4, 2: 5, 3: 5, 4: 6, 5: 1, 6: 1, 7: 3, 8: 1, 9: 2, 10: 2,
	11: 2, 12: 4, 13: 2, 14: 4, 15: 2, 16: 1, 17: 2, 18: 1,
}

// wrongKinds: numbers of no kind, and such as are one's only when they are cut.
func wrongKinds() []int {
	return []int{0, -1, -5, -18, 19, 20, 21, 127, 128, 255, 256, 256 + 5, 1<<16 + 5, 1<<32 + 5, math.MaxInt, math.MinInt, math.MinInt + 5}
}

// scattered: as many numbers as are asked for, from a fixed rule.
func scattered(yield func(uint64) bool) {
	x := uint64(88172645463325252)
	for {
		x ^= x << 13
		x ^= x >> 7
		x ^= x << 17
		if !yield(x) {
			return
		}
	}
}

// edgeNums: numbers at the edges of how many bytes they have.
func edgeNums() []uint64 {
	return []uint64{0, 1, 127, 128, 300, 1<<14 - 1, 1 << 14, 1 << 32, 1<<56 - 1, 1 << 56, 1 << 62, most - 1, most}
}

// addrsOf: n addresses, no two alike, the edges among them.
func addrsOf(n int) []api.Addr {
	list := []api.Addr{{Host: 0x01020304, Port: 5}, {Host: 1, Port: 1}, {Host: math.MaxUint32, Port: 65535}, {Host: 1 << 31, Port: 256}, {Host: 1, Port: 65535}}
	for i := range n {
		list = append(list, api.Addr{Host: 0x0a000001 + uint32(i), Port: 4001 + i})
	}
	return list[:n:n]
}

// wrongAddrs: what is no address.
func wrongAddrs() []api.Addr {
	return []api.Addr{{}, {Host: 0, Port: 1}, {Host: 0, Port: 65535}, {Host: 1, Port: 0}, {Host: 1, Port: -1}, {Host: 1, Port: 65536}, {Host: 1, Port: 1<<32 + 1}, {Host: 1, Port: math.MaxInt}, {Host: 1, Port: math.MinInt}}
}

// bodyOf: n bytes from a fixed rule.
func bodyOf(n int) []byte {
	b := make([]byte, n)
	for i := range b {
		b[i] = byte(i*7 + i>>5 + n)
	}
	return b
}

// plain: an ordinary message of a kind.
func plain(kind int) api.Msg {
	m := api.Msg{Kind: kind, Addrs: addrsOf(2), Body: []byte("hi")}
	for i := range kinds[kind] {
		m.Nums = append(m.Nums, uint64(200*i+kind))
	}
	return m
}

// with: a message with one thing done to it.
func with(m api.Msg, do func(*api.Msg)) api.Msg {
	m = copied(m)
	do(&m)
	return m
}

// copied: a message in memory of its own.
func copied(m api.Msg) api.Msg {
	return api.Msg{Kind: m.Kind, Nums: slices.Clone(m.Nums), Addrs: slices.Clone(m.Addrs), Body: slices.Clone(m.Body)}
}

// same: whether two messages are one; nil and empty mean the same.
func same(a, b api.Msg) bool {
	return a.Kind == b.Kind && slices.Equal(a.Nums, b.Nums) && slices.Equal(a.Addrs, b.Addrs) && bytes.Equal(a.Body, b.Body)
}

// goodMsgs: messages of each kind, ordinary ones and such as are at the edges.
func goodMsgs() []api.Msg {
	var list []api.Msg
	for kind, count := range kinds {
		m := plain(kind)
		list = append(list, m, api.Msg{Kind: kind, Nums: make([]uint64, count)}, api.Msg{Kind: kind, Nums: make([]uint64, count), Addrs: []api.Addr{}, Body: []byte{}})
		for _, v := range edgeNums() {
			list = append(list, with(m, func(m *api.Msg) { m.Nums = slices.Repeat([]uint64{v}, count) }))
			for i := range count {
				list = append(list, with(m, func(m *api.Msg) { m.Nums[i] = v }))
			}
		}
		for n := range api.MaxAddrs + 1 {
			list = append(list, with(m, func(m *api.Msg) { m.Addrs = addrsOf(n) }), api.Msg{Kind: kind, Nums: make([]uint64, count), Addrs: slices.Repeat(addrsOf(1), n)})
		}
		for _, n := range []int{0, 1, 2, 126, 127, 128, 129, 500, 999, api.MaxBody} {
			list = append(list, with(m, func(m *api.Msg) { m.Body = bodyOf(n) }), with(m, func(m *api.Msg) { m.Body = make([]byte, n) }))
		}
		list = append(list, api.Msg{Kind: kind, Nums: slices.Repeat([]uint64{most}, count), Addrs: addrsOf(api.MaxAddrs), Body: bodyOf(api.MaxBody)})
	}
	return list
}

// badMsgs: what isn't a message, by its kind, a number, how many numbers, an address, how many addresses, or its body.
func badMsgs() []api.Msg {
	var list []api.Msg
	for _, kind := range wrongKinds() {
		for n := range api.MaxNums + 2 {
			list = append(list, api.Msg{Kind: kind, Nums: make([]uint64, n)}, api.Msg{Kind: kind, Nums: make([]uint64, n), Addrs: addrsOf(2), Body: []byte("hi")})
		}
	}
	for kind, count := range kinds {
		m := plain(kind)
		for n := range 20 {
			if n != count {
				list = append(list, with(m, func(m *api.Msg) { m.Nums = make([]uint64, n) }))
			}
		}
		for i := range count {
			for _, v := range []uint64{most + 1, most + 2, 1<<63 + 1<<62, math.MaxUint64 - 1, math.MaxUint64} {
				list = append(list, with(m, func(m *api.Msg) { m.Nums[i] = v }))
			}
		}
		for n := 1; n <= api.MaxAddrs; n++ {
			for i := range n {
				for _, a := range wrongAddrs() {
					list = append(list, with(m, func(m *api.Msg) { m.Addrs = addrsOf(n); m.Addrs[i] = a }))
				}
			}
		}
		for _, n := range []int{api.MaxAddrs + 1, api.MaxAddrs + 2, 100, 256, 300} {
			list = append(list, with(m, func(m *api.Msg) { m.Addrs = addrsOf(n) }))
		}
		for _, n := range []int{api.MaxBody + 1, api.MaxBody + 2, api.MaxFrame, api.MaxFrame + 1, 1 << 14, 1 << 17} {
			list = append(list, with(m, func(m *api.Msg) { m.Body = bodyOf(n) }))
		}
	}
	return list
}

// then: bytes, and others behind them, in memory of their own.
func then(parts ...[]byte) []byte { return bytes.Join(parts, nil) }

// put: a number as bytes, by the library.
func put(v uint64) []byte { return binary.AppendUvarint(nil, v) }

// written: what has a message's form as bytes, whether it is a message or not, by a rule that isn't the program's.
func written(m api.Msg) []byte {
	b := put(uint64(m.Kind))
	for _, v := range m.Nums {
		b = binary.AppendUvarint(b, v)
	}
	b = binary.AppendUvarint(b, uint64(len(m.Addrs)))
	for _, a := range m.Addrs {
		b = binary.BigEndian.AppendUint32(b, a.Host)
		b = binary.BigEndian.AppendUint16(b, uint16(a.Port))
	}
	return then(b, put(uint64(len(m.Body))), m.Body)
}

// taken: the number with which bytes begin, up to a greatest one, and what stands behind; by the library.
func taken(b []byte, greatest uint64) (uint64, []byte, bool) {
	v, n := binary.Uvarint(b)
	if n <= 0 || v > greatest || len(put(v)) != n {
		return 0, nil, false
	}
	return v, b[n:], true
}

// read: the message of bytes, and whether there is one, by a rule that isn't the program's.
func read(b []byte) (api.Msg, bool) {
	var m api.Msg
	v, b, ok := taken(b, 18)
	if !ok || kinds[int(v)] == 0 {
		return api.Msg{}, false
	}
	m.Kind = int(v)
	for range kinds[m.Kind] {
		if v, b, ok = taken(b, most); !ok {
			return api.Msg{}, false
		}
		m.Nums = append(m.Nums, v)
	}
	if v, b, ok = taken(b, 8); !ok || len(b) < 6*int(v) {
		return api.Msg{}, false
	}
	for range v {
		a := api.Addr{Host: binary.BigEndian.Uint32(b), Port: int(binary.BigEndian.Uint16(b[4:]))}
		if a.Host == 0 || a.Port == 0 {
			return api.Msg{}, false
		}
		m.Addrs, b = append(m.Addrs, a), b[6:]
	}
	if v, b, ok = taken(b, 1000); !ok || len(b) != int(v) {
		return api.Msg{}, false
	}
	m.Body = slices.Clone(b)
	return m, true
}

// reads: that bytes are read as that rule reads them, and told again as they were.
func reads(t *testing.T, b []byte) {
	t.Helper()
	m, code := FromBytes(b)
	want, ok := read(b)
	if ok && (code != api.OK || !same(m, want)) {
		t.Errorf("FromBytes(%x) = %v %d, want %v OK", b, m, code, want)
	}
	if ok && (!May(m) || !bytes.Equal(Bytes(m), b)) {
		t.Errorf("FromBytes(%x) = %v, told as %x", b, m, Bytes(m))
	}
	if !ok {
		refused(t, b)
	}
}

// refused: that bytes are no message's, and that nothing stands beside the code.
func refused(t *testing.T, b []byte) {
	t.Helper()
	if m, code := FromBytes(b); !same(m, api.Msg{}) || code != api.Malformed {
		t.Errorf("FromBytes(%x) = %v %d, want nothing, Malformed", b, m, code)
	}
}

// P5.1: how many numbers each kind has, and -1 of all others.
func TestNums(t *testing.T) {
	for kind := -300; kind < 300; kind++ {
		want, is := kinds[kind]
		if !is {
			want = -1
		}
		if n := Nums(kind); n != want {
			t.Errorf("Nums(%d) = %d, want %d", kind, n, want)
		}
	}
	for _, kind := range wrongKinds() {
		if n := Nums(kind); n != -1 {
			t.Errorf("Nums(%d) = %d, want -1", kind, n)
		}
	}
}

// P5.1: the kinds by their names.
func TestNumsNamed(t *testing.T) {
	for _, c := range []struct{ kind, want int }{
		{api.Hello, 4}, {api.Answer, 5}, {api.Data, 5}, {api.Ack, 6}, {api.Ping, 1}, {api.Pong, 1},
		{api.Close, 3}, {api.Reset, 1}, {api.Dial, 2}, {api.DialBack, 2}, {api.Reserve, 2}, {api.Reserved, 4},
		{api.Connect, 2}, {api.Stop, 4}, {api.Status, 2}, {api.Forward, 1}, {api.Punch, 2}, {api.Sync, 1},
	} {
		if n := Nums(c.kind); n != c.want {
			t.Errorf("Nums(%d) = %d, want %d", c.kind, n, c.want)
		}
	}
}

// P5.1: May, of what is a message and what isn't; of the one there are bytes, of the other none.
func TestMay(t *testing.T) {
	for _, m := range goodMsgs() {
		if !May(m) || len(Bytes(m)) == 0 {
			t.Errorf("May(%v) = %v, Bytes %x", m, May(m), Bytes(m))
		}
	}
	for _, m := range badMsgs() {
		if May(m) || len(Bytes(m)) != 0 {
			t.Errorf("May(%v) = %v, Bytes %x", m, May(m), Bytes(m))
		}
	}
}

// P5.1: messages of each kind and their bytes, written out.
func TestBytesWrittenOut(t *testing.T) {
	x, y := api.Addr{Host: 0x01020304, Port: 5}, api.Addr{Host: 0xfffefdfc, Port: 0xfbfa}
	for _, c := range []struct {
		m    api.Msg
		want []byte
	}{
		{api.Msg{Kind: api.Hello, Nums: []uint64{1, 2, 3, 4}}, []byte{1, 1, 2, 3, 4, 0, 0}},
		{api.Msg{Kind: api.Answer, Nums: []uint64{5, 4, 3, 2, 1}, Body: []byte{1}}, []byte{2, 5, 4, 3, 2, 1, 0, 1, 1}},
		{api.Msg{Kind: api.Data, Nums: []uint64{7, 8, 0, 128, 127}, Body: []byte("abc")}, []byte{3, 7, 8, 0, 0x80, 1, 0x7f, 0, 3, 'a', 'b', 'c'}},
		{api.Msg{Kind: api.Ack, Nums: []uint64{0, 0, 0, 0, 0, 0}}, []byte{4, 0, 0, 0, 0, 0, 0, 0, 0}},
		{api.Msg{Kind: api.Ping, Nums: []uint64{300}}, []byte{5, 0xac, 2, 0, 0}},
		{api.Msg{Kind: api.Pong, Nums: []uint64{most}}, []byte{6, 0xff, 0xff, 0xff, 0xff, 0xff, 0xff, 0xff, 0xff, 0x7f, 0, 0}},
		{api.Msg{Kind: api.Close, Nums: []uint64{1, 300, 2}}, []byte{7, 1, 0xac, 2, 2, 0, 0}},
		{api.Msg{Kind: api.Reset, Nums: []uint64{0}, Body: []byte{0}}, []byte{8, 0, 0, 1, 0}},
		{api.Msg{Kind: api.Dial, Nums: []uint64{7, 300}, Addrs: []api.Addr{x}, Body: []byte("hi")}, []byte{9, 7, 0xac, 2, 1, 1, 2, 3, 4, 0, 5, 2, 'h', 'i'}},
		{api.Msg{Kind: api.DialBack, Nums: []uint64{1, 2}}, []byte{10, 1, 2, 0, 0}},
		{api.Msg{Kind: api.Reserve, Nums: []uint64{1, 1 << 14}}, []byte{11, 1, 0x80, 0x80, 1, 0, 0}},
		{api.Msg{Kind: api.Reserved, Nums: []uint64{9, 8, 7, 6}, Addrs: []api.Addr{y}}, []byte{12, 9, 8, 7, 6, 1, 0xff, 0xfe, 0xfd, 0xfc, 0xfb, 0xfa, 0}},
		{api.Msg{Kind: api.Connect, Nums: []uint64{3, 4}}, []byte{13, 3, 4, 0, 0}},
		{api.Msg{Kind: api.Stop, Nums: []uint64{0, 1, 0, 1}, Addrs: []api.Addr{y, x}}, []byte{14, 0, 1, 0, 1, 2, 0xff, 0xfe, 0xfd, 0xfc, 0xfb, 0xfa, 1, 2, 3, 4, 0, 5, 0}},
		{api.Msg{Kind: api.Status, Nums: []uint64{127, 128}}, []byte{15, 0x7f, 0x80, 1, 0, 0}},
		{api.Msg{Kind: api.Forward, Nums: []uint64{1}, Body: []byte{0xff, 0}}, []byte{16, 1, 0, 2, 0xff, 0}},
		{api.Msg{Kind: api.Punch, Nums: []uint64{1, 0}, Addrs: []api.Addr{x, y, x}}, []byte{17, 1, 0, 3, 1, 2, 3, 4, 0, 5, 0xff, 0xfe, 0xfd, 0xfc, 0xfb, 0xfa, 1, 2, 3, 4, 0, 5, 0}},
		{api.Msg{Kind: api.Sync, Nums: []uint64{3}}, []byte{18, 3, 0, 0}},
		{api.Msg{Kind: api.Ping, Nums: []uint64{1}, Body: make([]byte, 128)}, then([]byte{5, 1, 0, 0x80, 1}, make([]byte, 128))},
		{api.Msg{Kind: api.Ping, Nums: []uint64{1}, Addrs: slices.Repeat([]api.Addr{x}, 8), Body: bodyOf(1000)}, then([]byte{5, 1, 8}, bytes.Repeat([]byte{1, 2, 3, 4, 0, 5}, 8), []byte{0xe8, 7}, bodyOf(1000))},
	} {
		if b := Bytes(c.m); !bytes.Equal(b, c.want) {
			t.Errorf("Bytes(%v) = %x, want %x", c.m, b, c.want)
		}
		if m, code := FromBytes(c.want); !same(m, c.m) || code != api.OK {
			t.Errorf("FromBytes(%x) = %v %d, want %v OK", c.want, m, code, c.m)
		}
	}
}

// P5.1: what has a message's form, but isn't one, isn't read as one.
func TestFromBytesOfNone(t *testing.T) {
	for _, m := range badMsgs() {
		// In an address's bytes a port that is too great, or below 0, is another one.
		if !slices.ContainsFunc(m.Addrs, func(a api.Addr) bool { return a.Port != int(uint16(a.Port)) }) {
			refused(t, written(m))
		}
	}
}

// P5.1: bytes that no message has, written out.
func TestFromBytesMalformed(t *testing.T) {
	full := func(n int) []byte { return bytes.Repeat([]byte{0xff}, n) }
	list := [][]byte{
		nil, {}, {0}, {5}, {18}, {19}, {0x80}, {0xff}, full(8), full(9), full(12), full(100), make([]byte, 100),
		// Kinds that aren't one, with any count of numbers.
		{0, 0, 0}, {0, 1, 0, 0}, {19, 0, 0}, {19, 1, 0, 0}, {19, 1, 1, 0, 0}, {0x7f, 1, 0, 0}, {0x85, 1, 1, 0, 0}, {0x85, 2, 1, 0, 0},
		then(put(1<<32+5), []byte{1, 0, 0}), then(put(1<<62+5), []byte{1, 0, 0}), then(put(most), []byte{1, 0, 0}), then(put(most+1), []byte{1, 0, 0}), then(put(math.MaxUint64), []byte{1, 0, 0}),
		// Numbers not told in their shortest way: the kind, a number, how many addresses, the body's length.
		{0x85, 0, 1, 0, 0}, {0x85, 0x80, 0, 1, 0, 0}, {5, 0x81, 0, 0, 0}, {5, 0x80, 0, 0, 0}, {5, 0xac, 0x82, 0, 0, 0}, {5, 1, 0x80, 0, 0},
		{5, 1, 0x81, 0, 1, 2, 3, 4, 0, 5, 0}, {5, 1, 0, 0x80, 0}, {5, 1, 0, 0x81, 0, 'a'}, {5, 1, 0, 0x81, 0x80, 0, 'a'}, {13, 0x83, 0, 4, 0, 0}, {13, 3, 0x84, 0, 0, 0},
		then([]byte{5}, full(8), []byte{0, 0, 0}), then([]byte{5}, bytes.Repeat([]byte{0x80}, 8), []byte{0, 0, 0}),
		// Numbers above 2^63 - 1.
		then([]byte{5}, put(most+1), []byte{0, 0}), then([]byte{5}, put(math.MaxUint64), []byte{0, 0}), then([]byte{13, 3}, put(most+1), []byte{0, 0}), then([]byte{5}, full(9), []byte{0, 0, 0}),
		// One number too few, and one too many.
		{5, 0, 0}, {5, 1, 1, 0, 0}, {13, 3, 0, 0}, {13, 3, 4, 5, 0, 0}, {4, 1, 2, 3, 4, 5, 0, 0}, {4, 1, 2, 3, 4, 5, 6, 7, 0, 0},
		// More addresses than there are, or may be, and what is none.
		{5, 1, 1, 0}, {5, 1, 1, 1, 2, 3, 4, 0}, {5, 1, 1, 1, 2, 3, 4, 0, 5}, {5, 1, 2, 1, 2, 3, 4, 0, 5, 0}, {5, 1, 9, 0}, {5, 1, 0xff, 1, 0},
		{5, 1, 1, 0, 0, 0, 0, 0, 1, 0}, {5, 1, 1, 1, 2, 3, 4, 0, 0, 0}, {5, 1, 1, 0, 0, 0, 0, 0, 0, 0}, {5, 1, 2, 1, 2, 3, 4, 0, 5, 0, 0, 0, 0, 0, 5, 0}, {5, 1, 2, 0, 0, 0, 0, 0, 5, 1, 2, 3, 4, 0, 5, 0},
		then([]byte{5, 1, 9}, bytes.Repeat([]byte{1, 2, 3, 4, 0, 5}, 9), []byte{0}), then([]byte{5, 1}, put(200), bytes.Repeat([]byte{1, 2, 3, 4, 0, 5}, 200), []byte{0}),
		then([]byte{5, 1}, put(1<<32), []byte{0}), then([]byte{5, 1}, put(1<<61), []byte{0}), then([]byte{5, 1}, put(most), []byte{0}), then([]byte{5, 1}, put(math.MaxUint64), []byte{0}),
		// Bodies that are longer than they may be, though a frame may be that long, or than there are bytes; or shorter.
		then([]byte{5, 1, 0}, put(1001), bodyOf(1001)), then([]byte{5, 1, 0}, put(1200), bodyOf(1200)), then([]byte{5, 1, 0}, put(1201), bodyOf(1201)), then([]byte{5, 1, 0}, put(1000), bodyOf(1001)), then([]byte{5, 1, 0}, put(1000), bodyOf(999)),
		{5, 1, 0, 1}, {5, 1, 0, 2, 'a'}, {5, 1, 0, 0, 'a'}, {5, 1, 0, 1, 'a', 'b'}, {5, 1, 0}, {5, 1}, {5, 1, 0, 0, 0}, {5, 1, 0, 0, 5, 1, 0, 0},
		then([]byte{5, 1, 0}, put(1<<32), []byte{}), then([]byte{5, 1, 0}, put(most)), then([]byte{5, 1, 0}, full(9)), then([]byte{5, 1, 0}, put(math.MaxUint64)),
	}
	for _, b := range list {
		refused(t, b)
	}
}

// P5.1, P5.2: a row of bytes that is cut off anywhere, at either end, or has a byte more at its end, is Malformed.
func TestFromBytesCutOff(t *testing.T) {
	for _, m := range goodMsgs() {
		b := Bytes(m)
		for n := range b {
			refused(t, b[:n])
		}
		for _, more := range [][]byte{{0}, {1}, {5}, {0x7f}, {0x80}, {0xff}, {0, 0}, b} {
			refused(t, then(b, more))
		}
		if m.Kind == api.Dial || m.Kind == api.Ack {
			for n := range b {
				reads(t, b[n:])
			}
		}
	}
}

// P5.1, P5.2: a byte more, one less, or another one, anywhere: another message, or Malformed.
func TestFromBytesOneByteOff(t *testing.T) {
	for kind := range kinds {
		b := Bytes(plain(kind))
		for i := range len(b) + 1 {
			for c := range 256 {
				reads(t, then(b[:i], []byte{byte(c)}, b[i:]))
				if i < len(b) {
					reads(t, then(b[:i], []byte{byte(c)}, b[i+1:]))
				}
			}
			if i < len(b) {
				reads(t, then(b[:i], b[i+1:]))
			}
		}
	}
}

// P5.2: what is told is read again, and no two messages have one row of bytes.
func TestReadAgain(t *testing.T) {
	whose := map[string]api.Msg{}
	for _, m := range append(goodMsgs(), drawn(5000)...) {
		b := Bytes(m)
		if !bytes.Equal(b, written(m)) {
			t.Errorf("Bytes(%v) = %x, want %x", m, b, written(m))
		}
		if x, code := FromBytes(b); !same(x, m) || code != api.OK {
			t.Errorf("FromBytes(Bytes(%v)) = %v %d", m, x, code)
		}
		if x, had := whose[string(b)]; had && !same(x, m) {
			t.Errorf("%v and %v have one row of bytes", x, m)
		}
		whose[string(b)] = m
	}
}

// drawn: n messages of all kinds and sizes, from a fixed rule.
func drawn(n int) []api.Msg {
	var list []api.Msg
	for x := range scattered {
		if len(list) == n {
			break
		}
		m := api.Msg{Kind: 1 + len(list)%18}
		for range kinds[m.Kind] {
			x = x*6364136223846793005 + 1442695040888963407
			m.Nums = append(m.Nums, x>>(1+x>>58))
		}
		for i := range x >> 32 % 9 {
			m.Addrs = append(m.Addrs, api.Addr{Host: uint32(x>>i) | 1, Port: 1 + int(x>>(8+i)%65535)})
		}
		m.Body = bodyOf(int(x >> 40 % 1001 >> (x >> 60)))
		list = append(list, m)
	}
	return list
}

// P5.1: rows of bytes from a fixed rule, few different ones, so that many are messages.
func TestFromBytesDrawn(t *testing.T) {
	were := 0
	b := make([]byte, 0, 16)
	for x := range scattered {
		if were == 2000 {
			break
		}
		b = b[:0]
		for i := range 4 + x>>8%9 {
			b = append(b, []byte{0, 0, 0, 1, 1, 2, 5, 6, 8, 16, 18, 19, 9, 13, 0x80, 0x81}[x>>(12+4*i)%16])
		}
		if _, ok := read(b); ok {
			were++
		}
		reads(t, b)
	}
}

// P5.1: what is handed in isn't changed, nor kept, and its spare room is neither read nor written.
func TestHandedIn(t *testing.T) {
	room := api.Msg{Kind: api.Dial, Nums: []uint64{7, 300, 9}, Addrs: addrsOf(3), Body: []byte("hi!")}
	was := copied(room)
	m := api.Msg{Kind: room.Kind, Nums: room.Nums[:2], Addrs: room.Addrs[:1], Body: room.Body[:2]}
	want := []byte{9, 7, 0xac, 2, 1, 1, 2, 3, 4, 0, 5, 2, 'h', 'i'}
	if b := Bytes(m); !May(m) || !bytes.Equal(b, want) {
		t.Errorf("May(%v) = %v, Bytes %x, want %x", m, May(m), b, want)
	}
	if !same(room, was) {
		t.Errorf("what was handed in is now %v", room)
	}
	b := Bytes(m)
	room.Nums[0], room.Addrs[0].Port, room.Body[0] = 8, 9, 'H'
	if !bytes.Equal(b, want) {
		t.Errorf("bytes went with their message: %x", b)
	}
}

// P5.1: so it is with bytes.
func TestBytesHandedIn(t *testing.T) {
	m := api.Msg{Kind: api.Dial, Nums: []uint64{7, 300}, Addrs: addrsOf(2), Body: []byte("hi")}
	b := Bytes(m)
	room := then(b, []byte{1, 2, 3})
	was := slices.Clone(room)
	for n := range b {
		refused(t, room[:n])
	}
	x, code := FromBytes(room[:len(b)])
	if !same(x, m) || code != api.OK || !bytes.Equal(room, was) {
		t.Errorf("FromBytes(%x) = %v %d; what was handed in is now %x", b, x, code, room)
	}
	clear(room)
	if !same(x, m) {
		t.Errorf("a message went with its bytes: %v", x)
	}
}

// P5.1: what is answered is new memory, and no two lists share any.
func TestNewMemory(t *testing.T) {
	for _, m := range goodMsgs() {
		b, c := Bytes(m), Bytes(m)
		for i := range b {
			b[i] ^= 0xff
		}
		_ = append(b, 1, 2, 3)
		if !bytes.Equal(c, written(m)) || !bytes.Equal(Bytes(m), c) {
			t.Fatalf("Bytes(%v): two answers share memory", m)
		}
		x, _ := FromBytes(c)
		y, _ := FromBytes(c)
		_ = append(x.Nums, 1, 2, 3)
		_ = append(x.Addrs, addrsOf(3)...)
		_ = append(x.Body, "xyz"...)
		if !same(x, m) {
			t.Fatalf("FromBytes(%x): two lists share memory", c)
		}
		clear(x.Nums)
		clear(x.Addrs)
		clear(x.Body)
		if !same(y, m) || !bytes.Equal(c, written(m)) {
			t.Fatalf("FromBytes(%x): two answers, or an answer and what was handed in, share memory", c)
		}
	}
}

// P5.1, P5.2: whatever bytes come, they are read as the other rule reads them.
func FuzzFromBytes(f *testing.F) {
	f.Add([]byte(nil))
	for _, m := range drawn(40) {
		f.Add(Bytes(m))
	}
	for kind := range 20 {
		f.Add(written(plain(kind)))
	}
	for _, b := range [][]byte{{0, 0, 0}, {5, 0x81, 0, 0, 0}, {5, 1, 9, 0}, {5, 1, 1, 0, 0, 0, 0, 0, 1, 0}, {5, 1, 0, 0, 0}} {
		f.Add(b)
	}
	f.Fuzz(reads)
}
