package pmp

import (
	"bytes"
	"encoding/binary"
	"math"
	"slices"
	"testing"

	"embrasure/api"
)

const secs = 1<<32 - 1 // the greatest number of four bytes

// form: one of the four datagrams, and the greatest that each field of its lease may be.
type form struct {
	name   string
	answer bool
	host   bool
	kind   byte
	size   int
	most   api.Lease
}

// forms: the four, as the document tells them.
var forms = []form{
	{"a request for the host", false, true, 0, 2, api.Lease{}},
	{"a request for a port", false, false, 1, 12, api.Lease{Inside: 65535, Port: 65535, Secs: secs}},
	{"an answer about the host", true, true, 128, 12, api.Lease{Result: 65535, Epoch: secs, Host: math.MaxUint32}},
	{"an answer about a port", true, false, 129, 16, api.Lease{Inside: 65535, Port: 65535, Secs: secs, Result: 65535, Epoch: secs}},
}

// fields: those of a lease that are numbers of the kind int.
var fields = []struct {
	name string
	of   func(l *api.Lease) *int
}{
	{"Ver", func(l *api.Lease) *int { return &l.Ver }},
	{"Inside", func(l *api.Lease) *int { return &l.Inside }},
	{"Port", func(l *api.Lease) *int { return &l.Port }},
	{"Secs", func(l *api.Lease) *int { return &l.Secs }},
	{"Result", func(l *api.Lease) *int { return &l.Result }},
	{"Epoch", func(l *api.Lease) *int { return &l.Epoch }},
}

// values: the edges, one below and one above, such as are a field's only when they are cut, and some between.
var values = []int{
	math.MinInt, math.MinInt + 1, math.MinInt + 5, -1 << 48, -1<<32 - 1, -1 << 32, -1<<32 + 5, -1<<32 + 1, -1<<31 - 1, -1 << 31, -65537, -65536, -65535, -256, -255, -128, -2, -1,
	0, 1, 2, 5, 127, 128, 129, 255, 256, 257, 300, 4001, 32767, 32768, 65534, 65535,
	65536, 65537, 65541, 1<<24 - 1, 1 << 24, 1<<31 - 1, 1 << 31, 1<<31 + 1, 1<<32 - 2, 1<<32 - 1,
	1 << 32, 1<<32 + 1, 1<<32 + 5, 1<<32 + 65535, 1<<33 + 5, 1<<48 + 5, 1 << 62, math.MaxInt - 1, math.MaxInt,
}

// hosts: any number of 32 bits is one.
var hosts = []uint32{0, 1, 255, 256, 0x0a000001, 0xcb007101, 1<<31 - 1, 1 << 31, 1 << 24, math.MaxUint32 - 1, math.MaxUint32}

// ordinary: a lease of this form, no two fields alike.
func (f form) ordinary() api.Lease {
	l := api.Lease{Inside: 0x0102, Port: 0xf304, Secs: 0xf5060708, Result: 0xf90a, Epoch: 0xfb0c0d0e, Host: 0xff102030}
	for _, x := range fields {
		*x.of(&l) = min(*x.of(&l), *x.of(&f.most))
	}
	l.Host = min(l.Host, f.most.Host)
	return l
}

// may: whether the fields of a lease may be so.
func (f form) may(l api.Lease) bool {
	for _, x := range fields {
		if *x.of(&l) < 0 || *x.of(&l) > *x.of(&f.most) {
			return false
		}
	}
	return l.Nonce == 0 && l.Host <= f.most.Host
}

// tell: a lease by the program.
func (f form) tell(l api.Lease) []byte {
	if f.answer {
		return Answer(l, f.host)
	}
	return Ask(l, f.host)
}

// written: a lease by a rule that isn't the program's. What is too great is cut.
func (f form) written(l api.Lease) []byte {
	b := []byte{0, f.kind}
	if f.answer {
		b = binary.BigEndian.AppendUint16(b, uint16(l.Result))
		b = binary.BigEndian.AppendUint32(b, uint32(l.Epoch))
	}
	switch {
	case f.host && f.answer:
		return binary.BigEndian.AppendUint32(b, l.Host)
	case f.host:
		return b
	case !f.answer:
		b = append(b, 0, 0)
	}
	b = binary.BigEndian.AppendUint16(b, uint16(l.Inside))
	b = binary.BigEndian.AppendUint16(b, uint16(l.Port))
	return binary.BigEndian.AppendUint32(b, uint32(l.Secs))
}

// read: the lease of a datagram, and whether it is one of this form, by a rule that isn't the program's.
func (f form) read(b []byte) (api.Lease, bool) {
	if len(b) != f.size || b[0] != 0 || b[1] != f.kind {
		return api.Lease{}, false
	}
	two := func(at int) int { return int(binary.BigEndian.Uint16(b[at:])) }
	four := func(at int) int { return int(binary.BigEndian.Uint32(b[at:])) }
	switch f.kind {
	case 1:
		return api.Lease{Inside: two(4), Port: two(6), Secs: four(8)}, two(2) == 0
	case 128:
		return api.Lease{Result: two(2), Epoch: four(4), Host: binary.BigEndian.Uint32(b[8:])}, true
	case 129:
		return api.Lease{Result: two(2), Epoch: four(4), Inside: two(8), Port: two(10), Secs: four(12)}, true
	}
	return api.Lease{}, true
}

// then: bytes, and others behind them, in memory of their own.
func then(parts ...[]byte) []byte { return bytes.Join(parts, nil) }

// full: so many bytes that are all ones.
func full(n int) []byte { return bytes.Repeat([]byte{0xff}, n) }

// readBy: bytes read by the program, as an answer or as a request.
func readBy(b []byte, answer bool) (api.Lease, bool, api.Code) {
	if answer {
		return ReadAnswer(b)
	}
	return ReadAsk(b)
}

// readsAs: that bytes are read as this lease of this form.
func readsAs(t *testing.T, b []byte, f form, want api.Lease) {
	t.Helper()
	if l, host, code := readBy(b, f.answer); l != want || host != f.host || code != api.OK {
		t.Errorf("%s %x is read as %v %v %d, want %v %v OK", f.name, b, l, host, code, want, f.host)
	}
}

// refused: that bytes are no request, or no answer, and that nothing stands beside the code.
func refused(t *testing.T, b []byte, answer bool) {
	t.Helper()
	if l, host, code := readBy(b, answer); l != (api.Lease{}) || host || code != api.Malformed {
		t.Errorf("%x (an answer: %v) is read as %v %v %d, want nothing, Malformed", b, answer, l, host, code)
	}
}

// reads: that bytes are read as that rule reads them, as a request and as an answer, and told again as they were.
func reads(t *testing.T, b []byte) {
	t.Helper()
	is := map[bool]bool{}
	for _, f := range forms {
		want, ok := f.read(b)
		if !ok {
			continue
		}
		is[f.answer] = true
		readsAs(t, b, f, want)
		if again := f.tell(want); !bytes.Equal(again, b) {
			t.Errorf("%s: %x is read as %v, and told as %x", f.name, b, want, again)
		}
	}
	for _, answer := range []bool{false, true} {
		if !is[answer] {
			refused(t, b, answer)
		}
	}
}

// tells: that a lease is told as that rule tells it, and read again; or not told, if its fields may not be so.
func tells(t *testing.T, f form, l api.Lease) {
	t.Helper()
	b := f.tell(l)
	if !f.may(l) {
		if len(b) != 0 {
			t.Errorf("%s of %v is told as %x, want nothing", f.name, l, b)
		}
		return
	}
	if want := f.written(l); !bytes.Equal(b, want) || len(b) != f.size {
		t.Errorf("%s of %v is told as %x, want %x", f.name, l, b, want)
	}
	readsAs(t, b, f, l)
	refused(t, b, !f.answer)
}

// bases: leases of a form of which one field after another is changed.
func (f form) bases() []api.Lease { return []api.Lease{{}, f.ordinary(), f.most} }

// P9.1: the chapter's example, and other requests, written out.
func TestAskWrittenOut(t *testing.T) {
	for _, c := range []struct {
		l    api.Lease
		host bool
		want []byte
	}{
		{api.Lease{Inside: 5, Port: 7, Secs: 60}, false, []byte{0, 1, 0, 0, 0, 5, 0, 7, 0, 0, 0, 0x3c}},
		{api.Lease{}, true, []byte{0, 0}},
		{api.Lease{}, false, []byte{0, 1, 0, 0, 0, 0, 0, 0, 0, 0, 0, 0}},
		{api.Lease{Inside: 4001, Secs: 7200}, false, []byte{0, 1, 0, 0, 0x0f, 0xa1, 0, 0, 0, 0, 0x1c, 0x20}},
		{api.Lease{Inside: 4001, Port: 40000}, false, []byte{0, 1, 0, 0, 0x0f, 0xa1, 0x9c, 0x40, 0, 0, 0, 0}},
		{api.Lease{Inside: 0x0102, Port: 0x0304, Secs: 0x05060708}, false, []byte{0, 1, 0, 0, 1, 2, 3, 4, 5, 6, 7, 8}},
		{api.Lease{Inside: 65535, Port: 65535, Secs: api.MaxSecs}, false, then([]byte{0, 1, 0, 0}, full(8))},
	} {
		if b := Ask(c.l, c.host); !bytes.Equal(b, c.want) {
			t.Errorf("Ask(%v, %v) = %x, want %x", c.l, c.host, b, c.want)
		}
		if l, host, code := ReadAsk(c.want); l != c.l || host != c.host || code != api.OK {
			t.Errorf("ReadAsk(%x) = %v %v %d, want %v %v OK", c.want, l, host, code, c.l, c.host)
		}
	}
}

// P9.1: answers, written out; what was granted, what wasn't, and the host, one whose bytes are all ones among them.
func TestAnswerWrittenOut(t *testing.T) {
	for _, c := range []struct {
		l    api.Lease
		host bool
		want []byte
	}{
		{api.Lease{Inside: 5, Port: 7, Secs: 60, Epoch: 300}, false, []byte{0, 129, 0, 0, 0, 0, 1, 0x2c, 0, 5, 0, 7, 0, 0, 0, 0x3c}},
		{api.Lease{Inside: 5, Result: 4, Epoch: 300}, false, []byte{0, 129, 0, 4, 0, 0, 1, 0x2c, 0, 5, 0, 0, 0, 0, 0, 0}},
		{api.Lease{}, false, []byte{0, 129, 0, 0, 0, 0, 0, 0, 0, 0, 0, 0, 0, 0, 0, 0}},
		{api.Lease{Result: 0x0102, Epoch: 0x03040506, Inside: 0x0708, Port: 0x090a, Secs: 0x0b0c0d0e}, false, []byte{0, 129, 1, 2, 3, 4, 5, 6, 7, 8, 9, 10, 11, 12, 13, 14}},
		{api.Lease{Result: 65535, Epoch: secs, Inside: 65535, Port: 65535, Secs: api.MaxSecs}, false, then([]byte{0, 129}, full(14))},
		{api.Lease{Epoch: 300, Host: 0xcb007101}, true, []byte{0, 128, 0, 0, 0, 0, 1, 0x2c, 0xcb, 0, 0x71, 1}},
		{api.Lease{Result: 1, Epoch: 9}, true, []byte{0, 128, 0, 1, 0, 0, 0, 9, 0, 0, 0, 0}},
		{api.Lease{}, true, []byte{0, 128, 0, 0, 0, 0, 0, 0, 0, 0, 0, 0}},
		{api.Lease{Result: 0x0102, Epoch: 0x03040506, Host: 0x0708090a}, true, []byte{0, 128, 1, 2, 3, 4, 5, 6, 7, 8, 9, 10}},
		{api.Lease{Result: 65535, Epoch: secs, Host: math.MaxUint32}, true, then([]byte{0, 128}, full(10))},
	} {
		if b := Answer(c.l, c.host); !bytes.Equal(b, c.want) {
			t.Errorf("Answer(%v, %v) = %x, want %x", c.l, c.host, b, c.want)
		}
		if l, host, code := ReadAnswer(c.want); l != c.l || host != c.host || code != api.OK {
			t.Errorf("ReadAnswer(%x) = %v %v %d, want %v %v OK", c.want, l, host, code, c.l, c.host)
		}
	}
}

// P9.1, P9.2: each field of each of the four by itself, at its edges and beyond them; in such as have it not it is 0.
func TestEachField(t *testing.T) {
	for _, f := range forms {
		for _, base := range f.bases() {
			tells(t, f, base)
			for _, x := range fields {
				for _, v := range values {
					l := base
					*x.of(&l) = v
					tells(t, f, l)
				}
			}
			for _, host := range hosts {
				l := base
				l.Host = host
				tells(t, f, l)
			}
			for _, nonce := range []uint64{1, 2, 0xffff, 1 << 16, 1<<32 - 1, 1 << 32, 1 << 56, 1 << 63, math.MaxUint64} {
				l := base
				l.Nonce = nonce
				tells(t, f, l)
			}
		}
	}
}

// P9.1: two fields that may not be so don't make up for one another, nor does one for another that may.
func TestTwoFields(t *testing.T) {
	few := []int{math.MinInt, -65536, -1, 0, 1, 65535, 65536, 1<<32 - 1, 1 << 32, math.MaxInt}
	for _, f := range forms {
		for i, x := range fields {
			for _, y := range fields[i+1:] {
				for _, v := range few {
					for _, w := range few {
						l := f.ordinary()
						*x.of(&l), *y.of(&l) = v, w
						tells(t, f, l)
					}
				}
			}
		}
	}
}

// P9.1: a lease of another of the four isn't told, if a field of it is there that this one hasn't.
func TestOtherForms(t *testing.T) {
	for _, f := range forms {
		for _, other := range forms {
			if l := other.ordinary(); f.name != other.name {
				tells(t, f, l)
			}
		}
		for _, x := range fields {
			for _, v := range []int{1, 60, 300} {
				var l api.Lease
				*x.of(&l) = v
				tells(t, f, l)
			}
		}
		tells(t, f, api.Lease{Host: 1})
		tells(t, f, api.Lease{Nonce: 1})
	}
	if b := Ask(api.Lease{Host: 0xcb007101}, true); len(b) != 0 {
		t.Errorf("a request for a host that is there already: %x", b)
	}
	if b := Answer(api.Lease{Inside: 5, Port: 7, Secs: 60, Host: 0xcb007101}, false); len(b) != 0 {
		t.Errorf("an answer about a port with a host: %x", b)
	}
}

// P9.1: bytes that are none of the four, written out.
func TestMalformed(t *testing.T) {
	list := [][]byte{
		nil, {}, {0}, {1}, {128}, {0xff}, full(2), full(12), full(16), full(60), full(1200),
		// Other versions: PCP's, and others.
		{1, 0}, {2, 0}, {0xff, 0}, {128, 0}, {2, 1}, {2, 1, 0, 0, 0, 5, 0, 7, 0, 0, 0, 60}, {1, 1, 0, 0, 0, 5, 0, 7, 0, 0, 0, 60}, {0xff, 1, 0, 0, 0, 5, 0, 7, 0, 0, 0, 60},
		then([]byte{1, 128}, make([]byte, 10)), then([]byte{2, 128}, make([]byte, 10)), then([]byte{2, 129}, make([]byte, 14)), then([]byte{2, 129}, make([]byte, 58)), then([]byte{2, 1}, make([]byte, 58)), then([]byte{0xff, 129}, full(14)),
		// Other kinds: a port of streams (2, 130), and others.
		{0, 1}, {0, 2}, {0, 127}, {0, 128}, {0, 129}, {0, 130}, {0, 0xff}, {0, 2, 0, 0, 0, 5, 0, 7, 0, 0, 0, 60}, {0, 3, 0, 0, 0, 5, 0, 7, 0, 0, 0, 60}, {0, 0, 0, 0, 0, 5, 0, 7, 0, 0, 0, 60},
		then([]byte{0, 130}, make([]byte, 14)), then([]byte{0, 131}, make([]byte, 10)), then([]byte{0, 127}, make([]byte, 10)), then([]byte{0, 0xff}, full(14)), then([]byte{0, 0xff}, full(10)),
		// Two bytes that aren't 0 where they must be.
		{0, 1, 0, 1, 0, 5, 0, 7, 0, 0, 0, 60}, {0, 1, 1, 0, 0, 5, 0, 7, 0, 0, 0, 60}, {0, 1, 0xff, 0xff, 0, 5, 0, 7, 0, 0, 0, 60}, {0, 1, 0, 128, 0, 5, 0, 7, 0, 0, 0, 60}, {0, 1, 128, 0, 0, 5, 0, 7, 0, 0, 0, 60},
		// The length of one with the kind of another.
		{0, 0, 0}, {0, 0, 0, 0}, then([]byte{0, 0}, make([]byte, 10)), then([]byte{0, 0}, make([]byte, 14)), then([]byte{0, 1}, make([]byte, 14)), then([]byte{0, 128}, make([]byte, 14)), then([]byte{0, 129}, make([]byte, 10)), {0, 128}, {0, 129},
		make([]byte, 3), make([]byte, 12), make([]byte, 16), make([]byte, 60), make([]byte, 1200),
	}
	for _, b := range list {
		refused(t, b, false)
		refused(t, b, true)
	}
}

// P9.1: a request isn't an answer, nor an answer a request, whatever their fields are.
func TestRequestIsNoAnswer(t *testing.T) {
	for _, f := range forms {
		for _, l := range f.bases() {
			b := f.tell(l)
			refused(t, b, !f.answer)
			for _, other := range forms {
				c := slices.Clone(b)
				c[1] = other.kind
				reads(t, c)
			}
		}
	}
}

// P9.1, P9.2: a datagram that is cut off anywhere, at either end, or has bytes behind it, or ahead, is Malformed, or another one.
func TestCutOff(t *testing.T) {
	for _, f := range forms {
		for _, l := range f.bases() {
			b := f.tell(l)
			for n := range b {
				// No beginning of one of the four is another one.
				refused(t, b[:n], false)
				refused(t, b[:n], true)
				reads(t, b[n:])
			}
			for _, more := range [][]byte{{0}, {1}, {0x7f}, {0x80}, {0xff}, {0, 0}, make([]byte, 4), full(4), make([]byte, 10), make([]byte, 14), make([]byte, 1000), b} {
				refused(t, then(b, more), false)
				refused(t, then(b, more), true)
				reads(t, then(more, b))
			}
		}
	}
}

// P9.1, P9.2: a byte more, one less, or another one, anywhere: another datagram, or Malformed.
func TestOneByteOff(t *testing.T) {
	for _, f := range forms {
		for _, l := range f.bases() {
			b := f.tell(l)
			for i := range len(b) + 1 {
				for c := range 256 {
					reads(t, then(b[:i], []byte{byte(c)}, b[i:]))
					if i < len(b) {
						reads(t, then(b[:i], []byte{byte(c)}, b[i+1:]))
					}
				}
				if i < len(b) {
					reads(t, then(b[:i], b[i+1:]))
				}
			}
		}
	}
}

// P9.1: all versions and all kinds, with each length up to some, of zeros and of ones.
func TestVersionsAndKinds(t *testing.T) {
	for ver := range 256 {
		for kind := range 256 {
			head := []byte{byte(ver), byte(kind)}
			for _, n := range []int{0, 10, 14} {
				reads(t, then(head, make([]byte, n)))
				reads(t, then(head, full(n)))
			}
		}
	}
	for n := range 70 {
		for _, head := range [][]byte{{0, 0}, {0, 1}, {0, 1, 0, 0}, {0, 128}, {0, 129}} {
			reads(t, then(head, make([]byte, n)))
			reads(t, then(head, full(n)))
		}
	}
}

// P9.1: of the two bytes that must be 0, all that they may not be.
func TestZeros(t *testing.T) {
	b := Ask(api.Lease{Inside: 5, Port: 7, Secs: 60}, false)
	for v := 1; v < 1<<16; v++ {
		b[2], b[3] = byte(v>>8), byte(v)
		refused(t, b, false)
	}
}

// scattered: as many numbers as are asked for, from a fixed rule.
func scattered(yield func(uint64) bool) {
	x := uint64(88172645463325252)
	for {
		x ^= x << 13
		x ^= x >> 7
		x ^= x << 17
		if !yield(x) {
			return
		}
	}
}

// drawn: n leases, and of which of the four each is, from a fixed rule, small numbers and great ones.
func drawn(n int) ([]form, []api.Lease) {
	var of []form
	var list []api.Lease
	for x := range scattered {
		if len(list) == n {
			break
		}
		f := forms[len(list)%len(forms)]
		var l api.Lease
		for _, y := range fields {
			x = x*6364136223846793005 + 1442695040888963407
			*y.of(&l) = int(x>>32>>(x>>58%32)) % (*y.of(&f.most) + 1)
		}
		if f.most.Host != 0 {
			l.Host = uint32(x >> 20)
		}
		of, list = append(of, f), append(list, l)
	}
	return of, list
}

// P9.2: what is told is read again, and no two leases have one datagram.
func TestReadAgain(t *testing.T) {
	type told struct {
		l    api.Lease
		host bool
	}
	whose := map[string]told{}
	of, list := drawn(20000)
	for i, l := range list {
		f := of[i]
		tells(t, f, l)
		b := string(f.tell(l))
		if x, had := whose[b]; had && x != (told{l, f.host}) {
			t.Errorf("%v and %v have one datagram", x, told{l, f.host})
		}
		whose[b] = told{l, f.host}
	}
}

// P9.1: what is handed in isn't changed, nor is its spare room read.
func TestHandedIn(t *testing.T) {
	for _, f := range forms {
		l := f.ordinary()
		b := f.tell(l)
		room := then(b, []byte{1, 2, 3})
		was := slices.Clone(room)
		for n := range b {
			refused(t, room[:n], f.answer)
		}
		readsAs(t, room[:len(b)], f, l)
		refused(t, room[:len(b)], !f.answer)
		if !bytes.Equal(room, was) {
			t.Errorf("what was handed in, %x, is now %x", was, room)
		}
	}
}

// P9.1: what is answered is new memory.
func TestNewMemory(t *testing.T) {
	for _, f := range forms {
		l := f.ordinary()
		b, c := f.tell(l), f.tell(l)
		for i := range b {
			b[i] ^= 0xff
		}
		_ = append(b, 1, 2, 3)
		if !bytes.Equal(c, f.written(l)) || !bytes.Equal(f.tell(l), c) {
			t.Errorf("%s of %v: two answers share memory", f.name, l)
		}
	}
}

// P9.1, P9.2: whatever bytes come, they are read as the other rule reads them.
func FuzzRead(f *testing.F) {
	of, list := drawn(40)
	for i, l := range list {
		f.Add(of[i].written(l))
	}
	for _, b := range [][]byte{nil, {0}, {0, 0}, {0, 0, 0}, {2, 0}, {0, 1, 0, 1, 0, 5, 0, 7, 0, 0, 0, 60}, {0, 2, 0, 0, 0, 5, 0, 7, 0, 0, 0, 60}, then([]byte{0, 128}, full(10))} {
		f.Add(b)
	}
	f.Fuzz(reads)
}

// P9.1, P9.2: whatever numbers a lease has, it is told as the other rule tells it, and read again, or not told.
func FuzzTell(f *testing.F) {
	for _, x := range forms {
		l := x.ordinary()
		f.Add(l.Ver, l.Inside, l.Port, l.Secs, l.Nonce, l.Result, l.Epoch, l.Host)
	}
	f.Add(1, -1, 65536, 1<<32, uint64(1), -1, 1<<32, uint32(1))
	f.Fuzz(func(t *testing.T, ver, inside, port, secs int, nonce uint64, result, epoch int, host uint32) {
		for _, x := range forms {
			tells(t, x, api.Lease{Ver: ver, Inside: inside, Port: port, Secs: secs, Nonce: nonce, Result: result, Epoch: epoch, Host: host})
		}
	})
}
