package addr

import (
	"bytes"
	"encoding/binary"
	"fmt"
	"math"
	"regexp"
	"slices"
	"strconv"
	"strings"
	"testing"

	"embrasure/api"
)

// numbers: as many as are asked for, from a fixed rule.
func numbers(yield func(uint64) bool) {
	x := uint64(88172645463325252)
	for {
		x ^= x << 13
		x ^= x >> 7
		x ^= x << 17
		if !yield(x) {
			return
		}
	}
}

// goodAddrs: addresses at the edges.
func goodAddrs() []api.Addr {
	var list []api.Addr
	for _, h := range []uint32{1, 2, 255, 256, 0x0a000001, 0x0a000102, 0x01020304, 0x7fffffff, 0x80000000, 0xff000000, 0x00ff00ff, math.MaxUint32} {
		for _, p := range []int{1, 2, 9, 10, 80, 255, 256, 4001, 32767, 32768, 65534, 65535} {
			list = append(list, api.Addr{Host: h, Port: p})
		}
	}
	return list
}

// badAddrs: what has a host or a port that no address has.
func badAddrs() []api.Addr {
	list := []api.Addr{{}, {Host: 0, Port: 1}, {Host: 0, Port: 4001}, {Host: 0, Port: 65535}}
	for _, p := range []int{0, -1, -4001, 65536, 65537, 1 << 17, 1<<32 + 1, math.MaxInt, math.MinInt, math.MinInt + 1} {
		list = append(list, api.Addr{Host: 0x0a000001, Port: p}, api.Addr{Host: math.MaxUint32, Port: p})
	}
	return list
}

// goodPlaces: places at the edges.
func goodPlaces() []api.Place {
	var list []api.Place
	for _, a := range goodAddrs() {
		list = append(list, api.Place{Addr: a})
		for _, id := range []int{1, 2, 9, 10, 4001, 1 << 16, api.MaxPeer - 1, api.MaxPeer} {
			list = append(list, api.Place{Addr: a, ID: id}, api.Place{Addr: a, ID: id, Via: true})
		}
	}
	return list
}

// badPlaces: what isn't a place, by its address, its ID, or Via without an ID.
func badPlaces() []api.Place {
	var list []api.Place
	for _, a := range badAddrs() {
		list = append(list, api.Place{Addr: a}, api.Place{Addr: a, ID: 7}, api.Place{Addr: a, ID: 7, Via: true})
	}
	for _, a := range goodAddrs() {
		list = append(list, api.Place{Addr: a, Via: true})
		for _, id := range []int{-1, -7, api.MaxPeer + 1, 1 << 32, 1<<32 + 7, math.MaxInt, math.MinInt} {
			list = append(list, api.Place{Addr: a, ID: id}, api.Place{Addr: a, ID: id, Via: true})
		}
	}
	return list
}

// P3.1: May, of what is an address and what isn't.
func TestMay(t *testing.T) {
	for _, a := range goodAddrs() {
		if !May(a) {
			t.Errorf("May(%v) = false", a)
		}
	}
	for _, a := range badAddrs() {
		if May(a) {
			t.Errorf("May(%v) = true", a)
		}
	}
}

// P3.1: every port from below 0 to above the greatest.
func TestMayPorts(t *testing.T) {
	for p := -300; p <= 66000; p++ {
		want := p > 0 && p < 65536
		if got := May(api.Addr{Host: 1, Port: p}); got != want {
			t.Errorf("May of port %d = %v", p, got)
		}
	}
}

// P3.1: Bytes, written out: the host and the port, the greatest first.
func TestBytesWrittenOut(t *testing.T) {
	for _, c := range []struct {
		a    api.Addr
		want []byte
	}{
		{api.Addr{Host: 1, Port: 1}, []byte{0, 0, 0, 1, 0, 1}},
		{api.Addr{Host: 0x01020304, Port: 0x0506}, []byte{1, 2, 3, 4, 5, 6}},
		{api.Addr{Host: 0x0a000001, Port: 4001}, []byte{10, 0, 0, 1, 15, 161}},
		{api.Addr{Host: 0xff000000, Port: 255}, []byte{255, 0, 0, 0, 0, 255}},
		{api.Addr{Host: 0x80000000, Port: 256}, []byte{128, 0, 0, 0, 1, 0}},
		{api.Addr{Host: math.MaxUint32, Port: 65535}, []byte{255, 255, 255, 255, 255, 255}},
	} {
		if b := Bytes(c.a); !bytes.Equal(b, c.want) {
			t.Errorf("Bytes(%v) = %v, want %v", c.a, b, c.want)
		}
		if a, code := FromBytes(c.want); a != c.a || code != api.OK {
			t.Errorf("FromBytes(%v) = %v %d, want %v OK", c.want, a, code, c.a)
		}
	}
}

// P3.1: what isn't an address has no bytes.
func TestBytesOfNone(t *testing.T) {
	for _, a := range badAddrs() {
		if b := Bytes(a); len(b) != 0 {
			t.Errorf("Bytes(%v) = %v, want none", a, b)
		}
	}
}

// P3.1: what is answered is new memory.
func TestBytesNewMemory(t *testing.T) {
	for _, a := range goodAddrs() {
		x, y := Bytes(a), Bytes(a)
		want := slices.Clone(y)
		for i := range x {
			x[i] ^= 0xff
		}
		_ = append(x, 1, 2, 3)
		if !bytes.Equal(y, want) || !bytes.Equal(Bytes(a), want) {
			t.Errorf("Bytes(%v): two answers share memory", a)
		}
	}
}

// P3.1: FromBytes of what is no address's bytes is Malformed, with nothing beside it.
func TestFromBytesMalformed(t *testing.T) {
	list := [][]byte{
		nil,
		{},
		{10, 0, 0, 1, 0, 0},
		{255, 255, 255, 255, 0, 0},
		{0, 0, 0, 0, 0, 1},
		{0, 0, 0, 0, 15, 161},
		{0, 0, 0, 0, 255, 255},
		{0, 0, 0, 0, 0, 0},
		// A 0 more, or less, than an address's bytes.
		{10, 0, 0, 1, 0, 15, 161},
		{0, 10, 0, 0, 1, 15, 161},
		{10, 0, 0, 1, 15, 161, 0},
		{10, 0, 0, 1, 161},
	}
	for n := 1; n < 20; n++ {
		if n != 6 {
			list = append(list, bytes.Repeat([]byte{1}, n), bytes.Repeat([]byte{255}, n), make([]byte, n))
		}
	}
	list = append(list, bytes.Repeat([]byte{1}, 1<<16+6))
	for _, b := range list {
		if a, code := FromBytes(b); a != (api.Addr{}) || code != api.Malformed {
			t.Errorf("FromBytes(%v) = %v %d, want nothing, Malformed", b, a, code)
		}
	}
}

// P3.1: what is handed in isn't changed, and its spare room is neither read nor written.
func TestFromBytesSpareRoom(t *testing.T) {
	room := []byte{10, 0, 0, 1, 15, 161, 7}
	was := slices.Clone(room)
	if _, code := FromBytes(room[:5]); code != api.Malformed {
		t.Errorf("FromBytes read spare room: %d", code)
	}
	a, code := FromBytes(room[:6])
	if a != (api.Addr{Host: 0x0a000001, Port: 4001}) || code != api.OK {
		t.Errorf("FromBytes of six bytes of seven: %v %d", a, code)
	}
	if !bytes.Equal(room, was) {
		t.Errorf("what was handed in is now %v", room)
	}
}

// P3.1: Compare is by hosts, then by ports; of hosts' numbers without a sign.
func TestCompareWrittenOut(t *testing.T) {
	for _, c := range []struct {
		a, b api.Addr
		want int
	}{
		{api.Addr{Host: 1, Port: 1}, api.Addr{Host: 1, Port: 1}, 0},
		{api.Addr{Host: 1, Port: 1}, api.Addr{Host: 1, Port: 2}, -1},
		{api.Addr{Host: 1, Port: 1}, api.Addr{Host: 1, Port: 65535}, -1},
		{api.Addr{Host: 1, Port: 9}, api.Addr{Host: 1, Port: 10}, -1},
		{api.Addr{Host: 1, Port: 65535}, api.Addr{Host: 2, Port: 1}, -1},
		{api.Addr{Host: 0x0a000009, Port: 1}, api.Addr{Host: 0x0a00000a, Port: 1}, -1},
		{api.Addr{Host: 0x7fffffff, Port: 2}, api.Addr{Host: 0x80000000, Port: 1}, -1},
		{api.Addr{Host: 1, Port: 2}, api.Addr{Host: math.MaxUint32, Port: 1}, -1},
		{api.Addr{}, api.Addr{}, 0},
		{api.Addr{}, api.Addr{Host: 1}, -1},
		{api.Addr{Host: 1, Port: -1}, api.Addr{Host: 1}, -1},
		{api.Addr{Host: 1, Port: math.MinInt}, api.Addr{Host: 1, Port: math.MaxInt}, -1},
	} {
		if got := Compare(c.a, c.b); got != c.want {
			t.Errorf("Compare(%v, %v) = %d, want %d", c.a, c.b, got, c.want)
		}
		if got := Compare(c.b, c.a); got != -c.want {
			t.Errorf("Compare(%v, %v) = %d, want %d", c.b, c.a, got, -c.want)
		}
	}
}

// P3.1: addresses stand to one another as their bytes do.
func TestCompareAsBytes(t *testing.T) {
	for _, a := range goodAddrs() {
		for _, b := range goodAddrs() {
			if got, want := Compare(a, b), bytes.Compare(Bytes(a), Bytes(b)); got != want {
				t.Errorf("Compare(%v, %v) = %d, want %d", a, b, got, want)
			}
		}
	}
}

// P3.2: MayPlace, and "" of what isn't a place.
func TestMayPlace(t *testing.T) {
	for _, p := range goodPlaces() {
		if !MayPlace(p) || Text(p) == "" {
			t.Errorf("MayPlace(%v) = %v, Text %q", p, MayPlace(p), Text(p))
		}
	}
	for _, p := range badPlaces() {
		if MayPlace(p) || Text(p) != "" {
			t.Errorf("MayPlace(%v) = %v, Text %q", p, MayPlace(p), Text(p))
		}
	}
}

// P3.2: texts and their places, written out.
func TestTextWrittenOut(t *testing.T) {
	ten := api.Addr{Host: 0x0a000001, Port: 4001}
	for _, c := range []struct {
		p    api.Place
		want string
	}{
		{api.Place{Addr: ten}, "/ip4/10.0.0.1/udp/4001"},
		{api.Place{Addr: ten, ID: 7}, "/ip4/10.0.0.1/udp/4001/p2p/7"},
		{api.Place{Addr: ten, ID: 7, Via: true}, "/ip4/10.0.0.1/udp/4001/p2p/7/p2p-circuit"},
		{api.Place{Addr: ten, ID: 1}, "/ip4/10.0.0.1/udp/4001/p2p/1"},
		{api.Place{Addr: ten, ID: api.MaxPeer}, "/ip4/10.0.0.1/udp/4001/p2p/2147483647"},
		{api.Place{Addr: ten, ID: api.MaxPeer, Via: true}, "/ip4/10.0.0.1/udp/4001/p2p/2147483647/p2p-circuit"},
		{api.Place{Addr: api.Addr{Host: 1, Port: 1}}, "/ip4/0.0.0.1/udp/1"},
		{api.Place{Addr: api.Addr{Host: 1 << 24, Port: 10}}, "/ip4/1.0.0.0/udp/10"},
		{api.Place{Addr: api.Addr{Host: 0x64c8000a, Port: 100}}, "/ip4/100.200.0.10/udp/100"},
		{api.Place{Addr: api.Addr{Host: math.MaxUint32, Port: 65535}}, "/ip4/255.255.255.255/udp/65535"},
	} {
		if s := Text(c.p); s != c.want {
			t.Errorf("Text(%v) = %q, want %q", c.p, s, c.want)
		}
		if p, code := Parse(c.want); p != c.p || code != api.OK {
			t.Errorf("Parse(%q) = %v %d, want %v OK", c.want, p, code, c.p)
		}
	}
}

// malformed: texts of no place.
func malformed() []string {
	list := []string{
		// Parts that are missing, empty, in another order, or too many.
		"", "/", "//", "ip4", "/ip4", "/ip4/", "/ip4/10.0.0.1", "/ip4/10.0.0.1/", "/ip4/10.0.0.1/udp", "/ip4/10.0.0.1/udp/",
		"ip4/10.0.0.1/udp/1", "//ip4/10.0.0.1/udp/1", "x/ip4/10.0.0.1/udp/1", " /ip4/10.0.0.1/udp/1", "/ip4//10.0.0.1/udp/1",
		"/ip4/10.0.0.1/udp/1/", "/ip4/10.0.0.1/udp/1//", "/ip4/10.0.0.1/udp/1 ", "/ip4/10.0.0.1/udp/1\n", "/ip4/10.0.0.1/udp/1\x00",
		"/udp/1/ip4/10.0.0.1", "/ip4/udp/10.0.0.1/1", "/ip4/10.0.0.1/1", "/ip4/10.0.0.1:1", "10.0.0.1:1",
		"/ip4/10.0.0.1/udp/1/p2p", "/ip4/10.0.0.1/udp/1/p2p/", "/ip4/10.0.0.1/udp/1/p2p/7/", "/ip4/10.0.0.1/udp/1/p2p//7",
		"/ip4/10.0.0.1/udp/1/7", "/ip4/10.0.0.1/udp/1/x/7", "/ip4/10.0.0.1/udp/1/p2p/7/x", "/ip4/10.0.0.1/udp/1/p2p/7/p2p/7",
		"/ip4/10.0.0.1/udp/1/p2p-circuit", "/ip4/10.0.0.1/udp/1/p2p-circuit/p2p/7", "/ip4/10.0.0.1/udp/1/p2p/p2p-circuit",
		"/ip4/10.0.0.1/udp/1/p2p//p2p-circuit", "/ip4/10.0.0.1/udp/1/p2p/0/p2p-circuit", "/p2p/7", "/p2p/7/p2p-circuit", "/p2p-circuit",
		"/ip4/10.0.0.1/udp/1/p2p/7/p2p-circuit/", "/ip4/10.0.0.1/udp/1/p2p/7/p2p-circuit/p2p-circuit", "/ip4/10.0.0.1/udp/1/p2p/7/p2p-circuit/p2p/8",
		"/ip4/10.0.0.1/udp/1/p2p/7/p2p-circuit//", "/ip4/10.0.0.1/udp/1/p2p/7/p2p-circui", "/ip4/10.0.0.1/udp/1/p2p/7/p2p-circuits", "/ip4/10.0.0.1/udp/1/p2p/7p2p-circuit",
		"/ip4/10.0.0.1/udp/1/ip4/10.0.0.1/udp/1",
		// Other names.
		"/ip6/10.0.0.1/udp/1", "/IP4/10.0.0.1/udp/1", "/ip/10.0.0.1/udp/1", "/ip4 /10.0.0.1/udp/1", "/ip44/10.0.0.1/udp/1",
		"/ip4/10.0.0.1/tcp/1", "/ip4/10.0.0.1/UDP/1", "/ip4/10.0.0.1/ud/1", "/ip4/10.0.0.1/udp4/1",
		"/ip4/10.0.0.1/udp/1/P2P/7", "/ip4/10.0.0.1/udp/1/p2/7", "/ip4/10.0.0.1/udp/1/p2pp/7", "/ip4/10.0.0.1/udp/1/p2p/7/P2P-CIRCUIT",
		// Hosts of too few or too many bytes, and host 0.
		"/ip4/10/udp/1", "/ip4/10.0/udp/1", "/ip4/10.0.1/udp/1", "/ip4/10.0.0.1.2/udp/1", "/ip4/10.0.0.1./udp/1", "/ip4/.10.0.0.1/udp/1",
		"/ip4/10..0.1/udp/1", "/ip4/10.0.0./udp/1", "/ip4/.0.0.1/udp/1", "/ip4/.../udp/1", "/ip4/./udp/1", "/ip4/10,0,0,1/udp/1", "/ip4/10/0/0/1/udp/1",
		"/ip4/0.0.0.0/udp/1", "/ip4/0.0.0.0/udp/1/p2p/7", "/ip4/0.0.0.0/udp/1/p2p/7/p2p-circuit", "/ip4/0/udp/1", "/ip4/167772161/udp/1",
		"/ip4/0.0.0.0.1/udp/1", "/ip4/1.0.0.0.0/udp/1", "/ip4/1.1.1.1.1.1.1.1/udp/1", "/ip4/0.0.0.256/udp/1", "/ip4/256.0.0.0/udp/1",
	}
	// Numbers that aren't there, at each place where one is.
	wrong := []string{"", "-1", "+1", "-0", " 1", "1 ", "1x", "x1", "0x1", "1e1", "1_0", "1,0", "1\x00", "\xff", "1\xff", "a", "/", "\u0661", "1\u0661", "\uff11", "\u00b2",
		"00", "01", "007", "000", "0000000001", "256256256256", "4294967297", "9223372036854775807", "9223372036854775808", "18446744073709551616", "18446744073709551617",
		strings.Repeat("9", 1000), strings.Repeat("0", 1000) + "1", strings.Repeat("1", 100000)}
	for _, n := range wrong {
		list = append(list,
			"/ip4/"+n+".0.0.1/udp/1", "/ip4/10."+n+".0.1/udp/1", "/ip4/10.0."+n+".1/udp/1", "/ip4/10.0.0."+n+"/udp/1",
			"/ip4/10.0.0.1/udp/"+n, "/ip4/10.0.0.1/udp/"+n+"/p2p/7", "/ip4/10.0.0.1/udp/1/p2p/"+n, "/ip4/10.0.0.1/udp/1/p2p/"+n+"/p2p-circuit")
	}
	// Numbers at the edges, with a 0 ahead.
	return append(list,
		"/ip4/10.0.0.1/udp/0", "/ip4/10.0.0.1/udp/0/p2p/7", "/ip4/10.0.0.1/udp/65536", "/ip4/10.0.0.1/udp/65537", "/ip4/10.0.0.1/udp/99999", "/ip4/10.0.0.1/udp/100000",
		"/ip4/10.0.0.1/udp/065535", "/ip4/10.0.0.1/udp/04001", "/ip4/10.0.0.01/udp/4001", "/ip4/010.0.0.1/udp/4001", "/ip4/10.00.0.1/udp/4001", "/ip4/10.0.0.255/udp/00",
		"/ip4/10.0.0.256/udp/1", "/ip4/10.0.0.260/udp/1", "/ip4/10.0.0.999/udp/1", "/ip4/10.0.0.0255/udp/1", "/ip4/10.0.0.1000/udp/1",
		"/ip4/10.0.0.1/udp/1/p2p/0", "/ip4/10.0.0.1/udp/1/p2p/07", "/ip4/10.0.0.1/udp/1/p2p/2147483648", "/ip4/10.0.0.1/udp/1/p2p/2147483650", "/ip4/10.0.0.1/udp/1/p2p/02147483647",
		"/ip4/10.0.0.1/udp/1/p2p/9999999999", "/ip4/10.0.0.1/udp/1/p2p/2147483648/p2p-circuit", "/ip4/10.0.0.1/udp/1/p2p/21474836470",
		strings.Repeat("/", 1000), strings.Repeat("/ip4", 1000), "/ip4/"+strings.Repeat("1.", 1000)+"/udp/1")
}

// P3.2: Parse of what is no place's text is Malformed, with nothing beside it.
func TestParseMalformed(t *testing.T) {
	for _, s := range malformed() {
		if p, code := Parse(s); p != (api.Place{}) || code != api.Malformed {
			t.Errorf("Parse(%.80q) = %v %d, want nothing, Malformed", s, p, code)
		}
	}
}

// P3.2: every byte, port and ID near the edges, by its digits.
func TestParseNumbers(t *testing.T) {
	at := func(s string, want api.Place, ok bool) {
		t.Helper()
		code := api.OK
		if !ok {
			want, code = api.Place{}, api.Malformed
		}
		if p, c := Parse(s); p != want || c != code {
			t.Errorf("Parse(%q) = %v %d, want %v %d", s, p, c, want, code)
		}
	}
	for n := range 1100 {
		for i := range 4 {
			text := []string{"9", "9", "9", "9"}
			text[i] = strconv.Itoa(n)
			shift := 24 - 8*i
			h := uint32(0x09090909)&^(0xff<<shift) | uint32(n)<<shift
			at("/ip4/"+strings.Join(text, ".")+"/udp/1", api.Place{Addr: api.Addr{Host: h, Port: 1}}, n < 256)
		}
	}
	for n := range 70000 {
		at(fmt.Sprintf("/ip4/0.0.0.1/udp/%d", n), api.Place{Addr: api.Addr{Host: 1, Port: n}}, n > 0 && n < 65536)
		at(fmt.Sprintf("/ip4/0.0.0.1/udp/1/p2p/%d", n), api.Place{Addr: api.Addr{Host: 1, Port: 1}, ID: n}, n > 0)
	}
	for n := 1<<31 - 1000; n < 1<<31+1000; n++ {
		at(fmt.Sprintf("/ip4/0.0.0.1/udp/1/p2p/%d", n), api.Place{Addr: api.Addr{Host: 1, Port: 1}, ID: n}, n < 1<<31)
	}
}

// P3.3: bytes that are told are read again, and no two addresses have the same ones.
func TestBytesReadAgain(t *testing.T) {
	list := goodAddrs()
	for x := range numbers {
		if len(list) > 20000 {
			break
		}
		if a := (api.Addr{Host: uint32(x), Port: int(x >> 48)}); May(a) {
			list = append(list, a)
		}
	}
	whose := map[string]api.Addr{}
	for _, a := range list {
		b := Bytes(a)
		if len(b) != 6 || binary.BigEndian.Uint32(b) != a.Host || int(binary.BigEndian.Uint16(b[4:])) != a.Port {
			t.Errorf("Bytes(%v) = %v", a, b)
		}
		if x, code := FromBytes(b); x != a || code != api.OK {
			t.Errorf("FromBytes(Bytes(%v)) = %v %d", a, x, code)
		}
		if x, had := whose[string(b)]; had && x != a {
			t.Errorf("%v and %v have one row of bytes", x, a)
		}
		whose[string(b)] = a
	}
}

// P3.3: texts that are told are read again, and no two places have one text.
func TestTextReadAgain(t *testing.T) {
	list := goodPlaces()
	for x := range numbers {
		if len(list) > 20000 {
			break
		}
		p := api.Place{Addr: api.Addr{Host: uint32(x >> (x % 30)), Port: int(x>>48) >> (x % 9)}, ID: int(x>>33) >> (x % 32), Via: x&64 != 0}
		if MayPlace(p) {
			list = append(list, p)
		}
	}
	whose := map[string]api.Place{}
	for _, p := range list {
		s := Text(p)
		if x, code := Parse(s); x != p || code != api.OK {
			t.Errorf("Parse(Text(%v)) = %v %d", p, x, code)
		}
		if x, had := whose[s]; had && x != p {
			t.Errorf("%v and %v have one text", x, p)
		}
		whose[s] = p
	}
}

// P3.2, P3.3: a text with one sign less, more or another is another place's, or none's.
func TestParseOneSignOff(t *testing.T) {
	p := api.Place{Addr: api.Addr{Host: 0x0a00c801, Port: 4001}, ID: 70, Via: true}
	for _, p := range []api.Place{p, {Addr: p.Addr, ID: p.ID}, {Addr: p.Addr}} {
		s := Text(p)
		for i := range len(s) + 1 {
			for c := range 256 {
				reads(t, s[:i]+string([]byte{byte(c)})+s[i:])
				if i < len(s) {
					reads(t, s[:i]+string([]byte{byte(c)})+s[i+1:])
				}
			}
			reads(t, s[:i])
			reads(t, s[i:])
			if i < len(s) {
				reads(t, s[:i]+s[i+1:])
			}
		}
	}
}

// shape: a place's text, by a rule that isn't the program's.
var shape = regexp.MustCompile(`\A/ip4/(` + byteShape + `)\.(` + byteShape + `)\.(` + byteShape + `)\.(` + byteShape + `)/udp/([1-9][0-9]{0,4})(?:/p2p/([1-9][0-9]{0,9})(/p2p-circuit)?)?\z`)

const byteShape = `0|[1-9][0-9]{0,2}`

// byShape: the place of a text, by that rule, and whether there is one.
func byShape(s string) (api.Place, bool) {
	m := shape.FindStringSubmatch(s)
	if m == nil {
		return api.Place{}, false
	}
	var n [6]int
	for i := range n {
		n[i], _ = strconv.Atoi(m[i+1])
	}
	if max(n[0], n[1], n[2], n[3]) > 255 || n[4] > 65535 || n[5] > api.MaxPeer || n[0]+n[1]+n[2]+n[3] == 0 {
		return api.Place{}, false
	}
	h := uint32(n[0])<<24 + uint32(n[1])<<16 + uint32(n[2])<<8 + uint32(n[3])
	return api.Place{Addr: api.Addr{Host: h, Port: n[4]}, ID: n[5], Via: m[7] != ""}, true
}

// reads: that a text is read as its shape says, and told again as it was.
func reads(t *testing.T, s string) {
	t.Helper()
	want, ok := byShape(s)
	code := api.OK
	if !ok {
		code = api.Malformed
	}
	p, c := Parse(s)
	if p != want || c != code {
		t.Errorf("Parse(%q) = %v %d, want %v %d", s, p, c, want, code)
	}
	if c == api.OK && (!MayPlace(p) || Text(p) != s) {
		t.Errorf("Parse(%q) = %v, told as %q", s, p, Text(p))
	}
}

// P3.2, P3.3: whatever text comes, it is read as its shape says.
func FuzzParse(f *testing.F) {
	for _, s := range malformed() {
		if len(s) < 200 {
			f.Add(s)
		}
	}
	for _, p := range goodPlaces() {
		f.Add(Text(p))
	}
	f.Fuzz(func(t *testing.T, s string) { reads(t, s) })
}

// P3.1, P3.3: whatever bytes come, six of a host and a port that aren't 0 are an address's, and told again as they were.
func FuzzFromBytes(f *testing.F) {
	for _, b := range [][]byte{nil, {10, 0, 0, 1, 15, 161}, {0, 0, 0, 0, 0, 1}, {1, 0, 0, 0, 0, 0}, make([]byte, 6), make([]byte, 7)} {
		f.Add(b)
	}
	f.Fuzz(func(t *testing.T, b []byte) {
		ok := len(b) == 6 && (b[0]|b[1]|b[2]|b[3]) != 0 && (b[4]|b[5]) != 0
		a, code := FromBytes(b)
		if ok && (code != api.OK || !May(a) || !bytes.Equal(Bytes(a), b)) {
			t.Errorf("FromBytes(%v) = %v %d, told as %v", b, a, code, Bytes(a))
		}
		if !ok && (code != api.Malformed || a != api.Addr{}) {
			t.Errorf("FromBytes(%v) = %v %d, want nothing, Malformed", b, a, code)
		}
	})
}
