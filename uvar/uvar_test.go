package uvar

import (
	"bytes"
	"encoding/binary"
	"iter"
	"slices"
	"testing"

	"embrasure/api"
)

const most = 1<<63 - 1 // the greatest number that has bytes

// full: n bytes that all say that another one follows.
func full(n int) []byte { return bytes.Repeat([]byte{0xff}, n) }

// then: bytes, and others behind them, in memory of their own.
func then(parts ...[]byte) []byte { return bytes.Join(parts, nil) }

// edges: numbers on both sides of every place where one byte more is needed, and some between.
func edges() []uint64 {
	list := []uint64{0, 1, 2, 9, 300, 1000, 0x0123456789abcdef, most - 1, most}
	for i := 1; i < 9; i++ {
		p := uint64(1) << (7 * i)
		list = append(list, p-1, p, p+1, p|p>>7, p*127, p*100)
	}
	return list
}

// scattered: n numbers of all lengths from a fixed rule.
func scattered(n int) []uint64 {
	list := make([]uint64, n)
	x := uint64(88172645463325252)
	for i := range list {
		x ^= x << 13
		x ^= x >> 7
		x ^= x << 17
		list[i] = x >> (1 + x%63)
	}
	return list
}

type told struct {
	at int
	v  uint64
}

func all(seq iter.Seq2[int, uint64]) []told {
	var list []told
	for at, v := range seq {
		list = append(list, told{at, v})
	}
	return list
}

// P1.1: Put and Len, number by number.
func TestPutWrittenOut(t *testing.T) {
	for _, c := range []struct {
		v    uint64
		want []byte
	}{
		{0, []byte{0}},
		{1, []byte{1}},
		{127, []byte{0x7f}},
		{128, []byte{0x80, 1}},
		{129, []byte{0x81, 1}},
		{255, []byte{0xff, 1}},
		{256, []byte{0x80, 2}},
		{300, []byte{0xac, 2}},
		{1<<14 - 1, []byte{0xff, 0x7f}},
		{1 << 14, []byte{0x80, 0x80, 1}},
		{1<<56 - 1, then(full(7), []byte{0x7f})},
		{1 << 56, then(bytes.Repeat([]byte{0x80}, 8), []byte{1})},
		{1 << 62, then(bytes.Repeat([]byte{0x80}, 8), []byte{0x40})},
		{most, then(full(8), []byte{0x7f})},
	} {
		if b := Put(c.v); !bytes.Equal(b, c.want) {
			t.Errorf("Put(%d) = %x, want %x", c.v, b, c.want)
		}
		if n := Len(c.v); n != len(c.want) {
			t.Errorf("Len(%d) = %d, want %d", c.v, n, len(c.want))
		}
	}
}

// P1.1: the library's numbers of the same form, as far as 63 bits go.
func TestPutAsLibrary(t *testing.T) {
	for _, v := range append(edges(), scattered(5000)...) {
		want := binary.AppendUvarint(nil, v)
		if b := Put(v); !bytes.Equal(b, want) || Len(v) != len(want) {
			t.Errorf("Put(%d) = %x, Len %d, want %x", v, b, Len(v), want)
		}
	}
}

// P1.1: above 2^63 - 1 there are no bytes.
func TestPutAbove(t *testing.T) {
	for _, v := range []uint64{most + 1, most + 2, 1<<63 + 1<<62, 1<<64 - 2, 1<<64 - 1} {
		if b := Put(v); len(b) != 0 {
			t.Errorf("Put(%d) = %x, want none", v, b)
		}
		if n := Len(v); n != 0 {
			t.Errorf("Len(%d) = %d, want 0", v, n)
		}
	}
}

// P1.1: what is answered is new memory.
func TestPutNewMemory(t *testing.T) {
	for _, v := range []uint64{0, 5, 300, most} {
		a, b := Put(v), Put(v)
		for i := range a {
			a[i] ^= 0xff
		}
		if slices.Equal(a, b) || !bytes.Equal(b, Put(v)) {
			t.Errorf("Put(%d): two answers share memory", v)
		}
	}
}

// P1.1: Get of bytes that begin with a number.
func TestGetNumbers(t *testing.T) {
	for _, c := range []struct {
		b []byte
		v uint64
		n int
	}{
		{[]byte{0}, 0, 1},
		{[]byte{0, 0}, 0, 1},
		{[]byte{0, 0x80}, 0, 1},
		{[]byte{0x7f}, 127, 1},
		{[]byte{0x80, 1}, 128, 2},
		{[]byte{0xac, 2}, 300, 2},
		{[]byte{0xac, 2, 0xff}, 300, 2},
		{[]byte{0x80, 0x80, 1, 0}, 1 << 14, 3},
		{then(full(7), []byte{0x7f}), 1<<56 - 1, 8},
		{then(full(8), []byte{1}), 1<<57 - 1, 9},
		{then(full(8), []byte{0x7f}), most, 9},
		{then(full(8), []byte{0x7f}, full(9)), most, 9},
	} {
		if v, n, code := Get(c.b); v != c.v || n != c.n || code != api.OK {
			t.Errorf("Get(%x) = %d %d %d, want %d %d OK", c.b, v, n, code, c.v, c.n)
		}
	}
}

// P1.1: Get's codes, with zero values beside them.
func TestGetCodes(t *testing.T) {
	zeros := bytes.Repeat([]byte{0x80}, 9)
	for _, c := range []struct {
		b    []byte
		want api.Code
	}{
		{nil, api.Short},
		{[]byte{}, api.Short},
		{[]byte{0x80}, api.Short},
		{[]byte{0xff}, api.Short},
		{full(2), api.Short},
		{full(7), api.Short},
		{full(8), api.Short},
		{zeros[:8], api.Short},
		{full(9), api.Limit},
		{full(10), api.Limit},
		{full(20), api.Limit},
		{zeros, api.Limit},
		{then(full(9), []byte{0}), api.Limit},
		{then(full(9), []byte{1}), api.Limit},
		{then(zeros, []byte{1}), api.Limit},
		{[]byte{0x80, 0}, api.Malformed},
		{[]byte{0xff, 0}, api.Malformed},
		{[]byte{0x80, 0x80, 0}, api.Malformed},
		{[]byte{0xac, 0x82, 0, 1}, api.Malformed},
		{then(full(7), []byte{0}), api.Malformed},
		{then(full(8), []byte{0}), api.Malformed},
		{then(full(8), []byte{0, 1, 2}), api.Malformed},
		{then(zeros[:8], []byte{0}), api.Malformed},
	} {
		if v, n, code := Get(c.b); v != 0 || n != 0 || code != c.want {
			t.Errorf("Get(%x) = %d %d %d, want 0 0 %d", c.b, v, n, code, c.want)
		}
	}
}

// P1.1: every two bytes, by the definition.
func TestGetTwoBytes(t *testing.T) {
	for i := range 1 << 16 {
		b := []byte{byte(i), byte(i >> 8)}
		v, n, code := uint64(b[0]), 1, api.OK
		if b[0] >= 128 {
			v, n = v-128+uint64(b[1])*128, 2
			if b[1] >= 128 {
				v, n, code = 0, 0, api.Short
			} else if b[1] == 0 {
				v, n, code = 0, 0, api.Malformed
			}
		}
		if x, m, c := Get(b); x != v || m != n || c != code {
			t.Fatalf("Get(%x) = %d %d %d, want %d %d %d", b, x, m, c, v, n, code)
		}
	}
}

// P1.1: spare room behind what is handed in is neither read nor written.
func TestGetSpareRoom(t *testing.T) {
	room := []byte{0x80, 1, 2, 3}
	if _, _, code := Get(room[:1]); code != api.Short {
		t.Errorf("Get read spare room: %d", code)
	}
	if list := all(Each(room[:1])); len(list) != 0 {
		t.Errorf("Each read spare room: %v", list)
	}
	if !bytes.Equal(room, []byte{0x80, 1, 2, 3}) {
		t.Errorf("what was handed in is now %x", room)
	}
}

// P1.2: Each to the end, and up to the first place where Get tells another code than OK.
func TestEachTells(t *testing.T) {
	for _, c := range []struct {
		b    []byte
		want []told
	}{
		{nil, nil},
		{[]byte{}, nil},
		{[]byte{0}, []told{{0, 0}}},
		{[]byte{0, 0, 0}, []told{{0, 0}, {1, 0}, {2, 0}}},
		{[]byte{1, 0xac, 2, 3}, []told{{0, 1}, {1, 300}, {3, 3}}},
		{then(full(8), []byte{0x7f, 7}), []told{{0, most}, {9, 7}}},
		{[]byte{0x80}, nil},
		{[]byte{0x80, 0, 5}, nil},
		{then(full(9), []byte{1, 1}), nil},
		{[]byte{1, 0xac, 2, 3, 0x80}, []told{{0, 1}, {1, 300}, {3, 3}}},
		{[]byte{1, 0x80, 0, 5}, []told{{0, 1}}},
		{then([]byte{0xac, 2, 4}, full(9), []byte{1, 1}), []told{{0, 300}, {2, 4}}},
		{then([]byte{6}, full(8)), []told{{0, 6}}},
	} {
		if list := all(Each(c.b)); !slices.Equal(list, c.want) {
			t.Errorf("Each(%x) told %v, want %v", c.b, list, c.want)
		}
	}
}

// P1.2: Each agrees with Get, place by place, on bytes from a fixed rule.
func TestEachByGet(t *testing.T) {
	var b []byte
	for _, x := range scattered(2000) {
		b = append(b, byte(x), byte(x>>8))
	}
	for from := range b {
		var want []told
		rest := b[from:min(from+40, len(b))]
		for at := 0; at < len(rest); {
			v, n, code := Get(rest[at:])
			if code != api.OK {
				break
			}
			want = append(want, told{at, v})
			at += n
		}
		if list := all(Each(rest)); !slices.Equal(list, want) {
			t.Fatalf("Each(%x) told %v, want %v", rest, list, want)
		}
	}
}

// P1.2: a sequence may be broken off at every place, and gone over again from its beginning.
func TestEachBrokenOff(t *testing.T) {
	want := []told{{0, 1}, {1, 300}, {3, 3}, {4, 128}}
	seq := Each([]byte{1, 0xac, 2, 3, 0x80, 1, 0x80})
	for stop := range len(want) {
		var list []told
		for at, v := range seq {
			list = append(list, told{at, v})
			if len(list) > stop {
				break
			}
		}
		if !slices.Equal(list, want[:stop+1]) {
			t.Errorf("broken off behind %d: %v", stop+1, list)
		}
	}
	if list := all(seq); !slices.Equal(list, want) {
		t.Errorf("gone over again: %v, want %v", list, want)
	}
}

// P1.2: a sequence tells what there was at the call, whatever is written over behind it.
func TestEachKeepsNothing(t *testing.T) {
	want := []told{{0, 1}, {1, 300}, {3, 3}}
	b := []byte{1, 0xac, 2, 3}
	seq := Each(b)
	copy(b, full(4))
	if list := all(seq); !slices.Equal(list, want) {
		t.Errorf("written over ahead of going: %v, want %v", list, want)
	}
	b = []byte{1, 0xac, 2, 3}
	var list []told
	for at, v := range Each(b) {
		list = append(list, told{at, v})
		clear(b)
	}
	if !slices.Equal(list, want) {
		t.Errorf("written over while going: %v, want %v", list, want)
	}
}

// P1.3: what is put is got, whatever stands behind.
func TestPutIsGot(t *testing.T) {
	behind := [][]byte{nil, {0}, {1}, {0x7f}, {0x80}, full(1), full(9), full(30), {0x80, 0}}
	for _, v := range append(edges(), scattered(1000)...) {
		b := Put(v)
		for _, more := range behind {
			if x, n, code := Get(then(b, more)); x != v || n != len(b) || n != Len(v) || code != api.OK {
				t.Errorf("%d, behind it %x: got %d %d %d", v, more, x, n, code)
			}
		}
	}
}

// P1.3: a number that is broken off is Short.
func TestPutBrokenOff(t *testing.T) {
	for _, v := range edges() {
		b := Put(v)
		for n := range b {
			if x, m, code := Get(b[:n]); x != 0 || m != 0 || code != api.Short {
				t.Errorf("%x of %d: got %d %d %d", b[:n], v, x, m, code)
			}
		}
	}
}

// P1.3: numbers one behind the other are told by Each.
func TestPutIsTold(t *testing.T) {
	var b []byte
	var want []told
	for _, v := range append(edges(), scattered(1000)...) {
		want = append(want, told{len(b), v})
		b = append(b, Put(v)...)
	}
	if list := all(Each(b)); !slices.Equal(list, want) {
		t.Errorf("told %d numbers of %d, or others", len(list), len(want))
	}
	for _, tail := range [][]byte{{0x80}, {0x80, 0, 1}, full(9), full(12)} {
		if list := all(Each(then(b, tail))); !slices.Equal(list, want) {
			t.Errorf("with %x behind: told %d numbers of %d, or others", tail, len(list), len(want))
		}
	}
}

// P1.1, P1.3: whatever bytes come, what is got is put as the same bytes, and codes are as the definition says.
func FuzzGet(f *testing.F) {
	for _, b := range [][]byte{nil, {0}, {0xac, 2}, {0x80}, {0x80, 0}, full(8), full(9), then(full(8), []byte{0x7f})} {
		f.Add(b)
	}
	f.Fuzz(func(t *testing.T, b []byte) {
		v, n, code := Get(b)
		last := slices.IndexFunc(b, func(c byte) bool { return c < 128 })
		switch {
		case last < 0 && len(b) < 9:
			if code != api.Short {
				t.Errorf("Get(%x): %d, want Short", b, code)
			}
		case last < 0 || last > 8:
			if code != api.Limit {
				t.Errorf("Get(%x): %d, want Limit", b, code)
			}
		case last > 0 && b[last] == 0:
			if code != api.Malformed {
				t.Errorf("Get(%x): %d, want Malformed", b, code)
			}
		default:
			if code != api.OK || n != last+1 || !bytes.Equal(Put(v), b[:n]) {
				t.Errorf("Get(%x): %d %d %d", b, v, n, code)
			}
		}
		if code != api.OK && (v != 0 || n != 0) {
			t.Errorf("Get(%x): %d %d beside %d", b, v, n, code)
		}
	})
}
