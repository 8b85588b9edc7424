package fixed

import (
	"bytes"
	"encoding/binary"
	"math"
	"slices"
	"testing"
)

// numbers: the edges of each size, one below and one above, and some between.
var numbers = []int{
	math.MinInt, math.MinInt + 1, -1 << 32, -65536, -256, -255, -2, -1,
	0, 1, 127, 128, 254, 255, 256, 257, 65534, 65535, 65536, 65541, 1<<24 - 1, 1 << 24, 1<<31 - 1, 1 << 31,
	1<<32 - 1, 1 << 32, 1<<32 + 5, 1<<48 - 1, 1 << 48, 1<<56 - 1, 1 << 56, math.MaxInt - 1, math.MaxInt,
}

// Fits: from 0 to the greatest of so many bytes, of eight or more any from 0 on, of none 0 alone.
func TestFits(t *testing.T) {
	for size := range 21 {
		most := math.MaxInt
		if size < 8 {
			most = 1<<(8*size) - 1
		}
		for _, v := range numbers {
			if got, want := Fits(size, v), v >= 0 && v <= most; got != want {
				t.Errorf("Fits(%d, %d) = %v, want %v", size, v, got, want)
			}
		}
	}
}

// Number: written out.
func TestNumberWrittenOut(t *testing.T) {
	for _, c := range []struct {
		size, v int
		want    []byte
	}{
		{0, 0, nil},
		{0, 5, nil},
		{1, 0, []byte{0}},
		{1, 255, []byte{255}},
		{1, 257, []byte{1}},
		{2, 0x0102, []byte{1, 2}},
		{3, 5, []byte{0, 0, 5}},
		{4, 0x01020304, []byte{1, 2, 3, 4}},
		{8, 0x0102030405060708, []byte{1, 2, 3, 4, 5, 6, 7, 8}},
		{8, -1, bytes.Repeat([]byte{255}, 8)},
		{16, 0xffff01020304, []byte{0, 0, 0, 0, 0, 0, 0, 0, 0, 0, 255, 255, 1, 2, 3, 4}},
		{12, 0, make([]byte, 12)},
	} {
		if b := Number(c.size, c.v); !bytes.Equal(b, c.want) {
			t.Errorf("Number(%d, %d) = %x, want %x", c.size, c.v, b, c.want)
		}
	}
}

// Number and Reader: what fits is read again; in eight bytes so is any.
func TestReadAgain(t *testing.T) {
	for size := range 21 {
		for _, v := range numbers {
			b := Number(size, v)
			if len(b) != size {
				t.Fatalf("Number(%d, %d) = %x", size, v, b)
			}
			if got := Reader(b)(size); (Fits(size, v) || size == 8) && got != v {
				t.Errorf("%d is read as %d in %d bytes", v, got, size)
			}
		}
	}
	for _, v := range numbers {
		if b := Number(8, v); binary.BigEndian.Uint64(b) != uint64(v) {
			t.Errorf("Number(8, %d) = %x", v, b)
		}
	}
}

// Join: parts in their order, in new memory.
func TestJoin(t *testing.T) {
	a, b := []byte{1, 2}, []byte{3}
	if got := Join(a, nil, b, a); !bytes.Equal(got, []byte{1, 2, 3, 1, 2}) {
		t.Errorf("Join tells %x", got)
	}
	if got := Join(); len(got) != 0 {
		t.Errorf("Join of nothing tells %x", got)
	}
	got := Join(a)
	got[0] = 9
	if a[0] != 1 {
		t.Error("Join tells its part's own memory")
	}
}

// Reader: one behind the other, the bytes being as they were; behind their end 0.
func TestReader(t *testing.T) {
	b := []byte{1, 2, 3, 4, 5, 6, 7, 8, 9, 10, 11, 12}
	was := slices.Clone(b)
	next := Reader(b[:10])
	for i, c := range []struct{ size, want int }{{1, 1}, {0, 0}, {2, 0x0203}, {4, 0x04050607}, {8, 0x08090a}, {1, 0}, {16, 0}, {0, 0}} {
		if got := next(c.size); got != c.want {
			t.Errorf("the number %d is %d, want %d", i, got, c.want)
		}
	}
	if got := Reader(b)(12); got != 0x05060708090a0b0c {
		t.Errorf("of twelve bytes %x is read", got)
	}
	if !bytes.Equal(b, was) {
		t.Errorf("what was read, %x, is now %x", was, b)
	}
	if next := Reader(nil); next(4) != 0 {
		t.Error("of no bytes something is read")
	}
}
