// Package fixed tells numbers in so many bytes each, the greatest byte first, and reads them again: what the datagrams of pmp and pcp are made of.
package fixed

import "slices"

// Fits: whether a number may be told in so many bytes. (One below 0 stays below it, however far it is shifted.)
func Fits(size, v int) bool { return v>>(8*size) == 0 }

// Number: a number in so many bytes. One that doesn't fit is cut to its least ones.
func Number(size, v int) []byte {
	b := make([]byte, size)
	for i := range b {
		b[size-1-i] = byte(v >> (8 * i))
	}
	return b
}

// Join: parts, one behind the other.
func Join(parts ...[]byte) []byte { return slices.Concat(parts...) }

// Reader reads bytes from the front on: each call tells the number of the next so many, of more than eight that of the last eight. Where they end ahead of that it is told of those that are there, and behind their end it is 0: whoever reads holds the length against what it must be.
func Reader(b []byte) func(size int) int {
	return func(size int) int {
		v, n := 0, min(size, len(b))
		for _, c := range b[:n] {
			v = v<<8 | int(c)
		}
		b = b[n:]
		return v
	}
}
