// Package uvar is layer 1: whole numbers in few bytes. See shared/doc/01-uvar.md.
package uvar

import (
	"bytes"
	"embrasure/api"
	"iter"
	"math/bits"
)

const (
	pieceBits = 7              // of the number in each byte
	more      = 1 << pieceBits // another byte follows
	maxBytes  = 9              // of a number: 63 bits
)

// Len: how many bytes a number has.
func Len(v uint64) int {
	// One bit at least, so that 0 has a byte.
	n := (bits.Len64(v|1) + pieceBits - 1) / pieceBits
	if n > maxBytes {
		return 0
	}
	return n
}

// Put: a number as bytes.
func Put(v uint64) []byte {
	n := Len(v)
	if n == 0 {
		return nil
	}
	b := make([]byte, n)
	for i := range b {
		b[i] = byte(v) | more
		v >>= pieceBits
	}
	b[n-1] &^= more
	return b
}

// Get: the number with which bytes begin, and how many it has. Short, Limit, Malformed.
func Get(b []byte) (uint64, int, api.Code) {
	var v uint64
	for i, c := range b[:min(len(b), maxBytes)] {
		v |= uint64(c&^more) << (pieceBits * i)
		if c&more != 0 {
			continue
		}
		// A last piece of 0 behind others adds nothing: fewer bytes would do.
		if c == 0 && i > 0 {
			return 0, 0, api.Malformed
		}
		return v, i + 1, api.OK
	}
	if len(b) < maxBytes {
		return 0, 0, api.Short
	}
	return 0, 0, api.Limit
}

// Each: the numbers of which bytes are made, and where they begin.
func Each(b []byte) iter.Seq2[int, uint64] {
	// The sequence may be gone over behind the call, when b may be written over.
	kept := bytes.Clone(b)
	return func(yield func(int, uint64) bool) {
		for at := 0; at < len(kept); {
			v, n, code := Get(kept[at:])
			if code != api.OK || !yield(at, v) {
				return
			}
			at += n
		}
	}
}
