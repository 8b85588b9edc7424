package flow

import (
	"bytes"
	"math"
	"slices"
	"testing"

	"embrasure/api"
)

// newOf: a receiver with this window.
func newOf(t *testing.T, window int) *Receiver {
	t.Helper()
	r, code := NewReceiver(window)
	if r == nil || code != api.OK {
		t.Fatalf("NewReceiver(%d) = %v %d", window, r, code)
	}
	return r
}

// hears: whether a part is taken; its bytes are neither changed nor kept, their spare room too.
func hears(t *testing.T, r *Receiver, off int, b []byte, want bool) {
	t.Helper()
	room := append(bytes.Clone(b), 1, 2, 3)
	if got := r.Hear(api.Part{Off: off, Bytes: room[:len(b)]}); got != want {
		t.Errorf("Hear(%d, %d bytes) = %v, want %v", off, len(b), got, want)
	}
	if !bytes.Equal(room, append(bytes.Clone(b), 1, 2, 3)) {
		t.Errorf("Hear(%d, %d bytes): what was handed in was changed", off, len(b))
	}
	scribble(room)
}

// takes and takesNot: of the stream's bytes from one place up to another.
func takes(t *testing.T, r *Receiver, from, to int) {
	t.Helper()
	hears(t, r, from, stream(from, to), true)
}

func takesNot(t *testing.T, r *Receiver, from, to int) {
	t.Helper()
	hears(t, r, from, stream(from, to), false)
}

// takesAll: the same in parts.
func takesAll(t *testing.T, r *Receiver, from, to int) {
	t.Helper()
	for from < to {
		end := min(from+api.MaxPart, to)
		takes(t, r, from, end)
		from = end
	}
}

// reads: that Read tells these bytes, which are written over behind that.
func reads(t *testing.T, r *Receiver, most int, want []byte) {
	t.Helper()
	got := r.Read(most)
	if !bytes.Equal(got, want) {
		t.Errorf("Read(%d) = %q, want %q", most, got, want)
	}
	scribble(got)
}

// readsOf: that Read tells the stream's bytes from one place up to another.
func readsOf(t *testing.T, r *Receiver, most, from, to int) {
	t.Helper()
	reads(t, r, most, stream(from, to))
}

// came: what Ack tells.
func came(t *testing.T, r *Receiver, upto, window int) {
	t.Helper()
	if a, b := r.Ack(); a != upto || b != window {
		t.Errorf("Ack() = %d %d, want %d %d", a, b, upto, window)
	}
}

// farOf: a receiver that read the stream up to a place.
func farOf(t *testing.T, window, upto int) *Receiver {
	t.Helper()
	r := newOf(t, window)
	for at := 0; at < upto; {
		end := min(at+window, at+api.MaxPart, upto)
		takes(t, r, at, end)
		readsOf(t, r, end-at, at, end)
		at = end
	}
	came(t, r, upto, window)
	return r
}

// nothing: that a part isn't taken, however often it comes, and that as many came behind it as ahead of it, and the window is the same.
func nothing(t *testing.T, r *Receiver, off int, b []byte) {
	t.Helper()
	upto, window := r.Ack()
	hears(t, r, off, b, false)
	came(t, r, upto, window)
	hears(t, r, off, b, false)
	came(t, r, upto, window)
}

// P16.2: windows are 1 to MaxWindow; of others there is none, and the code is Arg.
func TestNewReceiver(t *testing.T) {
	for _, window := range []int{0, -1, -2, -4096, math.MinInt, math.MinInt + 1, -1 << 32, api.MaxWindow + 1, api.MaxWindow + 2, 1 << 16, 1<<16 + 5, 1 << 32, 1<<32 + 5, 1<<62 + 5, math.MaxInt} {
		if r, code := NewReceiver(window); r != nil || code != api.Arg {
			t.Errorf("NewReceiver(%d) = %v %d, want none, Arg", window, r, code)
		}
	}
	for _, window := range []int{1, 2, 6, 499, 500, 501, api.MaxWindow - 1, api.MaxWindow} {
		r := newOf(t, window)
		came(t, r, 0, window)
		for _, most := range []int{-1, 0, 1, window, math.MaxInt} {
			reads(t, r, most, nil)
		}
		came(t, r, 0, window)
	}
}

// P16.2: two receivers have nothing in common.
func TestTwoReceivers(t *testing.T) {
	a, b := newOf(t, 9), newOf(t, 9)
	hears(t, a, 0, []byte("a"), true)
	hears(t, a, 2, []byte("c"), true)
	came(t, b, 0, 9)
	hears(t, b, 1, []byte("y"), true)
	came(t, b, 0, 9)
	came(t, a, 1, 8)
	hears(t, b, 0, []byte("x"), true)
	came(t, b, 2, 7)
	reads(t, b, 9, []byte("xy"))
	reads(t, a, 9, []byte("a"))
}

// P16.2: what comes in order is read in order, and Ack tells how many came, and the window without those that weren't read.
func TestInOrder(t *testing.T) {
	r := newOf(t, 10)
	takes(t, r, 0, 3)
	came(t, r, 3, 7)
	takes(t, r, 3, 8)
	came(t, r, 8, 2)
	readsOf(t, r, 2, 0, 2)
	came(t, r, 8, 4)
	readsOf(t, r, 3, 2, 5)
	came(t, r, 8, 7)
	takes(t, r, 8, 15)
	came(t, r, 15, 0)
	takesNot(t, r, 15, 16)
	readsOf(t, r, 10, 5, 15)
	came(t, r, 15, 10)
	reads(t, r, 10, nil)
	takes(t, r, 15, 25)
	came(t, r, 25, 0)
	readsOf(t, r, 1, 15, 16)
	came(t, r, 25, 1)
}

// P16.2: a part has 1 to MaxPart bytes.
func TestPartSizes(t *testing.T) {
	for _, off := range []int{0, 5, 100, 1000} {
		for _, many := range []int{1, 2, 499, 500} {
			r := newOf(t, api.MaxWindow)
			takes(t, r, 0, 100)
			takes(t, r, off, off+many)
			if off == 100 {
				came(t, r, 100+many, api.MaxWindow-100-many)
			}
		}
		for _, many := range []int{0, 501, 502, 1000, 4096, 5000} {
			r := newOf(t, api.MaxWindow)
			takes(t, r, 0, 100)
			nothing(t, r, off, stream(off, off+many))
			came(t, r, 100, api.MaxWindow-100)
			readsOf(t, r, 1000, 0, 100)
			reads(t, r, 1000, nil)
		}
	}
	r := newOf(t, 9)
	for _, b := range [][]byte{nil, {}} {
		for _, off := range []int{-1, 0, 1, 8, 9, 10, math.MaxInt, math.MinInt} {
			nothing(t, r, off, b)
		}
	}
}

// P16.2: MaxPart and one more bytes that came already are no part either.
func TestPartSizesAgain(t *testing.T) {
	r := farOf(t, api.MaxWindow, 2000)
	takes(t, r, 0, 500)
	takes(t, r, 1500, 2000)
	takesNot(t, r, 0, 501)
	takesNot(t, r, 1499, 2000)
	takesNot(t, r, 1000, 1000)
	came(t, r, 2000, api.MaxWindow)
}

// P16.2: a part that begins below 0, or at a great number, isn't taken, be its end at such a place that it might be.
func TestPartPlaces(t *testing.T) {
	for _, upto := range []int{0, 1, 700} {
		for _, off := range []int{-1, -2, -3, -500, -4096, -1 << 20, -1 << 32, 1 - 1<<32, -1 << 62, math.MinInt, math.MinInt + 1, 5000, api.MaxStream - 1, api.MaxStream, api.MaxStream + 1, 1 << 32, 1<<32 + 1, 1<<62 + 1, math.MaxInt - 500, math.MaxInt - 2, math.MaxInt - 1, math.MaxInt} {
			for _, many := range []int{1, 2, 3, 4, 499, 500} {
				r := farOf(t, 4096, upto)
				nothing(t, r, off, stream(0, many))
				takes(t, r, upto, upto+1)
				came(t, r, upto+1, 4095)
				readsOf(t, r, 9, upto, upto+1)
			}
		}
	}
}

// P16.2: a part that ends at the window behind what was read is taken, and one that ends one behind it isn't, nor any of its bytes.
func TestWindow(t *testing.T) {
	for _, window := range []int{1, 2, 3, 499, 500, 501, 1000, api.MaxWindow} {
		for _, read := range []int{0, 1, 500, 5000} {
			for _, unread := range []int{0, 1, window / 2, window - 1, window} {
				r, end := farOf(t, window, read), read+window
				takesAll(t, r, read, read+unread)
				nothing(t, r, end, stream(end, end+1))
				nothing(t, r, end+1, stream(end+1, end+2))
				for _, from := range []int{end - 1, end - 2, end - 250, end - 499} {
					if from >= 0 {
						nothing(t, r, from, bytes.Repeat([]byte{'X'}, end+1-from))
					}
				}
				takes(t, r, max(0, end-500), end)
				takesAll(t, r, read+unread, end)
				came(t, r, end, 0)
				readsOf(t, r, window, read, end)
				came(t, r, end, window)
			}
		}
	}
}

// P16.2: the window goes on by what is read alone: not by what came.
func TestWindowGoesOn(t *testing.T) {
	r := newOf(t, 4)
	takes(t, r, 0, 4)
	takesNot(t, r, 4, 5)
	readsOf(t, r, 0, 0, 0)
	takesNot(t, r, 4, 5)
	readsOf(t, r, 1, 0, 1)
	takes(t, r, 4, 5)
	takesNot(t, r, 5, 6)
	takesNot(t, r, 4, 6)
	readsOf(t, r, 2, 1, 3)
	takes(t, r, 6, 7)
	takesNot(t, r, 7, 8)
	came(t, r, 5, 2)
	takes(t, r, 5, 6)
	came(t, r, 7, 0)
	readsOf(t, r, 4, 3, 7)
	came(t, r, 7, 4)
}

// P16.2: a part that ends at MaxStream is taken, and one that ends behind it isn't, whatever the window.
func TestStreamsEnd(t *testing.T) {
	const end = api.MaxStream
	for _, window := range []int{250, 500, 700, api.MaxWindow} {
		r := farOf(t, window, end-1)
		nothing(t, r, end-1, stream(end-1, end+1))
		nothing(t, r, end, stream(end, end+1))
		nothing(t, r, end-2, stream(end-2, end+1))
		takes(t, r, end-1, end)
		came(t, r, end, window-1)
		nothing(t, r, end, stream(end, end+1))
		readsOf(t, r, 9, end-1, end)
		came(t, r, end, window)
		nothing(t, r, end, stream(end, end+1))
		nothing(t, r, end-1, stream(end-1, end+1))
		takes(t, r, end-500, end)
		reads(t, r, 9, nil)
	}
	r := farOf(t, api.MaxWindow, end-800)
	takes(t, r, end-500, end)
	nothing(t, r, end-499, stream(end-499, end+1))
	came(t, r, end-800, api.MaxWindow)
	takes(t, r, end-800, end-400)
	came(t, r, end, api.MaxWindow-800)
	readsOf(t, r, 801, end-800, end)
}

// P16.2: what came already, in whole, is taken as a part, but not anew: neither when it is unread, nor when it is read.
func TestCameAlready(t *testing.T) {
	r := newOf(t, 20)
	takes(t, r, 0, 6)
	for from := range 6 {
		for to := from + 1; to <= 6; to++ {
			hears(t, r, from, bytes.Repeat([]byte{'X'}, to-from), true)
			came(t, r, 6, 14)
		}
	}
	readsOf(t, r, 4, 0, 4)
	for from := range 6 {
		for to := from + 1; to <= 6; to++ {
			hears(t, r, from, bytes.Repeat([]byte{'Y'}, to-from), true)
			came(t, r, 6, 18)
		}
	}
	readsOf(t, r, 20, 4, 6)
	hears(t, r, 0, []byte("ZZZZZZ"), true)
	came(t, r, 6, 20)
	reads(t, r, 20, nil)
}

// P16.2: of what came already in part those bytes alone are taken that hadn't come.
func TestCameInPart(t *testing.T) {
	for _, read := range []int{0, 2, 5} {
		r := newOf(t, 12)
		takes(t, r, 0, 5)
		readsOf(t, r, read, 0, read)
		hears(t, r, 3, []byte("XXabc"), true)
		came(t, r, 8, 12-8+read)
		hears(t, r, 0, []byte("YYYYYYYYd"), true)
		came(t, r, 9, 12-9+read)
		reads(t, r, 20, append(stream(read, 5), 'a', 'b', 'c', 'd'))
		came(t, r, 9, 12)
	}
}

// P16.2: what lies beyond a gap can't be read, and isn't told to have come, till the gap is filled.
func TestGap(t *testing.T) {
	r := newOf(t, 20)
	takes(t, r, 3, 5)
	came(t, r, 0, 20)
	reads(t, r, 20, nil)
	takes(t, r, 8, 9)
	takes(t, r, 0, 2)
	came(t, r, 2, 18)
	readsOf(t, r, 20, 0, 2)
	came(t, r, 2, 20)
	takes(t, r, 2, 3)
	came(t, r, 5, 17)
	takes(t, r, 6, 8)
	came(t, r, 5, 17)
	readsOf(t, r, 20, 2, 5)
	takes(t, r, 5, 6)
	came(t, r, 9, 16)
	readsOf(t, r, 20, 5, 9)
	came(t, r, 9, 20)
	reads(t, r, 20, nil)
}

// P16.2: a gap is filled by a part that reaches over what lies beyond it, or into it, or ends ahead of it: at each place, with each length.
func TestFillGap(t *testing.T) {
	for from := range 12 {
		for to := from + 1; to <= 13; to++ {
			r, p := newOf(t, 12), newPlain(12)
			sameHear(t, r, p, 0, []byte("abcd"))
			sameHear(t, r, p, 6, []byte("gh"))
			sameHear(t, r, p, 9, []byte("j"))
			sameHear(t, r, p, from, []byte("ABCDEFGHIJKLM")[from:to])
			sameRead(t, r, p, 12)
			sameHear(t, r, p, 3, []byte("????????"))
			sameRead(t, r, p, 12)
		}
	}
}

// P16.2: of a part that overlaps what came beyond a gap with other bytes those that came first stay.
func TestOtherBytesBeyondGap(t *testing.T) {
	r := newOf(t, 20)
	hears(t, r, 4, []byte("ef"), true)
	hears(t, r, 3, []byte("DXXG"), true)
	hears(t, r, 8, []byte("I"), true)
	hears(t, r, 5, []byte("YYhY"), true)
	hears(t, r, 4, []byte("ZZZZZ"), true)
	came(t, r, 0, 20)
	hears(t, r, 0, []byte("abcQQQQQQj"), true)
	came(t, r, 10, 10)
	reads(t, r, 20, []byte("abcDefGhIj"))
}

// P16.2: what isn't taken, since it ends too far, leaves none of its bytes beyond the gap, either.
func TestNotTakenLeavesNothing(t *testing.T) {
	r := newOf(t, 6)
	hears(t, r, 3, []byte("XXXX"), false)
	hears(t, r, 0, []byte("XXXXXXX"), false)
	hears(t, r, 5, []byte("XX"), false)
	hears(t, r, -1, []byte("XXX"), false)
	came(t, r, 0, 6)
	takes(t, r, 0, 3)
	came(t, r, 3, 3)
	takes(t, r, 3, 6)
	readsOf(t, r, 9, 0, 6)
}

// P16.2: what came beyond a gap, and joined, is forgotten there, and what comes again isn't kept.
func TestJoinedIsForgotten(t *testing.T) {
	r := newOf(t, 8)
	for at := 0; at < 400; at += 4 {
		takes(t, r, at+1, at+4)
		came(t, r, at, 8)
		takes(t, r, at, at+1)
		came(t, r, at+4, 4)
		takes(t, r, at+2, at+4)
		readsOf(t, r, 9, at, at+4)
		takes(t, r, at/2, at+4)
		takes(t, r, at, at+4)
		came(t, r, at+4, 8)
		if len(r.beyond) != 0 {
			t.Fatalf("%d bytes are kept beyond a gap that is none", len(r.beyond))
		}
	}
}

// P16.2: Read of 0, of less, of as many as there are, and of more.
func TestRead(t *testing.T) {
	for _, there := range []int{0, 1, 5, 500} {
		for _, most := range []int{0, -1, -5, math.MinInt, math.MinInt + 1, 1, 2, there - 1, there, there + 1, 4096, 1 << 32, 1<<32 + 2, math.MaxInt} {
			r := newOf(t, 600)
			if there > 0 {
				takes(t, r, 0, there)
			}
			takes(t, r, there+1, there+2)
			n := min(max(most, 0), there)
			readsOf(t, r, most, 0, n)
			came(t, r, there, 600-there+n)
			readsOf(t, r, math.MaxInt, n, there)
			came(t, r, there, 600)
			reads(t, r, math.MaxInt, nil)
		}
	}
}

// P16.2: what Read answers, and what was handed in to Hear, may be written over; no two answers share anything.
func TestReceiverWrittenOver(t *testing.T) {
	r := newOf(t, 1000)
	takes(t, r, 0, 300)
	takes(t, r, 400, 500)
	var answers [][]byte
	for range 3 {
		answers = append(answers, r.Read(50))
	}
	for i, b := range answers {
		if !bytes.Equal(b, stream(i*50, i*50+50)) {
			t.Errorf("answer %d was changed by another one", i)
		}
		scribble(b)
		_ = append(b, 1, 2, 3)
	}
	takes(t, r, 300, 400)
	readsOf(t, r, 50, 150, 200)
	readsOf(t, r, 1000, 200, 500)
	empty := r.Read(5)
	_ = append(empty, 1, 2, 3)
	takes(t, r, 500, 600)
	empty = r.Read(0)
	_ = append(empty, 1, 2, 3)
	scribble(empty)
	readsOf(t, r, 1000, 500, 600)
}

// P16.2: all rows of four parts, within a small window, each with bytes of its own, with reads between, against a plain receiver by the words.
func TestSmallReceivers(t *testing.T) {
	var parts [][2]int
	for off := range 5 {
		for n := 1; n <= 3; n++ {
			parts = append(parts, [2]int{off, n})
		}
	}
	row := make([]int, 4)
	for !t.Failed() {
		for readAt := range 3 {
			r, p := newOf(t, 4), newPlain(4)
			for i, which := range row {
				at := parts[which]
				sameHear(t, r, p, at[0], []byte{byte(10 * i), byte(10*i + 1), byte(10*i + 2)}[:at[1]])
				if i == readAt {
					sameRead(t, r, p, 1+readAt)
				}
			}
			sameRead(t, r, p, 9)
		}
		at := slices.IndexFunc(row, func(i int) bool { return i < len(parts)-1 })
		if at < 0 {
			return
		}
		clear(row[:at])
		row[at]++
	}
	t.Errorf("by the parts %v", row)
}
