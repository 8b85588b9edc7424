package flow

import (
	"bytes"
	"math"
	"slices"
	"testing"

	"embrasure/api"
)

// stream: the bytes of the tests' stream from one place up to another, of which none is like those near it.
func stream(from, to int) []byte {
	b := make([]byte, 0, to-from)
	for at := from; at < to; at++ {
		b = append(b, byte(at*7+at>>8*31+at>>16*11))
	}
	return b
}

// scribble writes all of a row over, its spare room too.
func scribble(b []byte) {
	b = b[:cap(b)]
	for i := range b {
		b[i] ^= 0xff
	}
}

// writes: that so many of these bytes are written; they are neither changed nor kept, their spare room too.
func writes(t *testing.T, s *Sender, b []byte, want int) {
	t.Helper()
	room := append(bytes.Clone(b), 1, 2, 3)
	if got := s.Write(room[:len(b)]); got != want {
		t.Errorf("Write(%d bytes) = %d, want %d", len(b), got, want)
	}
	if !bytes.Equal(room, append(bytes.Clone(b), 1, 2, 3)) {
		t.Errorf("Write(%d bytes): what was handed in was changed", len(b))
	}
	scribble(room)
}

// tells: that the part that is next is this one; it is written over behind that.
func tells(t *testing.T, s *Sender, off int, want []byte) {
	t.Helper()
	p, ok := s.Next()
	if !ok || p.Off != off || !bytes.Equal(p.Bytes, want) {
		t.Errorf("Next() = %d %q %v, want %d %q true", p.Off, p.Bytes, ok, off, want)
	}
	scribble(p.Bytes)
}

// tellsOf: that the part that is next is the stream's from one place up to another.
func tellsOf(t *testing.T, s *Sender, from, to int) {
	t.Helper()
	tells(t, s, from, stream(from, to))
}

// tellsNone: that there is no part, ask as often as one may.
func tellsNone(t *testing.T, s *Sender) {
	t.Helper()
	for range 2 {
		if p, ok := s.Next(); ok || p.Off != 0 || len(p.Bytes) != 0 {
			t.Errorf("Next() = %d %q %v, want none", p.Off, p.Bytes, ok)
		}
	}
}

// acks and acksNot: that it may be told so, or may not.
func acks(t *testing.T, s *Sender, upto, window int) {
	t.Helper()
	if !s.Ack(upto, window) {
		t.Errorf("Ack(%d, %d) = false", upto, window)
	}
}

func acksNot(t *testing.T, s *Sender, upto, window int) {
	t.Helper()
	if s.Ack(upto, window) {
		t.Errorf("Ack(%d, %d) = true", upto, window)
	}
}

// leaves: what Left tells.
func leaves(t *testing.T, s *Sender, left, since int) {
	t.Helper()
	if a, b := s.Left(); a != left || b != since {
		t.Errorf("Left() = %d %d, want %d %d", a, b, left, since)
	}
}

// goes: that it sends the stream from one place up to another, part by part, and no more.
func goes(t *testing.T, s *Sender, from, to int) {
	t.Helper()
	for from < to {
		end := min(from+api.MaxPart, to)
		tellsOf(t, s, from, end)
		from = end
	}
	tellsNone(t, s)
}

// wrote: a sender of which so many of the stream's bytes are written.
func wrote(t *testing.T, many int) *Sender {
	t.Helper()
	s := NewSender()
	writes(t, s, stream(0, many), many)
	return s
}

// allOf: all parts that are next, but it ends behind more than there can be, so that a fault which tells for ever is seen.
func allOf(t *testing.T, s *Sender) []api.Part {
	t.Helper()
	var all []api.Part
	for range api.MaxWindow + 1 {
		p, ok := s.Next()
		if !ok {
			return all
		}
		all = append(all, p)
	}
	t.Fatalf("Next tells for ever, at last %d bytes at %d", len(all[api.MaxWindow].Bytes), all[api.MaxWindow].Off)
	return nil
}

// far: a sender that sent the stream up to a place, and was told that all came, with a window; more are written.
func far(t *testing.T, upto, window, more int) *Sender {
	t.Helper()
	s := wrote(t, upto+more)
	for base := 0; base < upto; base = min(base+api.MaxWindow, upto) {
		acks(t, s, base, min(api.MaxWindow, upto-base))
		allOf(t, s)
	}
	acks(t, s, upto, window)
	return s
}

// P16.1: the chapter's example, and what is left at each call.
func TestExample(t *testing.T) {
	s := NewSender()
	leaves(t, s, 0, 0)
	writes(t, s, []byte("hello"), 5)
	leaves(t, s, 5, 0)
	acks(t, s, 0, 3)
	leaves(t, s, 5, 0)
	tells(t, s, 0, []byte("hel"))
	leaves(t, s, 5, 3)
	tellsNone(t, s)
	leaves(t, s, 5, 3)
	acks(t, s, 3, 3)
	leaves(t, s, 2, 0)
	tells(t, s, 3, []byte("lo"))
	leaves(t, s, 2, 2)
	tellsNone(t, s)
	acks(t, s, 5, 0)
	leaves(t, s, 0, 0)
}

// P16.1: a new sender: nothing is written, sent, or told to have come, and its Limit is 0.
func TestNewSender(t *testing.T) {
	s := NewSender()
	tellsNone(t, s)
	leaves(t, s, 0, 0)
	s.Again()
	tellsNone(t, s)
	acksNot(t, s, 1, 5)
	acksNot(t, s, -1, 5)
	leaves(t, s, 0, 0)
	writes(t, s, stream(0, 3), 3)
	tellsNone(t, s)
	acks(t, s, 0, 0)
	tellsNone(t, s)
	leaves(t, s, 3, 0)
	acks(t, s, 0, 1)
	goes(t, s, 0, 1)
}

// P16.1: two senders have nothing in common.
func TestTwoSenders(t *testing.T) {
	a, b := NewSender(), NewSender()
	writes(t, a, []byte("aaaa"), 4)
	acks(t, a, 0, 9)
	leaves(t, b, 0, 0)
	writes(t, b, []byte("bb"), 2)
	tellsNone(t, b)
	tells(t, a, 0, []byte("aaaa"))
	acksNot(t, b, 1, 9)
	acks(t, b, 0, 9)
	tells(t, b, 0, []byte("bb"))
}

// P16.1: Write of nothing writes nothing, wherever the sender is.
func TestWriteNothing(t *testing.T) {
	s := NewSender()
	for _, b := range [][]byte{nil, {}} {
		writes(t, s, b, 0)
		leaves(t, s, 0, 0)
	}
	acks(t, s, 0, 9)
	writes(t, s, nil, 0)
	tellsNone(t, s)
	writes(t, s, stream(0, 4), 4)
	writes(t, s, nil, 0)
	leaves(t, s, 4, 0)
	goes(t, s, 0, 4)
	writes(t, s, nil, 0)
	leaves(t, s, 4, 4)
	tellsNone(t, s)
}

// P16.1: bytes that are written in pieces are one stream, behind one another, whatever was sent and came between.
func TestWritePieces(t *testing.T) {
	s := NewSender()
	acks(t, s, 0, 100)
	writes(t, s, stream(0, 3), 3)
	writes(t, s, stream(3, 4), 1)
	goes(t, s, 0, 4)
	writes(t, s, stream(4, 10), 6)
	acks(t, s, 3, 100)
	writes(t, s, stream(10, 11), 1)
	leaves(t, s, 8, 1)
	goes(t, s, 4, 11)
	acks(t, s, 11, 100)
	writes(t, s, stream(11, 30), 19)
	writes(t, s, stream(30, 31), 1)
	leaves(t, s, 20, 0)
	goes(t, s, 11, 31)
	s.Again()
	goes(t, s, 11, 31)
}

// P16.1: there is room for MaxStream bytes in all; of one more all but the last are written, and of some when there is no room none.
func TestWriteRoom(t *testing.T) {
	for _, first := range []int{0, 1, 5, 500, api.MaxStream - 1, api.MaxStream} {
		room := api.MaxStream - first
		for _, more := range []int{room - 1, room, room + 1, room + 700, 2 * api.MaxStream} {
			if more < 0 {
				continue
			}
			s := wrote(t, first)
			want := min(more, room)
			writes(t, s, stream(first, first+more), want)
			leaves(t, s, first+want, 0)
			writes(t, s, stream(first+want, api.MaxStream+9), room-want)
			for _, many := range []int{1, 2, 500, api.MaxStream} {
				writes(t, s, make([]byte, many), 0)
			}
			leaves(t, s, api.MaxStream, 0)
			acks(t, s, 0, 700)
			goes(t, s, 0, 700)
		}
	}
}

// P16.1: MaxStream are all that ever may be written: what came makes no room.
func TestWriteRoomBehindAck(t *testing.T) {
	s := far(t, 5000, 100, 0)
	leaves(t, s, 0, 0)
	writes(t, s, stream(5000, api.MaxStream+1), api.MaxStream-5000)
	writes(t, s, []byte{1}, 0)
	leaves(t, s, api.MaxStream-5000, 0)
	goes(t, s, 5000, 5100)
	acks(t, s, 5100, 4096)
	writes(t, s, []byte{1}, 0)
	leaves(t, s, api.MaxStream-5100, 0)
	goes(t, s, 5100, 9196)
}

// P16.1: the last bytes that there may be are sent, and nothing behind them, be the Limit beyond MaxStream.
func TestLastBytes(t *testing.T) {
	s := far(t, api.MaxStream-700, api.MaxWindow, 700)
	leaves(t, s, 700, 0)
	writes(t, s, []byte{1}, 0)
	goes(t, s, api.MaxStream-700, api.MaxStream)
	leaves(t, s, 700, 700)
	acksNot(t, s, api.MaxStream+1, 0)
	acks(t, s, api.MaxStream-1, api.MaxWindow)
	leaves(t, s, 1, 1)
	s.Again()
	goes(t, s, api.MaxStream-1, api.MaxStream)
	acks(t, s, api.MaxStream, api.MaxWindow)
	leaves(t, s, 0, 0)
	s.Again()
	tellsNone(t, s)
	writes(t, s, []byte{1}, 0)
	acksNot(t, s, api.MaxStream-1, 0)
	acksNot(t, s, api.MaxStream+1, 0)
	acks(t, s, api.MaxStream, 0)
}

// P16.1: Next with a Limit that is 0, below, at and above what is written, at a stream's beginning and further on.
func TestLimit(t *testing.T) {
	for _, from := range []int{0, 1, 600, 4096, 10000} {
		for _, written := range []int{0, 1, 3, 499, 500, 501, 4000} {
			for _, window := range []int{0, 1, 2, 3, 4, 499, 500, 501, 999, 1000, 1001, 4095, 4096} {
				s := far(t, from, window, written)
				sent := min(written, window)
				goes(t, s, from, from+sent)
				leaves(t, s, written, sent)
				s.Again()
				leaves(t, s, written, 0)
				goes(t, s, from, from+sent)
			}
		}
	}
}

// P16.1: MaxPart bytes are one part, one less too, and one more are two.
func TestMaxPart(t *testing.T) {
	for _, sizes := range [][]int{{499}, {500}, {500, 1}, {500, 499}, {500, 500}, {500, 500, 1}} {
		total := 0
		for _, n := range sizes {
			total += n
		}
		for _, extra := range []int{0, 1, 600} {
			byWritten, byLimit := wrote(t, total), wrote(t, total+extra)
			acks(t, byWritten, 0, total+extra)
			acks(t, byLimit, 0, total)
			at := 0
			for _, n := range sizes {
				tellsOf(t, byWritten, at, at+n)
				tellsOf(t, byLimit, at, at+n)
				at += n
				leaves(t, byWritten, total, at)
				leaves(t, byLimit, total+extra, at)
			}
			tellsNone(t, byWritten)
			tellsNone(t, byLimit)
		}
	}
}

// P16.1: a part ends where nothing more is written, and the next one begins there, when more is.
func TestNextBehindWrite(t *testing.T) {
	s := NewSender()
	acks(t, s, 0, 1000)
	at := 0
	for _, n := range []int{1, 2, 300, 500, 1} {
		tellsNone(t, s)
		writes(t, s, stream(at, at+n), n)
		tellsOf(t, s, at, at+n)
		at += n
		leaves(t, s, at, at)
	}
	writes(t, s, stream(at, at+400), 400)
	goes(t, s, at, 1000)
}

// P16.1: what Next answers, and what was handed in to Write, may be written over: what is sent again is as it was. No two answers share anything.
func TestSenderWrittenOver(t *testing.T) {
	s := wrote(t, 1200)
	acks(t, s, 0, 1200)
	var parts []api.Part
	for range 3 {
		parts = append(parts, allOf(t, s)...)
		s.Again()
	}
	if len(parts) != 9 {
		t.Fatalf("%d parts, want 9", len(parts))
	}
	for i, p := range parts {
		off := i % 3 * 500
		if want := stream(off, min(off+500, 1200)); p.Off != off || !bytes.Equal(p.Bytes, want) {
			t.Errorf("part %d was changed by another one", i)
		}
		scribble(p.Bytes)
		_ = append(p.Bytes, 1, 2, 3)
	}
	goes(t, s, 0, 1200)
	writes(t, s, stream(1200, 1300), 100)
	acks(t, s, 700, 600)
	goes(t, s, 1200, 1300)
	s.Again()
	goes(t, s, 700, 1300)
}

// midway: a sender whose Base is 3, that sent 8 ever, and has 20 written; its Limit is 8.
func midway(t *testing.T, again bool) *Sender {
	t.Helper()
	s := far(t, 3, 5, 17)
	goes(t, s, 3, 8)
	if again {
		s.Again()
	}
	return s
}

// P16.1: Ack of each upto near Base, Next and how many were sent ever, also behind an Again, when Next is less than that: Base is upto, Next at least that, and Limit upto and window.
func TestAckUpto(t *testing.T) {
	for upto := -2; upto <= 22; upto++ {
		for _, again := range []bool{false, true} {
			s, next := midway(t, again), 8
			if again {
				next = 3
			}
			if upto < 3 || upto > 8 {
				acksNot(t, s, upto, 9)
				leaves(t, s, 17, next-3)
				goes(t, s, next, 8)
				continue
			}
			acks(t, s, upto, 9)
			next = max(next, upto)
			leaves(t, s, 20-upto, next-upto)
			goes(t, s, next, min(20, upto+9))
			s.Again()
			goes(t, s, upto, min(20, upto+9))
			acksNot(t, s, upto-1, 9)
		}
	}
}

// P16.1: how many were sent ever counts, however often it was begun again, and not how many were written, or might be sent.
func TestAckEver(t *testing.T) {
	s := wrote(t, 2000)
	acks(t, s, 0, 1500)
	tellsOf(t, s, 0, 500)
	acksNot(t, s, 501, 0)
	tellsOf(t, s, 500, 1000)
	s.Again()
	acksNot(t, s, 1001, 0)
	tellsOf(t, s, 0, 500)
	s.Again()
	s.Again()
	acksNot(t, s, 1001, 0)
	acks(t, s, 1000, 500)
	leaves(t, s, 1000, 0)
	goes(t, s, 1000, 1500)
	s.Again()
	acks(t, s, 1200, 0)
	tellsOf(t, s, 1200, 1500)
	acksNot(t, s, 1501, 0)
	acks(t, s, 1500, 0)
	tellsNone(t, s)
	leaves(t, s, 500, 0)
}

// P16.1: windows are 0 to MaxWindow; of others nothing is done, were upto told for the first time.
func TestAckWindows(t *testing.T) {
	for _, window := range []int{-1, -2, -4096, math.MinInt, math.MinInt + 1, -1 << 32, api.MaxWindow + 1, api.MaxWindow + 2, 2 * api.MaxWindow, 1 << 16, 1 << 32, 1<<32 + 9, 1<<62 + 9, math.MaxInt} {
		for upto := 2; upto <= 9; upto++ {
			s := midway(t, false)
			acksNot(t, s, upto, window)
			leaves(t, s, 17, 5)
			tellsNone(t, s)
			s.Again()
			goes(t, s, 3, 8)
			acks(t, s, 3, 6)
			goes(t, s, 8, 9)
		}
	}
	for _, window := range []int{0, 1, api.MaxWindow - 1, api.MaxWindow} {
		s := far(t, 100, window, 5000)
		goes(t, s, 100, 100+window)
		leaves(t, s, 5000, window)
	}
}

// P16.1: upto may be any number, and so may the window beside it.
func TestAckGreat(t *testing.T) {
	for _, upto := range []int{math.MinInt, math.MinInt + 1, -1 << 32, -1, 9, 1 << 20, 1<<20 + 1, 1 << 32, 1<<32 + 5, 1<<62 + 5, math.MaxInt - 4096, math.MaxInt - 1, math.MaxInt} {
		for _, window := range []int{math.MinInt, -1, 0, 1, api.MaxWindow, math.MaxInt} {
			s := midway(t, false)
			acksNot(t, s, upto, window)
			leaves(t, s, 17, 5)
			tellsNone(t, s)
		}
	}
}

// P16.1: a window never makes Limit less: what might be sent may still be.
func TestLimitStays(t *testing.T) {
	s := wrote(t, 100)
	acks(t, s, 0, 50)
	tellsOf(t, s, 0, 50)
	s.Again()
	acks(t, s, 0, 10)
	goes(t, s, 0, 50)
	acks(t, s, 20, 29)
	tellsNone(t, s)
	acks(t, s, 20, 30)
	tellsNone(t, s)
	acks(t, s, 20, 31)
	goes(t, s, 50, 51)
	acks(t, s, 20, 0)
	s.Again()
	goes(t, s, 20, 51)
	acks(t, s, 51, 0)
	tellsNone(t, s)
	leaves(t, s, 49, 0)
	acks(t, s, 51, 4096)
	goes(t, s, 51, 100)
}

// P16.1: Limit stays ahead of anything being written, too.
func TestLimitAheadOfWrite(t *testing.T) {
	s := NewSender()
	acks(t, s, 0, 7)
	acks(t, s, 0, 3)
	writes(t, s, stream(0, 20), 20)
	goes(t, s, 0, 7)
}

// P16.1: an upto beyond Next makes Next that: what came isn't sent again.
func TestAckBeyondNext(t *testing.T) {
	s := wrote(t, 1600)
	acks(t, s, 0, 1400)
	goes(t, s, 0, 1400)
	s.Again()
	tellsOf(t, s, 0, 500)
	leaves(t, s, 1600, 500)
	acks(t, s, 700, 700)
	leaves(t, s, 900, 0)
	tellsOf(t, s, 700, 1200)
	leaves(t, s, 900, 500)
	acks(t, s, 900, 500)
	leaves(t, s, 700, 300)
	goes(t, s, 1200, 1400)
	acks(t, s, 1400, 500)
	goes(t, s, 1400, 1600)
}

// P16.1: Again: Next is Base, and all that wasn't told to have come is sent once more, in parts from there on.
func TestAgain(t *testing.T) {
	s := wrote(t, 1300)
	acks(t, s, 0, 1100)
	for range 3 {
		goes(t, s, 0, 1100)
		leaves(t, s, 1300, 1100)
		s.Again()
		leaves(t, s, 1300, 0)
	}
	tellsOf(t, s, 0, 500)
	s.Again()
	tellsOf(t, s, 0, 500)
	acks(t, s, 7, 1200)
	s.Again()
	s.Again()
	leaves(t, s, 1293, 0)
	goes(t, s, 7, 1207)
	writes(t, s, stream(1300, 1310), 10)
	s.Again()
	acks(t, s, 1000, 400)
	leaves(t, s, 310, 0)
	goes(t, s, 1000, 1310)
}

// senderCalls: calls of a small sender, of which each does the same to it and to a plain one.
func senderCalls(t *testing.T) []func(s *Sender, p *plainSender) {
	var calls []func(s *Sender, p *plainSender)
	for _, n := range []int{1, 3} {
		calls = append(calls, func(s *Sender, p *plainSender) {
			b := stream(len(p.all), len(p.all)+n)
			writes(t, s, b, p.write(b))
		})
	}
	calls = append(calls,
		func(s *Sender, p *plainSender) { sameNext(t, s, p) },
		func(s *Sender, p *plainSender) { s.Again(); p.next = p.base })
	for _, by := range [][2]int{{0, 2}, {1, 0}, {1, 2}, {2, 1}, {-1, 4}} {
		calls = append(calls, func(s *Sender, p *plainSender) { sameAck(t, s, p, p.base+by[0], by[1]) })
	}
	return calls
}

// P16.1: all rows of six calls out of some, against a plain sender by the words.
func TestSmallSenders(t *testing.T) {
	calls := senderCalls(t)
	row := make([]int, 6)
	for !t.Failed() {
		s, p := NewSender(), &plainSender{}
		for _, i := range row {
			calls[i](s, p)
			leaves(t, s, len(p.all)-p.base, p.next-p.base)
		}
		at := slices.IndexFunc(row, func(i int) bool { return i < len(calls)-1 })
		if at < 0 {
			return
		}
		clear(row[:at])
		row[at]++
	}
	t.Errorf("by the calls %v", row)
}
