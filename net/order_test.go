package net

import (
	"bytes"
	"math"
	"slices"
	"testing"

	"embrasure/api"
)

// scribble writes all of a row over, its spare room too.
func scribble(b []byte) {
	b = b[:cap(b)]
	for i := range b {
		b[i] ^= 0xff
	}
}

// P13.3: what was sent is taken as it was, though the bytes handed in were written over behind the call, and they aren't changed, nor is their spare room.
func TestHandedIn(t *testing.T) {
	for _, long := range []int{0, 1, 3, 1199, 1200} {
		n := New()
		room := bytesOf(1300, 9)
		row := room[:long]
		s := sends(t, n, a, b, row, 1)
		copies(t, n, 1, 2)
		sends(t, n, a, b, row, 3)
		if !bytes.Equal(room, bytesOf(1300, 9)) {
			t.Errorf("%d bytes: what was handed in was changed", long)
		}
		all := n.All()
		scribble(row)
		holds(t, n, s, as(s, 2), as(s, 3))
		tells(t, all, s, as(s, 2), as(s, 3))
		takes(t, n, as(s, 2))
		takes(t, n, s)
		takes(t, n, as(s, 3))
		want := bytesOf(1300, 9)
		scribble(want)
		if !bytes.Equal(room, want) {
			t.Errorf("%d bytes: what was handed in was changed later", long)
		}
	}
}

// P13.1: what isn't sent isn't changed either.
func TestHandedInNot(t *testing.T) {
	n, _ := fill(t, 300, fillings[0])
	for _, long := range []int{0, 1, 1200, 1201, 1250} {
		room := bytesOf(1300, 9)
		n.Send(a, b, room[:long])
		n.Send(api.Addr{}, b, room[:long])
		if !bytes.Equal(room, bytesOf(1300, 9)) {
			t.Errorf("%d bytes: what was handed in was changed", long)
		}
	}
}

// P13.3: what was taken may be written over: copies of it are as they were, and what All told, and will tell.
func TestTakenWrittenOver(t *testing.T) {
	n := New()
	s := sends(t, n, a, b, bytesOf(50, 3), 1)
	copies(t, n, 1, 2)
	copies(t, n, 1, 3)
	all := n.All()
	told := slices.Collect(allOf(n.All()))
	for _, no := range []int{2, 1} {
		got, _ := n.Take(no)
		scribble(got.Bytes)
		got.Bytes = append(got.Bytes, 1, 2, 3)
	}
	holds(t, n, as(s, 3))
	copies(t, n, 3, 4)
	tells(t, all, s, as(s, 2), as(s, 3))
	if !slices.EqualFunc(told, []api.Sent{s, as(s, 2), as(s, 3)}, like) {
		t.Errorf("what All told was changed: %v", told)
	}
	takes(t, n, as(s, 3))
	takes(t, n, as(s, 4))
}

// P13.3: what All told may be written over: what is on its way is as it was, and what is told again; no two have bytes in common.
func TestToldWrittenOver(t *testing.T) {
	n := New()
	s := sends(t, n, a, b, bytesOf(50, 3), 1)
	copies(t, n, 1, 2)
	all := n.All()
	for range 3 {
		var before []byte
		for got := range allOf(all) {
			if !like(got, as(s, got.No)) {
				t.Errorf("All tells %v, want %v", got, s)
			}
			scribble(got.Bytes)
			if before != nil && &before[0] == &got.Bytes[0] {
				t.Error("two have bytes in common")
			}
			before = got.Bytes
		}
	}
	tells(t, n.All(), s, as(s, 2))
	takes(t, n, s)
	takes(t, n, as(s, 2))
}

// rest: a remainder, found by going on by steps alone.
func rest(place, count int) int {
	for place >= count*1000000 {
		place -= count * 1000000
	}
	for place <= -count*1000000 {
		place += count * 1000000
	}
	for place >= count {
		place -= count
	}
	for place < 0 {
		place += count
	}
	return place
}

// P13.2: At by places in a net with gaps among its numbers, written out.
func TestAtWrittenOut(t *testing.T) {
	n, all := fill(t, 9, fillings[0])
	for _, no := range []int{1, 4, 5, 9} {
		takes(t, n, all[no-1])
	}
	for place, want := range map[int]int{
		0: 2, 1: 3, 2: 6, 3: 7, 4: 8, 5: 2, 6: 3, 9: 8, 10: 2, 11: 3,
		-1: 8, -2: 7, -3: 6, -4: 3, -5: 2, -6: 8, -10: 2, -11: 8,
		// 2^63 is 3 more than a multiple of 5.
		math.MaxInt: 6, math.MaxInt - 1: 3, math.MaxInt - 2: 2, math.MaxInt - 3: 8,
		math.MinInt: 6, math.MinInt + 1: 7, math.MinInt + 2: 8, math.MinInt + 3: 2,
		1 << 32: 3, -1 << 32: 8, 1 << 62: 8, -1 << 62: 3,
	} {
		if got := n.At(place); got != want {
			t.Errorf("At(%d) = %d, want %d", place, got, want)
		}
	}
}

// P13.2: At by places far and near, in nets with as many as there may be.
func TestAt(t *testing.T) {
	places := []int{0, 1, 2, 299, 300, 301, 599, 600, 1 << 20, 1<<31 - 1, -1, -2, -299, -300, -301, -600, -1 << 20, -1 << 31}
	for _, count := range []int{1, 2, 3, 7, 255, 256, 257, 299, 300} {
		n, all := fill(t, count, fillings[3])
		for _, place := range append(places, count-1, count, count+1, 2*count-1, 2*count, -count+1, -count, -count-1) {
			if got, want := n.At(place), all[rest(place, count)].No; got != want {
				t.Errorf("of %d: At(%d) = %d, want %d", count, place, got, want)
			}
		}
	}
}

// P13.2: in a net that has none, At is 0, also in one that had some; in one that has one, it is its number.
func TestAtFew(t *testing.T) {
	places := []int{0, 1, 2, -1, -2, 300, 1 << 40, math.MaxInt, math.MinInt, math.MinInt + 1}
	n := New()
	for no := 1; no < 5; no++ {
		for _, place := range places {
			if got := n.At(place); got != 0 {
				t.Errorf("At(%d) = %d, want 0", place, got)
			}
		}
		s := sends(t, n, a, b, nil, no)
		for _, place := range places {
			if got := n.At(place); got != no {
				t.Errorf("At(%d) = %d, want %d", place, got, no)
			}
		}
		takes(t, n, s)
	}
}

// P13.2: All is in order, with gaps, and may be stopped anywhere; asked for, or run, again it begins anew.
func TestAllStopped(t *testing.T) {
	n, all := fill(t, 30, fillings[2])
	for _, no := range []int{30, 1, 17, 18, 2} {
		takes(t, n, all[no-1])
	}
	all = slices.Concat(all[2:16], all[18:29])
	seq := n.All()
	for many := range len(all) + 1 {
		for _, run := range []int{0, 1} {
			if run == 1 {
				seq = n.All()
			}
			var got []api.Sent
			for s := range allOf(seq) {
				got = append(got, s)
				if len(got) >= many {
					break
				}
			}
			if !slices.EqualFunc(got, all[:max(many, 1)], like) {
				t.Errorf("stopped behind %d: %v", many, got)
			}
		}
	}
	holds(t, n, all...)
}

// P13.2: All tells what there is as it is asked for, whatever is done ahead of running it, or between two runs.
func TestAllAskedFor(t *testing.T) {
	n := New()
	empty := n.All()
	one := sends(t, n, a, b, []byte("1"), 1)
	first := n.All()
	two := sends(t, n, b, c, []byte("2"), 2)
	copies(t, n, 1, 3)
	second := n.All()
	takes(t, n, one)
	third := n.All()
	takes(t, n, two)
	takes(t, n, as(one, 3))
	last := n.All()
	four := sends(t, n, c, a, []byte("4"), 4)
	for range 2 {
		tells(t, empty)
		tells(t, first, one)
		tells(t, second, one, two, as(one, 3))
		tells(t, third, two, as(one, 3))
		tells(t, last)
	}
	holds(t, n, four)
}

// P13.2: what is done while it runs is nothing to All, and is done.
func TestAllWhileItRuns(t *testing.T) {
	n, all := fill(t, 5, fillings[0])
	next := 6
	var got []api.Sent
	for s := range allOf(n.All()) {
		got = append(got, s)
		copies(t, n, 5, next)
		sends(t, n, a, b, []byte("later"), next+1)
		next += 2
		if s.No < 5 {
			takes(t, n, s)
		}
	}
	if !slices.EqualFunc(got, all, like) {
		t.Errorf("All tells %v, want %v", got, all)
	}
	if n.Count() != 11 || n.At(0) != 5 || n.At(-1) != 15 {
		t.Errorf("behind it: Count() = %d, At(0) = %d, At(-1) = %d", n.Count(), n.At(0), n.At(-1))
	}
}

// P13.2: whoever stands ahead is taken while All runs, or all are, or the one that would be told next.
func TestAllTakenMeanwhile(t *testing.T) {
	for at := range 6 {
		n, all := fill(t, 6, fillings[0])
		var got []api.Sent
		for s := range allOf(n.All()) {
			got = append(got, s)
			if len(got) == 2 {
				takes(t, n, all[at])
			}
			if len(got) == 4 {
				for no := range 7 {
					n.Take(no)
				}
			}
		}
		if !slices.EqualFunc(got, all, like) {
			t.Errorf("with a Take of %d: All tells %v, want %v", at+1, got, all)
		}
		holds(t, n)
	}
}

// P13.2: a sequence runs in itself.
func TestAllInAll(t *testing.T) {
	n, all := fill(t, 7, fillings[3])
	seq := n.All()
	outside := 0
	for s := range allOf(seq) {
		if !like(s, all[outside]) {
			t.Errorf("All tells %v, want %v", s, all[outside])
		}
		tells(t, seq, all...)
		tells(t, n.All(), all...)
		outside++
	}
	if outside != 7 {
		t.Errorf("All told %d", outside)
	}
}
