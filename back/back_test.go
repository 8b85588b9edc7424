package back

import (
	"iter"
	"math"
	"math/big"
	"slices"
	"testing"

	"embrasure/api"
)

// plan: first and most.
type plan struct{ first, most int }

// told: a try, and when the next one is, as a sequence tells them.
type told struct{ n, at int }

// notPlans: the edges, one below and one above them, and such as are plans only when they are cut.
func notPlans() []plan {
	return []plan{
		{0, 0}, {0, 1}, {0, 5}, {0, api.MaxTime}, {1, 0}, {-1, 5}, {-1, -1}, {1, -1}, {5, -5}, {-5, 5}, {-1, api.MaxTime},
		{6, 5}, {2, 1}, {1000, 999}, {api.MaxTime, api.MaxTime - 1}, {api.MaxTime, 1},
		{1, api.MaxTime + 1}, {api.MaxTime, api.MaxTime + 1}, {api.MaxTime + 1, api.MaxTime}, {api.MaxTime + 1, api.MaxTime + 1}, {api.MaxTime + 1, api.MaxTime + 2},
		{1, 1<<48 + 7}, {1<<48 + 1, 1<<48 + 7}, {1, 1<<62 + 7}, {1<<32 + 1, 5}, {1 << 32, 1},
		{1, math.MaxInt}, {math.MaxInt, math.MaxInt}, {math.MaxInt, 1}, {math.MinInt, 1}, {1, math.MinInt}, {math.MinInt, math.MinInt}, {math.MinInt, math.MaxInt}, {math.MaxInt, math.MinInt},
	}
}

// plans: the edges, and some between.
func plans() []plan {
	all := []plan{
		{1, 1}, {1, 2}, {1, 3}, {1, 4}, {2, 2}, {2, 3}, {3, 4}, {3, 5}, {3, 6}, {3, 7}, {250, 1000}, {250, 1600}, {250, 999}, {250, 1001}, {1000, 1000}, {1000, 1001},
		{1, 1<<31 - 1}, {1, 1 << 31}, {1, 1<<32 - 1}, {1, 1 << 32}, {1, 1<<32 + 1}, {1<<32 + 1, 1<<33 + 1}, {3, 1 << 39},
		{1, api.MaxTime - 1}, {1, api.MaxTime}, {2, api.MaxTime}, {3, api.MaxTime}, {api.MaxTime / 2, api.MaxTime}, {api.MaxTime/2 - 1, api.MaxTime}, {api.MaxTime/2 + 1, api.MaxTime},
		{api.MaxTime - 1, api.MaxTime - 1}, {api.MaxTime - 1, api.MaxTime}, {api.MaxTime, api.MaxTime},
	}
	x := uint64(88172645463325252)
	for range 300 {
		x ^= x << 13
		x ^= x >> 7
		x ^= x << 17
		most := 1 + int(x>>24)>>(x%40)
		all = append(all, plan{1 + int(x>>3)%most>>(x>>10%20), most})
	}
	return all
}

// farTries: tries, up to far beyond the one at which any wait is most, and such as are small only when they are cut.
func farTries() []int {
	var all []int
	for n := range 140 {
		all = append(all, n)
	}
	return append(all, 255, 256, 257, 1000, 1<<16, 1<<31-1, 1<<31, 1<<32-1, 1<<32, 1<<32+1, 1<<40, 1<<62, math.MaxInt-1, math.MaxInt)
}

// plainWait: the wait by the words: first times 2 to the n, most at most, in numbers without a bound.
func plainWait(p plan, n int) int {
	// Behind a thousand doublings any first is above any most.
	v := new(big.Int).Lsh(big.NewInt(int64(p.first)), uint(min(n, 1000)))
	if v.Cmp(big.NewInt(int64(p.most))) > 0 {
		return p.most
	}
	return int(v.Int64())
}

// plainTimes: what Times tells first, by the words, but of so many tries at most.
func plainTimes(p plan, from, tries int) []told {
	var all []told
	at := from
	for n := range tries {
		if at += plainWait(p, n); at > api.MaxTime {
			break
		}
		all = append(all, told{n, at})
	}
	return all
}

// taken: what a sequence tells first; it is broken off behind so many.
func taken(seq iter.Seq2[int, int], many int) []told {
	var all []told
	for n, at := range seq {
		if all = append(all, told{n, at}); len(all) >= many {
			break
		}
	}
	return all
}

// waits: that Wait answers this wait, with OK.
func waits(t *testing.T, p plan, n, want int) {
	t.Helper()
	if w, code := Wait(p.first, p.most, n); w != want || code != api.OK {
		t.Errorf("Wait(%d, %d, %d) = %d %d, want %d OK", p.first, p.most, n, w, code, want)
	}
}

// waitsNot: that Wait answers Arg, and 0 beside it.
func waitsNot(t *testing.T, p plan, n int) {
	t.Helper()
	if w, code := Wait(p.first, p.most, n); w != 0 || code != api.Arg {
		t.Errorf("Wait(%d, %d, %d) = %d %d, want 0 Arg", p.first, p.most, n, w, code)
	}
}

// sums: that Sum answers this sum, with OK.
func sums(t *testing.T, p plan, tries, want int) {
	t.Helper()
	if s, code := Sum(p.first, p.most, tries); s != want || code != api.OK {
		t.Errorf("Sum(%d, %d, %d) = %d %d, want %d OK", p.first, p.most, tries, s, code, want)
	}
}

// sumsNot: that Sum answers Arg, and 0 beside it.
func sumsNot(t *testing.T, p plan, tries int) {
	t.Helper()
	if s, code := Sum(p.first, p.most, tries); s != 0 || code != api.Arg {
		t.Errorf("Sum(%d, %d, %d) = %d %d, want 0 Arg", p.first, p.most, tries, s, code)
	}
}

// tells: that Times tells these, and none behind them.
func tells(t *testing.T, p plan, from int, want ...told) {
	t.Helper()
	if got := taken(Times(p.first, p.most, from), len(want)+1); !slices.Equal(got, want) {
		t.Errorf("Times(%d, %d, %d) tells %v, want %v", p.first, p.most, from, got, want)
	}
}

// tellsFirst: that Times tells these first, and more behind them.
func tellsFirst(t *testing.T, p plan, from int, want ...told) {
	t.Helper()
	got := taken(Times(p.first, p.most, from), len(want)+1)
	if len(got) != len(want)+1 || !slices.Equal(got[:len(want)], want) {
		t.Errorf("Times(%d, %d, %d) tells first %v, want %v and more", p.first, p.most, from, got, want)
	}
}

// P7.1: the chapter's example, and others, wait by wait.
func TestWaitWrittenOut(t *testing.T) {
	for _, c := range []struct {
		plan
		want []int
	}{
		{plan{250, 1000}, []int{250, 500, 1000, 1000, 1000}},
		{plan{250, 1001}, []int{250, 500, 1000, 1001, 1001}},
		{plan{250, 999}, []int{250, 500, 999, 999}},
		{plan{250, 500}, []int{250, 500, 500}},
		{plan{250, 499}, []int{250, 499, 499}},
		{plan{250, 251}, []int{250, 251, 251}},
		{plan{250, 250}, []int{250, 250, 250}},
		{plan{1, 1}, []int{1, 1, 1}},
		{plan{1, 2}, []int{1, 2, 2}},
		{plan{1, 3}, []int{1, 2, 3, 3}},
		{plan{1, 100}, []int{1, 2, 4, 8, 16, 32, 64, 100, 100}},
		{plan{3, 100}, []int{3, 6, 12, 24, 48, 96, 100, 100}},
		{plan{api.MaxTime, api.MaxTime}, []int{api.MaxTime, api.MaxTime}},
		{plan{api.MaxTime - 1, api.MaxTime}, []int{api.MaxTime - 1, api.MaxTime, api.MaxTime}},
		{plan{api.MaxTime / 2, api.MaxTime}, []int{api.MaxTime / 2, api.MaxTime, api.MaxTime}},
		{plan{api.MaxTime / 4, api.MaxTime - 1}, []int{api.MaxTime / 4, api.MaxTime / 2, api.MaxTime - 1, api.MaxTime - 1}},
	} {
		for n, want := range c.want {
			waits(t, c.plan, n, want)
		}
	}
}

// P7.1: of each plan every wait, by the words; far beyond the try at which it is most it is most still.
func TestWaitByTheWords(t *testing.T) {
	for _, p := range plans() {
		for _, n := range farTries() {
			waits(t, p, n, plainWait(p, n))
		}
	}
}

// P7.1: the try at which the wait is most, where first is doubled up to the greatest time, and the tries about it.
func TestWaitFar(t *testing.T) {
	waits(t, plan{1, api.MaxTime}, 39, api.MaxTime/2)
	for _, first := range []int{1, 2, 3, 1<<32 - 1, api.MaxTime} {
		for _, n := range []int{40, 41, 61, 62, 63, 64, 65, 127, 128, 1 << 31, 1 << 32, 1<<32 + 1, 1 << 40, 1 << 62, math.MaxInt} {
			waits(t, plan{first, api.MaxTime}, n, api.MaxTime)
		}
	}
}

// P7.1: what isn't a plan is Arg, whichever try is asked for.
func TestWaitNoPlan(t *testing.T) {
	for _, p := range notPlans() {
		for _, n := range []int{0, 1, 40, 64, math.MaxInt, -1, math.MinInt} {
			waitsNot(t, p, n)
		}
	}
}

// P7.1: a try below 0 is Arg.
func TestWaitBelow(t *testing.T) {
	for _, p := range plans() {
		for _, n := range []int{-1, -2, -40, -63, -64, -65, -1 << 31, -1 << 32, -1<<32 + 1, math.MinInt + 1, math.MinInt} {
			waitsNot(t, p, n)
		}
	}
}

// P7.1: sums, tries by tries.
func TestSumWrittenOut(t *testing.T) {
	for _, c := range []struct {
		plan
		want []int
	}{
		{plan{250, 1000}, []int{0, 250, 750, 1750, 2750, 3750}},
		{plan{1, 4}, []int{0, 1, 3, 7, 11, 15}},
		{plan{1, 1}, []int{0, 1, 2, 3, 4}},
		{plan{3, 5}, []int{0, 3, 8, 13}},
		{plan{api.MaxTime, api.MaxTime}, []int{0, api.MaxTime, 2 * api.MaxTime, 3 * api.MaxTime}},
		{plan{api.MaxTime/2 + 1, api.MaxTime}, []int{0, api.MaxTime/2 + 1, api.MaxTime/2 + 1 + api.MaxTime}},
	} {
		for tries, want := range c.want {
			sums(t, c.plan, tries, want)
		}
	}
}

// P7.1: no tries have no waits, 1000 tries have theirs, and one more is Arg.
func TestSumTries(t *testing.T) {
	sums(t, plan{1, 1}, 999, 999)
	sums(t, plan{1, 1}, 1000, 1000)
	sums(t, plan{7, 7}, 1000, 7000)
	sums(t, plan{250, 1000}, 1000, 250+500+998*1000)
	sums(t, plan{1, api.MaxTime}, 1000, api.MaxTime-1+960*api.MaxTime)
	sums(t, plan{api.MaxTime, api.MaxTime}, 1000, 1000*api.MaxTime)
	for _, p := range plans() {
		sums(t, p, 0, 0)
		for _, tries := range []int{1001, 1002, 1024, 2000, 1<<16 + 1, 1 << 32, 1<<32 + 1, 1 << 40, 1 << 62, math.MaxInt, -1, -2, -999, -1000, -1001, -1 << 32, -1<<32 + 1, math.MinInt} {
			sumsNot(t, p, tries)
		}
	}
}

// P7.1: of each plan all sums, by the words.
func TestSumByTheWords(t *testing.T) {
	for _, p := range plans() {
		sum := 0
		for tries := range 1001 {
			if tries < 70 || tries%97 == 0 || tries > 997 {
				sums(t, p, tries, sum)
			}
			sum += plainWait(p, tries)
		}
	}
}

// P7.1: what isn't a plan is Arg, of no tries, too.
func TestSumNoPlan(t *testing.T) {
	for _, p := range notPlans() {
		for _, tries := range []int{0, 1, 2, 1000, 1001, -1, math.MaxInt, math.MinInt} {
			sumsNot(t, p, tries)
		}
	}
}

// P7.2: times, try by try: behind the try 0, which is at from, there is a wait already.
func TestTimesWrittenOut(t *testing.T) {
	tellsFirst(t, plan{250, 1000}, 0, told{0, 250}, told{1, 750}, told{2, 1750}, told{3, 2750}, told{4, 3750})
	tellsFirst(t, plan{250, 1000}, 5, told{0, 255}, told{1, 755}, told{2, 1755}, told{3, 2755})
	tellsFirst(t, plan{1, 4}, 100, told{0, 101}, told{1, 103}, told{2, 107}, told{3, 111})
	tellsFirst(t, plan{1, 1}, 1, told{0, 2}, told{1, 3}, told{2, 4})
	tellsFirst(t, plan{3, 5}, 1<<32-1, told{0, 1<<32 + 2}, told{1, 1<<32 + 7}, told{2, 1<<32 + 12})
}

// P7.2: up to MaxTime, and none behind that: the last time that isn't above, one ahead of it, and one behind.
func TestTimesEnd(t *testing.T) {
	const top = api.MaxTime
	tells(t, plan{1000, 1000}, top-2500, told{0, top - 1500}, told{1, top - 500})
	tells(t, plan{1000, 1000}, top-2000, told{0, top - 1000}, told{1, top})
	tells(t, plan{1000, 1000}, top-2001, told{0, top - 1001}, told{1, top - 1})
	tells(t, plan{1000, 1000}, top-1999, told{0, top - 999})
	tells(t, plan{1, 4}, top-7, told{0, top - 6}, told{1, top - 4}, told{2, top})
	tells(t, plan{1, 4}, top-8, told{0, top - 7}, told{1, top - 5}, told{2, top - 1})
	tells(t, plan{1, 4}, top-6, told{0, top - 5}, told{1, top - 3})
	tells(t, plan{1, 4}, top-3, told{0, top - 2}, told{1, top})
	tells(t, plan{1, 4}, top-2, told{0, top - 1})
	tells(t, plan{1, 4}, top-1, told{0, top})
	tells(t, plan{1, 1}, top-1, told{0, top})
	tells(t, plan{2, 2}, top-1)
	tells(t, plan{top / 2, top / 2}, 0, told{0, top / 2}, told{1, top})
	tells(t, plan{top/2 - 1, top}, 0, told{0, top/2 - 1})
	tells(t, plan{top - 1, top}, 0, told{0, top - 1})
	tells(t, plan{top, top}, 0, told{0, top})
	tells(t, plan{top, top}, 1)
	tells(t, plan{top - 1, top}, 1, told{0, top})
}

// P7.2: where the waits are doubled up to the greatest time, it is told to the end.
func TestTimesWhole(t *testing.T) {
	for _, p := range []plan{{1, api.MaxTime}, {3, api.MaxTime}, {1 << 20, api.MaxTime}, {7, 1 << 34}, {1 << 30, 1 << 30}, {1<<30 - 1, 1 << 31}} {
		for _, from := range []int{0, 1, 12345, api.MaxTime / 2, api.MaxTime - 1<<34, api.MaxTime - 1000, api.MaxTime - 1, api.MaxTime} {
			tells(t, p, from, plainTimes(p, from, 2000)...)
		}
	}
}

// P7.2: from at 0 and at MaxTime; one below and one above, and such as are times only when they are cut, have none.
func TestTimesFrom(t *testing.T) {
	for _, p := range plans() {
		tells(t, p, api.MaxTime)
		for _, from := range []int{0, 1} {
			want := plainTimes(p, from, 5)
			if got := taken(Times(p.first, p.most, from), 5); !slices.Equal(got, want) {
				t.Errorf("Times(%d, %d, %d) tells first %v, want %v", p.first, p.most, from, got, want)
			}
		}
		for _, from := range []int{-1, -2, -250, -p.first, -p.most, -1 << 32, -api.MaxTime, math.MinInt + 1, math.MinInt} {
			tells(t, p, from)
		}
		for _, from := range []int{api.MaxTime + 1, api.MaxTime + 2, 2 * api.MaxTime, 1<<48 + 7, 1<<62 + 7, math.MaxInt - p.first, math.MaxInt - 1, math.MaxInt} {
			tells(t, p, from)
		}
	}
}

// P7.2: what isn't a plan has none.
func TestTimesNoPlan(t *testing.T) {
	for _, p := range notPlans() {
		for _, from := range []int{0, 1, 1000, api.MaxTime - 1, api.MaxTime, -1, api.MaxTime + 1, math.MinInt, math.MaxInt} {
			tells(t, p, from)
		}
	}
}

// P7.2: a sequence may be stopped behind each, is told nothing more then, and is told from its beginning when it is gone over again.
func TestTimesStopped(t *testing.T) {
	p, from := plan{3, 100}, api.MaxTime-400
	want := plainTimes(p, from, 100)
	if len(want) != 8 {
		t.Fatalf("%d tries in all: %v", len(want), want)
	}
	seq := Times(p.first, p.most, from)
	for stop := range len(want) {
		var got []told
		seq(func(n, at int) bool {
			got = append(got, told{n, at})
			return len(got) <= stop
		})
		if !slices.Equal(got, want[:stop+1]) {
			t.Errorf("stopped behind %d: %v, want %v", stop+1, got, want[:stop+1])
		}
	}
	for range 2 {
		if got := taken(seq, 100); !slices.Equal(got, want) {
			t.Errorf("gone over again: %v, want %v", got, want)
		}
	}
}

// P7.2: two who go over one sequence at once don't see one another.
func TestTimesTwice(t *testing.T) {
	seq := Times(250, 1000, 40)
	want := plainTimes(plan{250, 1000}, 40, 6)
	var outer []told
	for n, at := range seq {
		outer = append(outer, told{n, at})
		if inner := taken(seq, 6); !slices.Equal(inner, want) {
			t.Errorf("inside of the try %d: %v, want %v", n, inner, want)
		}
		if len(outer) == 6 {
			break
		}
	}
	if !slices.Equal(outer, want) {
		t.Errorf("outside: %v, want %v", outer, want)
	}
}

// P7.3: no wait is below the one ahead, none is above most, none below first.
func TestWaitsRise(t *testing.T) {
	for _, p := range plans() {
		last := p.first
		for _, n := range farTries() {
			w, code := Wait(p.first, p.most, n)
			if code != api.OK || w < last || w > p.most {
				t.Errorf("Wait(%d, %d, %d) = %d %d behind %d", p.first, p.most, n, w, code, last)
			}
			last = w
		}
		if last != p.most {
			t.Errorf("Wait(%d, %d, ..) ends at %d", p.first, p.most, last)
		}
	}
}

// P7.3: times are apart by the waits, and are from and the sums.
func TestTimesApart(t *testing.T) {
	for _, p := range plans() {
		for _, from := range []int{0, 1, 999, 1 << 31, api.MaxTime / 3} {
			last, many := from, 0
			for n, at := range Times(p.first, p.most, from) {
				w, _ := Wait(p.first, p.most, n)
				s, _ := Sum(p.first, p.most, n+1)
				if n != many || at-last != w || at != from+s {
					t.Fatalf("Times(%d, %d, %d): the try %d, %d, behind %d, wait %d, sum %d", p.first, p.most, from, n, at, last, w, s)
				}
				last = at
				if many++; many == 300 {
					break
				}
			}
			if s, _ := Sum(p.first, p.most, many+1); many < 300 && from+s <= api.MaxTime {
				t.Errorf("Times(%d, %d, %d) ends behind %d tries, at %d", p.first, p.most, from, many, last)
			}
		}
	}
}

// FuzzPlan: whatever numbers are thrown in, the answers are those by the words.
func FuzzPlan(f *testing.F) {
	for _, p := range append(plans()[:40], notPlans()...) {
		f.Add(p.first, p.most, 3, 5)
		f.Add(p.first, p.most, 1000, api.MaxTime-1000)
		f.Add(p.first, p.most, -1, -1)
	}
	f.Fuzz(func(t *testing.T, first, most, n, from int) {
		p := plan{first, most}
		if first < 1 || most < first || most > 1<<40 {
			waitsNot(t, p, n)
			sumsNot(t, p, n)
			tells(t, p, from)
			return
		}
		if n < 0 {
			waitsNot(t, p, n)
			sumsNot(t, p, n)
			n = 0
		}
		waits(t, p, n, plainWait(p, n))
		if n > 1000 {
			sumsNot(t, p, n)
			n %= 1001
		}
		sum := 0
		for i := range n {
			sum += plainWait(p, i)
		}
		sums(t, p, n, sum)
		if from < 0 || from > 1<<40 {
			tells(t, p, from)
			return
		}
		want := plainTimes(p, from, n+1)
		if got := taken(Times(first, most, from), n+1); !slices.Equal(got, want) {
			t.Errorf("Times(%d, %d, %d) tells first %v, want %v", first, most, from, got, want)
		}
	})
}
