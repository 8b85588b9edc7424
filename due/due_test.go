package due

import (
	"iter"
	"math"
	"slices"
	"strconv"
	"strings"
	"testing"

	"embrasure/api"
)

// told: a name and its time, as a table tells them.
type told struct {
	name string
	at   int
}

// made: a table with these timers, which were set in this order.
func made(t *testing.T, timers ...told) *Table {
	t.Helper()
	x := New()
	for _, e := range timers {
		if code := x.Set(e.name, e.at); code != api.OK {
			t.Fatalf("Set(%q, %d) = %d, want OK", e.name, e.at, code)
		}
	}
	return x
}

// holds: that a table has these timers, which are in order, and no others: by Names, At, and Next.
func holds(t *testing.T, x *Table, want ...told) {
	t.Helper()
	names := []string{}
	for _, e := range want {
		names = append(names, e.name)
		if at, has := x.At(e.name); at != e.at || !has {
			t.Errorf("At(%q) = %d %v, want %d true", e.name, at, has, e.at)
		}
	}
	if got := x.Names(); !slices.Equal(got, names) {
		t.Errorf("Names() = %q, want %q", got, names)
	}
	first, some := told{}, len(want) > 0
	if some {
		first = want[0]
	}
	if name, at, has := x.Next(); name != first.name || at != first.at || has != some {
		t.Errorf("Next() = %q %d %v, want %q %d %v", name, at, has, first.name, first.at, some)
	}
}

// dueOf is Due, but it ends behind more than any test asks for, so that a fault which tells for ever is seen.
func dueOf(x *Table, now int) iter.Seq2[string, int] {
	seq := x.Due(now)
	return func(yield func(string, int) bool) {
		left := 10000
		for name, at := range seq {
			if left--; left < 0 || !yield(name, at) {
				return
			}
		}
	}
}

// dues: what Due tells, while act is called with each that is told.
func dues(x *Table, now int, act func(name string, at int)) []told {
	var all []told
	for name, at := range dueOf(x, now) {
		all = append(all, told{name, at})
		act(name, at)
	}
	return all
}

// nothing is done with one that is told.
func nothing(string, int) {}

// tells: that Due tells these.
func tells(t *testing.T, x *Table, now int, want ...told) {
	t.Helper()
	if got := dues(x, now, nothing); !slices.Equal(got, want) {
		t.Errorf("Due(%d) tells %v, want %v", now, got, want)
	}
}

// P6.1, P6.2: the chapter's example, and what is left behind it.
func TestWrittenOut(t *testing.T) {
	x := made(t, told{"a", 5}, told{"b", 3}, told{"c", 9})
	holds(t, x, told{"b", 3}, told{"a", 5}, told{"c", 9})
	tells(t, x, 6, told{"b", 3}, told{"a", 5})
	holds(t, x, told{"c", 9})
	tells(t, x, 6)
	tells(t, x, 8)
	tells(t, x, 9, told{"c", 9})
	holds(t, x)
}

// P6.1, P6.2: an empty table.
func TestEmptyTable(t *testing.T) {
	x := New()
	holds(t, x)
	for _, now := range []int{math.MinInt, -1, 0, 1, api.MaxTime, math.MaxInt} {
		tells(t, x, now)
	}
	for _, name := range []string{"", "a", "\x00"} {
		if at, has := x.At(name); at != 0 || has {
			t.Errorf("At(%q) = %d %v, want 0 false", name, at, has)
		}
		if x.Drop(name) {
			t.Errorf("Drop(%q) of an empty table = true", name)
		}
	}
	if len(x.Names()) != 0 {
		t.Errorf("Names() = %q", x.Names())
	}
	if code := x.Set("a", 1); code != api.OK {
		t.Errorf("Set behind all this = %d", code)
	}
	holds(t, x, told{"a", 1})
}

// P6.1: times are 0 to MaxTime; one below and one above, and such as are times only when they are cut, are Arg, and change nothing: not the time that the name had, and no new name.
func TestSetTimes(t *testing.T) {
	for _, at := range []int{0, 1, 2, 1 << 31, 1<<32 - 1, 1 << 32, 1<<32 + 1, api.MaxTime - 1, api.MaxTime} {
		x := made(t, told{"a", at})
		holds(t, x, told{"a", at})
		tells(t, x, at-1)
		tells(t, x, at, told{"a", at})
	}
	for _, at := range []int{-1, -2, -api.MaxTime, api.MaxTime + 1, api.MaxTime + 2, 2 * api.MaxTime, 1<<48 + 7, 1<<62 + 7, -1 << 62, math.MaxInt, math.MinInt} {
		x := made(t, told{"a", 7})
		if code := x.Set("a", at); code != api.Arg {
			t.Errorf("Set(a, %d) = %d, want Arg", at, code)
		}
		if code := x.Set("b", at); code != api.Arg {
			t.Errorf("Set(b, %d) = %d, want Arg", at, code)
		}
		if code := x.Set("", at); code != api.Arg {
			t.Errorf("Set(\"\", %d) = %d, want Arg", at, code)
		}
		holds(t, x, told{"a", 7})
		if b, has := x.At("b"); b != 0 || has || x.Drop("b") {
			t.Errorf("At(b) = %d %v behind an Arg", b, has)
		}
	}
}

// P6.1: a name's time stands in place of the one that it had, whether it is lesser, greater, or the same.
func TestSetAgain(t *testing.T) {
	x := made(t, told{"a", 5}, told{"b", 3}, told{"a", 1})
	holds(t, x, told{"a", 1}, told{"b", 3})
	x.Set("a", 9)
	holds(t, x, told{"b", 3}, told{"a", 9})
	x.Set("a", 9)
	holds(t, x, told{"b", 3}, told{"a", 9})
	tells(t, x, 5, told{"b", 3})
	tells(t, x, 9, told{"a", 9})
	tells(t, x, api.MaxTime)
	x.Set("a", 4)
	x.Set("a", 0)
	tells(t, x, api.MaxTime, told{"a", 0})
	holds(t, x)
}

// manyTimers: n timers in order.
func manyTimers(n int) []told {
	var all []told
	for i := range n {
		all = append(all, told{"n" + strconv.Itoa(1000+i), 10 + i/3})
	}
	return all
}

// P6.1: the 200th name has room, one more has none, but one more whose name is there is set; the time that may not be comes ahead of the room that isn't there.
func TestSetFull(t *testing.T) {
	want := manyTimers(200)
	x := made(t, want[:199]...)
	holds(t, x, want[:199]...)
	if code := x.Set(want[199].name, want[199].at); code != api.OK {
		t.Fatalf("Set of the 200th name = %d, want OK", code)
	}
	holds(t, x, want...)
	for _, name := range []string{"", "a", "z", "n", "n1200", "n10000", "N1000"} {
		for _, at := range []int{0, 5, 10, api.MaxTime} {
			if code := x.Set(name, at); code != api.Full {
				t.Errorf("Set(%q, %d) of a full table = %d, want Full", name, at, code)
			}
		}
		for _, at := range []int{-1, api.MaxTime + 1} {
			if code := x.Set(name, at); code != api.Arg {
				t.Errorf("Set(%q, %d) of a full table = %d, want Arg", name, at, code)
			}
		}
		if at, has := x.At(name); at != 0 || has || x.Drop(name) {
			t.Errorf("At(%q) = %d %v behind Full", name, at, has)
		}
	}
	for _, e := range want {
		if code := x.Set(e.name, 7); code != api.OK {
			t.Errorf("Set(%q, 7) of a full table that has it = %d, want OK", e.name, code)
		}
		if code := x.Set(e.name, -1); code != api.Arg {
			t.Errorf("Set(%q, -1) of a full table that has it = %d, want Arg", e.name, code)
		}
		x.Set(e.name, e.at)
	}
	holds(t, x, want...)
}

// P6.1: where one was dropped, or told, is room for one, and for no more.
func TestRoomAgain(t *testing.T) {
	x := made(t, manyTimers(200)...)
	if !x.Drop("n1100") || x.Drop("n1100") {
		t.Error("Drop(n1100): once it had a time, twice it had none")
	}
	if code := x.Set("a", 5000); code != api.OK {
		t.Errorf("Set behind a Drop = %d, want OK", code)
	}
	if code := x.Set("n1100", 7); code != api.Full {
		t.Errorf("Set of the one that was dropped = %d, want Full", code)
	}
	tells(t, x, 10, told{"n1000", 10}, told{"n1001", 10}, told{"n1002", 10})
	for i, want := range []api.Code{api.OK, api.OK, api.OK, api.Full} {
		if code := x.Set("m"+strconv.Itoa(i), 5000); code != want {
			t.Errorf("Set(m%d) behind three that were told = %d, want %d", i, code, want)
		}
	}
	if len(x.Names()) != 200 {
		t.Errorf("%d names", len(x.Names()))
	}
}

// P6.2: one who is told has left room for one already.
func TestRoomMeanwhile(t *testing.T) {
	x := made(t, manyTimers(200)...)
	var codes []api.Code
	for name := range dueOf(x, 10) {
		codes = append(codes, x.Set("m"+name, 5000), x.Set("l"+name, 5000))
	}
	if !slices.Equal(codes, []api.Code{api.OK, api.Full, api.OK, api.Full, api.OK, api.Full}) {
		t.Errorf("Set while they are told = %v", codes)
	}
}

// P6.1: Drop takes that name's time and no other one's; a name that is dropped twice had none the second time.
func TestDrop(t *testing.T) {
	x := made(t, told{"a", 5}, told{"b", 3}, told{"c", 5}, told{"aa", 0})
	if x.Drop("") || x.Drop("A") || x.Drop("ab") || x.Drop("d") {
		t.Error("Drop of a name that has no time = true")
	}
	holds(t, x, told{"aa", 0}, told{"b", 3}, told{"a", 5}, told{"c", 5})
	if !x.Drop("a") {
		t.Error("Drop(a) = false")
	}
	for range 2 {
		if x.Drop("a") {
			t.Error("Drop(a) twice = true")
		}
		if at, has := x.At("a"); at != 0 || has {
			t.Errorf("At(a) = %d %v behind Drop", at, has)
		}
	}
	holds(t, x, told{"aa", 0}, told{"b", 3}, told{"c", 5})
	if !x.Drop("aa") {
		t.Error("Drop of a name whose time is 0 = false")
	}
	holds(t, x, told{"b", 3}, told{"c", 5})
	x.Set("a", 4)
	holds(t, x, told{"b", 3}, told{"a", 4}, told{"c", 5})
	tells(t, x, 4, told{"b", 3}, told{"a", 4})
	if x.Drop("a") || x.Drop("b") || !x.Drop("c") || x.Drop("c") {
		t.Error("Drop behind Due")
	}
	holds(t, x)
}

// P6.1, P6.2: an empty name is a name, the first of those with its time.
func TestEmptyName(t *testing.T) {
	x := made(t, told{"a", 5}, told{"", 5}, told{"\x00", 5}, told{"b", 4})
	holds(t, x, told{"b", 4}, told{"", 5}, told{"\x00", 5}, told{"a", 5})
	tells(t, x, 5, told{"b", 4}, told{"", 5}, told{"\x00", 5}, told{"a", 5})
	holds(t, x)
	x = made(t, told{"", 0})
	holds(t, x, told{"", 0})
	if !x.Drop("") || x.Drop("") {
		t.Error("Drop of the empty name")
	}
	holds(t, x)
	x = made(t, told{"", 3})
	tells(t, x, 3, told{"", 3})
	holds(t, x)
}

// inBytes: names as they stand byte by byte.
func inBytes() []string {
	return []string{
		"", "\x00", "\x00\x00", "\x00a", " ", "!", "10", "2", "9", "90", "A", "B", "Z", "a", "a\x00", "a ", "aA", "aa", "aaa", "ab", "b", "ba",
		strings.Repeat("c", 500) + "a", strings.Repeat("c", 500) + "b", strings.Repeat("c", 501) + "a", "\x7f", "\x80", "ä", "é", "\ufffd", "\U00010000", "\xff", "\xff\x00", "\xff\xff",
	}
}

// P6.2: alike times, whose names stand byte by byte, in whatever order they were set.
func TestAlikeTimes(t *testing.T) {
	for _, at := range []int{0, 5, api.MaxTime} {
		names := inBytes()
		var want []told
		for _, name := range names {
			want = append(want, told{name, at})
		}
		back := slices.Clone(want)
		slices.Reverse(back)
		for turn := range want {
			x := made(t, append(slices.Clone(want[turn:]), want[:turn]...)...)
			holds(t, x, want...)
			tells(t, x, at, want...)
		}
		holds(t, made(t, back...), want...)
		tells(t, made(t, back...), at, want...)
	}
}

// P6.2: times stand ahead of names, as numbers, be they ever so great.
func TestTimesFirst(t *testing.T) {
	want := []told{
		{"z", 0}, {"y", 1}, {"x", 2}, {"m", 9}, {"w", 10}, {"v", 99}, {"u", 100}, {"t", 1<<31 - 1}, {"s", 1 << 31}, {"r", 1<<32 - 1}, {"q", 1 << 32},
		{"p", 1<<32 + 1}, {"o", 1 << 33}, {"n", api.MaxTime - 1}, {"a", api.MaxTime}, {"b", api.MaxTime},
	}
	for turn := range want {
		x := made(t, append(slices.Clone(want[turn:]), want[:turn]...)...)
		holds(t, x, want...)
		tells(t, x, 1<<32, want[:11]...)
		holds(t, x, want[11:]...)
		tells(t, x, api.MaxTime, want[11:]...)
		holds(t, x)
	}
}

// P6.2: what isn't above now is due, whatever number now is.
func TestDueNow(t *testing.T) {
	all := []told{{"b", 0}, {"a", 1}, {"c", 7}, {"d", 7}, {"e", 8}, {"f", api.MaxTime}}
	for _, c := range []struct{ now, due int }{
		{math.MinInt, 0}, {-api.MaxTime, 0}, {-1, 0}, {0, 1}, {1, 2}, {2, 2}, {6, 2}, {7, 4}, {8, 5}, {9, 5}, {1<<32 + 7, 5},
		{api.MaxTime - 1, 5}, {api.MaxTime, 6}, {api.MaxTime + 1, 6}, {math.MaxInt, 6},
	} {
		x := made(t, all...)
		tells(t, x, c.now, all[:c.due]...)
		holds(t, x, all[c.due:]...)
		tells(t, x, c.now)
	}
}

// P6.2: Next tells what is first, and drops nothing.
func TestNextAgain(t *testing.T) {
	x := made(t, told{"b", 5}, told{"a", 5}, told{"c", 4})
	for range 3 {
		holds(t, x, told{"c", 4}, told{"a", 5}, told{"b", 5})
	}
	x.Drop("c")
	holds(t, x, told{"a", 5}, told{"b", 5})
	x.Set("b", 0)
	holds(t, x, told{"b", 0}, told{"a", 5})
}

// P6.2: each is dropped ahead of being told, and those that aren't told yet are there.
func TestDroppedAhead(t *testing.T) {
	x := made(t, told{"a", 1}, told{"b", 2}, told{"c", 3}, told{"d", 9})
	left := []told{{"b", 2}, {"c", 3}, {"d", 9}}
	dues(x, 5, func(name string, at int) {
		if now, has := x.At(name); now != 0 || has || x.Drop(name) {
			t.Errorf("%q has the time %d while it is told", name, now)
		}
		holds(t, x, left...)
		left = left[1:]
	})
	holds(t, x, told{"d", 9})
}

// P6.2: asking for the sequence alone drops nothing; it tells what there is when it is gone over.
func TestAskedAlone(t *testing.T) {
	x := made(t, told{"a", 1}, told{"b", 2})
	seq := dueOf(x, 5)
	holds(t, x, told{"a", 1}, told{"b", 2})
	x.Drop("a")
	x.Set("b", 4)
	x.Set("c", 3)
	x.Set("d", 6)
	var got []told
	for name, at := range seq {
		got = append(got, told{name, at})
	}
	if !slices.Equal(got, []told{{"c", 3}, {"b", 4}}) {
		t.Errorf("told %v", got)
	}
	for name, at := range seq {
		t.Errorf("gone over again: %q %d", name, at)
	}
	x.Set("a", 5)
	got = nil
	for name, at := range seq {
		got = append(got, told{name, at})
	}
	if !slices.Equal(got, []told{{"a", 5}}) {
		t.Errorf("told %v, want a, which was set since", got)
	}
	holds(t, x, told{"d", 6})
}

// while: what Due(10) tells of b 2, d 4, f 6, h 20 while act is called with each, and what is left.
func while(t *testing.T, act func(x *Table, name string), want, left []told) {
	t.Helper()
	x := made(t, told{"h", 20}, told{"f", 6}, told{"d", 4}, told{"b", 2})
	if got := dues(x, 10, func(name string, at int) { act(x, name) }); !slices.Equal(got, want) {
		t.Errorf("told %v, want %v", got, want)
	}
	holds(t, x, left...)
}

// P6.2: one that is set while they are told is told in its place, if it is due: be it new, or told, or not told yet; and otherwise it isn't.
func TestSetMeanwhile(t *testing.T) {
	for _, c := range []struct {
		when, name string
		at         int
		want, left []told
	}{
		// New ones: ahead of all, of the time that is told, between, the last that is due, the first that isn't.
		{"d", "a", 0, []told{{"b", 2}, {"d", 4}, {"a", 0}, {"f", 6}}, []told{{"h", 20}}},
		{"d", "a", 3, []told{{"b", 2}, {"d", 4}, {"a", 3}, {"f", 6}}, []told{{"h", 20}}},
		{"d", "a", 4, []told{{"b", 2}, {"d", 4}, {"a", 4}, {"f", 6}}, []told{{"h", 20}}},
		{"d", "e", 4, []told{{"b", 2}, {"d", 4}, {"e", 4}, {"f", 6}}, []told{{"h", 20}}},
		{"d", "a", 5, []told{{"b", 2}, {"d", 4}, {"a", 5}, {"f", 6}}, []told{{"h", 20}}},
		{"d", "a", 6, []told{{"b", 2}, {"d", 4}, {"a", 6}, {"f", 6}}, []told{{"h", 20}}},
		{"d", "g", 6, []told{{"b", 2}, {"d", 4}, {"f", 6}, {"g", 6}}, []told{{"h", 20}}},
		{"d", "a", 10, []told{{"b", 2}, {"d", 4}, {"f", 6}, {"a", 10}}, []told{{"h", 20}}},
		{"d", "a", 11, []told{{"b", 2}, {"d", 4}, {"f", 6}}, []told{{"a", 11}, {"h", 20}}},
		// Behind the first, and behind the last.
		{"b", "a", 5, []told{{"b", 2}, {"d", 4}, {"a", 5}, {"f", 6}}, []told{{"h", 20}}},
		{"f", "a", 0, []told{{"b", 2}, {"d", 4}, {"f", 6}, {"a", 0}}, []told{{"h", 20}}},
		{"f", "", 10, []told{{"b", 2}, {"d", 4}, {"f", 6}, {"", 10}}, []told{{"h", 20}}},
		{"f", "a", 11, []told{{"b", 2}, {"d", 4}, {"f", 6}}, []told{{"a", 11}, {"h", 20}}},
		// One that was told already.
		{"d", "b", 2, []told{{"b", 2}, {"d", 4}, {"b", 2}, {"f", 6}}, []told{{"h", 20}}},
		{"d", "b", 9, []told{{"b", 2}, {"d", 4}, {"f", 6}, {"b", 9}}, []told{{"h", 20}}},
		{"f", "b", 10, []told{{"b", 2}, {"d", 4}, {"f", 6}, {"b", 10}}, []told{{"h", 20}}},
		{"f", "b", 11, []told{{"b", 2}, {"d", 4}, {"f", 6}}, []told{{"b", 11}, {"h", 20}}},
		// One that isn't told yet: it is told once, with its new time, or not at all.
		{"b", "f", 3, []told{{"b", 2}, {"f", 3}, {"d", 4}}, []told{{"h", 20}}},
		{"b", "d", 8, []told{{"b", 2}, {"f", 6}, {"d", 8}}, []told{{"h", 20}}},
		{"b", "d", 10, []told{{"b", 2}, {"f", 6}, {"d", 10}}, []told{{"h", 20}}},
		{"b", "d", 11, []told{{"b", 2}, {"f", 6}}, []told{{"d", 11}, {"h", 20}}},
		{"b", "h", 4, []told{{"b", 2}, {"d", 4}, {"h", 4}, {"f", 6}}, nil},
		{"f", "h", 10, []told{{"b", 2}, {"d", 4}, {"f", 6}, {"h", 10}}, nil},
		// What may not be changes nothing.
		{"b", "d", -1, []told{{"b", 2}, {"d", 4}, {"f", 6}}, []told{{"h", 20}}},
		{"b", "a", -1, []told{{"b", 2}, {"d", 4}, {"f", 6}}, []told{{"h", 20}}},
	} {
		while(t, func(x *Table, name string) {
			if name == c.when {
				x.Set(c.name, c.at)
			}
		}, c.want, c.left)
		if t.Failed() {
			t.Fatalf("while %q was told: Set(%q, %d)", c.when, c.name, c.at)
		}
	}
}

// P6.2: one that is set again while it is told itself is told again, as often as it is due.
func TestSetItself(t *testing.T) {
	again := []int{4, 4, 7, 10, 11}
	while(t, func(x *Table, name string) {
		if name == "d" {
			x.Set("d", again[0])
			again = again[1:]
		}
	}, []told{{"b", 2}, {"d", 4}, {"d", 4}, {"d", 4}, {"f", 6}, {"d", 7}, {"d", 10}}, []told{{"d", 11}, {"h", 20}})
	x := made(t, told{"a", 0})
	for _, c := range []struct {
		now  int
		want []told
	}{
		{9, []told{{"a", 0}}}, {9, nil}, {10, []told{{"a", 10}}}, {19, nil}, {20, []told{{"a", 20}}}, {55, []told{{"a", 30}, {"a", 40}, {"a", 50}}}, {10, nil},
	} {
		if got := dues(x, c.now, func(name string, at int) { x.Set(name, at+10) }); !slices.Equal(got, c.want) {
			t.Errorf("Due(%d) tells %v, want %v", c.now, got, c.want)
		}
	}
	holds(t, x, told{"a", 60})
}

// P6.2: one that is dropped while they are told isn't told: be it due, or not due, or told already.
func TestDropMeanwhile(t *testing.T) {
	for _, c := range []struct {
		when, name string
		had        bool
		want, left []told
	}{
		{"b", "d", true, []told{{"b", 2}, {"f", 6}}, []told{{"h", 20}}},
		{"b", "f", true, []told{{"b", 2}, {"d", 4}}, []told{{"h", 20}}},
		{"d", "f", true, []told{{"b", 2}, {"d", 4}}, []told{{"h", 20}}},
		{"b", "h", true, []told{{"b", 2}, {"d", 4}, {"f", 6}}, nil},
		{"f", "h", true, []told{{"b", 2}, {"d", 4}, {"f", 6}}, nil},
		{"d", "b", false, []told{{"b", 2}, {"d", 4}, {"f", 6}}, []told{{"h", 20}}},
		{"d", "d", false, []told{{"b", 2}, {"d", 4}, {"f", 6}}, []told{{"h", 20}}},
		{"d", "a", false, []told{{"b", 2}, {"d", 4}, {"f", 6}}, []told{{"h", 20}}},
		{"d", "", false, []told{{"b", 2}, {"d", 4}, {"f", 6}}, []told{{"h", 20}}},
	} {
		while(t, func(x *Table, name string) {
			if name == c.when && x.Drop(c.name) != c.had {
				t.Errorf("Drop(%q) != %v", c.name, c.had)
			}
		}, c.want, c.left)
		if t.Failed() {
			t.Fatalf("while %q was told: Drop(%q)", c.when, c.name)
		}
	}
	while(t, func(x *Table, name string) {
		for _, other := range x.Names() {
			x.Drop(other)
		}
	}, []told{{"b", 2}}, nil)
	while(t, func(x *Table, name string) {
		if name == "b" {
			x.Set("c", 3)
			x.Drop("c")
			x.Drop("d")
			x.Set("d", 5)
		}
	}, []told{{"b", 2}, {"d", 5}, {"f", 6}}, []told{{"h", 20}})
}

// P6.2, P6.3: where it is stopped behind some of them, those are dropped and no others, and going on tells the others.
func TestStopped(t *testing.T) {
	all := manyTimers(20)
	for stop := range all {
		x := made(t, all...)
		var got []told
		for name, at := range dueOf(x, 1000) {
			got = append(got, told{name, at})
			if len(got) == stop+1 {
				break
			}
		}
		if !slices.Equal(got, all[:stop+1]) {
			t.Fatalf("told %v, want %v", got, all[:stop+1])
		}
		if x.Drop(all[stop].name) {
			t.Errorf("the one behind which it was stopped is still there")
		}
		holds(t, x, all[stop+1:]...)
		tells(t, x, 1000, all[stop+1:]...)
		holds(t, x)
	}
}

// P6.2, P6.3: one sequence that is stopped and gone over again goes on where it was.
func TestStoppedSequence(t *testing.T) {
	all := manyTimers(20)
	x := made(t, all...)
	seq := dueOf(x, all[14].at)
	var got []told
	for range 20 {
		for name, at := range seq {
			got = append(got, told{name, at})
			break
		}
	}
	if !slices.Equal(got, all[:15]) {
		t.Errorf("told %v, want %v", got, all[:15])
	}
	holds(t, x, all[15:]...)
}

// P6.2, P6.3: two who go over what is due of one table: each is told to one of them.
func TestTwoAtOnce(t *testing.T) {
	x := made(t, told{"a", 1}, told{"b", 2}, told{"c", 3}, told{"d", 4}, told{"e", 5})
	var outer, inner []told
	for name, at := range dueOf(x, 4) {
		outer = append(outer, told{name, at})
		for name, at := range dueOf(x, 2) {
			inner = append(inner, told{name, at})
		}
	}
	if !slices.Equal(outer, []told{{"a", 1}, {"c", 3}, {"d", 4}}) || !slices.Equal(inner, []told{{"b", 2}}) {
		t.Errorf("told %v and %v", outer, inner)
	}
	holds(t, x, told{"e", 5})
}

// P6.2: Names answers new memory, which is what there was, and leaves the table as it is when it is written over.
func TestNamesApart(t *testing.T) {
	x := made(t, told{"b", 2}, told{"a", 3})
	one, two := x.Names(), x.Names()
	x.Set("c", 1)
	_ = append(one[:1], "x")
	one[0] = "y"
	if !slices.Equal(two, []string{"b", "a"}) {
		t.Errorf("Names() is now %q", two)
	}
	holds(t, x, told{"c", 1}, told{"b", 2}, told{"a", 3})
}

// P6.1, P6.2: one table knows nothing of another one's timers.
func TestTablesApart(t *testing.T) {
	x, y := New(), made(t, manyTimers(200)...)
	holds(t, x)
	x.Set("n1000", 3)
	y.Drop("n1000")
	holds(t, x, told{"n1000", 3})
	tells(t, y, 9)
	tells(t, x, 9, told{"n1000", 3})
	if at, has := y.At("n1001"); at != 10 || !has || len(y.Names()) != 199 {
		t.Errorf("At(n1001) = %d %v, %d names", at, has, len(y.Names()))
	}
}

// P6.3: none is told twice, and behind it none is due.
func TestNoneTwice(t *testing.T) {
	all := manyTimers(200)
	x := made(t, all...)
	seen := map[string]int{}
	for now := 0; now < 100; now += 7 {
		for name, at := range dueOf(x, now) {
			if seen[name]++; at > now {
				t.Errorf("Due(%d) tells %q %d", now, name, at)
			}
		}
		if name, at, has := x.Next(); has && at <= now {
			t.Errorf("behind Due(%d): Next() = %q %d", now, name, at)
		}
	}
	for _, e := range all {
		if seen[e.name] != 1 {
			t.Errorf("%q was told %d times", e.name, seen[e.name])
		}
	}
	holds(t, x)
}

// plain: a table by a rule that isn't the program's: a list that is kept in order.
type plain []told

// ahead: whether one stands ahead of another in order, looked up byte by byte.
func (e told) ahead(o told) bool {
	if e.at != o.at {
		return e.at < o.at
	}
	for i := range min(len(e.name), len(o.name)) {
		if e.name[i] != o.name[i] {
			return e.name[i] < o.name[i]
		}
	}
	return len(e.name) < len(o.name)
}

// place: where a name stands, or -1.
func (m plain) place(name string) int {
	return slices.IndexFunc(m, func(e told) bool { return e.name == name })
}

// drop is Drop.
func (m *plain) drop(name string) bool {
	i := m.place(name)
	if i >= 0 {
		*m = slices.Delete(*m, i, i+1)
	}
	return i >= 0
}

// set is Set.
func (m *plain) set(name string, at int) api.Code {
	if at < 0 || at>>40 > 1 || at>>40 == 1 && at != 1<<40 {
		return api.Arg
	}
	if !m.drop(name) && len(*m) == 200 {
		return api.Full
	}
	e, i := told{name, at}, 0
	for i < len(*m) && (*m)[i].ahead(e) {
		i++
	}
	*m = slices.Insert(*m, i, e)
	return api.OK
}

// run: a table and its plain one, which are asked the same by the bytes of a script.
type run struct {
	t      *testing.T
	x      *Table
	m      plain
	script []byte
}

// next: the script's next byte, or 0.
func (r *run) next() int {
	if len(r.script) == 0 {
		return 0
	}
	b := r.script[0]
	r.script = r.script[1:]
	return int(b)
}

// name: a name by a byte; with great bytes, many different ones.
func (r *run) name() string {
	b := r.next()
	if b < len(inBytes()) {
		return inBytes()[b]
	}
	return "n" + strconv.Itoa(b*(1+r.next()%3))
}

// time: a time by a byte, mostly a small one, some that may not be.
func (r *run) time() int {
	b := r.next()
	if b < 200 {
		return b / 4
	}
	odd := []int{-1, api.MaxTime, api.MaxTime + 1, api.MaxTime - 1, math.MinInt, math.MaxInt, 1 << 32, 1<<32 + 1}
	return odd[b%len(odd)]
}

// change: a Set or a Drop; few Drops, so that the table fills.
func (r *run) change() {
	if b := r.next(); b%5 == 4 {
		name := r.name()
		if got, want := r.x.Drop(name), r.m.drop(name); got != want {
			r.t.Fatalf("Drop(%q) = %v, want %v", name, got, want)
		}
		return
	}
	name, at := r.name(), r.time()
	if got, want := r.x.Set(name, at), r.m.set(name, at); got != want {
		r.t.Fatalf("Set(%q, %d) = %d, want %d", name, at, got, want)
	}
}

// due: Due, with changes while they are told, stopped at the script's will; it ends, since a script does.
func (r *run) due(now int) {
	stopped := false
	for name, at := range dueOf(r.x, now) {
		if len(r.m) == 0 || r.m[0] != (told{name, at}) || at > now {
			r.t.Fatalf("Due(%d) tells %q %d, want the first of %v", now, name, at, r.m)
		}
		r.m = r.m[1:]
		for b := r.next(); b%3 == 2; b = r.next() {
			r.change()
			r.alike()
		}
		if stopped = r.next()%7 == 6; stopped {
			break
		}
	}
	if !stopped && len(r.m) > 0 && r.m[0].at <= now {
		r.t.Fatalf("Due(%d) ends ahead of %v", now, r.m[0])
	}
}

// alike: that both have the same timers.
func (r *run) alike() {
	names := make([]string, len(r.m))
	for i, e := range r.m {
		names[i] = e.name
	}
	if got := r.x.Names(); !slices.Equal(got, names) {
		r.t.Fatalf("Names() = %q, want %q", got, names)
	}
	for _, e := range r.m {
		if at, has := r.x.At(e.name); at != e.at || !has {
			r.t.Fatalf("At(%q) = %d %v, want %d", e.name, at, has, e.at)
		}
	}
	name, at, has := r.x.Next()
	if has != (len(r.m) > 0) || has && r.m[0] != (told{name, at}) || !has && (name != "" || at != 0) {
		r.t.Fatalf("Next() = %q %d %v, want the first of %v", name, at, has, r.m)
	}
}

// plays: that a script's calls are answered as the plain table answers them.
func plays(t *testing.T, script []byte) {
	t.Helper()
	r := &run{t: t, x: New(), script: script}
	// Every other table is nearly full from the beginning.
	for _, e := range manyTimers(r.next() % 2 * 195) {
		r.x.Set(e.name, e.at)
		r.m.set(e.name, e.at)
	}
	for len(r.script) > 0 {
		if r.next()%29 == 28 {
			r.due(r.time())
		} else {
			r.change()
		}
		r.alike()
	}
	r.due(api.MaxTime)
	r.alike()
	if len(r.m) > 0 {
		t.Fatalf("behind Due(MaxTime): %v", r.m)
	}
}

// scripts: bytes from a fixed rule, all below a bound.
func scripts(n, size, below int, each func(script []byte)) {
	x := uint64(88172645463325252)
	for range n {
		script := make([]byte, size)
		for i := range script {
			x ^= x << 13
			x ^= x >> 7
			x ^= x << 17
			script[i] = byte(x >> 40 % uint64(below))
		}
		each(script)
	}
}

// P6.1, P6.2, P6.3: scripts with few names, whose times come again, and with many, so that the table fills.
func TestScripts(t *testing.T) {
	scripts(200, 400, 30, func(script []byte) { plays(t, script) })
	scripts(40, 2000, 256, func(script []byte) { plays(t, script) })
}

// FuzzScript: whatever script of calls is thrown in, the answers are those of the plain table.
func FuzzScript(f *testing.F) {
	f.Add([]byte("\x00\x01\x02\x1c\x30\x02\x00\x03\x08"))
	scripts(8, 100, 256, func(script []byte) { f.Add(script) })
	// A long script takes long, and shows no more.
	f.Fuzz(func(t *testing.T, script []byte) { plays(t, script[:min(len(script), 2000)]) })
}
