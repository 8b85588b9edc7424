package net

import (
	"bytes"
	"iter"
	"math"
	"slices"
	"testing"

	"embrasure/api"
)

// Some who send, and to whom is sent.
var (
	a = api.Addr{Host: 0x0a000001, Port: 5}
	b = api.Addr{Host: 0x08080808, Port: 53}
	c = api.Addr{Host: math.MaxUint32, Port: 65535}
)

// badAddrs: such as are no addresses, some of them addresses when they are cut.
var badAddrs = []api.Addr{
	{}, {Host: 0, Port: 1}, {Host: 0, Port: 65535}, {Host: 1, Port: 0}, {Host: 1, Port: -1}, {Host: 1, Port: 65536}, {Host: 1, Port: 65537}, {Host: 1, Port: 1<<32 + 1}, {Host: 1, Port: math.MaxInt}, {Host: 1, Port: math.MinInt}, {Host: math.MaxUint32, Port: 65536},
}

// goodAddrs: addresses at the edges.
var goodAddrs = []api.Addr{{Host: 1, Port: 1}, {Host: 1, Port: 65535}, {Host: 1, Port: 2}, {Host: 1, Port: 65534}, {Host: math.MaxUint32, Port: 1}, {Host: 1 << 31, Port: 65535}, a, b, c}

// noNumbers: numbers of none, in a net that told no more than 1000, some of them such as it told when they are cut.
var noNumbers = []int{0, -1, -2, -300, math.MinInt, math.MinInt + 1, -1 << 32, 1001, 1<<32 + 1, 1<<32 + 2, 1<<8 + 1000, 1<<16 + 1, 1<<62 + 1, math.MaxInt}

// bytesOf: so many bytes, which begin with a number.
func bytesOf(long, from int) []byte {
	row := make([]byte, long)
	for i := range row {
		row[i] = byte(from + i*7)
	}
	return row
}

// like: whether two datagrams are alike, to the number.
func like(x, y api.Sent) bool {
	return x.No == y.No && x.From == y.From && x.To == y.To && bytes.Equal(x.Bytes, y.Bytes)
}

// nothing: whether a datagram is none.
func nothing(s api.Sent) bool {
	return s.No == 0 && s.From == (api.Addr{}) && s.To == (api.Addr{}) && len(s.Bytes) == 0
}

// sends: that a datagram gets this number.
func sends(t *testing.T, n *Net, from, to api.Addr, b []byte, want int) api.Sent {
	t.Helper()
	if no, code := n.Send(from, to, b); no != want || code != api.OK {
		t.Errorf("Send(%v, %v, %d bytes) = %d %d, want %d OK", from, to, len(b), no, code, want)
	}
	return api.Sent{No: want, From: from, To: to, Bytes: bytes.Clone(b)}
}

// sendsNot: that a datagram isn't sent, with this code.
func sendsNot(t *testing.T, n *Net, from, to api.Addr, b []byte, want api.Code) {
	t.Helper()
	if no, code := n.Send(from, to, b); no != 0 || code != want {
		t.Errorf("Send(%v, %v, %d bytes) = %d %d, want 0 %d", from, to, len(b), no, code, want)
	}
}

// copies: that a copy gets this number.
func copies(t *testing.T, n *Net, no, want int) {
	t.Helper()
	if got, code := n.Copy(no); got != want || code != api.OK {
		t.Errorf("Copy(%d) = %d %d, want %d OK", no, got, code, want)
	}
}

// copiesNot: that there is no copy, with this code.
func copiesNot(t *testing.T, n *Net, no int, want api.Code) {
	t.Helper()
	if got, code := n.Copy(no); got != 0 || code != want {
		t.Errorf("Copy(%d) = %d %d, want 0 %d", no, got, code, want)
	}
}

// takes: that this one is taken.
func takes(t *testing.T, n *Net, want api.Sent) {
	t.Helper()
	if got, code := n.Take(want.No); !like(got, want) || code != api.OK {
		t.Errorf("Take(%d) = %v %d, want %v OK", want.No, got, code, want)
	}
}

// takesNot: that there is none to be taken.
func takesNot(t *testing.T, n *Net, no int) {
	t.Helper()
	if got, code := n.Take(no); !nothing(got) || code != api.NotFound {
		t.Errorf("Take(%d) = %v %d, want none NotFound", no, got, code)
	}
}

// allOf is a sequence, but it ends behind more than there can be, so that a fault which tells for ever is seen.
func allOf(seq iter.Seq[api.Sent]) iter.Seq[api.Sent] {
	return func(yield func(api.Sent) bool) {
		left := 2 * api.MaxSent
		for s := range seq {
			if left--; left < 0 || !yield(s) {
				return
			}
		}
	}
}

// tells: that a sequence tells these.
func tells(t *testing.T, seq iter.Seq[api.Sent], want ...api.Sent) {
	t.Helper()
	if got := slices.Collect(allOf(seq)); !slices.EqualFunc(got, want, like) {
		t.Errorf("All tells %v, want %v", got, want)
	}
}

// holds: that these are on their way, and no others: by Count, At, and All.
func holds(t *testing.T, n *Net, want ...api.Sent) {
	t.Helper()
	if got := n.Count(); got != len(want) {
		t.Errorf("Count() = %d, want %d", got, len(want))
	}
	for i, s := range want {
		if got := n.At(i); got != s.No {
			t.Errorf("At(%d) = %d, want %d", i, got, s.No)
		}
	}
	tells(t, n.All(), want...)
}

// as: a datagram with another number.
func as(s api.Sent, no int) api.Sent {
	s.No = no
	return s
}

// P13.1: the chapter's example: a datagram is 1, its copy 2; what is taken is alike, but for the numbers.
func TestExample(t *testing.T) {
	n := New()
	one := sends(t, n, a, b, []byte("ab"), 1)
	copies(t, n, 1, 2)
	takes(t, n, one)
	takes(t, n, as(one, 2))
	holds(t, n)
}

// P13.2: a new net has none.
func TestNew(t *testing.T) {
	n := New()
	holds(t, n)
	for _, no := range append([]int{1, 2, 300}, noNumbers...) {
		takesNot(t, n, no)
		copiesNot(t, n, no, api.NotFound)
	}
	holds(t, n)
	sends(t, n, a, b, nil, 1)
}

// P13.1: two nets have nothing in common.
func TestTwoNets(t *testing.T) {
	n, m := New(), New()
	one := sends(t, n, a, b, []byte("a"), 1)
	two := sends(t, n, a, b, []byte("b"), 2)
	other := sends(t, m, b, a, []byte("c"), 1)
	takesNot(t, m, 2)
	takes(t, m, other)
	holds(t, n, one, two)
	holds(t, m)
}

// P13.1: who sends, and to whom, must be addresses; else it is Arg, and nothing is changed, no number is told for it.
func TestSendAddrs(t *testing.T) {
	n := New()
	var all []api.Sent
	for _, good := range goodAddrs {
		for _, bad := range badAddrs {
			sendsNot(t, n, bad, good, []byte("a"), api.Arg)
			sendsNot(t, n, good, bad, []byte("a"), api.Arg)
			sendsNot(t, n, bad, bad, nil, api.Arg)
		}
		for _, other := range goodAddrs {
			all = append(all, sends(t, n, good, other, []byte{byte(len(all))}, len(all)+1))
		}
	}
	holds(t, n, all...)
	for _, s := range all {
		takes(t, n, s)
	}
}

// P13.1: 1200 bytes may be sent, 1201 and more may not.
func TestSendBytes(t *testing.T) {
	n := New()
	var all []api.Sent
	for _, long := range []int{0, 1, 2, 255, 256, 1199, 1200} {
		all = append(all, sends(t, n, a, b, bytesOf(long, len(all)), len(all)+1))
		for _, more := range []int{1201, 1202, 1456, 2400, 65535, 65536, 1 << 20} {
			sendsNot(t, n, a, b, bytesOf(more, 1), api.Arg)
		}
	}
	all = append(all, sends(t, n, a, b, nil, len(all)+1))
	all = append(all, sends(t, n, a, b, []byte{}, len(all)+1))
	holds(t, n, all...)
	for _, s := range all {
		takes(t, n, s)
	}
	holds(t, n)
}

// P13.1: one may send to oneself, and the same again, which is another datagram.
func TestSendAgain(t *testing.T) {
	n := New()
	one := sends(t, n, a, a, []byte("a"), 1)
	sends(t, n, a, a, []byte("a"), 2)
	holds(t, n, one, as(one, 2))
	takes(t, n, one)
	takesNot(t, n, 1)
	holds(t, n, as(one, 2))
	takes(t, n, as(one, 2))
}

// fill: a net with so many, by a way to fill it, and what it has.
func fill(t *testing.T, many int, copied func(i int) bool) (*Net, []api.Sent) {
	t.Helper()
	n := New()
	var all []api.Sent
	for i := range many {
		if i > 0 && copied(i) {
			of := all[i/2]
			copies(t, n, of.No, i+1)
			all = append(all, as(of, i+1))
		} else {
			all = append(all, sends(t, n, a, b, bytesOf(i%5, i), i+1))
		}
		if n.Count() != i+1 {
			t.Fatalf("Count() = %d, want %d", n.Count(), i+1)
		}
	}
	return n, all
}

// fillings: by Send, by Copy, and by both.
var fillings = []func(i int) bool{
	func(int) bool { return false },
	func(int) bool { return true },
	func(i int) bool { return i%2 == 1 },
	func(i int) bool { return i%3 == 0 },
}

// full: that nothing more can be on its way, whatever is asked for, and that what is wrong otherwise comes first.
func full(t *testing.T, n *Net) {
	t.Helper()
	sendsNot(t, n, a, b, []byte("a"), api.Full)
	sendsNot(t, n, a, b, nil, api.Full)
	sendsNot(t, n, a, b, bytesOf(1200, 1), api.Full)
	sendsNot(t, n, a, b, bytesOf(1201, 1), api.Arg)
	for _, bad := range badAddrs {
		sendsNot(t, n, bad, b, nil, api.Arg)
		sendsNot(t, n, a, bad, nil, api.Arg)
	}
	for _, no := range noNumbers {
		copiesNot(t, n, no, api.NotFound)
		takesNot(t, n, no)
	}
	for s := range allOf(n.All()) {
		copiesNot(t, n, s.No, api.Full)
	}
}

// P13.1: 300 there may be, by whichever calls they came; of what is Full nothing is changed, and no number is told.
func TestFull(t *testing.T) {
	for _, copied := range fillings {
		n, all := fill(t, 299, copied)
		holds(t, n, all...)
		all = append(all, sends(t, n, a, b, []byte("last"), 300))
		full(t, n)
		holds(t, n, all...)
		n, all = fill(t, 299, copied)
		copies(t, n, 299, 300)
		all = append(all, as(all[298], 300))
		full(t, n)
		holds(t, n, all...)
	}
}

// P13.1: behind a Take there is room for one, wherever it stood; its number isn't told again.
func TestRoomAgain(t *testing.T) {
	for i, copied := range fillings {
		n, all := fill(t, 300, copied)
		next := 301
		for _, place := range []int{0, 299, 150, 1, 298, 298} {
			takes(t, n, all[place])
			gone := all[place].No
			all = slices.Delete(all, place, place+1)
			copiesNot(t, n, gone, api.NotFound)
			takesNot(t, n, gone)
			if (place+i)%2 == 0 {
				all = append(all, sends(t, n, b, c, []byte{byte(next)}, next))
			} else {
				copies(t, n, all[7].No, next)
				all = append(all, as(all[7], next))
			}
			copiesNot(t, n, gone, api.NotFound)
			full(t, n)
			holds(t, n, all...)
			next++
		}
	}
}

// P13.1: two are taken from a full net, so there is room for two, and no more.
func TestRoomForTwo(t *testing.T) {
	n, all := fill(t, 300, fillings[0])
	takes(t, n, all[10])
	takes(t, n, all[20])
	sends(t, n, a, b, nil, 301)
	copies(t, n, 1, 302)
	full(t, n)
}

// P13.1: the numbers in which Send, Copy and Take answer, written out.
func TestNumbers(t *testing.T) {
	n := New()
	one := sends(t, n, a, b, []byte("1"), 1)
	two := sends(t, n, b, c, []byte("22"), 2)
	copies(t, n, 1, 3)
	holds(t, n, one, two, as(one, 3))
	four := sends(t, n, c, a, []byte("4444"), 4)
	copies(t, n, 2, 5)
	copies(t, n, 3, 6)
	copies(t, n, 6, 7)
	holds(t, n, one, two, as(one, 3), four, as(two, 5), as(one, 6), as(one, 7))
	takes(t, n, as(one, 7))
	copies(t, n, 4, 8)
	takes(t, n, one)
	copiesNot(t, n, 1, api.NotFound)
	copiesNot(t, n, 7, api.NotFound)
	copies(t, n, 3, 9)
	holds(t, n, two, as(one, 3), four, as(two, 5), as(one, 6), as(four, 8), as(one, 9))
	takes(t, n, as(one, 9))
	takes(t, n, as(four, 8))
	takesNot(t, n, 10)
	copiesNot(t, n, 10, api.NotFound)
	sendsNot(t, n, a, api.Addr{}, nil, api.Arg)
	ten := sends(t, n, a, c, nil, 10)
	holds(t, n, two, as(one, 3), four, as(two, 5), as(one, 6), ten)
}

// P13.3: when the net is empty again, the numbers go on.
func TestEmptyAgain(t *testing.T) {
	n := New()
	next := 1
	for range 5 {
		s := sends(t, n, a, b, []byte{byte(next)}, next)
		copies(t, n, next, next+1)
		takes(t, n, as(s, next+1))
		takes(t, n, as(s, next))
		holds(t, n)
		for no := range next + 3 {
			takesNot(t, n, no)
			copiesNot(t, n, no, api.NotFound)
		}
		next += 2
	}
}

// P13.3: a copy has its own life: whichever is taken first, the other one is as it was, and is taken once.
func TestCopyStays(t *testing.T) {
	for _, order := range [][]int{{1, 2, 3}, {1, 3, 2}, {2, 1, 3}, {2, 3, 1}, {3, 1, 2}, {3, 2, 1}} {
		n := New()
		s := sends(t, n, a, b, []byte("abc"), 1)
		copies(t, n, 1, 2)
		copies(t, n, 2, 3)
		for i, no := range order {
			takes(t, n, as(s, no))
			takesNot(t, n, no)
			if n.Count() != 2-i {
				t.Errorf("%v: Count() = %d, want %d", order, n.Count(), 2-i)
			}
		}
		holds(t, n)
	}
}

// P13.1: of numbers that weren't told, or are taken, there is nothing to be taken or copied, and nothing is changed by asking.
func TestNotFound(t *testing.T) {
	n, all := fill(t, 20, fillings[2])
	for _, no := range []int{4, 1, 20} {
		takes(t, n, all[no-1])
	}
	all = slices.Concat(all[1:3], all[4:19])
	for _, no := range append([]int{1, 4, 20, 21, 22, 300}, noNumbers...) {
		takesNot(t, n, no)
		copiesNot(t, n, no, api.NotFound)
	}
	holds(t, n, all...)
	sends(t, n, a, b, nil, 21)
}

// P13.3: 3000 are sent and copied, and most are taken in turn: no number is told twice, each is one above the last.
func TestManyNumbers(t *testing.T) {
	n := New()
	var all []api.Sent
	for i := range 1500 {
		s := sends(t, n, a, b, bytesOf(i%7, i), 2*i+1)
		copies(t, n, s.No, s.No+1)
		all = append(all, s, as(s, s.No+1))
		for len(all) > 200 {
			at := i * 7 % len(all)
			takes(t, n, all[at])
			takesNot(t, n, all[at].No)
			all = slices.Delete(all, at, at+1)
		}
	}
	holds(t, n, all...)
}
