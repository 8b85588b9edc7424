package world

import (
	"math"
	"slices"
	"strconv"
	"testing"

	"embrasure/api"
)

// badTimes: such as are no times, some of them times when they are cut.
var badTimes = []int{-1, -2, -api.MaxTime, math.MinInt, math.MinInt + 1, -1 << 32, api.MaxTime + 1, api.MaxTime + 2, 2 * api.MaxTime, 1<<48 + 50, 1<<62 + 50, math.MaxInt}

// badPorts: such as are no ports, some of them ports when they are cut.
var badPorts = []int{0, -1, -5, 65536, 65537, 1<<16 + 5, 1<<32 + 5, 1<<62 + 5, math.MaxInt, math.MinInt, math.MinInt + 5}

// goes: that something comes to this host, from there, and to this address there.
func goes(t *testing.T, w *World, now, host, port int, to api.Addr, want int, from, there api.Addr) {
	t.Helper()
	if h, f, a, code := w.Way(now, host, port, to); h != want || f != from || a != there || code != api.OK {
		t.Errorf("Way(%d, %d, %d, %v) = %d %v %v %d, want %d %v %v OK", now, host, port, to, h, f, a, code, want, from, there)
	}
}

// goesNot: that it doesn't come to anybody, with this code.
func goesNot(t *testing.T, w *World, now, host, port int, to api.Addr, want api.Code) {
	t.Helper()
	if h, f, a, code := w.Way(now, host, port, to); h != 0 || f != (api.Addr{}) || a != (api.Addr{}) || code != want {
		t.Errorf("Way(%d, %d, %d, %v) = %d %v %v %d, want nothing %d", now, host, port, to, h, f, a, code, want)
	}
}

// has: that a box has these bindings, which are in order, and no others.
func has(t *testing.T, w *World, now, box int, want ...api.Binding) {
	t.Helper()
	if got := w.Box(box).All(now); !slices.Equal(got, want) {
		t.Errorf("box %d: All(%d) = %v, want %v", box, now, got, want)
	}
}

// sentBy: the binding of one who sent by a box that maps by nothing at a time.
func sentBy(in api.Addr, port, now int) api.Binding {
	return api.Binding{In: in, Port: port, Until: now + 30}
}

// The world of most tests: boxes 0 (number 100) and 3 (200) stand in the open net, 1 (50) and 2 (51) behind 0, 4 (50) behind 3. Hosts' numbers in it are by their places, and of 7 there are two.
const (
	deep   = iota // 10, behind 1
	mate          // 11, behind 1
	cousin        // 10, behind 2
	mid           // 60, behind 0
	free          // 7, in the open net
	other         // 8, in the open net
	far           // 10, behind 3
	farIn         // 7, behind 4
)

// street: that world, with all boxes alike, but for their numbers.
func street(t *testing.T, mapped, filter int) *World {
	t.Helper()
	var boxes []api.Box
	for _, h := range []uint32{100, 50, 51, 200, 50} {
		boxes = append(boxes, boxOf(h, mapped, filter))
	}
	return made(t, boxes, []int{-1, 0, 0, -1, 3}, []api.Site{by(10, 1), by(11, 1), by(10, 2), by(60, 0), in(7), in(8), by(10, 3), by(7, 4)})
}

// plainStreet: with boxes that map by nothing, and let in by addresses.
func plainStreet(t *testing.T) *World {
	t.Helper()
	return street(t, api.ByNothing, api.ByAddr)
}

// each: all ways to map and to filter.
func each(t *testing.T, do func(t *testing.T, mapped, filter int)) {
	for _, mapped := range ways {
		for _, filter := range ways {
			t.Run(strconv.Itoa(mapped)+strconv.Itoa(filter), func(t *testing.T) { do(t, mapped, filter) })
		}
	}
}

// P14.2: the chapter's example: a host behind a box sends to one in the open net: it comes from the box's host.
func TestExample(t *testing.T) {
	each(t, func(t *testing.T, mapped, filter int) {
		w := made(t, []api.Box{boxOf(9, mapped, filter)}, []int{-1}, []api.Site{by(1, 0), in(2)})
		goes(t, w, 0, 0, 5, at(2, 53), 1, at(9, 4000), at(2, 53))
		goes(t, w, 0, 1, 53, at(9, 4000), 0, at(2, 53), at(1, 5))
	})
}

// P14.2: what ends next to where it begins comes from there, and no box has to do with it.
func TestNextTo(t *testing.T) {
	w := plainStreet(t)
	goes(t, w, 0, deep, 5, at(11, 9), mate, at(10, 5), at(11, 9))
	goes(t, w, 0, mate, 9, at(10, 5), deep, at(11, 9), at(10, 5))
	goes(t, w, 0, free, 1, at(8, 65535), other, at(7, 1), at(8, 65535))
	goes(t, w, 0, other, 65535, at(7, 1), free, at(8, 65535), at(7, 1))
	for box := range 5 {
		has(t, w, 0, box)
	}
}

// P14.2: who sends to its own number is next to where it begins itself.
func TestToOneself(t *testing.T) {
	w := plainStreet(t)
	for host, s := range w.Hosts() {
		goes(t, w, 0, host, 5, at(s.Host, 6), host, at(s.Host, 5), at(s.Host, 6))
		goes(t, w, 0, host, 5, at(s.Host, 5), host, at(s.Host, 5), at(s.Host, 5))
	}
	for box := range 5 {
		has(t, w, 0, box)
	}
}

// P14.2: a host next to where it begins comes first, though there is one of its number further out.
func TestNearestFirst(t *testing.T) {
	w := made(t, boxesOf(100, 50), []int{-1, 0}, []api.Site{by(1, 1), by(9, 1), by(9, 0), in(9), by(1, 0), in(1)})
	goes(t, w, 0, 0, 5, at(9, 6), 1, at(1, 5), at(9, 6))
	goes(t, w, 0, 4, 5, at(9, 6), 2, at(1, 5), at(9, 6))
	goes(t, w, 0, 5, 5, at(9, 6), 3, at(1, 5), at(9, 6))
	has(t, w, 0, 0)
	has(t, w, 0, 1)
}

// P14.2: one between comes first, too, be it a host or a box.
func TestNearerFirst(t *testing.T) {
	w := made(t, boxesOf(100, 50, 9), []int{-1, 0, 0}, []api.Site{by(1, 1), by(8, 0), in(8), in(9), by(3, 2)})
	goes(t, w, 0, 0, 5, at(8, 6), 1, at(50, 4000), at(8, 6))
	if port, code := w.Box(2).Ask(0, at(3, 4), 4009, 99); port != 4009 || code != api.OK {
		t.Fatalf("Ask = %d %d", port, code)
	}
	goes(t, w, 0, 0, 5, at(9, 4009), 4, at(50, 4000), at(3, 4))
	goesNot(t, w, 0, 0, 5, at(9, 4008), api.Dropped)
	has(t, w, 0, 0)
	has(t, w, 0, 1, sentBy(at(1, 5), 4000, 0))
}

// P14.2: a box's number is its own where it stands, not behind it.
func TestNumberOutside(t *testing.T) {
	w := made(t, boxesOf(100), []int{-1}, []api.Site{by(1, 0), by(100, 0), in(2)})
	goes(t, w, 0, 0, 5, at(100, 6), 1, at(1, 5), at(100, 6))
	goes(t, w, 0, 1, 5, at(2, 6), 2, at(100, 4000), at(2, 6))
	goes(t, w, 0, 2, 6, at(100, 4000), 1, at(2, 6), at(100, 5))
	has(t, w, 0, 0, sentBy(at(100, 5), 4000, 0))
}

// P14.2: out by one box, to a host that is next to it; and back.
func TestOutByOne(t *testing.T) {
	w := plainStreet(t)
	goes(t, w, 3, deep, 5, at(60, 9), mid, at(50, 4000), at(60, 9))
	goes(t, w, 3, mid, 9, at(50, 4000), deep, at(60, 9), at(10, 5))
	goes(t, w, 3, mate, 5, at(60, 9), mid, at(50, 4001), at(60, 9))
	goes(t, w, 4, mid, 5, at(7, 9), free, at(100, 4000), at(7, 9))
	goes(t, w, 4, far, 5, at(7, 9), free, at(200, 4000), at(7, 9))
	has(t, w, 4, 0, sentBy(at(60, 5), 4000, 4))
	has(t, w, 4, 1, sentBy(at(10, 5), 4000, 3), sentBy(at(11, 5), 4001, 3))
	has(t, w, 4, 2)
	has(t, w, 4, 3, sentBy(at(10, 5), 4000, 4))
	has(t, w, 4, 4)
}

// P14.2: out by two boxes, the second one knowing the first one's address alone; and back.
func TestOutByTwo(t *testing.T) {
	w := plainStreet(t)
	goes(t, w, 3, mate, 4, at(60, 9), mid, at(50, 4000), at(60, 9))
	goes(t, w, 4, deep, 5, at(8, 9), other, at(100, 4001), at(8, 9))
	has(t, w, 4, 0, sentBy(at(50, 4001), 4001, 4))
	has(t, w, 4, 1, sentBy(at(11, 4), 4000, 3), sentBy(at(10, 5), 4001, 4))
	goes(t, w, 5, other, 9, at(100, 4001), deep, at(8, 9), at(10, 5))
	goesNot(t, w, 5, other, 8, at(100, 4001), api.Dropped)
	goesNot(t, w, 5, free, 9, at(100, 4001), api.Dropped)
}

// P14.2: two behind two boxes with one number are told apart by the box outside.
func TestCousins(t *testing.T) {
	w := plainStreet(t)
	goes(t, w, 0, deep, 5, at(7, 9), free, at(100, 4000), at(7, 9))
	goes(t, w, 0, cousin, 5, at(7, 9), free, at(100, 4001), at(7, 9))
	goes(t, w, 1, free, 9, at(100, 4000), deep, at(7, 9), at(10, 5))
	goes(t, w, 1, free, 9, at(100, 4001), cousin, at(7, 9), at(10, 5))
	has(t, w, 1, 0, sentBy(at(50, 4000), 4000, 0), sentBy(at(51, 4000), 4001, 0))
}

// asks: that a box gives a port to one who asks for it.
func asks(t *testing.T, w *World, now, box int, in api.Addr, port, until int) {
	t.Helper()
	if got, code := w.Box(box).Ask(now, in, port, until); got != port || code != api.OK {
		t.Fatalf("box %d: Ask(%d, %v, %d, %d) = %d %d", box, now, in, port, until, got, code)
	}
}

// P14.2: into one box, and into two, from the open net and from behind a box, where a port was asked for.
func TestInto(t *testing.T) {
	w := plainStreet(t)
	asks(t, w, 0, 0, at(60, 1), 4005, 99)
	asks(t, w, 0, 0, at(50, 4006), 4006, 99)
	asks(t, w, 0, 1, at(11, 65535), 4006, 99)
	goes(t, w, 1, free, 9, at(100, 4005), mid, at(7, 9), at(60, 1))
	goes(t, w, 1, free, 9, at(100, 4006), mate, at(7, 9), at(11, 65535))
	goes(t, w, 1, far, 9, at(100, 4005), mid, at(200, 4000), at(60, 1))
	goes(t, w, 2, farIn, 9, at(100, 4006), mate, at(200, 4001), at(11, 65535))
	goes(t, w, 2, mid, 9, at(50, 4006), mate, at(60, 9), at(11, 65535))
	has(t, w, 2, 2)
	has(t, w, 2, 4, sentBy(at(7, 9), 4000, 2))
}

// P14.2: out by one box, and into another one next to it.
func TestOutAndInto(t *testing.T) {
	w := plainStreet(t)
	asks(t, w, 0, 2, at(10, 7), 4002, 99)
	asks(t, w, 0, 3, at(10, 6), 4003, 99)
	goes(t, w, 1, deep, 5, at(51, 4002), cousin, at(50, 4000), at(10, 7))
	goes(t, w, 1, mid, 5, at(200, 4003), far, at(100, 4000), at(10, 6))
	goes(t, w, 1, cousin, 7, at(50, 4000), deep, at(51, 4002), at(10, 5))
	goesNot(t, w, 1, cousin, 8, at(50, 4000), api.Dropped)
	has(t, w, 1, 0, sentBy(at(60, 5), 4000, 1))
}

// P14.2: nothing comes back by the box by which it went out, in the open net, though everybody is let in by it; it goes out all the same.
func TestBackByTheSame(t *testing.T) {
	for _, filter := range ways {
		w := street(t, api.ByNothing, filter)
		asks(t, w, 0, 0, at(60, 1), 4005, 99)
		asks(t, w, 0, 0, at(50, 4006), 4006, 99)
		asks(t, w, 0, 1, at(11, 2), 4006, 99)
		goes(t, w, 0, free, 5, at(100, 4005), mid, at(7, 5), at(60, 1))
		goesNot(t, w, 0, mid, 5, at(100, 4005), api.Dropped)
		goesNot(t, w, 0, mid, 1, at(100, 4005), api.Dropped)
		goesNot(t, w, 0, deep, 5, at(100, 4005), api.Dropped)
		goesNot(t, w, 0, deep, 5, at(100, 4006), api.Dropped)
		goesNot(t, w, 0, cousin, 5, at(100, 4006), api.Dropped)
		asked := []api.Binding{{In: at(60, 1), Port: 4005, Until: 99, Asked: true}, {In: at(50, 4006), Port: 4006, Until: 99, Asked: true}}
		sent := []api.Binding{sentBy(at(60, 5), 4000, 0), sentBy(at(50, 4000), 4001, 0), sentBy(at(51, 4000), 4002, 0)}
		has(t, w, 0, 0, append(sent, asked...)...)
	}
}

// P14.2: what went out by an inner box, and has its number, doesn't come back by it: it goes out further, if it can.
func TestBackByTheSameInner(t *testing.T) {
	w := plainStreet(t)
	asks(t, w, 0, 1, at(11, 2), 4006, 99)
	goesNot(t, w, 0, deep, 5, at(50, 4006), api.Dropped)
	has(t, w, 0, 0, sentBy(at(50, 4000), 4000, 0))
	w = made(t, boxesOf(100, 50), []int{-1, 0}, []api.Site{by(1, 1), in(50)})
	goes(t, w, 0, 0, 5, at(50, 6), 1, at(100, 4000), at(50, 6))
	goes(t, w, 0, 1, 6, at(100, 4000), 0, at(50, 6), at(1, 5))
}

// P14.2: what goes nowhere in the open net.
func TestNowhere(t *testing.T) {
	w := plainStreet(t)
	for host := range w.Hosts() {
		for _, to := range []api.Addr{at(99, 4000), at(12, 5), at(1, 1), at(math.MaxUint32, 65535), at(51+1<<8, 4000)} {
			goesNot(t, w, 0, host, 5, to, api.Dropped)
		}
	}
	for _, to := range []api.Addr{at(10, 5), at(60, 5), at(50, 4000), at(51, 4000)} {
		goesNot(t, w, 0, free, 5, to, api.Dropped)
	}
	empty := made(t, nil, nil, []api.Site{in(1)})
	goesNot(t, empty, 0, 0, 5, at(2, 5), api.Dropped)
}

// P14.2: behind a box that it came into it doesn't go out again: it goes nowhere, if nobody there has the address, though somebody outside has.
func TestNowhereBehind(t *testing.T) {
	w := plainStreet(t)
	for i, in := range []api.Addr{at(7, 9), at(8, 9), at(200, 4000), at(100, 4009), at(99, 1), at(10, 5)} {
		asks(t, w, 0, 0, in, 4000+i, 99)
		goesNot(t, w, 0, free, 9, at(100, 4000+i), api.Dropped)
		goesNot(t, w, 0, far, 9, at(100, 4000+i), api.Dropped)
	}
	for i, in := range []api.Addr{at(7, 9), at(60, 5), at(51, 4000), at(50, 4001), at(100, 4000), at(12, 5)} {
		asks(t, w, 0, 1, in, 4000+i, 99)
		goesNot(t, w, 0, mid, 9, at(50, 4000+i), api.Dropped)
		goesNot(t, w, 0, cousin, 9, at(50, 4000+i), api.Dropped)
	}
	asks(t, w, 0, 0, at(50, 4003), 4008, 99)
	goesNot(t, w, 0, free, 9, at(100, 4008), api.Dropped)
	for box := range 2 {
		for _, b := range w.Box(box).All(0) {
			if !b.Asked {
				t.Errorf("box %d has %v", box, b)
			}
		}
	}
}

// P14.2: what a box drops, and what is left of it in the boxes that it had gone through before; the next one finds it there.
func TestBoxDrops(t *testing.T) {
	each(t, func(t *testing.T, mapped, filter int) {
		w := street(t, mapped, filter)
		goesNot(t, w, 2, deep, 5, at(200, 4000), api.Dropped)
		to := []api.Addr{{}, at(200, 0), at(200, 4000)}[mapped]
		has(t, w, 2, 1, api.Binding{In: at(10, 5), To: to, Port: 4000, Until: 32})
		has(t, w, 2, 0, api.Binding{In: at(50, 4000), To: to, Port: 4000, Until: 32})
		has(t, w, 2, 3)
		// It was seen on its way there: who has that address comes in by it.
		if a, code := w.Box(0).In(2, 4000, at(200, 4000)); a != at(50, 4000) || code != api.OK {
			t.Errorf("In = %v %d", a, code)
		}
		if a, code := w.Box(1).In(2, 4000, at(200, 4000)); a != at(10, 5) || code != api.OK {
			t.Errorf("In = %v %d", a, code)
		}
		goesNot(t, w, 2, free, 5, at(100, 4001), api.Dropped)
		goesNot(t, w, 2, free, 5, at(100, 3999), api.Dropped)
		goesNot(t, w, 2, free, 5, at(200, 4000), api.Dropped)
	})
}

// P14.2: a way that goes nowhere keeps a binding, as one that comes does.
func TestNowhereKeeps(t *testing.T) {
	w := plainStreet(t)
	goes(t, w, 0, deep, 5, at(7, 9), free, at(100, 4000), at(7, 9))
	goesNot(t, w, 29, deep, 5, at(99, 9), api.Dropped)
	goes(t, w, 40, free, 9, at(100, 4000), deep, at(7, 9), at(10, 5))
	goes(t, w, 58, free, 9, at(100, 4000), deep, at(7, 9), at(10, 5))
	goesNot(t, w, 59, free, 9, at(100, 4000), api.Dropped)
}

// small: a world with a box that has room for two, behind one that has room for so many, and three hosts in it.
func small(t *testing.T, most int) *World {
	t.Helper()
	outer, inner := plainBox(100), plainBox(50)
	outer.Most, inner.Most = most, 2
	return made(t, []api.Box{outer, inner}, []int{-1, 0}, []api.Site{by(1, 1), by(2, 1), by(3, 1), in(7), by(9, 0)})
}

// P14.2: the first box is full: the second one hears nothing of it.
func TestFullFirst(t *testing.T) {
	w := small(t, 9)
	goes(t, w, 0, 0, 5, at(7, 9), 3, at(100, 4000), at(7, 9))
	goes(t, w, 0, 1, 5, at(7, 9), 3, at(100, 4001), at(7, 9))
	goesNot(t, w, 1, 2, 5, at(7, 9), api.Full)
	goesNot(t, w, 1, 2, 5, at(9, 9), api.Full)
	goesNot(t, w, 1, 2, 5, at(99, 9), api.Full)
	goes(t, w, 1, 2, 5, at(1, 9), 0, at(3, 5), at(1, 9))
	has(t, w, 1, 0, sentBy(at(50, 4000), 4000, 0), sentBy(at(50, 4001), 4001, 0))
	has(t, w, 1, 1, sentBy(at(1, 5), 4000, 0), sentBy(at(2, 5), 4001, 0))
	goes(t, w, 30, 2, 5, at(7, 9), 3, at(100, 4000), at(7, 9))
}

// P14.2: the second box is full: what the first one has of it stays, and lasts.
func TestFullSecond(t *testing.T) {
	w := small(t, 1)
	goes(t, w, 0, 0, 5, at(7, 9), 3, at(100, 4000), at(7, 9))
	goesNot(t, w, 1, 1, 5, at(7, 9), api.Full)
	has(t, w, 1, 0, sentBy(at(50, 4000), 4000, 0))
	has(t, w, 1, 1, sentBy(at(1, 5), 4000, 0), sentBy(at(2, 5), 4001, 1))
	goesNot(t, w, 2, 1, 5, at(7, 9), api.Full)
	has(t, w, 2, 1, sentBy(at(1, 5), 4000, 0), sentBy(at(2, 5), 4001, 2))
	goesNot(t, w, 2, 2, 5, at(7, 9), api.Full)
	goes(t, w, 2, 0, 5, at(7, 9), 3, at(100, 4000), at(7, 9))
	if a, code := w.Box(1).In(2, 4001, at(7, 9)); a != at(2, 5) || code != api.OK {
		t.Errorf("In = %v %d: what was sent wasn't seen", a, code)
	}
	goesNot(t, w, 2, 4, 9, at(50, 4001), api.Dropped)
}

// P14.2: no port is free: Full, too.
func TestNoPort(t *testing.T) {
	b := plainBox(100)
	b.Hi = b.Lo
	w := made(t, []api.Box{b}, []int{-1}, []api.Site{by(1, 0), by(2, 0), in(7)})
	goes(t, w, 0, 0, 5, at(7, 9), 2, at(100, 4000), at(7, 9))
	goesNot(t, w, 0, 1, 5, at(7, 9), api.Full)
	goesNot(t, w, 0, 0, 6, at(7, 9), api.Full)
	goes(t, w, 0, 0, 5, at(7, 8), 2, at(100, 4000), at(7, 8))
}
