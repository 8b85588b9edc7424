package world

import (
	"math"
	"testing"

	"embrasure/api"
)

// badAddrs: such as are no addresses, some of them addresses when they are cut.
var badAddrs = []api.Addr{
	{}, {Host: 0, Port: 1}, {Host: 0, Port: 65535}, {Host: 8, Port: 0}, {Host: 8, Port: -1}, {Host: 8, Port: 65536}, {Host: 8, Port: 65537}, {Host: 8, Port: 1<<32 + 1}, {Host: 8, Port: math.MaxInt}, {Host: 8, Port: math.MinInt}, {Host: math.MaxUint32, Port: 65536},
}

// untouched: that a world's boxes have nothing, and that no time went on in it.
func untouched(t *testing.T, w *World) {
	t.Helper()
	for box := range 5 {
		has(t, w, 0, box)
		w.Box(box).Reboot()
	}
	goes(t, w, 0, deep, 5, at(11, 9), mate, at(10, 5), at(11, 9))
}

// P14.2: a host and a port that there aren't, and an address that is none, are Arg, wherever the way would end, and nothing is changed by it.
func TestArg(t *testing.T) {
	w := plainStreet(t)
	targets := []api.Addr{at(11, 9), at(60, 9), at(7, 9), at(50, 4000), at(100, 4000), at(99, 9)}
	for _, now := range []int{0, 9, api.MaxTime} {
		for _, to := range targets {
			for _, host := range noPlaces(8) {
				goesNot(t, w, now, host, 5, to, api.Arg)
			}
			for _, port := range badPorts {
				for host := range w.Hosts() {
					goesNot(t, w, now, host, port, to, api.Arg)
				}
			}
		}
		for _, to := range badAddrs {
			for host := range w.Hosts() {
				goesNot(t, w, now, host, 5, to, api.Arg)
			}
			goesNot(t, w, now, 8, 5, to, api.Arg)
			goesNot(t, w, now, deep, 0, to, api.Arg)
		}
	}
	untouched(t, w)
}

// P14.2: in a world without hosts, or without anything, there is no way.
func TestNoHosts(t *testing.T) {
	for _, host := range append(noPlaces(0), 0) {
		goesNot(t, made(t, nil, nil, nil), 0, host, 5, at(1, 5), api.Arg)
		goesNot(t, made(t, boxesOf(100), []int{-1}, nil), 0, host, 5, at(100, 4000), api.Arg)
	}
}

// P14.2: what is no time is Arg, whether a box has to do with the way or not, and nothing is changed by it.
func TestBadTimes(t *testing.T) {
	w := plainStreet(t)
	for _, now := range badTimes {
		for _, to := range []api.Addr{at(11, 9), at(60, 9), at(7, 9), at(50, 4000), at(100, 4000), at(99, 9), {}} {
			goesNot(t, w, now, deep, 5, to, api.Arg)
			goesNot(t, w, now, free, 5, to, api.Arg)
		}
	}
	untouched(t, w)
}

// P14.2: the edges: ports 1 and 65535, times 0 and MaxTime.
func TestEdges(t *testing.T) {
	w := plainStreet(t)
	for _, now := range []int{0, 0, 1, api.MaxTime - 1, api.MaxTime, api.MaxTime} {
		for _, port := range []int{1, 65535} {
			goes(t, w, now, free, port, at(8, 65536-port), other, at(7, port), at(8, 65536-port))
			goes(t, w, now, mate, port, at(10, port), deep, at(11, port), at(10, port))
			goes(t, w, now, deep, port, at(8, 65536-port), other, at(100, 4000), at(8, 65536-port))
			w.Box(0).Reboot()
			w.Box(1).Reboot()
		}
	}
}

// ahead: that the time of the way ahead was this one: what is below it is Arg, whatever the way, and goes nowhere; it itself may come again.
func ahead(t *testing.T, w *World, now int) {
	t.Helper()
	for _, early := range []int{now - 1, 0, now / 2} {
		goesNot(t, w, early, free, 5, at(8, 9), api.Arg)
		goesNot(t, w, early, deep, 5, at(11, 9), api.Arg)
		goesNot(t, w, early, farIn, 5, at(60, 9), api.Arg)
		goesNot(t, w, early, deep, 5, at(99, 9), api.Arg)
	}
	goes(t, w, now, free, 5, at(8, 9), other, at(7, 5), at(8, 9))
}

// P14.2: a time goes back, if it is below that of the way ahead, be that one between two who are next to one another, or one that came to nobody.
func TestTimeGoesBack(t *testing.T) {
	w := plainStreet(t)
	goes(t, w, 5, free, 5, at(8, 9), other, at(7, 5), at(8, 9))
	ahead(t, w, 5)
	goes(t, w, 7, deep, 5, at(7, 9), free, at(100, 4000), at(7, 9))
	ahead(t, w, 7)
	goesNot(t, w, 9, free, 5, at(99, 9), api.Dropped)
	ahead(t, w, 9)
	goesNot(t, w, 11, free, 5, at(200, 4000), api.Dropped)
	ahead(t, w, 11)
	goesNot(t, w, 13, deep, 5, at(100, 4000), api.Dropped)
	ahead(t, w, 13)
	goes(t, w, api.MaxTime, free, 5, at(8, 9), other, at(7, 5), at(8, 9))
	ahead(t, w, api.MaxTime)
	has(t, w, api.MaxTime, 4)
}

// P14.2: a way for which a box is full has its time, too.
func TestFullHasTime(t *testing.T) {
	w := small(t, 1)
	goes(t, w, 0, 0, 5, at(7, 9), 3, at(100, 4000), at(7, 9))
	goesNot(t, w, 4, 1, 5, at(7, 9), api.Full)
	goesNot(t, w, 3, 3, 5, at(7, 9), api.Arg)
	goes(t, w, 4, 3, 5, at(7, 9), 3, at(7, 5), at(7, 9))
}

// P14.2: a way that is Arg has none.
func TestArgHasNoTime(t *testing.T) {
	w := plainStreet(t)
	goes(t, w, 5, free, 5, at(8, 9), other, at(7, 5), at(8, 9))
	goesNot(t, w, 20, 8, 5, at(8, 9), api.Arg)
	goesNot(t, w, 20, -1, 5, at(8, 9), api.Arg)
	goesNot(t, w, 20, deep, 0, at(8, 9), api.Arg)
	goesNot(t, w, 20, deep, 5, api.Addr{}, api.Arg)
	goesNot(t, w, api.MaxTime+1, deep, 5, at(8, 9), api.Arg)
	goesNot(t, w, 4, deep, 5, at(8, 9), api.Arg)
	ahead(t, w, 5)
	goes(t, w, 6, deep, 5, at(7, 9), free, at(100, 4000), at(7, 9))
}

// P14.2: boxes have their own time: one that was used later, by itself, refuses a way, but no other way is refused; the world's time is then that of the way ahead.
func TestBoxAhead(t *testing.T) {
	w := plainStreet(t)
	has(t, w, 50, 0)
	goesNot(t, w, 20, deep, 5, at(7, 9), api.Arg)
	goesNot(t, w, 20, mid, 5, at(7, 9), api.Arg)
	goesNot(t, w, 20, free, 5, at(100, 4000), api.Arg)
	goes(t, w, 10, free, 5, at(8, 9), other, at(7, 5), at(8, 9))
	goes(t, w, 20, deep, 5, at(60, 9), mid, at(50, 4000), at(60, 9))
	goes(t, w, 21, far, 5, at(8, 9), other, at(200, 4000), at(8, 9))
	goesNot(t, w, 49, deep, 5, at(7, 9), api.Arg)
	goes(t, w, 50, deep, 5, at(7, 9), free, at(100, 4000), at(7, 9))
	ahead(t, w, 50)
}

// P14.2: the time goes on in the boxes that a way goes through, and in no others.
func TestTimeOfBoxes(t *testing.T) {
	w := plainStreet(t)
	goes(t, w, 20, mid, 5, at(7, 9), free, at(100, 4000), at(7, 9))
	for box := range 5 {
		a, code := w.Box(box).Out(19, at(10, 5), at(8, 9))
		if want := map[bool]api.Code{true: api.Arg, false: api.OK}[box == 0]; code != want {
			t.Errorf("box %d: Out(19) = %v %d, want %d", box, a, code, want)
		}
	}
}

// P14.2: a reboot has no time, but the world has.
func TestReboot(t *testing.T) {
	w := plainStreet(t)
	goes(t, w, 20, deep, 5, at(7, 9), free, at(100, 4000), at(7, 9))
	w.Box(0).Reboot()
	w.Box(1).Reboot()
	goesNot(t, w, 19, deep, 5, at(7, 9), api.Arg)
	goesNot(t, w, 20, free, 9, at(100, 4000), api.Dropped)
	goes(t, w, 20, mid, 6, at(7, 9), free, at(100, 4000), at(7, 9))
	goes(t, w, 20, deep, 5, at(7, 9), free, at(100, 4001), at(7, 9))
}

// P14.2: a box is the one that Box tells: what was asked for at it is gone by, and lets in.
func TestAskedFor(t *testing.T) {
	w := plainStreet(t)
	asks(t, w, 0, 0, at(50, 4009), 4004, 99)
	asks(t, w, 0, 1, at(10, 5), 4009, 99)
	goes(t, w, 1, free, 1, at(100, 4004), deep, at(7, 1), at(10, 5))
	goes(t, w, 1, deep, 5, at(8, 9), other, at(100, 4004), at(8, 9))
	goes(t, w, 1, deep, 6, at(8, 9), other, at(100, 4000), at(8, 9))
	goes(t, w, 98, other, 1, at(100, 4004), deep, at(8, 1), at(10, 5))
	goesNot(t, w, 99, other, 1, at(100, 4004), api.Dropped)
}
