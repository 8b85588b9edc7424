package world

import (
	"testing"

	"embrasure/api"
)

// backs: that something comes to a host, and that what this one sends back at once comes to where it was sent from.
func backs(t *testing.T, w *World, now, host, port int, to api.Addr, want int) api.Addr {
	t.Helper()
	h, from, there, code := w.Way(now, host, port, to)
	if h != want || there != to || code != api.OK {
		t.Fatalf("Way(%d, %d, %d, %v) = %d %v %v %d, want %d", now, host, port, to, h, from, there, code, want)
	}
	own := at(w.Hosts()[host].Host, port)
	goes(t, w, now, want, there.Port, from, host, there, own)
	return from
}

// P14.3: what comes from behind no box comes from its own address, wherever it comes to.
func TestFromNoBox(t *testing.T) {
	each(t, func(t *testing.T, mapped, filter int) {
		w := street(t, mapped, filter)
		asks(t, w, 0, 0, at(60, 1), 4005, 99)
		asks(t, w, 0, 0, at(50, 4006), 4006, 99)
		asks(t, w, 0, 1, at(11, 2), 4006, 99)
		for _, port := range []int{1, 5, 65535} {
			goes(t, w, 0, free, port, at(8, 9), other, at(7, port), at(8, 9))
			goes(t, w, 0, free, port, at(100, 4005), mid, at(7, port), at(60, 1))
			goes(t, w, 0, other, port, at(100, 4006), mate, at(8, port), at(11, 2))
		}
	})
}

// P14.3: what is sent back, by a host in the open net, comes to the port from which it was sent, by every two kinds of boxes between, for all hosts and many ports.
func TestBackFromOpen(t *testing.T) {
	each(t, func(t *testing.T, mapped, filter int) {
		each(t, func(t *testing.T, innerMap, innerFilter int) {
			boxes := []api.Box{boxOf(100, mapped, filter), boxOf(50, innerMap, innerFilter)}
			boxes[0].Most, boxes[0].Hi, boxes[1].Most, boxes[1].Hi = 90, 4999, 90, 4999
			w := made(t, boxes, []int{-1, 0}, []api.Site{by(1, 1), by(2, 1), by(3, 0), in(7), in(8)})
			now := 0
			for _, port := range []int{1, 5, 4000, 65535} {
				for host := range 5 {
					for to := 3; to < 5; to++ {
						backs(t, w, now, host, port, at(uint32(4+to), 9), to)
						backs(t, w, now, host, port, at(uint32(4+to), port), to)
						now++
					}
				}
			}
		})
	})
}

// P14.3: what is sent back, by one next to the other one, comes to the port from which it was sent, and from its own address; no box knows of it.
func TestBackFromNext(t *testing.T) {
	each(t, func(t *testing.T, mapped, filter int) {
		w := street(t, mapped, filter)
		for _, port := range []int{1, 4000, 65535} {
			for _, pair := range [][2]int{{deep, mate}, {mate, deep}, {free, other}, {other, free}} {
				to := at(w.Hosts()[pair[1]].Host, 9)
				if from := backs(t, w, 0, pair[0], port, to, pair[1]); from != at(w.Hosts()[pair[0]].Host, port) {
					t.Errorf("from %v", from)
				}
			}
		}
		for box := range 5 {
			has(t, w, 0, box)
		}
	})
}

// P14.3: what is sent back by a host behind no more than one of the two boxes comes back, too.
func TestBackFromBetween(t *testing.T) {
	each(t, func(t *testing.T, mapped, filter int) {
		w := street(t, mapped, filter)
		if from := backs(t, w, 0, deep, 5, at(60, 9), mid); from != at(50, 4000) {
			t.Errorf("from %v", from)
		}
		if from := backs(t, w, 0, cousin, 5, at(60, 9), mid); from != at(51, 4000) {
			t.Errorf("from %v", from)
		}
	})
}

// P14.3: who sends back from elsewhere is let in as the box that is outside filters, and as the inner one does.
func TestBackFromElsewhere(t *testing.T) {
	each(t, func(t *testing.T, mapped, filter int) {
		each(t, func(t *testing.T, innerMap, innerFilter int) {
			w := made(t, []api.Box{boxOf(100, mapped, filter), boxOf(50, innerMap, innerFilter)}, []int{-1, 0}, []api.Site{by(1, 1), in(7), in(8)})
			from := backs(t, w, 0, 0, 5, at(7, 9), 1)
			worst := max(filter, innerFilter)
			for _, c := range []struct{ host, port, by int }{{1, 9, api.ByAddr}, {1, 8, api.ByHost}, {2, 9, api.ByNothing}} {
				if source := at(uint32(6+c.host), c.port); worst <= c.by {
					goes(t, w, 0, c.host, c.port, from, 0, source, at(1, 5))
				} else {
					goesNot(t, w, 0, c.host, c.port, from, api.Dropped)
				}
			}
		})
	})
}

// P14.3: how many addresses of one others see, and by which kinds of boxes.
func TestSeenFrom(t *testing.T) {
	each(t, func(t *testing.T, mapped, filter int) {
		w := street(t, mapped, filter)
		one, two, three := backs(t, w, 0, deep, 5, at(7, 9), free), backs(t, w, 0, deep, 5, at(8, 9), other), backs(t, w, 0, deep, 5, at(8, 10), other)
		again := backs(t, w, 1, deep, 5, at(7, 9), free)
		if one != again || (one == two) != (mapped == api.ByNothing) || (two == three) != (mapped != api.ByAddr) {
			t.Errorf("seen were %v %v %v, and again %v", one, two, three, again)
		}
	})
}

// P14.3: at once it comes back at the last time but one, too, and until a box's life is over.
func TestBackLate(t *testing.T) {
	each(t, func(t *testing.T, mapped, filter int) {
		w := street(t, mapped, filter)
		from := backs(t, w, 10, deep, 5, at(7, 9), free)
		goes(t, w, 39, free, 9, from, deep, at(7, 9), at(10, 5))
		goesNot(t, w, 40, free, 9, from, api.Dropped)
		backs(t, w, api.MaxTime-1, deep, 5, at(7, 9), free)
		backs(t, w, api.MaxTime-1, far, 65535, at(8, 1), other)
	})
}

// P14.3: a box that is nearly full, whose ports are others', and who was seen by it 16 times, change nothing of it.
func TestBackBusy(t *testing.T) {
	each(t, func(t *testing.T, mapped, filter int) {
		w := street(t, mapped, filter)
		for i := range 5 {
			asks(t, w, 0, 0, at(60, 1+i), 4000+i, 99)
			asks(t, w, 0, 1, at(11, 1+i), 4000+i, 99)
		}
		for i := range 40 {
			now := i * 30
			backs(t, w, now, deep, 5, at(7, 100+i), free)
			backs(t, w, now, deep, 5, at(8, 100+i), other)
			backs(t, w, now, deep, 5, at(7, 100+i), free)
		}
	})
}
