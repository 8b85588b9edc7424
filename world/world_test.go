package world

import (
	"math"
	"slices"
	"testing"

	"embrasure/api"
	"embrasure/nat"
)

// ways: those to map, and to filter.
var ways = []int{api.ByNothing, api.ByHost, api.ByAddr}

// boxOf: a box with this number, ports 4000 to 4009, a life of 30, and up to 9 bindings.
func boxOf(host uint32, mapped, filter int) api.Box {
	return api.Box{Host: host, Lo: 4000, Hi: 4009, Map: mapped, Filter: filter, Life: 30, Most: 9}
}

// plainBox: one that maps by nothing, and lets in by addresses.
func plainBox(host uint32) api.Box { return boxOf(host, api.ByNothing, api.ByAddr) }

// boxesOf: plain boxes with these numbers.
func boxesOf(hosts ...uint32) []api.Box {
	var all []api.Box
	for _, h := range hosts {
		all = append(all, plainBox(h))
	}
	return all
}

// in: a host in the open net; by: one behind a box.
func in(host uint32) api.Site           { return api.Site{Host: host, Behind: -1} }
func by(host uint32, box int) api.Site  { return api.Site{Host: host, Behind: box} }
func at(host uint32, port int) api.Addr { return api.Addr{Host: host, Port: port} }

// made: a new world.
func made(t *testing.T, boxes []api.Box, behind []int, hosts []api.Site) *World {
	t.Helper()
	w, code := New(boxes, behind, hosts)
	if w == nil || code != api.OK {
		t.Fatalf("New(%v, %v, %v) = %v %d, want a world, OK", boxes, behind, hosts, w, code)
	}
	return w
}

// madeNot: that there is no such world.
func madeNot(t *testing.T, boxes []api.Box, behind []int, hosts []api.Site) {
	t.Helper()
	if w, code := New(boxes, behind, hosts); w != nil || code != api.Arg {
		t.Errorf("New(%v, %v, %v) = %v %d, want none, Arg", boxes, behind, hosts, w, code)
	}
}

// numbers: so many numbers, from one on.
func numbers(from uint32, many int) []uint32 {
	var all []uint32
	for i := range many {
		all = append(all, from+uint32(i))
	}
	return all
}

// sitesOf: hosts with these numbers, all behind one box, or in the open net.
func sitesOf(behind int, hosts ...uint32) []api.Site {
	var all []api.Site
	for _, h := range hosts {
		all = append(all, by(h, behind))
	}
	return all
}

// places: so many times this one.
func places(behind, many int) []int { return slices.Repeat([]int{behind}, many) }

// plan: what a world is made of.
type plan struct {
	boxes  []api.Box
	behind []int
	hosts  []api.Site
}

// good: worlds at the edges, and such in which one number stands at places that aren't next to one another.
func good() map[string]plan {
	return map[string]plan{
		"nothing":                       {},
		"empty lists":                   {[]api.Box{}, []int{}, []api.Site{}},
		"a host":                        {nil, nil, sitesOf(-1, 1)},
		"the greatest number":           {boxesOf(math.MaxUint32), places(-1, 1), sitesOf(-1, math.MaxUint32-1)},
		"the least number":              {boxesOf(1), places(-1, 1), sitesOf(-1, 2)},
		"boxes alone":                   {boxesOf(numbers(1, 16)...), places(-1, 16), nil},
		"16 boxes, 16 hosts":            {boxesOf(numbers(1, 16)...), places(-1, 16), sitesOf(-1, numbers(17, 16)...)},
		"15 boxes behind one":           {boxesOf(numbers(1, 16)...), append([]int{-1}, places(0, 15)...), sitesOf(0, numbers(17, 16)...)},
		"16 hosts behind the last box":  {boxesOf(numbers(1, 16)...), places(-1, 16), sitesOf(15, numbers(1, 16)...)},
		"behind the one ahead":          {boxesOf(1, 2, 3), []int{-1, -1, 1}, sitesOf(2, 1)},
		"behind one far ahead":          {boxesOf(1, 2, 3), []int{-1, -1, 0}, sitesOf(2, 1)},
		"a box's number for who is in":  {boxesOf(9), []int{-1}, []api.Site{by(9, 0)}},
		"one number for two boxes":      {boxesOf(9, 9), []int{-1, 0}, nil},
		"for boxes behind two":          {boxesOf(1, 2, 9, 9), []int{-1, -1, 0, 1}, nil},
		"for a box and who is in it":    {boxesOf(1, 9), []int{-1, 0}, []api.Site{by(9, 1)}},
		"for a box and a host outside":  {boxesOf(1, 9), []int{-1, 0}, []api.Site{in(9)}},
		"for a host in and one outside": {boxesOf(1), []int{-1}, []api.Site{by(9, 0), in(9)}},
		"for hosts behind two":          {boxesOf(1, 2), []int{-1, -1}, []api.Site{by(9, 0), by(9, 1)}},
		"for hosts one behind another":  {boxesOf(1, 2), []int{-1, 0}, []api.Site{by(9, 0), by(9, 1)}},
		"for three, each at a place":    {boxesOf(1, 2), []int{-1, 0}, []api.Site{by(9, 0), by(9, 1), in(9)}},
		"for two boxes and a host":      {boxesOf(9, 9), []int{-1, 0}, []api.Site{by(9, 1)}},
		"for a host and the inner box":  {boxesOf(9, 8), []int{-1, 0}, []api.Site{by(9, 0), in(8), by(8, 1), by(9, 1)}},
	}
}

// alike: that a world is as it was planned.
func alike(t *testing.T, w *World, p plan) {
	t.Helper()
	for i, b := range p.boxes {
		if w.Box(i) == nil || w.Box(i).Box() != b {
			t.Errorf("Box(%d) isn't the one of %v", i, b)
		}
		if want := p.behind[i] == -1; w.Open(i) != want {
			t.Errorf("Open(%d) = %v, want %v", i, !want, want)
		}
	}
	if got := w.Hosts(); !slices.Equal(got, p.hosts) {
		t.Errorf("Hosts() = %v, want %v", got, p.hosts)
	}
	for i, h := range p.hosts {
		if got := w.Outer(i); got != h.Behind {
			t.Errorf("Outer(%d) = %d, want %d", i, got, h.Behind)
		}
	}
	for _, i := range noPlaces(len(p.boxes)) {
		if w.Box(i) != nil || w.Open(i) {
			t.Errorf("of %d: Box(%d) = %v, Open %v, want none, false", len(p.boxes), i, w.Box(i), w.Open(i))
		}
	}
	for _, i := range noPlaces(len(p.hosts)) {
		if got := w.Outer(i); got != -1 {
			t.Errorf("of %d: Outer(%d) = %d, want -1", len(p.hosts), i, got)
		}
	}
}

// noPlaces: such as there aren't among so many, some of them such when they are cut.
func noPlaces(many int) []int {
	return []int{many, many + 1, 16 + many, 17 + many, 256, 257, 1 << 16, 1<<16 + 1, 1 << 32, 1<<32 + 1, 1 << 62, math.MaxInt, -1, -2, -16, -1 << 16, -1 << 32, -1<<32 + 1, math.MinInt, math.MinInt + 1}
}

// P14.1: these may be; each is as it was planned, whatever was written over behind the call.
func TestNew(t *testing.T) {
	for name, p := range good() {
		t.Run(name, func(t *testing.T) {
			boxes, behind, hosts := slices.Clone(p.boxes), slices.Clone(p.behind), slices.Clone(p.hosts)
			w := made(t, boxes, behind, hosts)
			alike(t, w, p)
			for i := range boxes {
				boxes[i], behind[i] = plainBox(77), -1-behind[i]
			}
			for i := range hosts {
				hosts[i] = by(77, 3-hosts[i].Behind)
			}
			alike(t, w, p)
		})
	}
}

// bad: worlds that may not be, each for one thing alone.
func bad() map[string]plan {
	return map[string]plan{
		"17 boxes":                       {boxesOf(numbers(1, 17)...), places(-1, 17), nil},
		"17 boxes, 16 behind one":        {boxesOf(numbers(1, 17)...), append([]int{-1}, places(0, 16)...), nil},
		"17 hosts":                       {nil, nil, sitesOf(-1, numbers(1, 17)...)},
		"17 hosts, 16 behind a box":      {boxesOf(50), []int{-1}, append(sitesOf(0, numbers(1, 16)...), in(1))},
		"many boxes":                     {boxesOf(numbers(1, 272)...), places(-1, 272), nil},
		"many hosts":                     {nil, nil, sitesOf(-1, numbers(1, 272)...)},
		"behind itself":                  {boxesOf(1), []int{0}, nil},
		"the last one behind itself":     {boxesOf(1, 2, 3), []int{-1, -1, 2}, nil},
		"behind a greater number":        {boxesOf(1, 2), []int{1, -1}, nil},
		"behind one two greater":         {boxesOf(1, 2, 3), []int{2, -1, -1}, nil},
		"behind each other":              {boxesOf(1, 2), []int{1, 0}, nil},
		"behind one that is behind":      {boxesOf(1, 2, 3), []int{-1, 0, 1}, nil},
		"behind one behind the second":   {boxesOf(1, 2, 3, 4), []int{-1, -1, 1, 2}, nil},
		"behind the count":               {boxesOf(1, 2), []int{-1, 2}, nil},
		"behind -2":                      {boxesOf(1, 2), []int{-1, -2}, nil},
		"the first one behind -2":        {boxesOf(1), []int{-2}, nil},
		"no place of a box":              {boxesOf(1), nil, nil},
		"a place of no box":              {nil, []int{-1}, nil},
		"a place too many":               {boxesOf(1, 2), []int{-1, -1, -1}, nil},
		"a place too few":                {boxesOf(1, 2), []int{-1}, nil},
		"two hosts alike":                {nil, nil, sitesOf(-1, 9, 9)},
		"the first and the last alike":   {nil, nil, sitesOf(-1, 9, 1, 2, 9)},
		"two hosts alike behind a box":   {boxesOf(1), []int{-1}, sitesOf(0, 9, 9)},
		"two hosts alike behind two":     {boxesOf(1, 2), []int{-1, 0}, sitesOf(1, 9, 9)},
		"two boxes alike":                {boxesOf(9, 9), []int{-1, -1}, nil},
		"two boxes alike behind a box":   {boxesOf(1, 9, 2, 9), []int{-1, 0, 0, 0}, nil},
		"a box like a host":              {boxesOf(9), []int{-1}, sitesOf(-1, 9)},
		"a box like a host behind a box": {boxesOf(1, 9), []int{-1, 0}, sitesOf(0, 9)},
		"the last box like the last one": {boxesOf(1, 2, 9), []int{-1, -1, 1}, []api.Site{by(9, 0), by(9, 2), by(9, 1)}},
		"a host's number 0":              {nil, nil, sitesOf(-1, 0)},
		"a host's number 0 behind a box": {boxesOf(1), []int{-1}, []api.Site{by(1, 0), by(0, 0)}},
		"a box's number 0":               {boxesOf(0), []int{-1}, nil},
		"an inner box's number 0":        {boxesOf(1, 0), []int{-1, 0}, nil},
		"a host behind no box":           {nil, nil, sitesOf(0, 1)},
	}
}

// P14.1: these may not be.
func TestNewNot(t *testing.T) {
	for name, p := range bad() {
		t.Run(name, func(t *testing.T) { madeNot(t, p.boxes, p.behind, p.hosts) })
	}
	for _, behind := range append(noPlaces(2), 2, 3) {
		if behind == -1 {
			continue
		}
		madeNot(t, boxesOf(1, 2), []int{-1, behind}, nil)
		madeNot(t, boxesOf(1, 2), []int{behind, -1}, nil)
		madeNot(t, boxesOf(1, 2), places(-1, 2), sitesOf(behind, 9))
		madeNot(t, boxesOf(1, 2), places(-1, 2), []api.Site{in(9), by(9, 1), by(9, behind)})
	}
}

// P14.1: a box that may not be may not be in a world, wherever it stands.
func TestNewBoxes(t *testing.T) {
	for i, change := range []func(b *api.Box){
		func(b *api.Box) { b.Host = 0 },
		func(b *api.Box) { b.Lo = 0 },
		func(b *api.Box) { b.Hi = 65536 },
		func(b *api.Box) { b.Lo = b.Hi + 1 },
		func(b *api.Box) { b.Map = 3 },
		func(b *api.Box) { b.Map = -1 },
		func(b *api.Box) { b.Filter = 3 },
		func(b *api.Box) { b.Filter = -1 },
		func(b *api.Box) { b.Life = 0 },
		func(b *api.Box) { b.Life = api.MaxTime + 1 },
		func(b *api.Box) { b.Most = 0 },
		func(b *api.Box) { b.Most = api.MaxBindings + 1 },
		func(b *api.Box) { *b = api.Box{} },
	} {
		for where := range 3 {
			boxes := boxesOf(1, 2, 3)
			change(&boxes[where])
			if _, code := nat.New(boxes[where]); code != api.Arg {
				t.Errorf("%d: it may be", i)
			}
			madeNot(t, boxes, []int{-1, -1, -1}, nil)
			madeNot(t, boxes, []int{-1, 0, 0}, sitesOf(-1, 9))
		}
	}
}

// P14.1: a box is one and the same each time; two boxes have nothing in common, and neither have two worlds.
func TestBox(t *testing.T) {
	boxes, behind, hosts := boxesOf(1, 2, 3), []int{-1, 0, -1}, sitesOf(-1, 9)
	w, v := made(t, boxes, behind, hosts), made(t, boxes, behind, hosts)
	for i := range boxes {
		if port, code := w.Box(i).Ask(0, at(9, 5), 4000+i, 9); port != 4000+i || code != api.OK {
			t.Errorf("Ask = %d %d, want %d OK", port, code, 4000+i)
		}
	}
	for i := range boxes {
		if got := w.Box(i).All(0); len(got) != 1 || got[0].Port != 4000+i {
			t.Errorf("box %d has %v", i, got)
		}
		if got := v.Box(i).All(0); len(got) != 0 {
			t.Errorf("the other world's box %d has %v", i, got)
		}
	}
	w.Box(1).Reboot()
	for i, want := range []int{1, 0, 1} {
		if got := len(w.Box(i).All(0)); got != want {
			t.Errorf("box %d has %d bindings, want %d", i, got, want)
		}
	}
}

// P14.1: the hosts are as they were made, whatever was handed in, or answered, is written over, and no two answers share anything.
func TestHosts(t *testing.T) {
	want := []api.Site{in(1), by(2, 0), by(2, 1), in(3), by(5, 2)}
	boxes, behind := boxesOf(7, 8, 9), []int{-1, -1, 1}
	room := append(slices.Clone(want), in(66), in(67))
	hosts := room[:len(want)]
	w := made(t, boxes, behind, hosts)
	one, two := w.Hosts(), w.Hosts()
	for i := range room {
		room[i] = by(99, 0)
	}
	for _, s := range [][]api.Site{one, w.Hosts()} {
		if !slices.Equal(s, want) {
			t.Errorf("Hosts() = %v, want %v", s, want)
		}
	}
	one = one[:cap(one)]
	for i := range one {
		one[i] = by(98, 1)
	}
	one = append(one[:0], in(97))
	if !slices.Equal(two, want) || !slices.Equal(w.Hosts(), want) {
		t.Errorf("Hosts() = %v, and then %v, want %v", two, w.Hosts(), want)
	}
	for i, s := range want {
		if w.Outer(i) != s.Behind {
			t.Errorf("Outer(%d) = %d, want %d", i, w.Outer(i), s.Behind)
		}
	}
	goes(t, w, 0, 0, 5, at(3, 6), 3, at(1, 5), at(3, 6))
	goesNot(t, w, 0, 0, 5, at(99, 6), api.Dropped)
}

// P14.1: what is handed in isn't changed, nor its spare room, be it a world or not, nor by ways through it.
func TestHandedIn(t *testing.T) {
	for _, spare := range []uint32{9, 9000} {
		boxes, behind, hosts := boxesOf(7, 8, 9, spare), []int{-1, -1, 1, 5}, []api.Site{in(1), by(2, 0), by(3, 2), by(4, 6)}
		b, p, h := slices.Clone(boxes), slices.Clone(behind), slices.Clone(hosts)
		w := made(t, b[:3], p[:3], h[:3])
		for i := range 3 {
			w.Way(i, i, 5, at(1, 6))
			w.Way(i, i, 5, at(77, 6))
		}
		w.Hosts()
		madeNot(t, b[:3], p[:3], h)
		madeNot(t, b, p, h[:3])
		madeNot(t, b[:2], p[:3], h[:3])
		if !slices.Equal(b, boxes) || !slices.Equal(p, behind) || !slices.Equal(h, hosts) {
			t.Errorf("%v %v %v became %v %v %v", boxes, behind, hosts, b, p, h)
		}
	}
}
