package nat

import (
	"maps"
	"math"
	"slices"
	"testing"

	"embrasure/api"
)

// The ways to map, and to filter.
var ways = []int{api.ByNothing, api.ByHost, api.ByAddr}

// Some who are inside, and others.
var (
	in    = api.Addr{Host: 0x0a000001, Port: 5}
	in2   = api.Addr{Host: 0x0a000002, Port: 5}
	in3   = api.Addr{Host: 0x0a000001, Port: 6}
	to    = api.Addr{Host: 0x08080808, Port: 53}
	near  = api.Addr{Host: 0x08080808, Port: 54} // to's host
	far   = api.Addr{Host: 0x08080404, Port: 53} // to's port
	never = api.Addr{Host: 0x01010101, Port: 99} // nobody sends there
)

// badTimes: such as are no times, some of them times when they are cut.
var badTimes = []int{-1, -2, -api.MaxTime, math.MinInt, math.MinInt + 1, -1 << 32, api.MaxTime + 1, api.MaxTime + 2, 2 * api.MaxTime, 1<<48 + 50, 1<<62 + 50, math.MaxInt}

// badAddrs: such as are no addresses, some of them addresses when they are cut.
var badAddrs = []api.Addr{
	{}, {Host: 0, Port: 1}, {Host: 0, Port: 65535}, {Host: 1, Port: 0}, {Host: 1, Port: -1}, {Host: 1, Port: 65536}, {Host: 1, Port: 65537}, {Host: 1, Port: 1<<32 + 1}, {Host: 1, Port: math.MaxInt}, {Host: 1, Port: math.MinInt}, {Host: math.MaxUint32, Port: 65536},
}

// boxOf: a box with these ports, 40000 to 40009, a life of 10, and up to 8 bindings.
func boxOf(mapped, filter int) api.Box {
	return api.Box{Host: 0xcb007101, Lo: 40000, Hi: 40009, Map: mapped, Filter: filter, Life: 10, Most: 8}
}

// made: a new box.
func made(t *testing.T, b api.Box) *Nat {
	t.Helper()
	n, code := New(b)
	if n == nil || code != api.OK {
		t.Fatalf("New(%v) = %v %d, want a box, OK", b, n, code)
	}
	return n
}

// outs: that something goes out by this port.
func outs(t *testing.T, n *Nat, now int, in, to api.Addr, port int) {
	t.Helper()
	want := api.Addr{Host: n.Box().Host, Port: port}
	if a, code := n.Out(now, in, to); a != want || code != api.OK {
		t.Errorf("Out(%d, %v, %v) = %v %d, want %v OK", now, in, to, a, code, want)
	}
}

// outsNot: that it doesn't go out, with this code.
func outsNot(t *testing.T, n *Nat, now int, in, to api.Addr, want api.Code) {
	t.Helper()
	if a, code := n.Out(now, in, to); a != (api.Addr{}) || code != want {
		t.Errorf("Out(%d, %v, %v) = %v %d, want none %d", now, in, to, a, code, want)
	}
}

// comes: that something comes to this one.
func comes(t *testing.T, n *Nat, now, port int, from, want api.Addr) {
	t.Helper()
	if a, code := n.In(now, port, from); a != want || code != api.OK {
		t.Errorf("In(%d, %d, %v) = %v %d, want %v OK", now, port, from, a, code, want)
	}
}

// comesNot: that it doesn't come to anybody, with this code.
func comesNot(t *testing.T, n *Nat, now, port int, from api.Addr, want api.Code) {
	t.Helper()
	if a, code := n.In(now, port, from); a != (api.Addr{}) || code != want {
		t.Errorf("In(%d, %d, %v) = %v %d, want none %d", now, port, from, a, code, want)
	}
}

// asks: that one is given this port.
func asks(t *testing.T, n *Nat, now int, in api.Addr, wish, until, want int) {
	t.Helper()
	if port, code := n.Ask(now, in, wish, until); port != want || code != api.OK {
		t.Errorf("Ask(%d, %v, %d, %d) = %d %d, want %d OK", now, in, wish, until, port, code, want)
	}
}

// asksNot: that one is given none, with this code.
func asksNot(t *testing.T, n *Nat, now int, in api.Addr, wish, until int, want api.Code) {
	t.Helper()
	if port, code := n.Ask(now, in, wish, until); port != 0 || code != want {
		t.Errorf("Ask(%d, %v, %d, %d) = %d %d, want 0 %d", now, in, wish, until, port, code, want)
	}
}

// drops: whether one had a binding that was asked for.
func drops(t *testing.T, n *Nat, now int, in api.Addr, want bool) {
	t.Helper()
	if had := n.Drop(now, in); had != want {
		t.Errorf("Drop(%d, %v) = %v, want %v", now, in, had, want)
	}
}

// holds: that a box has these bindings, which are in order, and no others.
func holds(t *testing.T, n *Nat, now int, want ...api.Binding) {
	t.Helper()
	if got := n.All(now); !slices.Equal(got, want) {
		t.Errorf("All(%d) = %v, want %v", now, got, want)
	}
}

// toOf: towards whom a binding is.
func toOf(to api.Addr, mapped int) api.Addr {
	return []api.Addr{{}, {Host: to.Host}, to}[mapped]
}

// many: an address outside, one of many, each with a host of its own.
func many(i int) api.Addr { return api.Addr{Host: 0x02000000 + uint32(i), Port: 1000 + i} }

// inner: an address inside, one of many, each with a host of its own.
func inner(i int) api.Addr { return api.Addr{Host: 0x0a010000 + uint32(i), Port: 7} }

// P8.2: the chapter's example.
func TestWrittenOut(t *testing.T) {
	n := made(t, api.Box{Host: 9, Lo: 40000, Hi: 65535, Map: api.ByNothing, Filter: api.ByHost, Life: 30, Most: 100})
	outs(t, n, 0, in, to, 40000)
	comes(t, n, 0, 40000, to, in)
	comes(t, n, 1, 40000, near, in)
	comesNot(t, n, 1, 40000, far, api.Dropped)
	holds(t, n, 2, api.Binding{In: in, Port: 40000, Until: 30})
}

// changed: a box that is a bit other than a plain one.
func changed(change func(b *api.Box)) api.Box {
	b := boxOf(api.ByNothing, api.ByNothing)
	change(&b)
	return b
}

// boxes: the edges, and each way to map and to filter.
func boxes() []api.Box {
	all := []api.Box{
		changed(func(b *api.Box) { b.Host = 1 }),
		changed(func(b *api.Box) { b.Host = math.MaxUint32 }),
		changed(func(b *api.Box) { b.Lo, b.Hi = 1, 65535 }),
		changed(func(b *api.Box) { b.Lo, b.Hi = 1, 1 }),
		changed(func(b *api.Box) { b.Lo, b.Hi = 65535, 65535 }),
		changed(func(b *api.Box) { b.Lo, b.Hi = 40000, 40000 }),
		changed(func(b *api.Box) { b.Lo, b.Hi = 65534, 65535 }),
		changed(func(b *api.Box) { b.Life = 1 }),
		changed(func(b *api.Box) { b.Life = api.MaxTime }),
		changed(func(b *api.Box) { b.Life = api.MaxTime - 1 }),
		changed(func(b *api.Box) { b.Most = 1 }),
		changed(func(b *api.Box) { b.Most = api.MaxBindings }),
		changed(func(b *api.Box) { b.Most = api.MaxBindings - 1 }),
	}
	for _, mapped := range ways {
		for _, filter := range ways {
			all = append(all, boxOf(mapped, filter))
		}
	}
	return all
}

// notBoxes: one below the edges, one above them, and such as are boxes only when they are cut.
func notBoxes() []api.Box {
	all := []api.Box{
		{},
		changed(func(b *api.Box) { b.Host = 0 }),
		changed(func(b *api.Box) { b.Lo, b.Hi = 2, 1 }),
		changed(func(b *api.Box) { b.Lo, b.Hi = 40001, 40000 }),
		changed(func(b *api.Box) { b.Lo, b.Hi = 65535, 1 }),
		changed(func(b *api.Box) { b.Lo, b.Hi = 65535, 65534 }),
		changed(func(b *api.Box) { b.Lo, b.Hi = 0, 0 }),
		changed(func(b *api.Box) { b.Lo, b.Hi = 65536, 65536 }),
		changed(func(b *api.Box) { b.Lo, b.Hi = -5, -1 }),
	}
	for _, port := range []int{0, -1, 65536, 65537, 1<<16 + 40005, 1<<32 + 40005, 1<<62 + 40005, math.MinInt, math.MaxInt} {
		all = append(all, changed(func(b *api.Box) { b.Lo = port }), changed(func(b *api.Box) { b.Hi = port }))
	}
	for _, way := range []int{-1, 3, 4, 256, 257, -256, 1 << 32, 1<<32 + 1, math.MinInt, math.MaxInt} {
		all = append(all, changed(func(b *api.Box) { b.Map = way }), changed(func(b *api.Box) { b.Filter = way }))
	}
	for _, life := range append(badTimes, 0) {
		all = append(all, changed(func(b *api.Box) { b.Life = life }))
	}
	for _, most := range []int{0, -1, -100, api.MaxBindings + 1, 256, 257, 1<<32 + 1, math.MinInt, math.MaxInt} {
		all = append(all, changed(func(b *api.Box) { b.Most = most }))
	}
	return all
}

// P8.1: a box is made as it is told, and has no bindings.
func TestNew(t *testing.T) {
	for _, b := range boxes() {
		n := made(t, b)
		if got := n.Box(); got != b {
			t.Errorf("Box() = %v, want %v", got, b)
		}
		holds(t, n, 0)
		comesNot(t, n, 0, b.Lo, to, api.Dropped)
		drops(t, n, 0, in, false)
		outs(t, n, 0, api.Addr{Host: 1, Port: b.Hi}, to, b.Hi)
		if got := n.Box(); got != b {
			t.Errorf("Box() = %v behind calls, want %v", got, b)
		}
	}
}

// P8.1: what isn't a box is Arg, and there is none beside it.
func TestNewArg(t *testing.T) {
	for _, b := range notBoxes() {
		if n, code := New(b); n != nil || code != api.Arg {
			t.Errorf("New(%v) = %v %d, want none Arg", b, n, code)
		}
	}
}

// P8.1: two boxes that are made alike have nothing in common.
func TestTwoBoxes(t *testing.T) {
	a, b := made(t, boxOf(0, 0)), made(t, boxOf(0, 0))
	outs(t, a, 9, in, to, 40000)
	asks(t, a, 9, in2, 1, 20, 40001)
	holds(t, b, 0)
	outs(t, b, 0, in2, far, 40000)
	b.Reboot()
	holds(t, a, 9, api.Binding{In: in, Port: 40000, Until: 19}, api.Binding{In: in2, Port: 40001, Until: 20, Asked: true})
}

// P8.1: behind a reboot there are no bindings, whether they were asked for or not, nor is anybody seen; nor is there a time, so that one below that of the call ahead may come.
func TestReboot(t *testing.T) {
	b := boxOf(api.ByAddr, api.ByAddr)
	n := made(t, b)
	n.Reboot()
	holds(t, n, 0)
	for range 3 {
		outs(t, n, 5, in, to, 40000)
		outs(t, n, 5, in, near, 40001)
		asks(t, n, 50, in2, 40005, 90, 40005)
		n.Reboot()
		if got := n.Box(); got != b {
			t.Errorf("Box() = %v behind a reboot, want %v", got, b)
		}
		comesNot(t, n, 4, 40000, to, api.Dropped)
		comesNot(t, n, 4, 40005, to, api.Dropped)
		drops(t, n, 4, in2, false)
		holds(t, n, 4)
		outs(t, n, 4, in, far, 40000)
		comesNot(t, n, 4, 40000, to, api.Dropped)
		comes(t, n, 4, 40000, far, in)
		holds(t, n, 4, api.Binding{In: in, To: far, Port: 40000, Until: 14})
		n.Reboot()
		n.Reboot()
	}
	holds(t, n, api.MaxTime)
	n.Reboot()
	outs(t, n, 0, in, to, 40000)
	outsNot(t, n, -1, in, to, api.Arg)
}

// P8.1: behind a reboot there is room for as many as before, and each wish is free.
func TestRebootRoom(t *testing.T) {
	b := changed(func(b *api.Box) { b.Most, b.Hi = 3, 40002 })
	n := made(t, b)
	for range 3 {
		for i := range 3 {
			outs(t, n, 7, inner(i), to, 40000+i)
		}
		outsNot(t, n, 7, in, to, api.Full)
		n.Reboot()
		asks(t, n, 0, in, 40001, 9, 40001)
		n.Reboot()
	}
}

// P8.2, P8.4: by which port something goes out, as the box maps: towards all one, each host one, or each address one; and towards whom the bindings are told to be.
func TestMapped(t *testing.T) {
	for _, filter := range ways {
		for mapped, ports := range [][]int{{40000, 40000, 40000}, {40000, 40000, 40001}, {40000, 40001, 40002}} {
			n := made(t, boxOf(mapped, filter))
			for now := range 3 {
				outs(t, n, now, in, to, ports[0])
				outs(t, n, now, in, near, ports[1])
				outs(t, n, now, in, far, ports[2])
			}
			want := []api.Binding{
				{In: in, To: toOf(to, mapped), Port: ports[0], Until: 12},
				{In: in, To: toOf(near, mapped), Port: ports[1], Until: 12},
				{In: in, To: toOf(far, mapped), Port: ports[2], Until: 12},
			}
			holds(t, n, 2, slices.Compact(want)...)
		}
	}
}

// P8.2: two who are inside have each a binding of their own, be it that they have one host, or one port.
func TestTwoInside(t *testing.T) {
	for _, mapped := range ways {
		for _, filter := range ways {
			n := made(t, boxOf(mapped, filter))
			outs(t, n, 0, in, to, 40000)
			outs(t, n, 1, in2, to, 40001)
			outs(t, n, 2, in3, to, 40002)
			outs(t, n, 3, in, to, 40000)
			outs(t, n, 3, in2, to, 40001)
			comes(t, n, 3, 40000, to, in)
			comes(t, n, 3, 40001, to, in2)
			comes(t, n, 3, 40002, to, in3)
			who := toOf(to, mapped)
			holds(t, n, 3, api.Binding{In: in, To: who, Port: 40000, Until: 13}, api.Binding{In: in2, To: who, Port: 40001, Until: 13}, api.Binding{In: in3, To: who, Port: 40002, Until: 12})
		}
	}
}

// P8.2: who is let in, as the box filters: everybody, those of a host that is seen, or those that are seen.
func TestFiltered(t *testing.T) {
	for _, mapped := range ways {
		for filter, let := range [][]api.Addr{{to, near, far, never, in}, {to, near}, {to}} {
			n := made(t, boxOf(mapped, filter))
			outs(t, n, 0, in, to, 40000)
			for now := range 3 {
				for _, from := range []api.Addr{to, near, far, never, in} {
					if slices.Contains(let, from) {
						comes(t, n, now, 40000, from, in)
						continue
					}
					comesNot(t, n, now, 40000, from, api.Dropped)
				}
				comesNot(t, n, now, 40001, to, api.Dropped)
				comesNot(t, n, now, 39999, to, api.Dropped)
			}
			holds(t, n, 2, api.Binding{In: in, To: toOf(to, mapped), Port: 40000, Until: 10})
		}
	}
}

// P8.2: who is seen by one binding isn't by another one, be it the same one's.
func TestSeenByOne(t *testing.T) {
	for _, filter := range []int{api.ByHost, api.ByAddr} {
		n := made(t, boxOf(api.ByAddr, filter))
		outs(t, n, 0, in, to, 40000)
		outs(t, n, 0, in, far, 40001)
		outs(t, n, 0, in2, never, 40002)
		comes(t, n, 0, 40000, to, in)
		comes(t, n, 0, 40001, far, in)
		comes(t, n, 0, 40002, never, in2)
		comesNot(t, n, 0, 40000, far, api.Dropped)
		comesNot(t, n, 0, 40001, to, api.Dropped)
		comesNot(t, n, 0, 40000, never, api.Dropped)
		comesNot(t, n, 0, 40002, to, api.Dropped)
	}
}

// P8.2: a port that is no port, or nobody's, drops what comes, whatever number it is.
func TestInPorts(t *testing.T) {
	n := made(t, changed(func(b *api.Box) { b.Lo, b.Hi = 1, 65535 }))
	outs(t, n, 0, api.Addr{Host: 7, Port: 1}, to, 1)
	outs(t, n, 0, api.Addr{Host: 7, Port: 65535}, to, 65535)
	outs(t, n, 0, in, to, 5)
	for _, port := range []int{0, -1, 2, 4, 6, 65534, 65536, 65537, 65541, 1<<32 + 5, 1<<62 + 5, -5, math.MinInt, math.MaxInt} {
		comesNot(t, n, 0, port, to, api.Dropped)
	}
	comes(t, n, 0, 5, to, in)
	comes(t, n, 0, 1, to, api.Addr{Host: 7, Port: 1})
	comes(t, n, 0, 65535, to, api.Addr{Host: 7, Port: 65535})
}

// P8.2: the port of who sends is the wish: it is taken as it is, if it is from Lo to Hi and free, else the least that is free.
func TestOutWish(t *testing.T) {
	n := made(t, changed(func(b *api.Box) { b.Most = 100 }))
	for i, c := range []struct{ wish, port int }{
		{40005, 40005}, // free
		{40005, 40000}, // taken
		{40000, 40001}, // taken
		{39999, 40002}, // below Lo
		{40010, 40003}, // above Hi
		{40009, 40009}, // Hi
		{1, 40004},
		{65535, 40006},
		{40008, 40008},
		{40008, 40007},
	} {
		outs(t, n, 0, api.Addr{Host: uint32(100 + i), Port: c.wish}, to, c.port)
	}
	for _, wish := range []int{1, 39999, 40000, 40005, 40009, 40010, 65535} {
		outsNot(t, n, 0, api.Addr{Host: 99, Port: wish}, to, api.Full)
	}
	n = made(t, boxOf(0, 0))
	outs(t, n, 0, api.Addr{Host: 1, Port: 40000}, to, 40000)
	outs(t, n, 0, api.Addr{Host: 2, Port: 7}, to, 40001)
}

// P8.2: at its end a binding is gone, one tick ahead of it isn't; then its port is free again, and who sends has a new one.
func TestLife(t *testing.T) {
	for _, mapped := range ways {
		for _, filter := range ways {
			n := made(t, boxOf(mapped, filter))
			outs(t, n, 3, in, to, 40000)
			outs(t, n, 4, in2, to, 40001)
			want := []api.Binding{{In: in, To: toOf(to, mapped), Port: 40000, Until: 13}, {In: in2, To: toOf(to, mapped), Port: 40001, Until: 14}}
			comes(t, n, 12, 40000, to, in)
			holds(t, n, 12, want...)
			comesNot(t, n, 13, 40000, to, api.Dropped)
			comes(t, n, 13, 40001, to, in2)
			holds(t, n, 13, want[1:]...)
			comesNot(t, n, 14, 40001, to, api.Dropped)
			holds(t, n, 14)
			outs(t, n, 14, in2, to, 40000)
			comes(t, n, 14, 40000, to, in2)
			comesNot(t, n, 14, 40001, to, api.Dropped)
		}
	}
}

// P8.2: what goes out prolongs a binding, what comes in doesn't, nor what is told of it.
func TestProlonged(t *testing.T) {
	n := made(t, boxOf(api.ByHost, api.ByHost))
	outs(t, n, 0, in, to, 40000)
	outs(t, n, 0, in, far, 40001)
	outs(t, n, 9, in, near, 40000)
	holds(t, n, 9, api.Binding{In: in, To: toOf(to, 1), Port: 40000, Until: 19}, api.Binding{In: in, To: toOf(far, 1), Port: 40001, Until: 10})
	for now := 10; now < 19; now++ {
		comes(t, n, now, 40000, to, in)
		comesNot(t, n, now, 40001, far, api.Dropped)
	}
	comesNot(t, n, 19, 40000, to, api.Dropped)
}

// P8.2: at its end a binding is gone for who sends, too: they are seen, and mapped, from the beginning on.
func TestAnew(t *testing.T) {
	n := made(t, boxOf(api.ByNothing, api.ByAddr))
	outs(t, n, 0, inner(0), to, 40000)
	outs(t, n, 1, in, to, 40001)
	outs(t, n, 2, in, far, 40001)
	outs(t, n, 12, in, far, 40000)
	comes(t, n, 12, 40000, far, in)
	comesNot(t, n, 12, 40000, to, api.Dropped)
	holds(t, n, 12, api.Binding{In: in, Port: 40000, Until: 22})
}

// P8.2: a life that would end behind MaxTime ends at it.
func TestLastEnd(t *testing.T) {
	const top = api.MaxTime
	for _, c := range []struct{ life, now, until int }{
		{10, top - 11, top - 1}, {10, top - 10, top}, {10, top - 9, top}, {10, top - 1, top},
		{top, 0, top}, {top, 1, top}, {top, top - 1, top}, {top - 1, 0, top - 1}, {top - 1, 1, top}, {top - 1, 2, top}, {1, top - 1, top}, {1, top - 2, top - 1},
	} {
		n := made(t, changed(func(b *api.Box) { b.Life = c.life }))
		outs(t, n, c.now, in, to, 40000)
		holds(t, n, c.now, api.Binding{In: in, Port: 40000, Until: c.until})
		comes(t, n, c.until-1, 40000, to, in)
		comesNot(t, n, c.until, 40000, to, api.Dropped)
		holds(t, n, c.until)
	}
}

// P8.2: what goes out at MaxTime goes, but by a binding whose end has come; it takes no room from anybody.
func TestOutAtTheEnd(t *testing.T) {
	n := made(t, changed(func(b *api.Box) { b.Most = 1 }))
	for i := range 3 {
		outs(t, n, api.MaxTime, inner(i), to, 40000)
		comesNot(t, n, api.MaxTime, 40000, to, api.Dropped)
		holds(t, n, api.MaxTime)
	}
	asksNot(t, n, api.MaxTime, in, 1, api.MaxTime, api.Arg)
}

// lets: that these are let in, by their numbers, and of the first so many no others.
func lets(t *testing.T, n *Nat, now, port, all int, want ...int) {
	t.Helper()
	for i := range all {
		_, code := n.In(now, port, many(i))
		if (code == api.OK) != slices.Contains(want, i) {
			t.Errorf("In(%d, %d, %d of many) = %d, want OK of %v alone", now, port, i, code, want)
		}
	}
}

// P8.2: sixteen are seen; for a seventeenth the one goes that was sent to longest ago; one that is sent to again is the last one.
func TestSeen(t *testing.T) {
	for _, filter := range []int{api.ByHost, api.ByAddr} {
		n := made(t, boxOf(api.ByNothing, filter))
		send := func(i int) { outs(t, n, 0, in, many(i), 40000) }
		for i := range 16 {
			send(i)
		}
		lets(t, n, 0, 40000, 20, 0, 1, 2, 3, 4, 5, 6, 7, 8, 9, 10, 11, 12, 13, 14, 15)
		for i := range 16 {
			send(i)
		}
		lets(t, n, 0, 40000, 20, 0, 1, 2, 3, 4, 5, 6, 7, 8, 9, 10, 11, 12, 13, 14, 15)
		send(16)
		lets(t, n, 0, 40000, 20, 1, 2, 3, 4, 5, 6, 7, 8, 9, 10, 11, 12, 13, 14, 15, 16)
		send(1)
		send(17)
		lets(t, n, 0, 40000, 20, 1, 3, 4, 5, 6, 7, 8, 9, 10, 11, 12, 13, 14, 15, 16, 17)
		send(9)
		send(0)
		lets(t, n, 0, 40000, 20, 0, 1, 4, 5, 6, 7, 8, 9, 10, 11, 12, 13, 14, 15, 16, 17)
		for range 20 {
			send(0)
		}
		lets(t, n, 0, 40000, 20, 0, 1, 4, 5, 6, 7, 8, 9, 10, 11, 12, 13, 14, 15, 16, 17)
		for _, i := range []int{4, 5, 6, 2, 3} {
			send(i)
		}
		lets(t, n, 0, 40000, 20, 0, 1, 2, 3, 4, 5, 6, 9, 10, 11, 12, 13, 14, 15, 16, 17)
	}
}

// P8.2: those who come aren't seen by that: what one receives doesn't put them last.
func TestSeenNotByIn(t *testing.T) {
	n := made(t, boxOf(api.ByNothing, api.ByAddr))
	for i := range 16 {
		outs(t, n, 0, in, many(i), 40000)
	}
	comes(t, n, 0, 40000, many(0), in)
	comesNot(t, n, 0, 40000, many(16), api.Dropped)
	outs(t, n, 0, in, many(16), 40000)
	comesNot(t, n, 0, 40000, many(0), api.Dropped)
	lets(t, n, 0, 40000, 20, 1, 2, 3, 4, 5, 6, 7, 8, 9, 10, 11, 12, 13, 14, 15, 16)
}

// P8.2: addresses are seen, not hosts: those of one host have a place each, and it is let in while one of them is there.
func TestSeenOfOneHost(t *testing.T) {
	n := made(t, boxOf(api.ByHost, api.ByHost))
	for i := range 16 {
		outs(t, n, 0, in, api.Addr{Host: to.Host, Port: 100 + i}, 40000)
	}
	comes(t, n, 0, 40000, to, in)
	n = made(t, boxOf(api.ByNothing, api.ByHost))
	outs(t, n, 0, in, far, 40000)
	for i := range 15 {
		outs(t, n, 0, in, api.Addr{Host: to.Host, Port: 100 + i}, 40000)
	}
	comes(t, n, 0, 40000, far, in)
	outs(t, n, 0, in, api.Addr{Host: to.Host, Port: 115}, 40000)
	comesNot(t, n, 0, 40000, far, api.Dropped)
	for i := range 15 {
		outs(t, n, 0, in, many(i), 40000)
	}
	comes(t, n, 0, 40000, to, in)
	outs(t, n, 0, in, many(15), 40000)
	comesNot(t, n, 0, 40000, to, api.Dropped)
}

// P8.2: as many bindings as there may be, and one more, which is Full and takes nothing; those that are there go on, and behind the end of one there is room for one.
func TestMost(t *testing.T) {
	for _, most := range []int{1, 2, 99, 100} {
		n := made(t, api.Box{Host: 9, Lo: 100, Hi: 65535, Map: api.ByAddr, Filter: api.ByAddr, Life: 1000, Most: most})
		var want []api.Binding
		for i := range most {
			own := api.Addr{Host: 7, Port: 100 + i}
			outs(t, n, i, own, to, 100+i)
			want = append(want, api.Binding{In: own, To: to, Port: 100 + i, Until: 1000 + i})
		}
		for _, now := range []int{most, 998, 999} {
			outsNot(t, n, now, in, to, api.Full)
			outsNot(t, n, now, want[0].In, far, api.Full)
			asksNot(t, n, now, want[0].In, 60000, 5000, api.Full)
			asksNot(t, n, now, in, 60000, 5000, api.Full)
			comes(t, n, now, 100, to, want[0].In)
			comesNot(t, n, now, 100, far, api.Dropped)
			holds(t, n, now, want...)
		}
		outs(t, n, 1000, in, far, 100)
		outsNot(t, n, 1000, in, to, api.Full)
		outs(t, n, 1000, in, far, 100)
	}
}

// P8.2: no port is free: Full, however many there may be; a binding that was asked for takes its port and its place, too.
func TestNoPort(t *testing.T) {
	n := made(t, changed(func(b *api.Box) { b.Hi = 40002 }))
	outs(t, n, 0, inner(0), to, 40000)
	asks(t, n, 0, inner(0), 40000, 5, 40001)
	outs(t, n, 0, inner(1), to, 40002)
	outsNot(t, n, 0, inner(2), to, api.Full)
	asksNot(t, n, 0, inner(1), 40001, 9, api.Full)
	asksNot(t, n, 4, inner(2), 50000, 9, api.Full)
	asks(t, n, 5, inner(2), 50000, 9, 40001)
	n = made(t, changed(func(b *api.Box) { b.Lo, b.Hi = 65535, 65535 }))
	outs(t, n, 0, in, to, 65535)
	outsNot(t, n, 0, in2, to, api.Full)
	n = made(t, changed(func(b *api.Box) { b.Lo, b.Hi = 1, 1 }))
	outs(t, n, 0, in, to, 1)
	asksNot(t, n, 0, in2, 1, 9, api.Full)
}

// P8.2, P8.3: an address that is none is Arg, whether there would be room or not, and changes no binding; Drop has nothing for such a one.
func TestNoAddress(t *testing.T) {
	for _, b := range []api.Box{boxOf(0, 0), changed(func(b *api.Box) { b.Most = 2 }), boxOf(2, 2)} {
		n := made(t, b)
		outs(t, n, 0, in, to, 40000)
		asks(t, n, 0, in2, 40005, 9, 40005)
		had := n.All(0)
		for _, bad := range badAddrs {
			outsNot(t, n, 0, bad, to, api.Arg)
			outsNot(t, n, 0, in, bad, api.Arg)
			outsNot(t, n, 0, in2, bad, api.Arg)
			outsNot(t, n, 0, bad, bad, api.Arg)
			comesNot(t, n, 0, 40000, bad, api.Arg)
			comesNot(t, n, 0, 40005, bad, api.Arg)
			comesNot(t, n, 0, 1, bad, api.Arg)
			asksNot(t, n, 0, bad, 40001, 9, api.Arg)
			drops(t, n, 0, bad, false)
			holds(t, n, 0, had...)
		}
		comes(t, n, 0, 40000, to, in)
	}
}

// P8.2: what is refused isn't seen: sixteen stay as they were.
func TestRefusedUnseen(t *testing.T) {
	n := made(t, boxOf(api.ByNothing, api.ByAddr))
	for i := range 16 {
		outs(t, n, 5, in, many(i), 40000)
	}
	for _, bad := range badAddrs {
		outsNot(t, n, 5, in, bad, api.Arg)
	}
	for _, now := range append(badTimes, 4) {
		outsNot(t, n, now, in, many(16), api.Arg)
	}
	lets(t, n, 5, 40000, 20, 0, 1, 2, 3, 4, 5, 6, 7, 8, 9, 10, 11, 12, 13, 14, 15)
	holds(t, n, 5, api.Binding{In: in, Port: 40000, Until: 15})
}

// P8.1 to P8.3: a time that is none, or below that of the call ahead, is Arg, or nothing, and changes nothing: no binding, and not the time.
func TestBadTimes(t *testing.T) {
	for _, b := range []api.Box{boxOf(0, 0), boxOf(2, 2)} {
		n := made(t, b)
		outs(t, n, 50, in, to, 40000)
		asks(t, n, 50, in2, 40005, 90, 40005)
		had := n.All(50)
		for _, now := range append(badTimes, 0, 1, 48, 49) {
			outsNot(t, n, now, in, to, api.Arg)
			outsNot(t, n, now, in3, to, api.Arg)
			comesNot(t, n, now, 40000, to, api.Arg)
			comesNot(t, n, now, 40001, to, api.Arg)
			asksNot(t, n, now, in2, 40005, 99, api.Arg)
			asksNot(t, n, now, in3, 40006, 99, api.Arg)
			asksNot(t, n, now, in3, 40006, now+1, api.Arg)
			drops(t, n, now, in2, false)
			holds(t, n, now)
			holds(t, n, 50, had...)
		}
		comes(t, n, 50, 40000, to, in)
	}
}

// P8.1: a new box has no time: 0 may be its first one, and MaxTime, behind which there is none but it.
func TestTimeEdges(t *testing.T) {
	n := made(t, boxOf(0, 0))
	for _, now := range badTimes {
		outsNot(t, n, now, in, to, api.Arg)
		holds(t, n, now)
	}
	holds(t, n, 0)
	holds(t, n, api.MaxTime)
	comesNot(t, n, api.MaxTime-1, 40000, to, api.Arg)
	comesNot(t, n, 0, 40000, to, api.Arg)
	comesNot(t, n, api.MaxTime, 40000, to, api.Dropped)
}

// P8.2, P8.3: the time is that of the call ahead, whichever call it was, and whatever it answered, if only its time might be.
func TestTimeGoesOn(t *testing.T) {
	for name, call := range map[string]func(n *Nat, now int){
		"Out":         func(n *Nat, now int) { outs(t, n, now, in, to, 40000) },
		"Out, Arg":    func(n *Nat, now int) { outsNot(t, n, now, in, api.Addr{}, api.Arg) },
		"Out, Full":   func(n *Nat, now int) { outsNot(t, n, now, in3, to, api.Full) },
		"In":          func(n *Nat, now int) { comes(t, n, now, 40005, to, in2) },
		"In, Arg":     func(n *Nat, now int) { comesNot(t, n, now, 40005, api.Addr{}, api.Arg) },
		"In, Dropped": func(n *Nat, now int) { comesNot(t, n, now, 40006, to, api.Dropped) },
		"Ask":         func(n *Nat, now int) { asks(t, n, now, in2, 1, now+1, 40005) },
		"Ask, Arg":    func(n *Nat, now int) { asksNot(t, n, now, in2, 1, now, api.Arg) },
		"Ask, Full":   func(n *Nat, now int) { asksNot(t, n, now, in3, 1, now+1, api.Full) },
		"Drop":        func(n *Nat, now int) { drops(t, n, now, in2, true) },
		"Drop, none":  func(n *Nat, now int) { drops(t, n, now, in3, false) },
		"All":         func(n *Nat, now int) { n.All(now) },
	} {
		for _, now := range []int{20, 1 << 32, api.MaxTime - 2} {
			n := made(t, changed(func(b *api.Box) { b.Life, b.Most = api.MaxTime, 2 }))
			outs(t, n, 10, in, to, 40000)
			asks(t, n, 10, in2, 40005, api.MaxTime, 40005)
			call(n, now)
			if _, code := n.In(now-1, 40000, to); code != api.Arg {
				t.Errorf("%s at %d: a call at %d = %d, want Arg", name, now, now-1, code)
			}
			if _, code := n.In(now, 40000, to); code != api.OK {
				t.Errorf("%s at %d: a call then = %d, want OK", name, now, code)
			}
		}
	}
}

// P8.3: a binding that is asked for: by the port that is chosen for the wish, towards nobody, till until.
func TestAsk(t *testing.T) {
	for _, mapped := range ways {
		for _, filter := range ways {
			n := made(t, boxOf(mapped, filter))
			asks(t, n, 3, in, 40005, 50, 40005)
			holds(t, n, 3, api.Binding{In: in, Port: 40005, Until: 50, Asked: true})
			for _, from := range []api.Addr{to, near, far, never, in, in2} {
				comes(t, n, 3, 40005, from, in)
				comes(t, n, 49, 40005, from, in)
				n.Reboot()
				asks(t, n, 3, in, 40005, 50, 40005)
			}
			comes(t, n, 49, 40005, never, in)
			comesNot(t, n, 50, 40005, never, api.Dropped)
			holds(t, n, 50)
		}
	}
}

// P8.3: a wish that is free, taken by either kind, below Lo, above Hi, or no port at all.
func TestAskWish(t *testing.T) {
	n := made(t, changed(func(b *api.Box) { b.Most = 100 }))
	outs(t, n, 0, api.Addr{Host: 5, Port: 40001}, to, 40001)
	for i, c := range []struct{ wish, port int }{
		{40005, 40005}, {40005, 40000}, {40001, 40002}, {39999, 40003}, {40010, 40004}, {40009, 40009}, {0, 40006}, {-1, 40007}, {math.MaxInt, 40008},
	} {
		asks(t, n, 0, inner(i), c.wish, 9, c.port)
	}
	for _, wish := range []int{0, -1, 40005, 65536, 65535, math.MinInt} {
		asksNot(t, n, 0, in, wish, 9, api.Full)
	}
	for _, wish := range []int{0, -1, -40005, 1, 39999, 40010, 65535, 65536, 1<<16 + 40005, 1<<32 + 40005, 1<<62 + 40005, math.MinInt, math.MaxInt} {
		asks(t, made(t, boxOf(0, 0)), 0, in, wish, 9, 40000)
	}
}

// P8.3: until is above now, to MaxTime; what isn't is Arg, and leaves things as they were, whether there is a binding already or not.
func TestAskUntil(t *testing.T) {
	for _, until := range []int{21, 22, 1 << 31, 1 << 32, api.MaxTime - 1, api.MaxTime} {
		n := made(t, boxOf(0, 0))
		asks(t, n, 20, in, 40003, until, 40003)
		comes(t, n, until-1, 40003, never, in)
		comesNot(t, n, until, 40003, never, api.Dropped)
	}
	for _, until := range append(badTimes, 0, 1, 19, 20) {
		n := made(t, boxOf(0, 0))
		asksNot(t, n, 20, in, 40003, until, api.Arg)
		holds(t, n, 20)
		asks(t, n, 20, in, 40003, 30, 40003)
		asksNot(t, n, 20, in, 40003, until, api.Arg)
		asksNot(t, n, 20, in2, 40004, until, api.Arg)
		holds(t, n, 20, api.Binding{In: in, Port: 40003, Until: 30, Asked: true})
		n = made(t, changed(func(b *api.Box) { b.Most = 1 }))
		asks(t, n, 20, in, 40003, 30, 40003)
		asksNot(t, n, 20, in2, 40004, until, api.Arg)
	}
	n := made(t, boxOf(0, 0))
	asks(t, n, api.MaxTime-1, in, 40003, api.MaxTime, 40003)
	asksNot(t, n, api.MaxTime, in, 40003, api.MaxTime, api.Arg)
	holds(t, n, api.MaxTime)
}

// P8.3: who asks again has the port that they have, whatever they wish, till the new time, be it more or less; at its end they have a new one.
func TestAskAgain(t *testing.T) {
	n := made(t, changed(func(b *api.Box) { b.Most = 1 }))
	asks(t, n, 0, in, 40003, 30, 40003)
	for _, until := range []int{40, 40, 11, 500, 100} {
		asks(t, n, 10, in, 40007, until, 40003)
		holds(t, n, 10, api.Binding{In: in, Port: 40003, Until: until, Asked: true})
	}
	asks(t, n, 99, in, 40003, 120, 40003)
	asks(t, n, 120, in, 40007, 121, 40007)
	holds(t, n, 120, api.Binding{In: in, Port: 40007, Until: 121, Asked: true})
}

// P8.3: of one there is one binding that was asked for; others, of that host too, have theirs.
func TestAskOthers(t *testing.T) {
	n := made(t, boxOf(0, 0))
	asks(t, n, 0, in, 40003, 30, 40003)
	asks(t, n, 0, in2, 40003, 31, 40000)
	asks(t, n, 0, in3, 40002, 32, 40002)
	asks(t, n, 0, in, 40009, 33, 40003)
	holds(t, n, 0, api.Binding{In: in2, Port: 40000, Until: 31, Asked: true}, api.Binding{In: in3, Port: 40002, Until: 32, Asked: true}, api.Binding{In: in, Port: 40003, Until: 33, Asked: true})
}

// P8.2: what goes out goes by the binding that was asked for, to whomever, as long as there is one; that isn't prolonged by it.
func TestOutByAsked(t *testing.T) {
	for _, mapped := range ways {
		for _, filter := range ways {
			n := made(t, changed(func(b *api.Box) { b.Map, b.Filter, b.Most = mapped, filter, 1 }))
			asks(t, n, 0, in, 40003, 30, 40003)
			for now := range 30 {
				outs(t, n, now, in, []api.Addr{to, near, far}[now%3], 40003)
			}
			holds(t, n, 29, api.Binding{In: in, Port: 40003, Until: 30, Asked: true})
			outs(t, n, 30, in, to, 40000)
			comes(t, n, 30, 40000, to, in)
			if filter != api.ByNothing {
				comesNot(t, n, 30, 40000, far, api.Dropped)
			}
			holds(t, n, 30, api.Binding{In: in, To: toOf(to, mapped), Port: 40000, Until: 40})
		}
	}
}

// P8.2, P8.3: one who sent, and then asks, has both bindings; what they send goes by the one that was asked for, and doesn't prolong the other one, nor is anybody seen by that; without it, it goes by the other one again.
func TestBoth(t *testing.T) {
	for _, mapped := range ways {
		n := made(t, changed(func(b *api.Box) { b.Map, b.Filter, b.Life = mapped, api.ByAddr, 100 }))
		outs(t, n, 0, in, to, 40000)
		asks(t, n, 5, in, 40000, 50, 40001)
		outs(t, n, 6, in, to, 40001)
		outs(t, n, 6, in, far, 40001)
		who := toOf(to, mapped)
		holds(t, n, 6, api.Binding{In: in, To: who, Port: 40000, Until: 100}, api.Binding{In: in, Port: 40001, Until: 50, Asked: true})
		comes(t, n, 6, 40001, never, in)
		comes(t, n, 6, 40000, to, in)
		comesNot(t, n, 6, 40000, far, api.Dropped)
		outs(t, n, 49, in, to, 40001)
		outs(t, n, 50, in, to, 40000)
		holds(t, n, 50, api.Binding{In: in, To: who, Port: 40000, Until: 150})
		asks(t, n, 51, in, 40009, 60, 40009)
		drops(t, n, 52, in, true)
		outs(t, n, 52, in, to, 40000)
		holds(t, n, 52, api.Binding{In: in, To: who, Port: 40000, Until: 152})
	}
}

// P8.3: Drop takes the one that was asked for, of that one alone; twice there is none; one that wasn't asked for stays.
func TestDrop(t *testing.T) {
	n := made(t, boxOf(0, 0))
	drops(t, n, 0, in, false)
	outs(t, n, 0, in, to, 40000)
	drops(t, n, 0, in, false)
	asks(t, n, 0, in, 40002, 30, 40002)
	asks(t, n, 0, in2, 40003, 30, 40003)
	drops(t, n, 0, in3, false)
	drops(t, n, 0, in, true)
	drops(t, n, 0, in, false)
	holds(t, n, 0, api.Binding{In: in, Port: 40000, Until: 10}, api.Binding{In: in2, Port: 40003, Until: 30, Asked: true})
	comesNot(t, n, 0, 40002, to, api.Dropped)
	asks(t, n, 0, in3, 40002, 30, 40002)
	drops(t, n, 29, in2, true)
	drops(t, n, 30, in3, false)
	holds(t, n, 30)
	asks(t, n, 30, in2, 40003, 31, 40003)
	drops(t, n, 31, in2, false)
}

// P8.3: where one was dropped there is room for one.
func TestDropRoom(t *testing.T) {
	n := made(t, changed(func(b *api.Box) { b.Hi = 40002 }))
	for i := range 3 {
		asks(t, n, 0, inner(i), 1, 30, 40000+i)
	}
	outsNot(t, n, 0, in, to, api.Full)
	drops(t, n, 0, inner(1), true)
	outs(t, n, 0, in, to, 40001)
	outsNot(t, n, 0, in2, to, api.Full)
}

// P8.3: all bindings, by rising ports, in whatever order they were made; what is told is new memory, and tells nothing of later calls.
func TestAll(t *testing.T) {
	n := made(t, api.Box{Host: 9, Lo: 1, Hi: 65535, Life: 10, Most: 100})
	var want []api.Binding
	for i := range 40 {
		port := 1 + i*i*7919%65535
		asks(t, n, 0, inner(i), port, 20+i, port)
		want = append(want, api.Binding{In: inner(i), Port: port, Until: 20 + i, Asked: true})
		slices.SortFunc(want, func(a, b api.Binding) int { return a.Port - b.Port })
		holds(t, n, 0, want...)
	}
	first, second := n.All(0), n.All(0)
	clear(first)
	_ = append(first[:3], api.Binding{In: never})
	if !slices.Equal(second, want) {
		t.Error("what All told was written over with what it told ahead")
	}
	holds(t, n, 0, want...)
	drops(t, n, 0, want[0].In, true)
	asks(t, n, 0, want[1].In, 1, 1000, want[1].Port)
	if !slices.Equal(second, want) {
		t.Error("what All told is changed by later calls")
	}
}

// side: a binding, as the plain box has it.
type side struct {
	api.Binding
	sent map[api.Addr]int // in which step something was sent there last
}

// plain: a box by the words, that throws nothing away: of each port the last binding, which counts till its end, and all that was sent to by it.
type plain struct {
	box   api.Box
	ports map[int]*side
	now   int
	steps int
}

// isAddr: whether it is an address.
func isAddr(a api.Addr) bool { return a.Host > 0 && a.Port > 0 && a.Port < 1<<16 }

// isTime: whether it may be the time; then it is.
func (p *plain) isTime(now int) bool {
	if now < 0 || now > 1<<40 || now < p.now {
		return false
	}
	p.now = now
	return true
}

// live: the bindings whose end hasn't come, by rising ports.
func (p *plain) live() []*side {
	var all []*side
	for _, port := range slices.Sorted(maps.Keys(p.ports)) {
		if s := p.ports[port]; s.Until > p.now {
			all = append(all, s)
		}
	}
	return all
}

// free: whether a port may be given.
func (p *plain) free(port int) bool {
	return port >= p.box.Lo && port <= p.box.Hi && (p.ports[port] == nil || p.ports[port].Until <= p.now)
}

// give: a new binding.
func (p *plain) give(b api.Binding, wish int) *side {
	if len(p.live()) == p.box.Most {
		return nil
	}
	for port := p.box.Lo; !p.free(wish) && port <= p.box.Hi; port++ {
		if p.free(port) {
			wish = port
		}
	}
	if !p.free(wish) {
		return nil
	}
	b.Port = wish
	p.ports[wish] = &side{b, map[api.Addr]int{}}
	return p.ports[wish]
}

// out: Out, by the words.
func (p *plain) out(now int, in, to api.Addr) (api.Addr, api.Code) {
	if !p.isTime(now) || !isAddr(in) || !isAddr(to) {
		return api.Addr{}, api.Arg
	}
	var by *side
	for _, s := range p.live() {
		if s.In == in && (s.Asked || by == nil && s.To == toOf(to, p.box.Map)) {
			by = s
		}
	}
	if by == nil {
		by = p.give(api.Binding{In: in, To: toOf(to, p.box.Map)}, in.Port)
	}
	if by == nil {
		return api.Addr{}, api.Full
	}
	if !by.Asked {
		by.Until = min(now+p.box.Life, 1<<40)
	}
	p.steps++
	by.sent[to] = p.steps
	return api.Addr{Host: p.box.Host, Port: by.Port}, api.OK
}

// seen: whether fewer than sixteen others were sent to behind this one.
func (s *side) seen(a api.Addr) bool {
	behind := 0
	for _, step := range s.sent {
		if step > s.sent[a] {
			behind++
		}
	}
	return s.sent[a] > 0 && behind < 16
}

// in: In, by the words.
func (p *plain) in(now, port int, from api.Addr) (api.Addr, api.Code) {
	if !p.isTime(now) || !isAddr(from) {
		return api.Addr{}, api.Arg
	}
	for _, s := range p.live() {
		let := s.Asked || p.box.Filter == 0
		for a := range s.sent {
			let = let || s.seen(a) && (a == from || p.box.Filter == 1 && a.Host == from.Host)
		}
		if s.Port == port && let {
			return s.In, api.OK
		}
	}
	return api.Addr{}, api.Dropped
}

// askedOf: the binding of one that was asked for.
func (p *plain) askedOf(in api.Addr) *side {
	for _, s := range p.live() {
		if s.Asked && s.In == in {
			return s
		}
	}
	return nil
}

// ask: Ask, by the words.
func (p *plain) ask(now int, in api.Addr, wish, until int) (int, api.Code) {
	if !p.isTime(now) || !isAddr(in) || until <= now || until > 1<<40 {
		return 0, api.Arg
	}
	s := p.askedOf(in)
	if s == nil {
		s = p.give(api.Binding{In: in, Asked: true}, wish)
	}
	if s == nil {
		return 0, api.Full
	}
	s.Until = until
	return s.Port, api.OK
}

// drop: Drop, by the words.
func (p *plain) drop(now int, in api.Addr) bool {
	if !p.isTime(now) {
		return false
	}
	s := p.askedOf(in)
	if s != nil {
		delete(p.ports, s.Port)
	}
	return s != nil
}

// all: All, by the words.
func (p *plain) all(now int) []api.Binding {
	var all []api.Binding
	if p.isTime(now) {
		for _, s := range p.live() {
			all = append(all, s.Binding)
		}
	}
	return all
}

// dice: numbers from a row of bytes, 0 behind its end.
type dice struct{ rest []byte }

// roll: one of the numbers below so many.
func (d *dice) roll(below int) int {
	if len(d.rest) == 0 {
		return 0
	}
	b := int(d.rest[0])
	d.rest = d.rest[1:]
	return b % below
}

// box: a small box.
func (d *dice) box() api.Box {
	lo := []int{1, 4, 40000, 65530}[d.roll(4)]
	return api.Box{
		Host: 0xcb007101, Lo: lo, Hi: min(lo+d.roll(12), 65535), Map: d.roll(3), Filter: d.roll(3),
		Life: []int{1, 3, 8, 40, api.MaxTime - 3, api.MaxTime}[d.roll(6)], Most: 1 + d.roll(9),
	}
}

// inside: one who is inside, or, seldom, none.
func (d *dice) inside(b api.Box) api.Addr {
	if d.roll(40) == 39 {
		return badAddrs[d.roll(len(badAddrs))]
	}
	return api.Addr{Host: 0x0a000001 + uint32(d.roll(3)), Port: max(1, min(65535, b.Lo-1+d.roll(4)))}
}

// outside: one of others, by few hosts, or, seldom, none.
func (d *dice) outside() api.Addr {
	if d.roll(40) == 39 {
		return badAddrs[d.roll(len(badAddrs))]
	}
	i := d.roll(26)
	return api.Addr{Host: uint32(1 + i/3), Port: 1 + i%3}
}

// time: a time now, mostly one that goes on, by little.
func (d *dice) time(now int) int {
	switch d.roll(24) {
	case 0:
		return badTimes[d.roll(len(badTimes))]
	case 1:
		return now - 1
	case 2:
		return now + d.roll(50)
	case 3, 4, 5, 6, 7:
		return now + 1
	}
	return now
}

// both: a box, and the plain one, to which the same is done.
type both struct {
	t     *testing.T
	box   *Nat
	plain *plain
}

// step does one thing to both, and holds the answers against each other.
func (x both) step(d *dice) {
	now := d.time(x.plain.now)
	switch d.roll(12) {
	case 0, 1, 2, 3:
		in, to := d.inside(x.plain.box), d.outside()
		a, code := x.plain.out(now, in, to)
		if got, c := x.box.Out(now, in, to); got != a || c != code {
			x.t.Fatalf("Out(%d, %v, %v) = %v %d, want %v %d", now, in, to, got, c, a, code)
		}
		// P8.4: what comes back goes to who sent it, as long as the binding lasts.
		if back, c := x.box.In(now, a.Port, to); code == api.OK && now < api.MaxTime && (back != in || c != api.OK) {
			x.t.Fatalf("back by %v from %v: %v %d, want %v", a, to, back, c, in)
		}
	case 4, 5, 6:
		port, from := x.plain.box.Lo-1+d.roll(14), d.outside()
		a, code := x.plain.in(now, port, from)
		if got, c := x.box.In(now, port, from); got != a || c != code {
			x.t.Fatalf("In(%d, %d, %v) = %v %d, want %v %d", now, port, from, got, c, a, code)
		}
	case 7, 8:
		in, wish := d.inside(x.plain.box), x.plain.box.Lo-1+d.roll(14)
		until := d.time(now + d.roll(6))
		port, code := x.plain.ask(now, in, wish, until)
		if got, c := x.box.Ask(now, in, wish, until); got != port || c != code {
			x.t.Fatalf("Ask(%d, %v, %d, %d) = %d %d, want %d %d", now, in, wish, until, got, c, port, code)
		}
	case 9:
		in := d.inside(x.plain.box)
		had := x.plain.drop(now, in)
		if got := x.box.Drop(now, in); got != had {
			x.t.Fatalf("Drop(%d, %v) = %v, want %v", now, in, got, had)
		}
	case 10:
		x.all(now)
	case 11:
		if d.roll(8) == 7 {
			x.box.Reboot()
			x.plain.ports, x.plain.now = map[int]*side{}, d.roll(2)*(api.MaxTime-20)
			x.all(x.plain.now)
		}
	}
}

// all holds all bindings against each other, and what the words say of them: no two have one port, and there aren't too many; mapped by nothing one who sends has one port for all.
func (x both) all(now int) {
	want, got := x.plain.all(now), x.box.All(now)
	if !slices.Equal(got, want) {
		x.t.Fatalf("All(%d) = %v, want %v", now, got, want)
	}
	if len(got) > x.plain.box.Most {
		x.t.Fatalf("%d bindings of %d", len(got), x.plain.box.Most)
	}
	ports, own := map[int]int{}, map[api.Addr]int{}
	for _, b := range got {
		ports[b.Port]++
		if !b.Asked {
			own[b.In]++
		}
		if ports[b.Port] > 1 || b.Port < x.plain.box.Lo || b.Port > x.plain.box.Hi || b.Until <= now || x.plain.box.Map == 0 && own[b.In] > 1 {
			x.t.Fatalf("All(%d) = %v", now, got)
		}
	}
}

// script: what a row of bytes says is done to a box; its bindings are told behind each step, or at the end alone, since asking might mend what is wrong.
func script(t *testing.T, row []byte, often bool) {
	d := &dice{row}
	b := d.box()
	x := both{t, made(t, b), &plain{box: b, ports: map[int]*side{}}}
	for len(d.rest) > 0 {
		x.step(d)
		if often {
			x.all(x.plain.now)
		}
	}
	x.all(x.plain.now)
	if x.box.Box() != b {
		t.Fatalf("Box() = %v, want %v", x.box.Box(), b)
	}
}

// rows: rows of bytes, as by chance, but always the same.
func rows(many, long int) [][]byte {
	x := uint64(88172645463325252)
	all := make([][]byte, many)
	for i := range all {
		for range long {
			x ^= x << 13
			x ^= x >> 7
			x ^= x << 17
			all[i] = append(all[i], byte(x>>32))
		}
	}
	return all
}

// P8.1 to P8.4: whatever is done, the answers are those by the words.
func TestScripts(t *testing.T) {
	for _, row := range rows(1500, 1200) {
		script(t, row, true)
		script(t, row, false)
	}
}

// P8.4: mapped by nothing one who sends has one port for all, also when they ask between, as long as they are asked of at one time.
func TestOnePortForAll(t *testing.T) {
	n := made(t, boxOf(api.ByNothing, api.ByAddr))
	for i := range 200 {
		outs(t, n, i, in, many(i), 40000)
		comes(t, n, i, 40000, many(i), in)
	}
	asks(t, n, 200, in, 40005, 300, 40005)
	for i := range 50 {
		outs(t, n, 200+i, in, many(i), 40005)
	}
}

// FuzzScript: whatever is done, the answers are those by the words.
func FuzzScript(f *testing.F) {
	for _, row := range rows(20, 200) {
		f.Add(row)
	}
	f.Fuzz(func(t *testing.T, row []byte) {
		script(t, row, true)
		script(t, row, false)
	})
}
