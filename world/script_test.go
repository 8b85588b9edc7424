package world

import (
	"slices"
	"testing"

	"embrasure/api"
	"embrasure/nat"
)

// plain: a world by the words alone: what it was made of, boxes of its own, and all ways' times.
type plain struct {
	plan
	nats  []*nat.Nat
	times []int
}

// may: whether there may be such a world.
func (p plan) may() bool {
	if len(p.boxes) > 16 || len(p.hosts) > 16 || len(p.boxes) != len(p.behind) {
		return false
	}
	type place struct {
		behind int
		host   uint32
	}
	next := map[place]int{}
	for i, b := range p.boxes {
		_, code := nat.New(b)
		ok := p.behind[i] == -1 || p.behind[i] >= 0 && p.behind[i] < i && p.behind[p.behind[i]] == -1
		if code != api.OK || !ok {
			return false
		}
		next[place{p.behind[i], b.Host}]++
	}
	for _, h := range p.hosts {
		if h.Host == 0 || h.Behind < -1 || h.Behind >= len(p.boxes) {
			return false
		}
		next[place{h.Behind, h.Host}]++
	}
	for _, many := range next {
		if many > 1 {
			return false
		}
	}
	return true
}

// arrival: how a way came out.
type arrival struct {
	host     int
	from, to api.Addr
	code     api.Code
}

// way: Way, by the words.
func (p *plain) way(now, host, port int, to api.Addr) arrival {
	if host < 0 || host >= len(p.hosts) || port < 1 || port > 65535 || to.Host == 0 || to.Port < 1 || to.Port > 65535 || now < 0 || now > 1<<40 {
		return arrival{code: 1}
	}
	for _, ahead := range p.times {
		if now < ahead {
			return arrival{code: 1}
		}
	}
	end := p.from(now, p.hosts[host].Behind, api.Addr{Host: p.hosts[host].Host, Port: port}, to, -1)
	if end.code != 1 {
		p.times = append(p.times, now)
	}
	return end
}

// from: the way on from a place outwards, out of a box, if it came out of one.
func (p *plain) from(now, place int, from, to api.Addr, out int) arrival {
	if end, ends := p.here(now, place, from, to, out); ends {
		return end
	}
	if place == -1 {
		return arrival{code: 8}
	}
	seen, code := p.nats[place].Out(now, from, to)
	if code != api.OK {
		return arrival{code: code}
	}
	return p.from(now, p.behind[place], seen, to, place)
}

// here: the way to who is at a place, or behind a box there, and whether there is anybody.
func (p *plain) here(now, place int, from, to api.Addr, out int) (arrival, bool) {
	for i, h := range p.hosts {
		if h.Behind == place && h.Host == to.Host {
			return arrival{i, from, to, 0}, true
		}
	}
	for i, b := range p.boxes {
		if p.behind[i] != place || b.Host != to.Host || i == out {
			continue
		}
		who, code := p.nats[i].In(now, to.Port, from)
		if code != api.OK {
			return arrival{code: code}, true
		}
		if end, ends := p.here(now, i, from, who, -1); ends {
			return end, true
		}
		return arrival{code: 8}, true
	}
	return arrival{}, false
}

// dice: numbers from a row of bytes, 0 behind its end.
type dice struct{ rest []byte }

// roll: one of the numbers below so many.
func (d *dice) roll(below int) int {
	if len(d.rest) == 0 {
		return 0
	}
	b := int(d.rest[0])
	d.rest = d.rest[1:]
	return b % below
}

// seldom: whether something seldom is so.
func (d *dice) seldom() bool { return d.roll(40) == 39 }

// place: a place of a box, or a host, that may stand behind so many.
func (d *dice) place(boxes int) int {
	if d.seldom() {
		return d.roll(20) - 2
	}
	return d.roll(boxes+1) - 1
}

// number: one of few, so that many are alike.
func (d *dice) number() uint32 {
	if d.seldom() {
		return 0
	}
	return uint32(1 + d.roll(12))
}

// plan: what a world is made of, mostly one that may be.
func (d *dice) plan() plan {
	var p plan
	for i := range 1 + d.roll(6) {
		b := api.Box{Host: d.number(), Lo: 1, Hi: 2 + d.roll(20), Map: d.roll(3), Filter: d.roll(3), Life: 1 + d.roll(20), Most: 2 + d.roll(20)}
		behind := d.place(i)
		if behind >= 0 && behind < i && p.behind[behind] != -1 && !d.seldom() {
			behind = p.behind[behind]
		}
		p.boxes, p.behind = append(p.boxes, b), append(p.behind, behind)
		// Mostly those that couldn't stand there are left out.
		if !p.may() && d.roll(8) > 0 {
			p.boxes, p.behind = p.boxes[:i], p.behind[:i]
			break
		}
	}
	for range d.roll(18) {
		p.hosts = append(p.hosts, api.Site{Host: d.number(), Behind: d.place(len(p.boxes))})
		if !p.may() && !d.seldom() {
			p.hosts = p.hosts[:len(p.hosts)-1]
		}
	}
	return p
}

// time: a time now, mostly one that goes on, by little.
func (d *dice) time(now int) int {
	switch d.roll(30) {
	case 0:
		return badTimes[d.roll(len(badTimes))]
	case 1:
		return now - 1
	case 2:
		return now + d.roll(50)
	case 3, 4, 5, 6, 7:
		return now + 1
	}
	return now
}

// host: a host, seldom one that there isn't.
func (d *dice) host(p plan) int {
	if d.seldom() {
		none := noPlaces(len(p.hosts))
		return none[d.roll(len(none))]
	}
	return d.roll(max(1, len(p.hosts)))
}

// port: one of few, seldom none.
func (d *dice) port() int {
	if d.seldom() {
		return badPorts[d.roll(len(badPorts))]
	}
	return 1 + d.roll(6)
}

// both: a world, and the plain one, to which the same is done; the time of the last step, and where something came from.
type both struct {
	t     *testing.T
	d     *dice
	world *World
	plain *plain
	now   int
	heard []api.Addr
}

// target: an address to which something may go: mostly one of a host or a box, or one from where something came.
func (x *both) target() api.Addr {
	to := api.Addr{Host: x.d.number(), Port: x.d.port()}
	switch x.d.roll(5) {
	case 0, 1:
		if p := x.plain.hosts; len(p) > 0 {
			to.Host = p[x.d.roll(len(p))].Host
		}
	case 2:
		if p := x.plain.boxes; len(p) > 0 {
			to.Host = p[x.d.roll(len(p))].Host
		}
	case 3:
		if many := len(x.heard); many > 0 {
			to = x.heard[max(0, many-1-x.d.roll(30))]
		}
	}
	return to
}

// way holds a way against the one by the words.
func (x *both) way(now, host, port int, to api.Addr) arrival {
	x.t.Helper()
	want := x.plain.way(now, host, port, to)
	h, from, there, code := x.world.Way(now, host, port, to)
	if got := (arrival{h, from, there, code}); got != want {
		x.t.Fatalf("%v: Way(%d, %d, %d, %v) = %v, want %v", x.plain.plan, now, host, port, to, got, want)
	}
	return want
}

// sends: a way, and, where the words say what comes of it, what follows.
func (x *both) sends() {
	x.t.Helper()
	now, host, port := x.d.time(x.now), x.d.host(x.plain.plan), x.d.port()
	end := x.way(now, host, port, x.target())
	if end.code == 1 {
		return
	}
	x.now = now
	if end.code != api.OK {
		return
	}
	x.heard = append(x.heard, end.from)
	own, where := api.Addr{Host: x.plain.hosts[host].Host, Port: port}, x.plain.hosts[host].Behind
	if where == -1 && end.from != own {
		x.t.Fatalf("P14.3: from %v, want %v", end.from, own)
	}
	next := x.plain.hosts[end.host].Behind
	// At MaxTime a binding is gone as it is made.
	if x.d.roll(2) == 0 || next != -1 && next != where || next != where && now == api.MaxTime {
		return
	}
	if back := x.way(now, end.host, end.to.Port, end.from); back != (arrival{host, end.to, own, 0}) {
		x.t.Fatalf("P14.3: %v: from %d back to %v: %v, want %v of %d", x.plain.plan, end.host, end.from, back, own, host)
	}
}

// box does something to a box itself.
func (x *both) box() {
	x.t.Helper()
	if len(x.plain.nats) == 0 {
		return
	}
	i := x.d.roll(len(x.plain.nats))
	now := x.now
	if x.d.seldom() {
		now += x.d.roll(9)
	}
	in, port := api.Addr{Host: x.d.number(), Port: x.d.port()}, x.d.roll(8)
	switch x.d.roll(8) {
	case 0:
		x.world.Box(i).Reboot()
		x.plain.nats[i].Reboot()
	case 1:
		x.world.Box(i).Drop(now, in)
		x.plain.nats[i].Drop(now, in)
	case 2:
		to := x.target()
		x.world.Box(i).Out(now, in, to)
		x.plain.nats[i].Out(now, in, to)
	default:
		if x.d.roll(2) == 0 {
			in = x.inside(i, in)
		}
		until := now + x.d.roll(60)
		got, code := x.world.Box(i).Ask(now, in, port, until)
		if want, c := x.plain.nats[i].Ask(now, in, port, until); got != want || code != c {
			x.t.Fatalf("box %d: Ask(%d, %v, %d, %d) = %d %d, want %d %d", i, now, in, port, until, got, code, want, c)
		}
	}
}

// inside: the address with the number of somebody who is behind a box, if there is one.
func (x *both) inside(box int, a api.Addr) api.Addr {
	var all []uint32
	for _, h := range x.plain.hosts {
		if h.Behind == box {
			all = append(all, h.Host)
		}
	}
	for i, b := range x.plain.boxes {
		if x.plain.behind[i] == box {
			all = append(all, b.Host)
		}
	}
	if len(all) > 0 {
		a.Host = all[x.d.roll(len(all))]
	}
	return a
}

// all holds all bindings of all boxes against each other.
func (x *both) all() {
	x.t.Helper()
	for i := range x.plain.nats {
		// No earlier than any step was.
		now := min(x.now+10, api.MaxTime)
		want, got := x.plain.nats[i].All(now), x.world.Box(i).All(now)
		if !slices.Equal(got, want) {
			x.t.Fatalf("box %d: All(%d) = %v, want %v", i, now, got, want)
		}
	}
}

// script: what a row of bytes says is done to a world.
func script(t *testing.T, row []byte) {
	d := &dice{row}
	p := d.plan()
	w, code := New(p.boxes, p.behind, p.hosts)
	if may := p.may(); (code == api.OK) != may || (w != nil) != may || !may && code != 1 {
		t.Fatalf("New(%v) = %v %d, but that it may be is %v", p, w, code, may)
	}
	if w == nil {
		return
	}
	alike(t, w, p)
	x := &both{t: t, d: d, world: w, plain: &plain{plan: p}, now: d.roll(2) * d.roll(2) * d.roll(2) * (api.MaxTime - 20)}
	for _, b := range p.boxes {
		n, _ := nat.New(b)
		x.plain.nats = append(x.plain.nats, n)
	}
	for len(d.rest) > 0 {
		if d.roll(4) == 0 {
			x.box()
		} else {
			x.sends()
		}
		// Asking moves the boxes' time, so it is done seldom.
		if d.roll(60) == 0 {
			x.all()
			x.now = min(x.now+10, api.MaxTime)
		}
	}
	x.all()
	alike(t, w, p)
}

// rows: rows of bytes, as by chance, but always the same.
func rows(many, long int) [][]byte {
	x := uint64(88172645463325252)
	all := make([][]byte, many)
	for i := range all {
		for range long {
			x ^= x << 13
			x ^= x >> 7
			x ^= x << 17
			all[i] = append(all[i], byte(x>>32))
		}
	}
	return all
}

// P14.1 to P14.3: whatever is done, the answers are those by the words.
func TestScripts(t *testing.T) {
	for _, row := range rows(3000, 2000) {
		script(t, row)
	}
}

// FuzzScript: whatever is done, the answers are those by the words.
func FuzzScript(f *testing.F) {
	for _, row := range rows(20, 300) {
		f.Add(row)
	}
	f.Fuzz(func(t *testing.T, row []byte) { script(t, row) })
}
