package mapper

import (
	"bytes"
	"encoding/binary"
	"math"
	"slices"
	"strconv"
	"testing"

	"embrasure/api"
	"embrasure/gate"
	"embrasure/nat"
)

// from: where the client sends from.
var from = api.Addr{Host: own, Port: 5351}

// home: a client behind a gateway, and the box of that. What is sent, and what it is answered, is lost where lost says so, and each takes so many ticks.
type home struct {
	t      *testing.T
	box    *nat.Nat
	gate   *gate.Gate
	client *Mapper
	lost   func(no int) bool
	delay  int
	no     int
	out    []word // to the gateway
	in     []word // to the client
	heard  []word
}

// word: a datagram that comes at a time.
type word struct {
	at int
	b  []byte
}

// live: a client of its gateway, that has begun at 0.
func live(t *testing.T, g api.Gateway, delay int, lost func(no int) bool) *home {
	t.Helper()
	box, _ := nat.New(api.Box{Host: outside, Lo: 4000, Hi: 4009, Life: 10, Most: 8})
	door, code := gate.New(box, g, 0)
	if code != api.OK {
		t.Fatalf("gate.New(%v): %d", g, code)
	}
	h := &home{t: t, box: box, gate: door, client: made(t), lost: lost, delay: delay}
	h.sent(0, h.client.Start(0))
	h.come(0)
	return h
}

// sent: what the client sends goes on its way.
func (h *home) sent(now int, out [][]byte) {
	for _, b := range out {
		h.no++
		if h.lost == nil || !h.lost(h.no) {
			h.out = append(h.out, word{now + h.delay, b})
		}
	}
}

// tick: the time goes on, and what has come by then is heard.
func (h *home) tick(now int) {
	h.sent(now, h.client.Tick(now))
	h.whole(now)
	h.come(now)
}

// come: what has come by now is heard, and what is answered at once, too.
func (h *home) come(now int) {
	for moved := true; moved; {
		moved = false
		for len(h.out) > 0 && h.out[0].at <= now {
			b := h.gate.Hear(now, from, h.out[0].b)
			h.out, moved = h.out[1:], true
			h.no++
			if b != nil && (h.lost == nil || !h.lost(h.no)) {
				h.in = append(h.in, word{now + h.delay, b})
			}
		}
		for len(h.in) > 0 && h.in[0].at <= now {
			h.heard = append(h.heard, word{now, h.in[0].b})
			h.sent(now, h.client.Hear(now, h.in[0].b))
			h.in, moved = h.in[1:], true
		}
	}
}

// whole: P12.2: behind a Tick what it has it was granted by what it heard, and till above the time.
func (h *home) whole(now int) {
	h.t.Helper()
	s := h.client.State()
	if s.State != api.Holding && s.State != api.Renewing {
		if s.Outer != none || s.Until != 0 {
			h.t.Fatalf("%d: %+v", now, s)
		}
		return
	}
	if s.Until <= now {
		h.t.Fatalf("%d: an address is told whose time is over: %+v", now, s)
	}
	for _, w := range h.heard {
		if port, long := leaseOf(w.b); port == s.Outer.Port && long > 0 && w.at+long == s.Until {
			return
		}
	}
	h.t.Fatalf("%d: nothing granted %+v", now, s)
}

// leaseOf: the port, and the seconds, of an answer by which something is granted; 0 and 0 of any other one.
func leaseOf(b []byte) (int, int) {
	two := func(at int) int { return int(binary.BigEndian.Uint16(b[at:])) }
	four := func(at int) int { return int(binary.BigEndian.Uint32(b[at:])) }
	switch {
	case len(b) == 16 && b[1] == 129 && two(2) == 0:
		return two(10), four(12)
	case len(b) == 60 && b[3] == 0:
		return two(42), four(4)
	}
	return 0, 0
}

// agree: whether what the client has is the box's, for the client.
func (h *home) agree(now int) bool {
	s := h.client.State()
	return has(h.client) && s.Outer.Host == outside && slices.ContainsFunc(h.box.All(now), func(b api.Binding) bool {
		return b.Asked && b.Port == s.Outer.Port && b.In == api.Addr{Host: own, Port: inside}
	})
}

// P12.1, P12.2: with each gateway that speaks a version it holds a port at once, by PCP, if that is spoken, and keeps it for long; behind Stop the box has nothing of it any more.
func TestWithGateway(t *testing.T) {
	for _, g := range []api.Gateway{
		{Pmp: true, Pcp: true, MostSecs: 60}, {Pcp: true, MostSecs: 60}, {Pmp: true, MostSecs: 60},
		{Pmp: true, Pcp: true, MostSecs: 2}, {Pmp: true, MostSecs: 3}, {Pmp: true, Pcp: true, MostSecs: api.MaxSecs},
	} {
		version := 0
		if g.Pcp {
			version = 2
		}
		h := live(t, g, 0, nil)
		for now := 0; now < 2000; now++ {
			h.tick(now)
			if s := h.client.State(); s.State != api.Holding || s.Ver != version || s.Outer != outer(4000) || !h.agree(now) {
				t.Fatalf("%v: at %d: %+v, and the box has %v", g, now, s, h.box.All(now))
			}
		}
		h.sent(2000, h.client.Stop(2000))
		h.come(2000)
		if all := h.box.All(2000); len(all) != 0 {
			t.Errorf("%v: behind Stop the box has %v", g, all)
		}
	}
}

// P12.1: with a gateway that speaks neither version it fails behind all tries.
func TestWithDeafGateway(t *testing.T) {
	h := live(t, api.Gateway{MostSecs: 60}, 0, nil)
	for now := range 200 {
		h.tick(now)
		if s := h.client.State(); s.State != api.Probing && now < 62 || s.State != api.Failed && now >= 62 {
			t.Fatalf("at %d: %+v", now, s)
		}
	}
}

// P12.1: behind a gateway's reboot it holds a binding that is the box's again, at most half a lease and two seconds later, also when words take a second each.
func TestBehindReboot(t *testing.T) {
	for _, g := range []api.Gateway{{Pmp: true, Pcp: true, MostSecs: 60}, {Pcp: true, MostSecs: 61}, {Pmp: true, MostSecs: 60}, {Pmp: true, MostSecs: 7}} {
		for delay := range 2 {
			// In version 0 the second answer, by which version 2 isn't spoken, would come too late.
			for at := 10; at < 200 && (delay == 0 || g.Pcp); at++ {
				reboot(t, g, delay, at)
			}
		}
	}
}

// reboot: a client whose gateway begins anew at a time.
func reboot(t *testing.T, g api.Gateway, delay, at int) {
	t.Helper()
	h := live(t, g, delay, nil)
	for now := 1; now < at; now++ {
		h.tick(now)
	}
	if !h.agree(at - 1) {
		t.Fatalf("%v: ahead of %d: %+v", g, at, h.client.State())
	}
	h.gate.Reboot(at)
	now := at
	for h.tick(now); now < at+g.MostSecs/2+2 && !h.agree(now); h.tick(now) {
		now++
	}
	if !h.agree(now) {
		t.Fatalf("%v: a reboot at %d: at %d: %+v, and the box has %v", g, at, now, h.client.State(), h.box.All(now))
	}
}

// P12.1: it hears of the reboot sooner, if it hears an answer sooner: then it asks at once.
func TestHearsOfReboot(t *testing.T) {
	h := live(t, api.Gateway{Pmp: true, MostSecs: 1000}, 0, nil)
	for now := 1; now <= 100; now++ {
		h.tick(now)
	}
	h.gate.Reboot(100)
	h.tick(101)
	if h.agree(101) {
		t.Fatal("the reboot did nothing")
	}
	h.in = append(h.in, word{102, h.gate.Hear(102, from, []byte{0, 0})})
	h.tick(102)
	if s := h.client.State(); s != holding(0, 4000, 1102, 602) || !h.agree(102) {
		t.Errorf("behind the answer: %+v", s)
	}
}

// P12.2: whatever is lost, and however late it is, what it has it was granted, and no longer.
func TestLost(t *testing.T) {
	for _, g := range []api.Gateway{{Pmp: true, Pcp: true, MostSecs: 20}, {Pcp: true, MostSecs: 9}, {Pmp: true, MostSecs: 20}} {
		for delay := range 5 {
			for i, chance := range rows(40, 4000) {
				h := live(t, g, delay, func(no int) bool { return int(chance[no%4000]) < 20*(i%12) })
				for now := 1; now < 600; now++ {
					h.tick(now)
					if chance[now] == 7 && i%2 == 0 {
						h.gate.Reboot(now)
					}
				}
			}
		}
	}
}

// plain: a client by the words alone, that throws nothing away: what it was granted, and told, and when, is looked up in all that was.
type plain struct {
	state, ver, tries, next, until int
	times                          []int
	had                            []api.Addr
	hosts                          []uint32
	epochs                         [][2]int // and when
}

// may: whether it may be the time; then it is.
func (p *plain) may(now int) bool {
	if now < 0 || now > 1<<40 || len(p.times) > 0 && now < p.times[len(p.times)-1] {
		return false
	}
	p.times = append(p.times, now)
	return true
}

// wish: what it has, or had last.
func (p *plain) wish() api.Addr {
	if len(p.had) == 0 {
		return api.Addr{}
	}
	return p.had[len(p.had)-1]
}

// asks: it asks in a state and a version, having asked so often in vain.
func (p *plain) asks(now, state, ver, tries int) [][]byte {
	p.state, p.ver, p.tries = state, ver, tries+1
	p.next = now + []int{1, 2, 4, 8, 16, 32, 64}[min(tries, 6)]
	return asks(ver, secs, p.wish())
}

// start: Start, by the words.
func (p *plain) start(now int) [][]byte {
	if p.state != 0 && p.state != 4 || !p.may(now) {
		return nil
	}
	return p.asks(now, 1, 2, 0)
}

// tick: Tick, by the words.
func (p *plain) tick(now int) [][]byte {
	if !p.may(now) || p.state == 0 || p.state == 4 {
		return nil
	}
	has := p.state == 2 || p.state == 3
	switch {
	case has && now >= p.until:
		return p.asks(now, 1, 2, 0)
	case now < p.next:
		return nil
	case p.state == 2:
		return p.asks(now, 3, p.ver, 0)
	case p.state == 3 || p.tries < 5:
		return p.asks(now, p.state, p.ver, p.tries)
	case p.ver == 2:
		return p.asks(now, 1, 0, 0)
	}
	p.state = 4
	return nil
}

// stop: Stop, by the words.
func (p *plain) stop(now int) [][]byte {
	if p.state == 0 || p.state == 4 || !p.may(now) {
		return nil
	}
	was := p.state
	p.state = 0
	if was == 1 {
		return nil
	}
	return asks(p.ver, 0, p.wish())
}

// answer: what an answer says, its kind being 2 (PCP's), 1 (about a port), 0 (about the host), and -1 of none.
type answer struct {
	kind, result, epoch, inside, port, secs int
	nonce                                   uint64
	host                                    uint32
}

// answerOf reads one, by where its numbers stand; written out again it must be the same.
func answerOf(b []byte) answer {
	two := func(at int) int { return int(binary.BigEndian.Uint16(b[at:])) }
	four := func(at int) int { return int(binary.BigEndian.Uint32(b[at:])) }
	a, again := answer{}, []byte(nil)
	switch len(b) {
	case 12:
		a = answer{kind: 0, result: two(2), epoch: four(4), host: uint32(four(8))}
		again = pmpHost(a.result, a.epoch, a.host)
	case 16:
		a = answer{kind: 1, result: two(2), epoch: four(4), inside: two(8), port: two(10), secs: four(12)}
		again = pmpPort(a.result, a.epoch, a.inside, a.port, a.secs)
	case 60:
		a = answer{kind: 2, result: int(b[3]), secs: four(4), epoch: four(8), nonce: binary.BigEndian.Uint64(b[28:]), inside: two(40), port: two(42), host: uint32(four(56))}
		again = pcpTold(a.result, a.epoch, a.nonce, a.inside, a.port, a.secs, a.host)
	}
	if again == nil || !bytes.Equal(again, b) {
		return answer{kind: -1}
	}
	return a
}

// hear: Hear, by the words.
func (p *plain) hear(now int, b []byte) [][]byte {
	if p.state == 0 || p.state == 4 || !p.may(now) {
		return nil
	}
	a := answerOf(b)
	switch {
	case a.kind == -1 || a.result == 1 && p.state == 2:
		return nil
	case a.result == 1 && p.ver == 2:
		return p.asks(now, 1, 0, 0)
	case a.result == 1:
		p.state = 4
		return nil
	case p.ver == 2 && (a.kind != 2 || a.inside != inside || a.nonce != nonce):
		return nil
	case p.ver == 0 && (a.kind == 2 || a.kind == 1 && a.inside != inside):
		return nil
	}
	anew := false
	if n := len(p.epochs); n > 0 {
		between := now - p.epochs[n-1][1]
		anew = a.epoch+2 < p.epochs[n-1][0]+between-(between+7)/8
	}
	p.epochs = append(p.epochs, [2]int{a.epoch, now})
	if p.state != 2 {
		p.asked(now, a)
		return nil
	}
	if anew {
		return p.asks(now, 3, p.ver, 0)
	}
	return nil
}

// asked: what an answer of its gateway's, with a result other than 1, does to one that asked.
func (p *plain) asked(now int, a answer) {
	if a.kind == 1 && len(p.hosts) > 0 {
		a.host = p.hosts[len(p.hosts)-1]
	}
	switch {
	case a.result != 0:
	case a.kind == 0:
		p.hosts = append(p.hosts, a.host)
	case a.secs > 0 && a.port > 0 && a.host != 0:
		p.had = append(p.had, api.Addr{Host: a.host, Port: a.port})
		p.state, p.tries, p.until, p.next = 2, 0, now+a.secs, now+a.secs/2
		if p.until > 1<<40 {
			p.until = 1 << 40
		}
		if a.secs == 1 {
			p.next++
		}
	}
}

// told: State, by the words.
func (p *plain) told() api.Mapped {
	switch p.state {
	case 0:
		return api.Mapped{Inside: inside}
	case 1:
		return api.Mapped{State: 1, Ver: p.ver, Inside: inside, Tries: p.tries, Next: p.next}
	case 4:
		return api.Mapped{State: 4, Inside: inside, Tries: p.tries}
	}
	return api.Mapped{State: p.state, Ver: p.ver, Inside: inside, Outer: p.wish(), Until: p.until, Tries: p.tries, Next: p.next}
}

// dice: numbers from a row of bytes, 0 behind its end.
type dice struct{ rest []byte }

// roll: one of the numbers below so many.
func (d *dice) roll(below int) int {
	if len(d.rest) == 0 {
		return 0
	}
	b := int(d.rest[0])
	d.rest = d.rest[1:]
	return b % below
}

// time: a time, mostly one that goes on, often to Next, or Until, or one off.
func (d *dice) time(last int, s api.Mapped) int {
	switch d.roll(20) {
	case 0:
		return badTimes[d.roll(len(badTimes))]
	case 1:
		return last - 1
	case 2:
		return last + d.roll(200)
	case 3:
		return s.Until - 1 + d.roll(3)
	case 4, 5, 6:
		return s.Next - d.roll(2)
	case 7, 8, 9:
		return max(last, s.Next)
	case 10, 11, 12:
		return last + d.roll(9)
	}
	return last
}

// epoch: an epoch at a time: mostly such as goes on with the time; else one that is about as much behind as may be, or any.
func (d *dice) epoch(now int, p *plain) int {
	e := now
	if n := len(p.epochs); n > 0 && now >= p.epochs[n-1][1] {
		between := now - p.epochs[n-1][1]
		e = p.epochs[n-1][0] + between
		if d.roll(3) == 0 {
			e = p.epochs[n-1][0] + 7*between/8 - 4 + d.roll(5)
		}
	}
	if d.roll(16) == 0 {
		e = []int{0, 1, 1 << 31, math.MaxUint32}[d.roll(4)]
	}
	return min(max(e, 0), math.MaxUint32)
}

// answer: an answer, mostly a right one in the version in which it asks; seldom one that is spoiled.
func (d *dice) answer(now int, p *plain) []byte {
	ver, epoch := p.ver, d.epoch(now, p)
	if d.roll(12) == 0 {
		ver = 2 - ver
	}
	result := []int{0, 0, 0, 0, 0, 0, 2, 8, 1, 255}[d.roll(10)]
	if result == 1 && d.roll(3) > 0 {
		result = 0
	}
	port, lease := []int{4000, 4001, 65535, 0}[d.roll(16)/5], []int{1, 2, 3, 9, 40, 41, 300, 3600, 0, math.MaxUint32}[d.roll(10)]
	host, in, n := []uint32{outside, outside, outside, 77, 0}[d.roll(5)], inside, uint64(nonce)
	switch d.roll(20) {
	case 0:
		in = []int{0, 1, inside + 1, 65535}[d.roll(4)]
	case 1:
		n = []uint64{0, 1, nonce + 1, nonce ^ 1<<63}[d.roll(4)]
	}
	b := pcpTold(result, epoch, n, in, port, lease, host)
	switch {
	case ver == 0 && d.roll(3) == 0:
		b = pmpHost(result, epoch, host)
	case ver == 0:
		b = pmpPort(result, epoch, in, port, lease)
	}
	return d.spoiled(b)
}

// spoiled: mostly as it was; else cut off, with a byte behind, or with a byte other than it was.
func (d *dice) spoiled(b []byte) []byte {
	switch d.roll(40) {
	case 0:
		return b[:d.roll(len(b)+1)]
	case 1:
		return append(b, byte(d.roll(256)))
	case 2:
		b[d.roll(len(b))] ^= 1 << d.roll(8)
	case 3:
		return [][]byte{{0, 0}, nil, pmpAsk(inside, 4000, 40), pcpAsk(own, nonce, inside, 4000, 40, outside)}[d.roll(4)]
	}
	return b
}

// step does one thing to a client and to the plain one, and holds what they send against each other, and their states.
func (d *dice) step(t *testing.T, m *Mapper, p *plain) {
	last := 0
	if len(p.times) > 0 {
		last = p.times[len(p.times)-1]
	}
	now := d.time(last, p.told())
	var name string
	var got, want [][]byte
	switch n := d.roll(40); {
	case n == 0 || n < 10 && (p.state == 0 || p.state == 4):
		name, got, want = "Start", m.Start(now), p.start(now)
	case n == 1:
		name, got, want = "Stop", m.Stop(now), p.stop(now)
	case n < 20:
		name, got, want = "Tick", m.Tick(now), p.tick(now)
		if s := m.State(); has(m) && now == p.times[len(p.times)-1] && s.Until <= now {
			t.Fatalf("Tick(%d): an address is told whose time is over: %+v", now, s)
		}
	default:
		b := d.answer(now, p)
		name = "Hear " + strconv.Quote(string(b))
		got, want = m.Hear(now, b), p.hear(now, b)
	}
	if !slices.EqualFunc(got, want, bytes.Equal) {
		t.Fatalf("%s at %d: sent %x, want %x", name, now, got, want)
	}
	if got, want := m.State(), p.told(); got != want {
		t.Fatalf("%s at %d: State = %+v, want %+v", name, now, got, want)
	}
}

// script: what a row of bytes says is done to a client.
func script(t *testing.T, row []byte) {
	d, m, p := &dice{row}, made(t), &plain{}
	if d.roll(8) == 0 {
		now := api.MaxTime - d.roll(256)
		m.Tick(now)
		p.tick(now)
	}
	for len(d.rest) > 0 {
		d.step(t, m, p)
	}
}

// rows: rows of bytes, as by chance, but always the same.
func rows(many, long int) [][]byte {
	x := uint64(88172645463325252)
	all := make([][]byte, many)
	for i := range all {
		for range long {
			x ^= x << 13
			x ^= x >> 7
			x ^= x << 17
			all[i] = append(all[i], byte(x>>32))
		}
	}
	return all
}

// P12.1, P12.2: whatever is done, what is sent, and the states, are those by the words.
func TestScripts(t *testing.T) {
	for _, row := range rows(3000, 2000) {
		script(t, row)
	}
}

// FuzzScript: whatever is done, what is sent, and the states, are those by the words.
func FuzzScript(f *testing.F) {
	for _, row := range rows(20, 300) {
		f.Add(row)
	}
	f.Fuzz(script)
}
