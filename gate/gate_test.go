package gate

import (
	"bytes"
	"encoding/binary"
	"math"
	"slices"
	"strconv"
	"testing"

	"embrasure/api"
	"embrasure/nat"
)

// outside is the box's host.
const outside = 0xcb007101

// Some who ask: two hosts, and the first of them by another port.
var (
	who   = api.Addr{Host: 0x0a000001, Port: 999}
	other = api.Addr{Host: 0x0a000002, Port: 999}
	who2  = api.Addr{Host: 0x0a000001, Port: 1}
)

// far is one in the open net.
var far = api.Addr{Host: 0x08080808, Port: 53}

// Who speaks what.
var (
	speaksPmp  = api.Gateway{Pmp: true, MostSecs: 100}
	speaksPcp  = api.Gateway{Pcp: true, MostSecs: 100}
	speaksBoth = api.Gateway{Pmp: true, Pcp: true, MostSecs: 100}
	speaksNone = api.Gateway{MostSecs: 100}
	gateways   = []api.Gateway{speaksPmp, speaksPcp, speaksBoth, speaksNone}
)

// badTimes: such as are no times, some of them times when they are cut.
var badTimes = []int{-1, -2, -api.MaxTime, math.MinInt, math.MinInt + 1, -1 << 32, api.MaxTime + 1, api.MaxTime + 2, 2 * api.MaxTime, 1<<48 + 50, 1<<62 + 50, math.MaxInt}

// badAddrs: such as are no addresses, some of them addresses when they are cut.
var badAddrs = []api.Addr{
	{}, {Host: 0, Port: 1}, {Host: 0, Port: 65535}, {Host: 0x0a000001, Port: 0}, {Host: 0x0a000001, Port: -1}, {Host: 0x0a000001, Port: 65536}, {Host: 0x0a000001, Port: 65537}, {Host: 0x0a000001, Port: 1<<32 + 1}, {Host: 0x0a000001, Port: math.MaxInt}, {Host: 0x0a000001, Port: math.MinInt},
}

// row: numbers, each in so many bytes, the greatest byte first.
func row(parts ...[2]uint64) []byte {
	var b []byte
	for _, p := range parts {
		b = append(b, binary.BigEndian.AppendUint64(nil, p[1])[8-p[0]:]...)
	}
	return b
}

// num: a number in so many bytes.
func num[N int | uint32 | uint64](size int, v N) [2]uint64 { return [2]uint64{uint64(size), uint64(v)} }

// pmpAsk: NAT-PMP's request for a port.
func pmpAsk(inside, port, secs int) []byte {
	return row(num(2, 1), num(2, 0), num(2, inside), num(2, port), num(4, secs))
}

// pmpTold: NAT-PMP's answer about a port.
func pmpTold(result, epoch, inside, port, secs int) []byte {
	return row(num(2, 129), num(2, result), num(4, epoch), num(2, inside), num(2, port), num(4, secs))
}

// pmpHost: NAT-PMP's answer about the host.
func pmpHost(result, epoch int, host uint32) []byte {
	return row(num(2, 128), num(2, result), num(4, epoch), num(4, host))
}

// pcpAsk: PCP's request.
func pcpAsk(client uint32, nonce uint64, inside, port, secs int) []byte {
	return pcpAskFor(client, nonce, inside, port, secs, 0)
}

// pcpAskFor: PCP's request that wishes a host outside, too.
func pcpAskFor(client uint32, nonce uint64, inside, port, secs int, host uint32) []byte {
	return row(num(4, 0x02010000), num(4, secs), num(8, 0), num(4, 0xffff), num(4, client),
		num(4, 0), num(8, nonce), num(4, 17<<24), num(2, inside), num(2, port), num(8, 0), num(4, 0xffff), num(4, host))
}

// pcpTold: PCP's answer.
func pcpTold(result, epoch int, nonce uint64, inside, port, secs int, host uint32) []byte {
	return row(num(4, 0x02810000|result), num(4, secs), num(4, epoch), num(8, 0), num(4, 0),
		num(4, 0), num(8, nonce), num(4, 17<<24), num(2, inside), num(2, port), num(8, 0), num(4, 0xffff), num(4, host))
}

// boxOf: a plain box: ports 4000 to 4009, a life of 10, and up to 8 bindings.
func boxOf() api.Box {
	return api.Box{Host: outside, Lo: 4000, Hi: 4009, Life: 10, Most: 8, Filter: api.ByAddr}
}

// box: a new box.
func box(t *testing.T, b api.Box) *nat.Nat {
	t.Helper()
	n, code := nat.New(b)
	if code != api.OK {
		t.Fatalf("nat.New(%v): %d", b, code)
	}
	return n
}

// made: a new gateway of a box.
func made(t *testing.T, n *nat.Nat, g api.Gateway, now int) *Gate {
	t.Helper()
	x, code := New(n, g, now)
	if x == nil || code != api.OK {
		t.Fatalf("New(%v, %d) = %v %d, want a gateway, OK", g, now, x, code)
	}
	return x
}

// begin: a gateway that is made at 0, and its box.
func begin(t *testing.T, g api.Gateway) (*nat.Nat, *Gate) {
	t.Helper()
	n := box(t, boxOf())
	return n, made(t, n, g, 0)
}

// hears: that a datagram is answered so (want nil: not at all).
func hears(t *testing.T, g *Gate, now int, from api.Addr, b, want []byte) {
	t.Helper()
	if got := g.Hear(now, from, b); !bytes.Equal(got, want) {
		t.Errorf("Hear(%d, %v, %x) = %x, want %x", now, from, b, got, want)
	}
}

// holds: that a box has these bindings, which are in order, and no others.
func holds(t *testing.T, n *nat.Nat, now int, want ...api.Binding) {
	t.Helper()
	if got := n.All(now); !slices.Equal(got, want) {
		t.Errorf("All(%d) = %v, want %v", now, got, want)
	}
}

// bound: the binding of who has a port inside, asked for.
func bound(from api.Addr, inside, port, until int) api.Binding {
	return api.Binding{In: api.Addr{Host: from.Host, Port: inside}, Port: port, Until: until, Asked: true}
}

// epochs: the epoch at times, two by two.
func epochs(t *testing.T, g *Gate, pairs ...int) {
	t.Helper()
	for i := 0; i < len(pairs); i += 2 {
		if got := g.Epoch(pairs[i]); got != pairs[i+1] {
			t.Errorf("Epoch(%d) = %d, want %d", pairs[i], got, pairs[i+1])
		}
	}
}

// P11.2: the chapter's example.
func TestWrittenOut(t *testing.T) {
	for _, g := range []api.Gateway{speaksPmp, speaksBoth} {
		_, x := begin(t, g)
		hears(t, x, 7, who, []byte{0, 0}, []byte{0, 0x80, 0, 0, 0, 0, 0, 7, 0xcb, 0, 0x71, 1})
	}
}

// P11.1: who speaks NAT-PMP, PCP, both, or neither, and grants 1 to MaxSecs, is a gateway, made at 0 to MaxTime; its epoch is 0 then, and its box has no bindings by that.
func TestNew(t *testing.T) {
	for _, g := range gateways {
		for _, most := range []int{1, 2, 100, 7200, 65536, 1 << 31, api.MaxSecs - 1, api.MaxSecs} {
			for _, now := range []int{0, 1, 5, 1 << 32, api.MaxTime - 1, api.MaxTime} {
				g.MostSecs = most
				n := box(t, boxOf())
				x := made(t, n, g, now)
				epochs(t, x, now-1, 0, now, 0, now+1, 1, now+5, 5)
				holds(t, n, 0)
			}
		}
	}
}

// P11.1: what isn't a gateway, or isn't made at a time, is Arg, and there is none beside it.
func TestNewArg(t *testing.T) {
	n := box(t, boxOf())
	refused := func(g api.Gateway, now int) {
		t.Helper()
		if x, code := New(n, g, now); x != nil || code != api.Arg {
			t.Errorf("New(%v, %d) = %v %d, want none Arg", g, now, x, code)
		}
	}
	refused(api.Gateway{}, 0)
	for _, g := range gateways {
		for _, most := range []int{0, -1, -100, api.MaxSecs + 1, api.MaxSecs + 2, 1<<32 + 100, 1<<33 + 100, 1<<62 + 100, math.MinInt, math.MinInt + 100, math.MaxInt} {
			bad := g
			bad.MostSecs = most
			refused(bad, 0)
			refused(bad, api.MaxTime)
			refused(bad, -1)
		}
		for _, now := range badTimes {
			refused(g, now)
		}
	}
	if x, code := New(nil, speaksBoth, 0); x != nil || code != api.Arg {
		t.Errorf("New without a box = %v %d, want none Arg", x, code)
	}
}

// P11.1: a gateway is made of a box that has bindings, and a time, and does nothing to either; it may be made at any time.
func TestNewOfUsedBox(t *testing.T) {
	n := box(t, boxOf())
	n.Out(50, who, far)
	want := n.All(50)
	for _, now := range []int{0, 3, 50, 51, api.MaxTime} {
		x := made(t, n, speaksBoth, now)
		holds(t, n, 50, want...)
		hears(t, x, 50, who, []byte{0, 0}, pmpHost(0, max(0, 50-now), outside))
	}
	if n.Box() != boxOf() {
		t.Errorf("Box() = %v", n.Box())
	}
}

// P11.1: the epoch is the time less that at which the gateway was made, 0 ahead of it, 2^32 - 1 at most, whatever it is asked at, and by asking nothing goes on.
func TestEpoch(t *testing.T) {
	n := box(t, boxOf())
	const most = 1<<32 - 1
	x := made(t, n, speaksBoth, 1000)
	epochs(t, x, 1000, 0, 999, 0, 1001, 1, 0, 0, -1, 0, 1007, 7, 1000+1<<31, 1<<31,
		1000+most-1, most-1, 1000+most, most, 1000+most+1, most, 1000+most+2, most, 2000+2*most, most, api.MaxTime, most,
		api.MaxTime+1, most, math.MaxInt-1, most, math.MaxInt, most, math.MinInt, 0, math.MinInt+1, 0, -api.MaxTime, 0, 1002, 2)
	hears(t, x, 1, who, []byte{0, 0}, pmpHost(0, 0, outside))
	epochs(t, made(t, n, speaksNone, 0), 0, 0, 1, 1, -1, 0, most, most, most+1, most, math.MaxInt, most, math.MinInt, 0)
	epochs(t, made(t, n, speaksPcp, api.MaxTime), api.MaxTime, 0, api.MaxTime-1, 0, api.MaxTime+1, 1, 0, 0, math.MaxInt, most)
}

// P11.1: two gateways have each its own epoch.
func TestTwoGateways(t *testing.T) {
	m, x := begin(t, speaksBoth)
	n := box(t, boxOf())
	y := made(t, n, speaksPmp, 40)
	hears(t, x, 50, who, pmpAsk(5, 4003, 9), pmpTold(0, 50, 5, 4003, 9))
	hears(t, y, 45, who, pmpAsk(6, 4003, 9), pmpTold(0, 5, 6, 4003, 9))
	x.Reboot(60)
	epochs(t, x, 70, 10)
	epochs(t, y, 70, 30)
	holds(t, m, 50)
	holds(t, n, 50, bound(who, 6, 4003, 54))
}

// P11.1, P11.2: each answer tells the epoch, ahead of the time at which the gateway was made, at it, behind it, and at its greatest.
func TestEpochTold(t *testing.T) {
	const most = 1<<32 - 1
	for _, c := range [][2]int{{0, 0}, {999, 0}, {1000, 0}, {1001, 1}, {1300, 300}, {1000 + most - 1, most - 1}, {1000 + most, most}, {1000 + most + 1, most}, {api.MaxTime - 9, most}} {
		now, epoch := c[0], c[1]
		full := boxOf()
		full.Most = 1
		x := made(t, box(t, full), speaksBoth, 1000)
		hears(t, x, now, who, []byte{0, 0}, pmpHost(0, epoch, outside))
		hears(t, x, now, who, pmpAsk(5, 4000, 3), pmpTold(0, epoch, 5, 4000, 3))
		hears(t, x, now, who, pmpAsk(6, 4000, 3), pmpTold(4, epoch, 6, 0, 0))
		hears(t, x, now, who, pmpAsk(0, 4000, 3), pmpTold(2, epoch, 0, 0, 0))
		hears(t, x, now, who, pcpAsk(other.Host, 7, 6, 0, 3), pcpTold(12, epoch, 7, 6, 0, 0, 0))
		hears(t, x, now, who, pcpAsk(who.Host, 7, 5, 0, 3), pcpTold(2, epoch, 7, 5, 0, 0, 0))
		hears(t, x, now, who, pcpAsk(who.Host, 7, 6, 0, 3), pcpTold(8, epoch, 7, 6, 0, 0, 0))
		hears(t, x, now, who, pcpAsk(who.Host, 7, 0, 0, 3), pcpTold(3, epoch, 7, 0, 0, 0, 0))
		hears(t, x, now, who, pmpAsk(5, 0, 0), pmpTold(0, epoch, 5, 0, 0))
		hears(t, x, now, who, pcpAsk(who.Host, 7, 6, 0, 3), pcpTold(0, epoch, 7, 6, 4000, 3, outside))
		hears(t, x, now, who, pcpAsk(who.Host, 7, 6, 0, 0), pcpTold(0, epoch, 7, 6, 0, 0, 0))
		hears(t, made(t, box(t, full), speaksPmp, 1000), now, who, []byte{2}, pmpHost(1, epoch, 0))
		hears(t, made(t, box(t, full), speaksPcp, 1000), now, who, []byte{0}, pcpTold(1, epoch, 0, 0, 0, 0, 0))
	}
}

// P11.1: a reboot is the box's: no bindings, whether they were asked for or not, nor a time; and the epoch begins anew.
func TestReboot(t *testing.T) {
	n, x := begin(t, speaksBoth)
	for i, now := range []int{20, 30, 30, 10, 0, api.MaxTime, 500} {
		n.Out(9, who2, far)
		hears(t, x, 9, who, pmpAsk(5, 4005, 90), pmpTold(0, x.Epoch(9), 5, 4005, 90))
		hears(t, x, 9, who, pcpAsk(who.Host, uint64(i), 6, 4006, 90), pcpTold(0, x.Epoch(9), uint64(i), 6, 4006, 90, outside))
		x.Reboot(now)
		epochs(t, x, now, 0, now-1, 0, now+5, 5, now+1<<32, 1<<32-1)
		if _, code := n.In(0, 4005, far); code != api.Dropped {
			t.Errorf("behind the reboot at %d: In: %d", now, code)
		}
		holds(t, n, 0)
		if n.Box() != boxOf() {
			t.Errorf("Box() = %v behind a reboot", n.Box())
		}
		hears(t, x, 1, who, []byte{0, 0}, pmpHost(0, max(0, 1-now), outside))
	}
	x.Reboot(3)
	x.Reboot(4)
	epochs(t, x, 3, 0, 4, 0, 9, 5)
}

// P11.1: a reboot at a number that is no time is one, too; the epoch is a number of four bytes then, too.
func TestRebootAnywhere(t *testing.T) {
	for _, now := range badTimes {
		n, x := begin(t, speaksBoth)
		hears(t, x, 9, who, pmpAsk(5, 4005, 90), pmpTold(0, 9, 5, 4005, 90))
		x.Reboot(now)
		holds(t, n, 0)
		for _, at := range append([]int{0, 1, 1 << 31, 1 << 32, api.MaxTime}, badTimes...) {
			if e := x.Epoch(at); e < 0 || e > 1<<32-1 || at <= now && e != 0 || at > now && e == 0 {
				t.Errorf("rebooted at %d: Epoch(%d) = %d", now, at, e)
			}
		}
	}
}

// unspoken: what a gateway answers in the version that it speaks to who asks in one that it doesn't.
func unspoken(g api.Gateway, version byte, epoch int) []byte {
	switch {
	case version == 0 && !g.Pmp && g.Pcp:
		return pcpTold(1, epoch, 0, 0, 0, 0, 0)
	case version == 2 && !g.Pcp && g.Pmp:
		return pmpHost(1, epoch, 0)
	}
	return nil
}

// P11.2: each version, by bytes that are no request behind it: of one that isn't spoken it is told so in the other one; of all others nothing.
func TestVersions(t *testing.T) {
	for _, g := range gateways {
		for version := range 256 {
			n, x := begin(t, g)
			for _, size := range []int{1, 2, 3, 8, 11, 12, 13, 16, 59, 60, 61, 1100} {
				b := bytes.Repeat([]byte{0xee}, size)
				b[0] = byte(version)
				hears(t, x, 4, who, b, unspoken(g, byte(version), 4))
			}
			hears(t, x, 4, who, nil, nil)
			hears(t, x, 4, who, []byte{}, nil)
			holds(t, n, 4)
		}
	}
}

// P11.2: requests that are such, too, are told alone that their version isn't spoken, and nothing is done.
func TestNotSpoken(t *testing.T) {
	for _, g := range []api.Gateway{speaksPmp, speaksPcp, speaksNone} {
		n, x := begin(t, g)
		n.Ask(0, api.Addr{Host: who.Host, Port: 5}, 4004, 50)
		for _, b := range [][]byte{{0, 0}, pmpAsk(5, 4001, 60), pmpAsk(6, 4001, 60), pmpAsk(5, 0, 0), pmpAsk(0, 0, 0), pmpTold(0, 1, 5, 6, 7), pmpHost(0, 1, 9)} {
			if !g.Pmp {
				hears(t, x, 8, who, b, unspoken(g, 0, 8))
			}
		}
		for _, b := range [][]byte{pcpAsk(who.Host, 9, 5, 0, 60), pcpAsk(who.Host, 9, 6, 0, 60), pcpAsk(who.Host, 9, 5, 0, 0), pcpAsk(other.Host, 9, 6, 0, 60), pcpAsk(who.Host, 0, 0, 0, 0), pcpTold(0, 1, 2, 3, 4, 5, 6)} {
			if !g.Pcp {
				hears(t, x, 8, who, b, unspoken(g, 2, 8))
			}
		}
		holds(t, n, 8, bound(who, 5, 4004, 50))
	}
}

// P11.2: who speaks NAT-PMP tells the box's host, whoever asks.
func TestHost(t *testing.T) {
	for _, host := range []uint32{1, 255, 256, outside, 1 << 31, math.MaxUint32} {
		for _, g := range []api.Gateway{speaksPmp, speaksBoth} {
			b := boxOf()
			b.Host = host
			n := box(t, b)
			x := made(t, n, g, 2)
			for i, from := range []api.Addr{who, other, who2, {Host: host, Port: 65535}, {Host: 1, Port: 1}} {
				hears(t, x, 5+i, from, []byte{0, 0}, pmpHost(0, 3+i, host))
			}
			holds(t, n, 9)
		}
	}
}

// version: how one of the two asks, and is told.
type version struct {
	name string
	ask  func(from api.Addr, inside, port, secs int) []byte
	told func(epoch, inside, port, secs int) []byte
	not  func(code api.Code, epoch, inside int) []byte
}

// versions: both, PCP by one nonce.
var versions = []version{
	{
		"NAT-PMP",
		func(_ api.Addr, inside, port, secs int) []byte { return pmpAsk(inside, port, secs) },
		func(epoch, inside, port, secs int) []byte { return pmpTold(0, epoch, inside, port, secs) },
		func(code api.Code, epoch, inside int) []byte {
			return pmpTold(map[api.Code]int{api.Full: 4, api.Arg: 2}[code], epoch, inside, 0, 0)
		},
	},
	{
		"PCP",
		func(from api.Addr, inside, port, secs int) []byte {
			return pcpAsk(from.Host, 1<<63+77, inside, port, secs)
		},
		func(epoch, inside, port, secs int) []byte {
			return pcpTold(0, epoch, 1<<63+77, inside, port, secs, outside)
		},
		func(code api.Code, epoch, inside int) []byte {
			return pcpTold(map[api.Code]int{api.Full: 8, api.Arg: 3}[code], epoch, 1<<63+77, inside, 0, 0, 0)
		},
	},
}

// eachVersion: what is the same in both, with gateways that speak it.
func eachVersion(t *testing.T, say func(t *testing.T, v version, g api.Gateway)) {
	for i, v := range versions {
		for _, g := range gateways {
			if i == 0 && g.Pmp || i == 1 && g.Pcp {
				t.Run(v.name, func(t *testing.T) { say(t, v, g) })
			}
		}
	}
}

// P11.2, P11.3: what is asked for is granted for the seconds, MostSecs at most, and is the box's till just then.
func TestSecs(t *testing.T) {
	eachVersion(t, func(t *testing.T, v version, g api.Gateway) {
		for _, most := range []int{1, 2, 100, 65535, 1 << 31, api.MaxSecs - 1, api.MaxSecs} {
			for _, secs := range []int{1, 2, 3, 99, 100, 101, 65535, 65536, 1<<31 - 1, 1 << 31, 1<<31 + 1, api.MaxSecs - 2, api.MaxSecs - 1, api.MaxSecs} {
				g.MostSecs = most
				n, x := begin(t, g)
				granted := min(secs, most)
				hears(t, x, 7, who, v.ask(who, 5, 4003, secs), v.told(7, 5, 4003, granted))
				holds(t, n, 7, bound(who, 5, 4003, 7+granted))
				holds(t, n, 7+granted-1, bound(who, 5, 4003, 7+granted))
				holds(t, n, 7+granted)
			}
		}
	})
}

// P11.2: whoever asks again has the same binding, till the new end, be it a sooner one.
func TestAgain(t *testing.T) {
	eachVersion(t, func(t *testing.T, v version, g api.Gateway) {
		n, x := begin(t, g)
		for i, secs := range []int{50, 60, 3, 2, 100, 1000, 7} {
			from := api.Addr{Host: who.Host, Port: 1 + 9000*i} // the port from which is asked isn't looked at
			hears(t, x, i, from, v.ask(who, 5, 4000+i, secs), v.told(i, 5, 4000, min(100, secs)))
			holds(t, n, i, bound(who, 5, 4000, i+min(100, secs)))
		}
	})
}

// P11.2: a port that is wished is given, if it is the box's and free; else the least that is free.
func TestWish(t *testing.T) {
	eachVersion(t, func(t *testing.T, v version, g api.Gateway) {
		n, x := begin(t, g)
		n.Out(0, api.Addr{Host: 77, Port: 4001}, far)
		for i, c := range [][2]int{
			{4005, 4005}, // free
			{4005, 4000}, // taken, by who asked
			{4001, 4002}, // taken, by who sent
			{0, 4003},    // none
			{3999, 4004}, // below Lo
			{4010, 4006}, // above Hi
			{4009, 4009}, // Hi
		} {
			hears(t, x, 0, who, v.ask(who, 100+i, c[0], 50), v.told(0, 100+i, c[1], 50))
		}
		if all := n.All(0); len(all) != 8 || all[5].Port != 4005 || all[5].In.Port != 100 {
			t.Errorf("All = %v", all)
		}
	})
}

// P11.2: a box that is full, of bindings or of ports, grants nothing, and nothing is changed; who has a binding may ask again, and when one is gone there is room.
func TestFull(t *testing.T) {
	eachVersion(t, func(t *testing.T, v version, g api.Gateway) {
		for _, b := range []api.Box{
			{Host: outside, Lo: 4000, Hi: 4009, Life: 10, Most: 2},
			{Host: outside, Lo: 4000, Hi: 4001, Life: 10, Most: 9},
		} {
			n := box(t, b)
			x := made(t, n, g, 0)
			hears(t, x, 0, who, v.ask(who, 5, 0, 50), v.told(0, 5, 4000, 50))
			hears(t, x, 0, other, v.ask(other, 5, 0, 20), v.told(0, 5, 4001, 20))
			for _, port := range []int{0, 4000, 4001, 4005, 65535} {
				hears(t, x, 1, who, v.ask(who, 6, port, 9), v.not(api.Full, 1, 6))
			}
			hears(t, x, 1, other, v.ask(other, 65535, 0, api.MaxSecs), v.not(api.Full, 1, 65535))
			holds(t, n, 1, bound(who, 5, 4000, 50), bound(other, 5, 4001, 20))
			hears(t, x, 2, who, v.ask(who, 5, 0, 60), v.told(2, 5, 4000, 60))
			hears(t, x, 19, who, v.ask(who, 6, 0, 9), v.not(api.Full, 19, 6))
			hears(t, x, 20, who, v.ask(who, 6, 0, 9), v.told(20, 6, 4001, 9))
			holds(t, n, 20, bound(who, 5, 4000, 62), bound(who, 6, 4001, 29))
		}
	})
}

// P11.2: 0 is no port inside; any other one is.
func TestInside(t *testing.T) {
	eachVersion(t, func(t *testing.T, v version, g api.Gateway) {
		n, x := begin(t, g)
		hears(t, x, 3, who, v.ask(who, 0, 4000, 50), v.not(api.Arg, 3, 0))
		holds(t, n, 3)
		hears(t, x, 3, who, v.ask(who, 65535, 4000, 50), v.told(3, 65535, 4000, 50))
		hears(t, x, 3, who, v.ask(who, 1, 4001, 50), v.told(3, 1, 4001, 50))
		hears(t, x, 3, who, v.ask(who, 0, 0, 1), v.not(api.Arg, 3, 0))
		hears(t, x, 3, who, v.ask(who, 0, 0, 0), v.not(api.OK, 3, 0))
		holds(t, n, 3, bound(who, 65535, 4000, 53), bound(who, 1, 4001, 53))
	})
}

// P11.2: what would last beyond MaxTime the box doesn't grant, and nothing is changed.
func TestEndOfTime(t *testing.T) {
	eachVersion(t, func(t *testing.T, v version, g api.Gateway) {
		const most = 1<<32 - 1
		n, x := begin(t, g)
		hears(t, x, api.MaxTime-50, who, v.ask(who, 5, 4003, 51), v.not(api.Arg, most, 5))
		hears(t, x, api.MaxTime-50, who, v.ask(who, 5, 4003, 1000), v.not(api.Arg, most, 5))
		hears(t, x, api.MaxTime-50, who, v.ask(who, 5, 4003, 50), v.told(most, 5, 4003, 50))
		hears(t, x, api.MaxTime-20, who, v.ask(who, 5, 4003, 21), v.not(api.Arg, most, 5))
		holds(t, n, api.MaxTime-20, bound(who, 5, 4003, api.MaxTime))
		hears(t, x, api.MaxTime-1, who, v.ask(who, 5, 4003, 1), v.told(most, 5, 4003, 1))
		hears(t, x, api.MaxTime, who, v.ask(who, 5, 4003, 1), v.not(api.Arg, most, 5))
		hears(t, x, api.MaxTime, who, v.ask(who, 5, 4003, 0), v.not(api.OK, most, 5))
		holds(t, n, api.MaxTime)
	})
}

// P11.2: with Secs 0 the binding that was asked for is dropped, whatever port is wished, and beside the epoch and Inside nothing is told; who has none is told the same.
func TestDrop(t *testing.T) {
	eachVersion(t, func(t *testing.T, v version, g api.Gateway) {
		n, x := begin(t, g)
		hears(t, x, 1, who, v.ask(who, 5, 4003, 0), v.not(api.OK, 1, 5))
		hears(t, x, 1, who, v.ask(who, 5, 4003, 50), v.told(1, 5, 4003, 50))
		hears(t, x, 1, who, v.ask(who, 6, 4004, 50), v.told(1, 6, 4004, 50))
		hears(t, x, 1, other, v.ask(other, 5, 4005, 50), v.told(1, 5, 4005, 50))
		n.Out(1, api.Addr{Host: who.Host, Port: 7}, far)
		sent := api.Binding{In: api.Addr{Host: who.Host, Port: 7}, Port: 4000, Until: 11}
		hears(t, x, 2, who2, v.ask(who, 5, 4004, 0), v.not(api.OK, 2, 5))
		holds(t, n, 2, sent, bound(who, 6, 4004, 51), bound(other, 5, 4005, 51))
		hears(t, x, 2, who, v.ask(who, 5, 0, 0), v.not(api.OK, 2, 5))
		hears(t, x, 2, who, v.ask(who, 7, 0, 0), v.not(api.OK, 2, 7))
		holds(t, n, 2, sent, bound(who, 6, 4004, 51), bound(other, 5, 4005, 51))
		hears(t, x, 3, other, v.ask(other, 5, 0, 0), v.not(api.OK, 3, 5))
		hears(t, x, 3, other, v.ask(other, 6, 0, 0), v.not(api.OK, 3, 6))
		holds(t, n, 3, sent, bound(who, 6, 4004, 51))
		hears(t, x, 3, other, v.ask(other, 5, 4003, 9), v.told(3, 5, 4003, 9))
	})
}

// P11.2, P11.3: what was granted lets everybody in till just its end, also who sent ahead of asking, by another port.
func TestGranted(t *testing.T) {
	eachVersion(t, func(t *testing.T, v version, g api.Gateway) {
		n, x := begin(t, g)
		in := api.Addr{Host: who.Host, Port: 5}
		n.Out(0, in, far)
		hears(t, x, 1, who, v.ask(who, 5, 4000, 6), v.told(1, 5, 4001, 6))
		holds(t, n, 1, api.Binding{In: in, Port: 4000, Until: 10}, bound(who, 5, 4001, 7))
		for now := 1; now < 9; now++ {
			want, code := in, api.OK
			if now >= 7 {
				want, code = api.Addr{}, api.Dropped
			}
			if got, c := n.In(now, 4001, api.Addr{Host: 9, Port: 9}); got != want || c != code {
				t.Errorf("In(%d) = %v %d, want %v %d", now, got, c, want, code)
			}
		}
		hears(t, x, 9, who, v.ask(who, 5, 4000, 0), v.not(api.OK, 9, 5))
		holds(t, n, 9, api.Binding{In: in, Port: 4000, Until: 10})
	})
}

// P11.2: a client that isn't who asks is told so, ahead of all else, and nothing is changed.
func TestClient(t *testing.T) {
	for _, g := range []api.Gateway{speaksPcp, speaksBoth} {
		n, x := begin(t, g)
		hears(t, x, 1, who, pcpAsk(who.Host, 7, 5, 4003, 50), pcpTold(0, 1, 7, 5, 4003, 50, outside))
		for _, client := range []uint32{0, 1, other.Host, who.Host - 1, who.Host ^ 1<<31, outside, math.MaxUint32} {
			for _, nonce := range []uint64{7, 8} {
				for _, inside := range []int{0, 5, 6, 65535} {
					for _, secs := range []int{0, 1, 60, api.MaxSecs} {
						hears(t, x, 2, who, pcpAskFor(client, nonce, inside, 4004, secs, 99), pcpTold(12, 2, nonce, inside, 0, 0, 0))
					}
				}
			}
		}
		hears(t, x, 2, other, pcpAsk(who.Host, 7, 5, 0, 0), pcpTold(12, 2, 7, 5, 0, 0, 0))
		holds(t, n, 2, bound(who, 5, 4003, 51))
		hears(t, x, 3, who2, pcpAsk(who.Host, 7, 5, 4003, 50), pcpTold(0, 3, 7, 5, 4003, 50, outside))
	}
}

// P11.2: the host that is wished outside isn't looked at.
func TestWishedHost(t *testing.T) {
	_, x := begin(t, speaksPcp)
	for i, host := range []uint32{0, 1, outside, outside + 1, math.MaxUint32} {
		hears(t, x, i, who, pcpAskFor(who.Host, 7, 5, 4003, 50, host), pcpTold(0, i, 7, 5, 4003, 50, outside))
	}
}

// nonces: any number of 64 bits is one.
var nonces = []uint64{0, 1, 7, 1<<32 - 1, 1 << 32, 1<<32 + 7, 1<<63 - 1, 1 << 63, 1<<63 + 7, math.MaxUint64}

// P11.3: who asks by PCP for what was asked for by PCP renews, and drops, it with the same nonce, and with no other one.
func TestNonce(t *testing.T) {
	for _, g := range []api.Gateway{speaksPcp, speaksBoth} {
		for _, own := range nonces {
			n, x := begin(t, g)
			hears(t, x, 1, who, pcpAsk(who.Host, own, 5, 4003, 50), pcpTold(0, 1, own, 5, 4003, 50, outside))
			for _, nonce := range nonces {
				if nonce != own {
					hears(t, x, 2, who, pcpAsk(who.Host, nonce, 5, 4003, 90), pcpTold(2, 2, nonce, 5, 0, 0, 0))
					hears(t, x, 2, who, pcpAsk(who.Host, nonce, 5, 4003, 0), pcpTold(2, 2, nonce, 5, 0, 0, 0))
				}
			}
			holds(t, n, 2, bound(who, 5, 4003, 51))
			hears(t, x, 3, who, pcpAsk(who.Host, own, 5, 0, 90), pcpTold(0, 3, own, 5, 4003, 90, outside))
			hears(t, x, 3, who, pcpAsk(who.Host, own+1, 5, 0, 0), pcpTold(2, 3, own+1, 5, 0, 0, 0))
			holds(t, n, 3, bound(who, 5, 4003, 93))
			hears(t, x, 4, who, pcpAsk(who.Host, own, 5, 0, 0), pcpTold(0, 4, own, 5, 0, 0, 0))
			holds(t, n, 4)
			hears(t, x, 4, who, pcpAsk(who.Host, own+1, 5, 4004, 9), pcpTold(0, 4, own+1, 5, 4004, 9, outside))
			hears(t, x, 4, who, pcpAsk(who.Host, own, 5, 4004, 9), pcpTold(2, 4, own, 5, 0, 0, 0))
			holds(t, n, 4, bound(who, 5, 4004, 13))
		}
	}
}

// P11.3: each port inside, and each host, has its nonce; nobody's is another one's.
func TestNonceOfOne(t *testing.T) {
	n, x := begin(t, speaksBoth)
	hears(t, x, 0, who, pcpAsk(who.Host, 1, 5, 4005, 50), pcpTold(0, 0, 1, 5, 4005, 50, outside))
	hears(t, x, 0, who, pcpAsk(who.Host, 2, 6, 4006, 50), pcpTold(0, 0, 2, 6, 4006, 50, outside))
	hears(t, x, 0, other, pcpAsk(other.Host, 3, 5, 4007, 50), pcpTold(0, 0, 3, 5, 4007, 50, outside))
	hears(t, x, 1, who, pcpAsk(who.Host, 2, 5, 0, 0), pcpTold(2, 1, 2, 5, 0, 0, 0))
	hears(t, x, 1, who, pcpAsk(who.Host, 1, 6, 0, 0), pcpTold(2, 1, 1, 6, 0, 0, 0))
	hears(t, x, 1, other, pcpAsk(other.Host, 1, 5, 0, 0), pcpTold(2, 1, 1, 5, 0, 0, 0))
	holds(t, n, 1, bound(who, 5, 4005, 50), bound(who, 6, 4006, 50), bound(other, 5, 4007, 50))
	hears(t, x, 2, other, pcpAsk(other.Host, 3, 5, 0, 0), pcpTold(0, 2, 3, 5, 0, 0, 0))
	hears(t, x, 2, who, pcpAsk(who.Host, 3, 5, 0, 9), pcpTold(2, 2, 3, 5, 0, 0, 0))
	hears(t, x, 2, who, pcpAsk(who.Host, 2, 6, 0, 9), pcpTold(0, 2, 2, 6, 4006, 9, outside))
	holds(t, n, 2, bound(who, 5, 4005, 50), bound(who, 6, 4006, 11))
}

// P11.2: what was asked for by NAT-PMP PCP neither renews nor drops, by no nonce.
func TestPcpOfPmp(t *testing.T) {
	for _, nonce := range nonces {
		n, x := begin(t, speaksBoth)
		hears(t, x, 1, who, pmpAsk(5, 4003, 50), pmpTold(0, 1, 5, 4003, 50))
		hears(t, x, 2, who, pcpAsk(who.Host, nonce, 5, 4003, 90), pcpTold(2, 2, nonce, 5, 0, 0, 0))
		hears(t, x, 2, who, pcpAsk(who.Host, nonce, 5, 4003, 0), pcpTold(2, 2, nonce, 5, 0, 0, 0))
		holds(t, n, 2, bound(who, 5, 4003, 51))
		hears(t, x, 3, who, pmpAsk(5, 0, 60), pmpTold(0, 3, 5, 4003, 60))
		hears(t, x, 3, who, pmpAsk(5, 0, 0), pmpTold(0, 3, 5, 0, 0))
		hears(t, x, 3, who, pcpAsk(who.Host, nonce, 5, 4003, 90), pcpTold(0, 3, nonce, 5, 4003, 90, outside))
	}
}

// P11.3: NAT-PMP renews, and drops, what was asked for by PCP; what it renewed was asked for by it, so that PCP's nonce counts no more.
func TestPmpOfPcp(t *testing.T) {
	for _, nonce := range nonces {
		n, x := begin(t, speaksBoth)
		hears(t, x, 1, who, pcpAsk(who.Host, nonce, 5, 4003, 50), pcpTold(0, 1, nonce, 5, 4003, 50, outside))
		hears(t, x, 2, who, pmpAsk(5, 0, 60), pmpTold(0, 2, 5, 4003, 60))
		hears(t, x, 3, who, pcpAsk(who.Host, nonce, 5, 0, 90), pcpTold(2, 3, nonce, 5, 0, 0, 0))
		hears(t, x, 3, who, pcpAsk(who.Host, nonce, 5, 0, 0), pcpTold(2, 3, nonce, 5, 0, 0, 0))
		holds(t, n, 3, bound(who, 5, 4003, 62))
		n, x = begin(t, speaksBoth)
		hears(t, x, 1, who, pcpAsk(who.Host, nonce, 5, 4003, 50), pcpTold(0, 1, nonce, 5, 4003, 50, outside))
		hears(t, x, 2, who, pmpAsk(5, 0, 0), pmpTold(0, 2, 5, 0, 0))
		holds(t, n, 2)
		hears(t, x, 2, who, pcpAsk(who.Host, nonce+1, 5, 0, 9), pcpTold(0, 2, nonce+1, 5, 4000, 9, outside))
	}
}

// P11.3: what NAT-PMP asked for in vain stays PCP's, by its nonce.
func TestPmpInVain(t *testing.T) {
	n, x := begin(t, speaksBoth)
	now := api.MaxTime - 50
	const most = 1<<32 - 1
	hears(t, x, now, who, pcpAsk(who.Host, 7, 5, 4003, 50), pcpTold(0, most, 7, 5, 4003, 50, outside))
	hears(t, x, now, who, pmpAsk(5, 4003, 60), pmpTold(2, most, 5, 0, 0))
	hears(t, x, now, who, pcpAsk(who.Host, 8, 5, 0, 9), pcpTold(2, most, 8, 5, 0, 0, 0))
	hears(t, x, now, who, pcpAsk(who.Host, 7, 5, 0, 60), pcpTold(3, most, 7, 5, 0, 0, 0))
	hears(t, x, now, who, pcpAsk(who.Host, 8, 5, 0, 60), pcpTold(2, most, 8, 5, 0, 0, 0))
	hears(t, x, now, who, pcpAsk(who.Host, 7, 5, 0, 9), pcpTold(0, most, 7, 5, 4003, 9, outside))
	holds(t, n, now, bound(who, 5, 4003, now+9))
}

// P11.3: at its end a binding is nobody's, one tick ahead of it still is, whoever asked for it.
func TestBehindEnd(t *testing.T) {
	n, x := begin(t, speaksBoth)
	hears(t, x, 1, who, pcpAsk(who.Host, 7, 5, 4003, 9), pcpTold(0, 1, 7, 5, 4003, 9, outside))
	hears(t, x, 9, who, pcpAsk(who.Host, 8, 5, 0, 9), pcpTold(2, 9, 8, 5, 0, 0, 0))
	hears(t, x, 10, who, pcpAsk(who.Host, 8, 5, 0, 9), pcpTold(0, 10, 8, 5, 4000, 9, outside))
	hears(t, x, 18, who, pcpAsk(who.Host, 7, 5, 0, 9), pcpTold(2, 18, 7, 5, 0, 0, 0))
	hears(t, x, 19, who, pmpAsk(5, 4004, 9), pmpTold(0, 19, 5, 4004, 9))
	hears(t, x, 27, who, pcpAsk(who.Host, 8, 5, 0, 9), pcpTold(2, 27, 8, 5, 0, 0, 0))
	hears(t, x, 28, who, pcpAsk(who.Host, 8, 5, 0, 0), pcpTold(0, 28, 8, 5, 0, 0, 0))
	hears(t, x, 28, who, pcpAsk(who.Host, 9, 5, 4005, 9), pcpTold(0, 28, 9, 5, 4005, 9, outside))
	holds(t, n, 28, bound(who, 5, 4005, 37))
	holds(t, n, 37)
	hears(t, x, 37, who, pcpAsk(who.Host, 7, 5, 0, 0), pcpTold(0, 37, 7, 5, 0, 0, 0))
}

// P11.3: behind a reboot nobody has a binding, nor is a nonce known.
func TestBehindReboot(t *testing.T) {
	n, x := begin(t, speaksBoth)
	hears(t, x, 1, who, pcpAsk(who.Host, 7, 5, 4003, 90), pcpTold(0, 1, 7, 5, 4003, 90, outside))
	hears(t, x, 1, who, pmpAsk(6, 4004, 90), pmpTold(0, 1, 6, 4004, 90))
	x.Reboot(20)
	hears(t, x, 20, who, pcpAsk(who.Host, 8, 5, 0, 0), pcpTold(0, 0, 8, 5, 0, 0, 0))
	hears(t, x, 21, who, pcpAsk(who.Host, 8, 5, 0, 9), pcpTold(0, 1, 8, 5, 4000, 9, outside))
	hears(t, x, 22, who, pcpAsk(who.Host, 8, 6, 0, 9), pcpTold(0, 2, 8, 6, 4001, 9, outside))
	hears(t, x, 23, who, pcpAsk(who.Host, 7, 5, 0, 9), pcpTold(2, 3, 7, 5, 0, 0, 0))
	holds(t, n, 23, bound(who, 5, 4000, 30), bound(who, 6, 4001, 31))
}

// P11.3: what was dropped, or forgotten, at the box itself is nobody's at the gateway, either; what was asked for there wasn't by PCP.
func TestBesideTheGateway(t *testing.T) {
	in := api.Addr{Host: who.Host, Port: 5}
	for _, gone := range []func(n *nat.Nat){func(n *nat.Nat) { n.Drop(2, in) }, (*nat.Nat).Reboot} {
		n, x := begin(t, speaksBoth)
		hears(t, x, 1, who, pcpAsk(who.Host, 7, 5, 4003, 90), pcpTold(0, 1, 7, 5, 4003, 90, outside))
		gone(n)
		hears(t, x, 2, who, pcpAsk(who.Host, 8, 5, 4004, 9), pcpTold(0, 2, 8, 5, 4004, 9, outside))
		hears(t, x, 2, who, pcpAsk(who.Host, 7, 5, 4004, 9), pcpTold(2, 2, 7, 5, 0, 0, 0))
		gone(n)
		hears(t, x, 3, who, []byte{0, 0}, pmpHost(0, 3, outside))
		n.Ask(3, in, 4005, 50)
		hears(t, x, 3, who, pcpAsk(who.Host, 8, 5, 0, 0), pcpTold(2, 3, 8, 5, 0, 0, 0))
		holds(t, n, 3, bound(who, 5, 4005, 50))
	}
}

// P11.3: of what was dropped at the gateway, by either version, or was there ahead of its reboot, no nonce is known behind it, be it asked for at the box itself at once.
func TestDroppedNonce(t *testing.T) {
	in := api.Addr{Host: who.Host, Port: 5}
	for _, gone := range []func(x *Gate){
		func(x *Gate) { x.Hear(1, who, pcpAsk(who.Host, 7, 5, 0, 0)) },
		func(x *Gate) { x.Hear(1, who, pmpAsk(5, 0, 0)) },
		func(x *Gate) { x.Reboot(0) },
	} {
		n, x := begin(t, speaksBoth)
		hears(t, x, 1, who, pcpAsk(who.Host, 7, 5, 4003, 90), pcpTold(0, 1, 7, 5, 4003, 90, outside))
		gone(x)
		holds(t, n, 1)
		n.Ask(1, in, 4005, 50)
		hears(t, x, 1, who, pcpAsk(who.Host, 7, 5, 0, 90), pcpTold(2, 1, 7, 5, 0, 0, 0))
		holds(t, n, 1, bound(who, 5, 4005, 50))
	}
}

// requests: such as are requests, of both versions.
func requests() [][]byte {
	return [][]byte{
		{0, 0}, pmpAsk(5, 4003, 60), pmpAsk(6, 0, 1), pmpAsk(5, 0, 0), pmpAsk(0, 0, 0),
		pcpAsk(who.Host, 7, 5, 4003, 60), pcpAsk(who.Host, 8, 6, 0, 1), pcpAsk(who.Host, 7, 5, 0, 0), pcpAsk(other.Host, 7, 5, 0, 0),
	}
}

// P11.2: bytes that are no request of their version, cut off, with bytes behind, or answers, have no answer, and nothing is changed.
func TestNoRequest(t *testing.T) {
	n, x := begin(t, speaksBoth)
	hears(t, x, 1, who, pcpAsk(who.Host, 7, 5, 4003, 90), pcpTold(0, 1, 7, 5, 4003, 90, outside))
	var bad [][]byte
	for _, b := range requests() {
		for size := range len(b) {
			bad = append(bad, b[:size])
		}
		for _, behind := range []byte{0, 1, 2, 255} {
			bad = append(bad, append(slices.Clone(b), behind))
		}
		bad = append(bad, append(slices.Clone(b), b...), append(slices.Clone(b), make([]byte, 1100)...))
	}
	bad = append(bad,
		pmpHost(0, 1, outside), pmpHost(1, 1, 0), pmpTold(0, 1, 5, 4003, 0), pmpTold(0, 1, 5, 4003, 60),
		pcpTold(0, 1, 7, 5, 4003, 0, outside), pcpTold(0, 1, 7, 5, 4003, 60, outside))
	for kind := 1; kind < 256; kind++ {
		bad = append(bad, []byte{0, byte(kind)})
		if kind > 1 {
			b := pmpAsk(5, 0, 0)
			b[1] = byte(kind)
			c := pcpAsk(who.Host, 7, 5, 0, 0)
			c[1] = byte(kind)
			bad = append(bad, b, c)
		}
	}
	// Bytes that must be 0, or as they are.
	for at := range 60 {
		if b := pmpAsk(5, 0, 0); at > 1 && at < 4 {
			b[at] = 1
			bad = append(bad, b)
		}
		if b := pcpAsk(who.Host, 7, 5, 0, 0); at > 1 && at < 4 || at >= 8 && at < 20 || at >= 24 && at < 28 || at >= 36 && at < 40 || at >= 44 && at < 56 {
			b[at] ^= 1
			bad = append(bad, b)
		}
	}
	for _, b := range bad {
		hears(t, x, 2, who, b, nil)
	}
	holds(t, n, 2, bound(who, 5, 4003, 91))
}

// P11.2: from who has no address nothing is heard, and nothing is changed.
func TestFrom(t *testing.T) {
	for _, g := range gateways {
		n, x := begin(t, g)
		for _, from := range badAddrs {
			for _, b := range append(requests(), []byte{0}, []byte{2}, []byte{1}, nil, pcpAsk(from.Host, 9, 6, 0, 60)) {
				hears(t, x, 3, from, b, nil)
			}
		}
		holds(t, n, 3)
	}
	_, x := begin(t, speaksBoth)
	for i, from := range []api.Addr{{Host: 1, Port: 1}, {Host: 1, Port: 65535}, {Host: math.MaxUint32, Port: 1}, {Host: outside, Port: 4000}} {
		hears(t, x, 0, from, pmpAsk(40+i, 0, 9), pmpTold(0, 0, 40+i, 4000+i, 9))
	}
}

// P11.2: at what is no time, or below that of the call ahead, nothing is heard, and nothing is changed.
func TestTimes(t *testing.T) {
	for _, g := range gateways {
		n, x := begin(t, g)
		x.Hear(30, who, []byte{0, 0})
		n.Ask(30, api.Addr{Host: who.Host, Port: 5}, 4003, 90)
		for _, now := range append([]int{0, 1, 29}, badTimes...) {
			for _, b := range append(requests(), []byte{0}, []byte{2}, []byte{1}, nil) {
				hears(t, x, now, who, b, nil)
			}
		}
		holds(t, n, 30, bound(who, 5, 4003, 90))
		if (g.Pmp || g.Pcp) && (x.Hear(30, who, []byte{0, 0}) == nil || x.Hear(api.MaxTime, who, []byte{0, 0}) == nil) {
			t.Errorf("%v: a time that is that of the call ahead, or MaxTime, isn't heard", g)
		}
	}
}

// P11.2: the time is the box's: it goes on by what the box is asked, too, and by any datagram, be it answered or not, and begins anew with the box.
func TestTimeIsTheBoxs(t *testing.T) {
	n, x := begin(t, speaksBoth)
	n.Out(40, who, far)
	hears(t, x, 39, who, []byte{0, 0}, nil)
	hears(t, x, 39, who, pmpAsk(5, 0, 60), nil)
	hears(t, x, 40, who, []byte{0, 0}, pmpHost(0, 40, outside))
	for i, b := range [][]byte{{0, 0}, nil, {9}, {0}, {2}, pmpAsk(5, 0, 1), pcpAsk(who.Host, 7, 5, 0, 1), pcpAsk(other.Host, 7, 5, 0, 1)} {
		x.Hear(100+i, who, b)
		if _, code := n.Out(99+i, who, far); code != api.Arg {
			t.Errorf("%x: the time didn't go on", b)
		}
	}
	x.Hear(200, api.Addr{}, nil)
	hears(t, x, 199, who, []byte{0, 0}, nil)
	hears(t, x, api.MaxTime+1, who, []byte{0, 0}, nil)
	hears(t, x, 200, who, []byte{0, 0}, pmpHost(0, 200, outside))
	x.Reboot(150)
	hears(t, x, 149, who, []byte{0, 0}, pmpHost(0, 0, outside))
	hears(t, x, 148, who, []byte{0, 0}, nil)
	n.Reboot()
	hears(t, x, 3, who, []byte{0, 0}, pmpHost(0, 0, outside))
}

// P11.2: what is handed in isn't changed, its spare room neither, and isn't kept; what is answered is new memory.
func TestMemory(t *testing.T) {
	n, x := begin(t, speaksBoth)
	for _, b := range requests() {
		room := append(slices.Clone(b), 1, 2, 3)
		first := x.Hear(1, who, room[:len(b)])
		if !bytes.Equal(room, append(slices.Clone(b), 1, 2, 3)) {
			t.Errorf("Hear changed %x to %x", b, room)
		}
		clear(room)
		want := slices.Clone(first)
		second := x.Hear(1, who, b)
		for i := range second {
			second[i]++
		}
		if !bytes.Equal(first, want) {
			t.Errorf("the answer to %x is that of a later call", b)
		}
		x.Reboot(0)
	}
	hears(t, x, 1, who, pcpAsk(who.Host, 7, 5, 4003, 60), pcpTold(0, 1, 7, 5, 4003, 60, outside))
	holds(t, n, 1, bound(who, 5, 4003, 61))
}

// What is kept is no more than of the bindings that there are.
func TestKept(t *testing.T) {
	_, x := begin(t, speaksBoth)
	for i := range 3000 {
		x.Hear(i, api.Addr{Host: uint32(1 + i), Port: 9}, pcpAsk(uint32(1+i), uint64(i), 5, 0, 2))
	}
	if len(x.nonces) > boxOf().Most {
		t.Errorf("%d nonces are kept", len(x.nonces))
	}
	x.Hear(4000, who, nil)
	if len(x.nonces) != 0 {
		t.Errorf("%d nonces are kept, of no bindings", len(x.nonces))
	}
}

// step: what was done to a binding that is asked for: by what it is known, and till when it lasts.
type step struct {
	in    api.Addr
	by    string
	until int
}

// plain: a gateway by the words alone, that throws nothing away: a box of its own is told what is granted, and whose something is, is looked up in all that was done.
type plain struct {
	box    *nat.Nat
	speaks api.Gateway
	since  int
	now    int
	done   []step
}

// whose: by what the binding of one is known that lasts; "" of none.
func (p *plain) whose(in api.Addr) string {
	for _, s := range slices.Backward(p.done) {
		if s.in == in {
			if s.until > p.now {
				return s.by
			}
			return ""
		}
	}
	return ""
}

// isTime: whether it may be the time; then it is.
func (p *plain) isTime(now int) bool {
	if now < 0 || now > 1<<40 || now < p.now {
		return false
	}
	p.now = now
	p.box.All(now) // its time is the same
	return true
}

// epoch: by the words.
func (p *plain) epoch() int { return max(0, min(p.now-p.since, 1<<32-1)) }

// hear: Hear, by the words.
func (p *plain) hear(now int, from api.Addr, b []byte) []byte {
	if !p.isTime(now) || from.Host == 0 || from.Port < 1 || from.Port > 65535 || len(b) == 0 || b[0] != 0 && b[0] != 2 {
		return nil
	}
	if b[0] == 0 && !p.speaks.Pmp || b[0] == 2 && !p.speaks.Pcp {
		return unspoken(p.speaks, b[0], p.epoch())
	}
	two := func(at int) int { return int(binary.BigEndian.Uint16(b[at:])) }
	four := func(at int) int { return int(binary.BigEndian.Uint32(b[at:])) }
	switch {
	case bytes.Equal(b, []byte{0, 0}):
		return pmpHost(0, p.epoch(), outside)
	case len(b) == 12 && bytes.Equal(b, pmpAsk(two(4), two(6), four(8))):
		port, secs, code := p.grant(api.Addr{Host: from.Host, Port: two(4)}, two(6), four(8), "NAT-PMP")
		return pmpTold(map[api.Code]int{api.OK: 0, api.Full: 4, api.Arg: 2}[code], p.epoch(), two(4), port, secs)
	case len(b) == 60:
		nonce, host := binary.BigEndian.Uint64(b[28:]), uint32(four(56))
		if bytes.Equal(b, pcpAskFor(uint32(four(20)), nonce, two(40), two(42), four(4), host)) {
			return p.hearPcp(from, uint32(four(20)), nonce, two(40), two(42), four(4))
		}
	}
	return nil
}

// hearPcp: what a request of PCP is answered, by the words.
func (p *plain) hearPcp(from api.Addr, client uint32, nonce uint64, inside, wish, secs int) []byte {
	in, by := api.Addr{Host: from.Host, Port: inside}, "PCP "+strconv.FormatUint(nonce, 10)
	result, port, code, host := 0, 0, api.OK, uint32(0)
	had := p.whose(in)
	switch {
	case client != from.Host:
		result, secs = 12, 0
	case had != "" && had != by:
		result, secs = 2, 0
	default:
		port, secs, code = p.grant(in, wish, secs, by)
		result = map[api.Code]int{api.OK: 0, api.Full: 8, api.Arg: 3}[code]
	}
	if secs > 0 {
		host = outside
	}
	return pcpTold(result, p.epoch(), nonce, inside, port, secs, host)
}

// grant: what the box says, and till when it lasts.
func (p *plain) grant(in api.Addr, wish, secs int, by string) (int, int, api.Code) {
	secs = min(secs, p.speaks.MostSecs)
	if secs == 0 {
		p.box.Drop(p.now, in)
		p.done = append(p.done, step{in: in})
		return 0, 0, api.OK
	}
	port, code := p.box.Ask(p.now, in, wish, p.now+secs)
	if code != api.OK {
		return 0, 0, code
	}
	p.done = append(p.done, step{in, by, p.now + secs})
	return port, secs, api.OK
}

// dice: numbers from a row of bytes, 0 behind its end.
type dice struct{ rest []byte }

// roll: one of the numbers below so many.
func (d *dice) roll(below int) int {
	if len(d.rest) == 0 {
		return 0
	}
	b := int(d.rest[0])
	d.rest = d.rest[1:]
	return b % below
}

// time: a time now, mostly one that goes on, by little.
func (d *dice) time(now int) int {
	switch d.roll(24) {
	case 0:
		return badTimes[d.roll(len(badTimes))]
	case 1:
		return now - 1
	case 2:
		return now + d.roll(50)
	case 3, 4, 5, 6, 7:
		return now + 1
	}
	return now
}

// from: one of few who ask, or, seldom, none.
func (d *dice) from() api.Addr {
	if d.roll(40) == 39 {
		return badAddrs[d.roll(len(badAddrs))]
	}
	return []api.Addr{who, other, who2}[d.roll(3)]
}

// datagram: a request of few ports and nonces, or, seldom, something else.
func (d *dice) datagram(from api.Addr) []byte {
	inside, wish := []int{5, 6, 0, 5}[d.roll(4)], 3999+d.roll(6)
	secs := []int{0, 1, 3, 9, 10, 11, 40, api.MaxSecs}[d.roll(8)]
	var b []byte
	switch d.roll(8) {
	case 0:
		b = []byte{0, 0}
	case 1, 2:
		b = pmpAsk(inside, wish, secs)
	case 3:
		b = [][]byte{pmpHost(0, 1, 2), pmpTold(0, 1, 5, 4000, 9), pcpTold(0, 1, 7, 5, 4000, 9, outside), {1, 0}, {255}, nil}[d.roll(6)]
	default:
		client := from.Host
		if d.roll(12) == 11 {
			client = other.Host
		}
		b = pcpAskFor(client, []uint64{0, 1, 1 << 63}[d.roll(3)], inside, wish, secs, uint32(d.roll(2)))
	}
	return d.spoiled(b)
}

// spoiled: mostly as it was; else cut off, with a byte behind, or with a byte other than it was.
func (d *dice) spoiled(b []byte) []byte {
	switch d.roll(24) {
	case 0:
		return b[:d.roll(len(b)+1)]
	case 1:
		return append(b, byte(d.roll(256)))
	case 2:
		if len(b) > 0 {
			b[d.roll(len(b))] ^= 1 << d.roll(8)
		}
	}
	return b
}

// both: a gateway, its box, and the plain one, to which the same is done.
type both struct {
	t     *testing.T
	box   *nat.Nat
	gate  *Gate
	plain *plain
}

// step does one thing to both, and holds the answers against each other.
func (x both) step(d *dice) {
	now := d.time(x.plain.now)
	switch d.roll(16) {
	case 0:
		in, to := d.from(), api.Addr{Host: far.Host, Port: 1 + d.roll(3)}
		a, code := x.plain.box.Out(now, in, to)
		if got, c := x.box.Out(now, in, to); got != a || c != code {
			x.t.Fatalf("Out(%d, %v, %v) = %v %d, want %v %d", now, in, to, got, c, a, code)
		}
		x.plain.isTime(now)
	case 1:
		if d.roll(5) == 4 {
			at := []int{0, max(0, x.plain.now-d.roll(9)), min(x.plain.now+d.roll(9), api.MaxTime), api.MaxTime - 30}[d.roll(4)]
			x.gate.Reboot(at)
			x.plain.box.Reboot()
			x.plain.since, x.plain.now, x.plain.done = at, 0, nil
			if d.roll(2) == 1 {
				x.gate.Hear(at, who, nil)
				x.plain.hear(at, who, nil)
			}
		}
	case 2:
		if got, want := x.gate.Epoch(now), max(0, min(now-x.plain.since, 1<<32-1)); now > -1<<62 && got != want {
			x.t.Fatalf("Epoch(%d) = %d, want %d", now, got, want)
		}
	default:
		from := d.from()
		b := d.datagram(from)
		want := x.plain.hear(now, from, b)
		if got := x.gate.Hear(now, from, b); !bytes.Equal(got, want) {
			x.t.Fatalf("Hear(%d, %v, %x) = %x, want %x", now, from, b, got, want)
		}
	}
}

// all holds all bindings against each other. Of those that were asked for all are known, and last as long as was told.
func (x both) all() {
	now := x.plain.now
	want, got := x.plain.box.All(now), x.box.All(now)
	if !slices.Equal(got, want) {
		x.t.Fatalf("All(%d) = %v, want %v", now, got, want)
	}
	for _, b := range got {
		if b.Asked != (x.plain.whose(b.In) != "") && b.Asked {
			x.t.Fatalf("All(%d) = %v: of %v nothing is known", now, got, b.In)
		}
	}
}

// script: what a row of bytes says is done to a gateway; its box's bindings are told behind each step, or at the end alone, since asking might mend what is wrong.
func script(t *testing.T, row []byte, often bool) {
	d := &dice{row}
	g := gateways[[]int{0, 1, 2, 2, 2, 2, 2, 3}[d.roll(8)]]
	g.MostSecs = []int{1, 10, 30, api.MaxSecs}[d.roll(4)]
	b := api.Box{Host: outside, Lo: 4000, Hi: 4000 + d.roll(5), Map: d.roll(3), Filter: d.roll(3), Life: 1 + d.roll(20), Most: 1 + d.roll(5)}
	since := d.roll(40)
	n := box(t, b)
	x := both{t, n, made(t, n, g, since), &plain{box: box(t, b), speaks: g, since: since}}
	for len(d.rest) > 0 {
		x.step(d)
		if often {
			x.all()
		}
	}
	x.all()
}

// rows: rows of bytes, as by chance, but always the same.
func rows(many, long int) [][]byte {
	x := uint64(88172645463325252)
	all := make([][]byte, many)
	for i := range all {
		for range long {
			x ^= x << 13
			x ^= x >> 7
			x ^= x << 17
			all[i] = append(all[i], byte(x>>32))
		}
	}
	return all
}

// P11.1 to P11.3: whatever is done, the answers are those by the words.
func TestScripts(t *testing.T) {
	for _, row := range rows(1000, 1000) {
		script(t, row, true)
		script(t, row, false)
	}
}

// FuzzScript: whatever is done, the answers are those by the words.
func FuzzScript(f *testing.F) {
	for _, row := range rows(20, 200) {
		f.Add(row)
	}
	f.Fuzz(func(t *testing.T, row []byte) {
		script(t, row, true)
		script(t, row, false)
	})
}
