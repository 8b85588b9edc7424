package mapper

import (
	"bytes"
	"encoding/binary"
	"math"
	"slices"
	"strconv"
	"testing"

	"embrasure/api"
)

// A client: its host, its port, for how many seconds it asks, and its nonce; and the gateway's host outside.
const (
	own     = 0x0a000001
	inside  = 1000
	secs    = 3600
	nonce   = 1<<63 + 77
	outside = 0xcb007101
)

// badTimes: such as are no times, some of them times when they are cut.
var badTimes = []int{-1, -2, -api.MaxTime, math.MinInt, math.MinInt + 1, -1 << 32, api.MaxTime + 1, api.MaxTime + 2, 2 * api.MaxTime, 1<<48 + 50, 1<<62 + 50, math.MaxInt}

// row: numbers, each in so many bytes, the greatest byte first.
func row(parts ...[2]uint64) []byte {
	var b []byte
	for _, p := range parts {
		b = append(b, binary.BigEndian.AppendUint64(nil, p[1])[8-p[0]:]...)
	}
	return b
}

// num: a number in so many bytes.
func num[N int | uint32 | uint64](size int, v N) [2]uint64 { return [2]uint64{uint64(size), uint64(v)} }

// pmpAsk: NAT-PMP's request for a port.
func pmpAsk(inside, port, secs int) []byte {
	return row(num(2, 1), num(2, 0), num(2, inside), num(2, port), num(4, secs))
}

// pmpPort: NAT-PMP's answer about a port.
func pmpPort(result, epoch, inside, port, secs int) []byte {
	return row(num(2, 129), num(2, result), num(4, epoch), num(2, inside), num(2, port), num(4, secs))
}

// pmpHost: NAT-PMP's answer about the host.
func pmpHost(result, epoch int, host uint32) []byte {
	return row(num(2, 128), num(2, result), num(4, epoch), num(4, host))
}

// pcpAsk: PCP's request.
func pcpAsk(client uint32, nonce uint64, inside, port, secs int, host uint32) []byte {
	return row(num(4, 0x02010000), num(4, secs), num(8, 0), num(4, 0xffff), num(4, client),
		num(4, 0), num(8, nonce), num(4, 17<<24), num(2, inside), num(2, port), num(8, 0), num(4, 0xffff), num(4, host))
}

// pcpTold: PCP's answer.
func pcpTold(result, epoch int, nonce uint64, inside, port, secs int, host uint32) []byte {
	return row(num(4, 0x02810000|result), num(4, secs), num(4, epoch), num(8, 0), num(4, 0),
		num(4, 0), num(8, nonce), num(4, 17<<24), num(2, inside), num(2, port), num(8, 0), num(4, 0xffff), num(4, host))
}

// asks: what the client of these tests sends when it asks in a version, wishing an address; for no seconds: when it stops.
func asks(version, secs int, wish api.Addr) [][]byte {
	switch {
	case version == 2:
		return [][]byte{pcpAsk(own, nonce, inside, wish.Port, secs, wish.Host)}
	case secs == 0:
		return [][]byte{pmpAsk(inside, wish.Port, 0)}
	}
	return [][]byte{{0, 0}, pmpAsk(inside, wish.Port, secs)}
}

// grants: the answer about the port by which it is granted so to the client of these tests. (In version 0 the host is told by itself.)
func grants(version, epoch, port, secs int) []byte {
	if version == 2 {
		return pcpTold(0, epoch, nonce, inside, port, secs, outside)
	}
	return pmpPort(0, epoch, inside, port, secs)
}

// refuses: the answer about the port with another result, and with all else as if it were granted.
func refuses(version, result, epoch int) []byte {
	if version == 2 {
		return pcpTold(result, epoch, nonce, inside, 4000, 40, outside)
	}
	return pmpPort(result, epoch, inside, 4000, 40)
}

// unspoken: answers by which a version isn't spoken, of either version, some with nothing in them, and some of another port, and with another nonce.
func unspoken() [][]byte {
	return [][]byte{
		pmpHost(1, 9, 0), pmpHost(1, 9, outside), pmpPort(1, 9, inside, 0, 0), pmpPort(1, 0, 7, 4000, 40),
		pcpTold(1, 9, 0, 0, 0, 0, 0), pcpTold(1, 9, nonce, inside, 0, 0, 0), pcpTold(1, 0, nonce+1, 7, 4000, 40, outside),
	}
}

// made: a new client.
func made(t *testing.T) *Mapper {
	t.Helper()
	m, code := New(own, inside, secs, nonce)
	if m == nil || code != api.OK {
		t.Fatalf("New = %v %d, want a client, OK", m, code)
	}
	return m
}

// says: that what is sent is this.
func says(t *testing.T, what string, got [][]byte, want ...[]byte) {
	t.Helper()
	if !slices.EqualFunc(got, want, bytes.Equal) {
		t.Errorf("%s: sent %x, want %x", what, got, want)
	}
}

// is: that a client's state is this.
func is(t *testing.T, what string, m *Mapper, want api.Mapped) {
	t.Helper()
	if got := m.State(); got != want {
		t.Errorf("%s: State = %+v, want %+v", what, got, want)
	}
}

// probing: the state of a client that asked so often, and has nothing.
func probing(version, tries, next int) api.Mapped {
	return api.Mapped{State: api.Probing, Ver: version, Inside: inside, Tries: tries, Next: next}
}

// holding: the state of a client that holds a port of the gateway.
func holding(version, port, until, next int) api.Mapped {
	return api.Mapped{State: api.Holding, Ver: version, Inside: inside, Outer: api.Addr{Host: outside, Port: port}, Until: until, Next: next}
}

// renewing: the state of a client that has a port of the gateway, and asked again so often.
func renewing(version, port, until, tries, next int) api.Mapped {
	s := holding(version, port, until, next)
	s.State, s.Tries = api.Renewing, tries
	return s
}

// idle: the state of a client that is Idle.
var idle = api.Mapped{Inside: inside}

// outer: a port of the gateway.
func outer(port int) api.Addr { return api.Addr{Host: outside, Port: port} }

// none: no address.
var none = api.Addr{}

// asking: a client that asks in a version, has nothing, and asked first at this time.
func asking(t *testing.T, version, now int) *Mapper {
	t.Helper()
	m := made(t)
	says(t, "Start", m.Start(now), asks(2, secs, none)...)
	if version == 0 {
		says(t, "not spoken", m.Hear(now, pmpHost(1, 9, 0)), asks(0, secs, none)...)
	}
	is(t, "asking", m, probing(version, 1, now+1))
	return m
}

// given: a client that holds the port 4000 by a version, granted at this time for so long, with the epoch 500.
func given(t *testing.T, version, now, lease int) *Mapper {
	t.Helper()
	m := asking(t, version, now)
	if version == 0 {
		says(t, "host", m.Hear(now, pmpHost(0, 500, outside)))
	}
	says(t, "granted", m.Hear(now, grants(version, 500, 4000, lease)))
	is(t, "given", m, holding(version, 4000, min(now+lease, api.MaxTime), now+max(1, lease/2)))
	return m
}

// again: a client that has the port 4000 by a version, and asks again since this time, being 20 ticks ahead of Until.
func again(t *testing.T, version, now int) *Mapper {
	t.Helper()
	m := given(t, version, now-20, 40)
	says(t, "renewing", m.Tick(now), asks(version, secs, outer(4000))...)
	is(t, "again", m, renewing(version, 4000, now+20, 1, now+1))
	return m
}

// failed: a client that failed at this time, behind one try in version 0.
func failed(t *testing.T, now int) *Mapper {
	t.Helper()
	m := asking(t, 0, now)
	says(t, "failing", m.Hear(now, pmpHost(1, 9, 0)))
	is(t, "failed", m, api.Mapped{State: api.Failed, Inside: inside, Tries: 1})
	return m
}

// kind: a client in a state, the time of the call ahead being the one told.
type kind struct {
	name    string
	version int
	make    func(t *testing.T, now int) *Mapper
}

// kinds: one in each state, in both versions.
func kinds() []kind {
	all := []kind{
		{"new", 2, func(t *testing.T, now int) *Mapper {
			m := made(t)
			says(t, "Tick of a new one", m.Tick(now))
			return m
		}},
		{"stopped", 2, func(t *testing.T, now int) *Mapper {
			m := given(t, 2, now-5, 40)
			says(t, "Stop", m.Stop(now), asks(2, 0, outer(4000))...)
			return m
		}},
		{"failed", 0, failed},
	}
	for _, version := range []int{2, 0} {
		in := " in " + strconv.Itoa(version)
		all = append(all,
			kind{"probing" + in, version, func(t *testing.T, now int) *Mapper { return asking(t, version, now) }},
			kind{"holding" + in, version, func(t *testing.T, now int) *Mapper { return given(t, version, now, 40) }},
			kind{"renewing" + in, version, func(t *testing.T, now int) *Mapper { return again(t, version, now) }})
	}
	return all
}

// eachKind: what is so of one in each state, the time being 1000.
func eachKind(t *testing.T, say func(t *testing.T, k kind, m *Mapper)) {
	for _, k := range kinds() {
		t.Run(k.name, func(t *testing.T) { say(t, k, k.make(t, 1000)) })
	}
}

// eachVersion: what is the same in both.
func eachVersion(t *testing.T, say func(t *testing.T, version int)) {
	for _, version := range []int{2, 0} {
		t.Run(strconv.Itoa(version), func(t *testing.T) { say(t, version) })
	}
}

// rests: whether a state is Idle, or Failed.
func rests(m *Mapper) bool { s := m.State().State; return s == api.Idle || s == api.Failed }

// has: whether one has an address outside.
func has(m *Mapper) bool { s := m.State().State; return s == api.Holding || s == api.Renewing }

// P12.1: the chapter's example.
func TestWrittenOut(t *testing.T) {
	m := made(t)
	says(t, "0", m.Start(0), asks(2, secs, none)...)
	for now := 1; now <= 31; now++ {
		var want [][]byte
		switch now {
		case 1, 3, 7, 15:
			want = asks(2, secs, none)
		case 31:
			want = asks(0, secs, none)
		}
		says(t, strconv.Itoa(now), m.Tick(now), want...)
	}
	is(t, "31", m, probing(0, 1, 32))
}

// P12.1: a host other than 0, a port, and seconds up to MaxSecs, with any nonce, are a client's, which is Idle; all of them stand in what it asks.
func TestNew(t *testing.T) {
	for _, host := range []uint32{1, own, 1 << 31, math.MaxUint32} {
		for _, port := range []int{1, 2, 255, 256, 32768, 65534, 65535} {
			for _, long := range []int{1, 2, 65536, 1 << 31, api.MaxSecs - 1, api.MaxSecs} {
				for _, n := range []uint64{0, 1, 1 << 32, 1 << 63, math.MaxUint64} {
					m, code := New(host, port, long, n)
					if m == nil || code != api.OK {
						t.Fatalf("New(%d, %d, %d, %d) = %v %d, want a client, OK", host, port, long, n, m, code)
					}
					is(t, "New", m, api.Mapped{Inside: port})
					says(t, "Start", m.Start(0), pcpAsk(host, n, port, 0, long, 0))
					is(t, "Start", m, api.Mapped{State: api.Probing, Ver: 2, Inside: port, Tries: 1, Next: 1})
					says(t, "not spoken", m.Hear(0, pmpHost(1, 0, 0)), []byte{0, 0}, pmpAsk(port, 0, long))
					m.Hear(0, pmpHost(0, 0, outside))
					says(t, "granted", m.Hear(0, pmpPort(0, 0, port, 65535, 2)))
					is(t, "granted", m, api.Mapped{State: api.Holding, Inside: port, Outer: outer(65535), Until: 2, Next: 1})
				}
			}
		}
	}
}

// P12.1: else it is Arg, and there is none beside it.
func TestNewArg(t *testing.T) {
	refused := func(host uint32, port, long int) {
		t.Helper()
		if m, code := New(host, port, long, nonce); m != nil || code != api.Arg {
			t.Errorf("New(%d, %d, %d) = %v %d, want none, Arg", host, port, long, m, code)
		}
	}
	refused(0, inside, secs)
	refused(0, 0, 0)
	for _, port := range []int{0, -1, -65535, 65536, 65537, 1<<16 + inside, 1<<32 + inside, math.MinInt, math.MinInt + inside, math.MaxInt} {
		refused(own, port, secs)
	}
	for _, long := range []int{0, -1, -secs, api.MaxSecs + 1, api.MaxSecs + 2, 1<<32 + secs, 1<<62 + secs, math.MinInt, math.MinInt + secs, math.MaxInt} {
		refused(own, inside, long)
	}
}

// P12.1: two clients have each its own state.
func TestTwoClients(t *testing.T) {
	a, b := given(t, 2, 10, 40), made(t)
	is(t, "the other one", b, idle)
	says(t, "the other one", b.Start(3), asks(2, secs, none)...)
	is(t, "the one", a, holding(2, 4000, 50, 30))
	says(t, "the one", a.Tick(30), asks(2, secs, outer(4000))...)
	is(t, "the other one", b, probing(2, 1, 4))
}

// P12.1: the waits of all tries, in version 2, and then in version 0; behind them it is Failed, and does nothing.
func TestTries(t *testing.T) {
	for _, since := range []int{0, 1, 1000, 1 << 32} {
		m := made(t)
		says(t, "Start", m.Start(since), asks(2, secs, none)...)
		at := since
		for i := range 10 {
			version, wait := 2, 1<<i
			if i >= 5 {
				version, wait = 0, 1<<(i-5)
			}
			is(t, "try "+strconv.Itoa(i), m, probing(version, i%5+1, at+wait))
			for now := at; now < at+wait; now++ {
				says(t, "ahead of Next", m.Tick(now))
			}
			is(t, "ahead of Next", m, probing(version, i%5+1, at+wait))
			at += wait
			switch {
			case i < 4:
				says(t, "try "+strconv.Itoa(i), m.Tick(at), asks(2, secs, none)...)
			case i < 9:
				says(t, "try "+strconv.Itoa(i), m.Tick(at), asks(0, secs, none)...)
			default:
				says(t, "behind all tries", m.Tick(at))
			}
		}
		for _, now := range []int{at, at + 1, at + 64, at + 1000, api.MaxTime} {
			is(t, "behind all tries", m, api.Mapped{State: api.Failed, Inside: inside, Tries: 5})
			says(t, "behind all tries", m.Tick(now))
		}
	}
}

// P12.1: a Tick behind Next does what one at it does, once, and the wait begins at it.
func TestTickBehindNext(t *testing.T) {
	m := made(t)
	m.Start(0)
	says(t, "100", m.Tick(100), asks(2, secs, none)...)
	is(t, "100", m, probing(2, 2, 102))
	says(t, "100 again", m.Tick(100))
	says(t, "101", m.Tick(101))
	says(t, "103", m.Tick(103), asks(2, secs, none)...)
	is(t, "103", m, probing(2, 3, 107))
	says(t, "1000", m.Tick(1000), asks(2, secs, none)...)
	says(t, "2000", m.Tick(2000), asks(2, secs, none)...)
	is(t, "2000", m, probing(2, 5, 2016))
	says(t, "9000", m.Tick(9000), asks(0, secs, none)...)
	is(t, "9000", m, probing(0, 1, 9001))
	for i := range 4 {
		now := 10000 + 100*i
		says(t, "late", m.Tick(now), asks(0, secs, none)...)
		is(t, "late", m, probing(0, i+2, now+2<<i))
	}
	says(t, "last", m.Tick(api.MaxTime))
	is(t, "last", m, api.Mapped{State: api.Failed, Inside: inside, Tries: 5})
}

// P12.1: a Tick ahead of Next does nothing; at it, and behind it, who holds something asks again, and goes on so with waits that are doubled, 64 at most, going on to have it.
func TestRenew(t *testing.T) {
	eachVersion(t, func(t *testing.T, version int) {
		const lease = 2000
		for _, late := range []int{0, 1, 7, 900} {
			m := given(t, version, 50, lease)
			for _, now := range []int{50, 51, 700, 1049} {
				says(t, "ahead of Next", m.Tick(now))
				is(t, "ahead of Next", m, holding(version, 4000, 2050, 1050))
			}
			at := 1050 + late
			for tries := 1; at < 2050; tries++ {
				says(t, "at Next", m.Tick(at), asks(version, secs, outer(4000))...)
				wait := 64
				if tries < 8 {
					wait = 1 << (tries - 1)
				}
				is(t, "at Next", m, renewing(version, 4000, 2050, tries, at+wait))
				if at+wait <= 2050 {
					says(t, "ahead of the next one", m.Tick(at+wait-1))
					is(t, "ahead of the next one", m, renewing(version, 4000, 2050, tries, at+wait))
				}
				at += wait
			}
			says(t, "at Until", m.Tick(2050), asks(2, secs, outer(4000))...)
			is(t, "at Until", m, probing(2, 1, 2051))
		}
	})
}

// P12.2: one that isn't renewed has its address till Until, whatever Next is: one ahead of it still, at it and behind it no more.
func TestTillUntil(t *testing.T) {
	eachVersion(t, func(t *testing.T, version int) {
		for _, tries := range []int{0, 1, 2, 3, 4} {
			begin := func() *Mapper {
				m := given(t, version, 1000, 20)
				for i := range tries {
					says(t, "renewing", m.Tick(1010+i*i), asks(version, secs, outer(4000))...)
				}
				return m
			}
			for _, now := range []int{1020, 1021, 1025, 1026, 5000, api.MaxTime} {
				m := begin()
				m.Tick(1019)
				if s := m.State(); s.State != api.Renewing || s.Outer != outer(4000) || s.Until != 1020 {
					t.Errorf("one ahead of Until: %+v", s)
				}
				says(t, "at Until, or behind it", m.Tick(now), asks(2, secs, outer(4000))...)
				is(t, "at Until, or behind it", m, probing(2, 1, now+1))
				m = begin()
				says(t, "at once", m.Tick(now), asks(2, secs, outer(4000))...)
				is(t, "at once", m, probing(2, 1, now+1))
			}
		}
	})
}

// P12.2: Until is looked at first also where Next is at it, or behind it: the wait of one that is Renewing may go beyond Until.
func TestUntilAheadOfNext(t *testing.T) {
	eachVersion(t, func(t *testing.T, version int) {
		m := given(t, version, 1000, 20)
		for _, now := range []int{1010, 1011, 1013} {
			says(t, "renewing", m.Tick(now), asks(version, secs, outer(4000))...)
		}
		says(t, "renewing", m.Tick(1019), asks(version, secs, outer(4000))...)
		is(t, "renewing", m, renewing(version, 4000, 1020, 4, 1027))
		says(t, "at Until", m.Tick(1020), asks(2, secs, outer(4000))...)
		is(t, "at Until", m, probing(2, 1, 1021))
	})
}

// P12.1: what is granted is had for the seconds, MaxTime at most, and Next is half of them later, 1 at least, whatever was asked for.
func TestGranted(t *testing.T) {
	eachVersion(t, func(t *testing.T, version int) {
		for _, c := range [][4]int{ // the time, the seconds, Until, and Next
			{0, 1, 1, 1}, {0, 2, 2, 1}, {0, 3, 3, 1}, {0, 4, 4, 2}, {0, 5, 5, 2}, {7, 1, 8, 8}, {7, 2, 9, 8}, {7, 3, 10, 8},
			{7, secs - 1, 6 + secs, 6 + secs/2}, {7, secs, 7 + secs, 7 + secs/2}, {7, secs + 1, 8 + secs, 7 + secs/2}, {7, 7200, 7207, 3607},
			{7, api.MaxSecs, 7 + api.MaxSecs, 7 + api.MaxSecs/2},
			{api.MaxTime - 41, 40, api.MaxTime - 1, api.MaxTime - 21}, {api.MaxTime - 40, 40, api.MaxTime, api.MaxTime - 20},
			{api.MaxTime - 40, 41, api.MaxTime, api.MaxTime - 20}, {api.MaxTime - 40, 42, api.MaxTime, api.MaxTime - 19},
			{api.MaxTime - 40, 100, api.MaxTime, api.MaxTime + 10}, {api.MaxTime - 40, api.MaxSecs, api.MaxTime, api.MaxTime - 40 + api.MaxSecs/2},
			{api.MaxTime - 1, 1, api.MaxTime, api.MaxTime}, {api.MaxTime - 1, 2, api.MaxTime, api.MaxTime},
			{api.MaxTime, 1, api.MaxTime, api.MaxTime + 1}, {api.MaxTime, 100, api.MaxTime, api.MaxTime + 50},
		} {
			m := asking(t, version, c[0])
			if version == 0 {
				m.Hear(c[0], pmpHost(0, 9, outside))
			}
			says(t, "granted", m.Hear(c[0], grants(version, 9, 65535, c[1])))
			is(t, "granted", m, holding(version, 65535, c[2], c[3]))
		}
	})
}

// P12.2: what would last beyond MaxTime ends at it, though Next would be behind it.
func TestEndOfTime(t *testing.T) {
	eachVersion(t, func(t *testing.T, version int) {
		for _, lease := range []int{50, 100, 1000, api.MaxSecs} {
			m := given(t, version, api.MaxTime-10, lease)
			says(t, "ahead of MaxTime", m.Tick(api.MaxTime-1))
			is(t, "ahead of MaxTime", m, holding(version, 4000, api.MaxTime, api.MaxTime-10+lease/2))
			says(t, "at MaxTime", m.Tick(api.MaxTime), asks(2, secs, outer(4000))...)
			is(t, "at MaxTime", m, probing(2, 1, api.MaxTime+1))
			says(t, "at MaxTime again", m.Tick(api.MaxTime))
		}
		m := given(t, version, api.MaxTime, 5)
		says(t, "at MaxTime", m.Tick(api.MaxTime), asks(2, secs, outer(4000))...)
		is(t, "at MaxTime", m, probing(2, 1, api.MaxTime+1))
	})
}

// P12.1: who renews in time holds what is granted then, from then on, be it another port, or host, or for longer, or not so long.
func TestRenewed(t *testing.T) {
	eachVersion(t, func(t *testing.T, version int) {
		m := given(t, version, 0, 40)
		until := 40
		for i, lease := range []int{40, 20, 4, 1000, 60} {
			now := m.State().Next
			says(t, "renewing", m.Tick(now), asks(version, secs, outer(4000+i))...)
			is(t, "renewing", m, renewing(version, 4000+i, until, 1, now+1))
			if i%2 == 1 {
				now++
				says(t, "once more", m.Tick(now), asks(version, secs, outer(4000+i))...)
				is(t, "once more", m, renewing(version, 4000+i, until, 2, now+2))
			}
			if version == 0 {
				says(t, "host", m.Hear(now, pmpHost(0, 500+now, outside)))
			}
			says(t, "granted", m.Hear(now, grants(version, 500+now, 4001+i, lease)))
			until = now + lease
			is(t, "granted", m, holding(version, 4001+i, until, now+lease/2))
		}
	})
}

// P12.1: one that is Probing holds what is granted in any try, and Tries is 0 again; also when it had something and asks anew.
func TestGrantedLate(t *testing.T) {
	for tries := range 9 {
		m := made(t)
		m.Start(0)
		now := 0
		for range tries {
			now = m.State().Next
			m.Tick(now)
		}
		version := m.State().Ver
		if version == 0 {
			m.Hear(now, pmpHost(0, 9, outside))
		}
		says(t, "granted", m.Hear(now, grants(version, 9, 4003, 10)))
		is(t, "granted", m, holding(version, 4003, now+10, now+5))
		says(t, "over", m.Tick(now+10), asks(2, secs, outer(4003))...)
		says(t, "granted anew", m.Hear(now+10, grants(2, 19, 4004, 10)))
		is(t, "granted anew", m, holding(2, 4004, now+20, now+15))
	}
}

// P12.1: in Probing and Renewing what isn't of its port, with its nonce, or of its version, or grants nothing, or is no answer at all, is nothing; then it hears the right one.
func TestNothing(t *testing.T) {
	eachKind(t, func(t *testing.T, k kind, m *Mapper) {
		if rests(m) || m.State().State == api.Holding {
			return
		}
		if k.version == 0 {
			m.Hear(1000, pmpHost(0, 500, outside))
		}
		want := m.State()
		for _, b := range slices.Concat(notOwn(k.version), notGranted(k.version), noAnswers()) {
			says(t, "nothing", m.Hear(1000, b))
			is(t, "nothing", m, want)
		}
		says(t, "granted", m.Hear(1000, grants(k.version, 500, 4009, 30)))
		is(t, "granted", m, holding(k.version, 4009, 1030, 1015))
	})
}

// notOwn: answers that aren't of the client's port, its nonce, or this version.
func notOwn(version int) [][]byte {
	if version == 0 {
		all := [][]byte{pcpTold(0, 500, nonce, inside, 4000, 40, outside), pcpTold(0, 500, 0, inside, 4000, 40, outside), pcpTold(2, 500, nonce, inside, 0, 0, 0)}
		for _, port := range []int{0, 1, inside - 1, inside + 1, inside ^ 0x8000, 65535} {
			all = append(all, pmpPort(0, 500, port, 4000, 40))
		}
		return all
	}
	all := [][]byte{pmpPort(0, 500, inside, 4000, 40), pmpHost(0, 500, outside), pmpHost(0, 500, 0), pmpHost(3, 500, 0)}
	for _, port := range []int{0, 1, inside - 1, inside + 1, inside ^ 0x8000, 65535} {
		all = append(all, pcpTold(0, 500, nonce, port, 4000, 40, outside))
	}
	for _, n := range []uint64{0, 1, 77, nonce - 1, nonce + 1, nonce ^ 1<<32, math.MaxUint64} {
		all = append(all, pcpTold(0, 500, n, inside, 4000, 40, outside))
	}
	return all
}

// notGranted: answers of the client's port, in this version, that grant nothing.
func notGranted(version int) [][]byte {
	all := [][]byte{grants(version, 500, 0, 40), grants(version, 500, 4000, 0), grants(version, 500, 0, 0)}
	for _, result := range []int{2, 3, 4, 5, 8, 12, 13, 128, 255} {
		all = append(all, refuses(version, result, 500))
	}
	if version == 0 {
		for _, result := range []int{256, 257, 512, 65535} {
			all = append(all, refuses(0, result, 500), pmpHost(result, 500, 7))
		}
		return all
	}
	return append(all, pcpTold(0, 500, nonce, inside, 4000, 40, 0))
}

// noAnswers: bytes that are no answers: cut off, with a byte behind, one bit off where it counts, requests, and of other versions.
func noAnswers() [][]byte {
	var all [][]byte
	for _, b := range append([][]byte{grants(2, 500, 4000, 40), grants(0, 500, 4000, 40), pmpHost(0, 500, outside)}, unspoken()...) {
		for size := range b {
			all = append(all, b[:size])
		}
		for _, behind := range []byte{0, 1, 2, 255} {
			all = append(all, append(slices.Clone(b), behind))
		}
		for _, version := range []byte{1, 3, 255, b[0] ^ 2} {
			bad := slices.Clone(b)
			bad[0] = version
			all = append(all, bad)
		}
		for _, other := range []byte{0, 1, 127, 130, 255} {
			bad := slices.Clone(b)
			bad[1] = other
			all = append(all, bad)
		}
		all = append(all, append(slices.Clone(b), b...))
	}
	for _, at := range []int{2, 12, 16, 23, 24, 27, 36, 37, 39, 44, 53, 54, 55} {
		bad := grants(2, 500, 4000, 40)
		bad[at] ^= 1
		all = append(all, bad)
	}
	return append(all, []byte{0, 0}, pmpAsk(inside, 4000, 40), pmpAsk(inside, 0, 0), pcpAsk(own, nonce, inside, 4000, 40, outside), pcpAsk(own, nonce, inside, 0, 0, 0), nil, []byte{})
}

// P12.1: refused, it asks again in its time, and gives up as if nothing came; what it has it goes on to have.
func TestRefused(t *testing.T) {
	eachVersion(t, func(t *testing.T, version int) {
		m := asking(t, version, 0)
		for i := range 5 {
			want := probing(version, i+1, 2<<i-1)
			says(t, "refused", m.Hear(want.Next-1, refuses(version, 2, 9)))
			is(t, "refused", m, want)
			m.Tick(want.Next)
		}
		if s := m.State(); s.State == api.Probing && s.Ver == version {
			t.Errorf("behind all tries: %+v", s)
		}
		m = again(t, version, 1000)
		for range 4 {
			want := m.State()
			says(t, "refused", m.Hear(want.Next, refuses(version, 8, 520)))
			is(t, "refused", m, want)
			says(t, "again", m.Tick(want.Next), asks(version, secs, outer(4000))...)
		}
		is(t, "refused", m, renewing(version, 4000, 1020, 5, 1031))
	})
}

// P12.1: a version that isn't spoken: Probing, and Renewing, it goes on in version 0, having nothing, if it asked in 2, else it is Failed, whose port and nonce ever is told; in the other states nothing.
func TestUnspoken(t *testing.T) {
	for _, b := range unspoken() {
		eachKind(t, func(t *testing.T, k kind, m *Mapper) {
			want, wish := m.State(), none
			if m.State().State == api.Renewing {
				wish = outer(4000)
			}
			var sent [][]byte
			switch {
			case rests(m) || m.State().State == api.Holding:
			case k.version == 2:
				want, sent = probing(0, 1, 1003), asks(0, secs, wish)
			default:
				want = api.Mapped{State: api.Failed, Inside: inside, Tries: 1}
			}
			says(t, "not spoken", m.Hear(1002, b), sent...)
			is(t, "not spoken", m, want)
		})
	}
}

// P12.1: a version that isn't spoken is so in any try, and behind it all five tries of the other one are left.
func TestUnspokenLate(t *testing.T) {
	for tries := range 4 {
		m := asking(t, 2, 0)
		for range tries {
			m.Tick(m.State().Next)
		}
		says(t, "not spoken", m.Hear(20, pmpHost(1, 0, 0)), asks(0, secs, none)...)
		at := 20
		for i := range 5 {
			is(t, "version 0", m, probing(0, i+1, at+1<<i))
			at += 1 << i
			m.Tick(at)
		}
		is(t, "version 0", m, api.Mapped{State: api.Failed, Inside: inside, Tries: 5})
	}
}

// P12.1: what has the Result 1 tells no epoch: it isn't that of the gateway's beginning anew.
func TestUnspokenTellsNoEpoch(t *testing.T) {
	eachVersion(t, func(t *testing.T, version int) {
		m := given(t, version, 1000, 200)
		for _, epoch := range []int{0, 1, 1000, math.MaxUint32} {
			says(t, "Result 1", m.Hear(1010, refuses(version, 1, epoch)))
			says(t, "Result 1", m.Hear(1010, pmpHost(1, epoch, 0)))
			says(t, "Result 1", m.Hear(1010, pcpTold(1, epoch, 0, 0, 0, 0, 0)))
		}
		is(t, "Result 1", m, holding(version, 4000, 1200, 1100))
		says(t, "epoch", m.Hear(1016, refuses(version, 2, 512)))
		is(t, "epoch", m, holding(version, 4000, 1200, 1100))
	})
}

// P12.1: NAT-PMP's host is that which was told last, ahead of the answer about the port.
func TestPmpHost(t *testing.T) {
	port := grants(0, 9, 4000, 40)
	held := func(host uint32) api.Mapped {
		s := holding(0, 4000, 1040, 1020)
		s.Outer.Host = host
		return s
	}
	for _, c := range []struct {
		name string
		said [][]byte
		want api.Mapped
	}{
		{"ahead of the port", [][]byte{pmpHost(0, 9, 77), port}, held(77)},
		{"later", [][]byte{port, pmpHost(0, 9, 77)}, probing(0, 1, 1001)},
		{"later, and the port again", [][]byte{port, pmpHost(0, 9, 77), port}, held(77)},
		{"never", [][]byte{port, port, port}, probing(0, 1, 1001)},
		{"alone", [][]byte{pmpHost(0, 9, 77), pmpHost(0, 9, 77)}, probing(0, 1, 1001)},
		{"as 0", [][]byte{pmpHost(0, 9, 0), port}, probing(0, 1, 1001)},
		{"as 0, and then as another", [][]byte{pmpHost(0, 9, 0), port, pmpHost(0, 9, 77), port}, held(77)},
		{"as 0 behind another", [][]byte{pmpHost(0, 9, 77), pmpHost(0, 9, 0), port}, probing(0, 1, 1001)},
		{"twice", [][]byte{pmpHost(0, 9, 77), pmpHost(0, 9, math.MaxUint32), port}, held(math.MaxUint32)},
		{"with another result", [][]byte{pmpHost(3, 9, 77), port}, probing(0, 1, 1001)},
		{"with another result, and 256 is no 0", [][]byte{pmpHost(256, 9, 77), port}, probing(0, 1, 1001)},
		{"with another result behind a right one", [][]byte{pmpHost(0, 9, 77), pmpHost(3, 9, 78), pmpHost(65535, 9, 0), port}, held(77)},
		{"cut off", [][]byte{pmpHost(0, 9, 77)[:11], port}, probing(0, 1, 1001)},
		{"and the port refused", [][]byte{pmpHost(0, 9, 77), refuses(0, 3, 9)}, probing(0, 1, 1001)},
		{"by PCP", [][]byte{pcpTold(0, 9, nonce, inside, 4000, 40, 77), port}, probing(0, 1, 1001)},
	} {
		t.Run(c.name, func(t *testing.T) {
			m := asking(t, 0, 1000)
			for _, b := range c.said {
				says(t, "answers", m.Hear(1000, b))
			}
			is(t, "answers", m, c.want)
		})
	}
}

// P12.1: a host that is told while it asks in version 2, be it that it asked so in 0 ahead, isn't heard; one that was told in 0 is known from then on.
func TestPmpHostInVersions(t *testing.T) {
	m := asking(t, 2, 0)
	says(t, "in version 2", m.Hear(0, pmpHost(0, 9, 77)))
	says(t, "not spoken", m.Hear(0, pmpHost(1, 9, 0)), asks(0, secs, none)...)
	says(t, "not told", m.Hear(0, grants(0, 9, 4000, 40)))
	is(t, "not told", m, probing(0, 1, 1))
	m.Hear(0, pmpHost(0, 9, outside))
	says(t, "told", m.Hear(0, grants(0, 9, 4000, 40)))
	says(t, "over", m.Tick(40), asks(2, secs, outer(4000))...)
	says(t, "in version 2", m.Hear(40, pmpHost(0, 9, 77)))
	says(t, "not spoken", m.Hear(40, pmpHost(1, 9, 0)), asks(0, secs, outer(4000))...)
	says(t, "told", m.Hear(41, grants(0, 50, 4001, 40)))
	is(t, "told", m, holding(0, 4001, 81, 61))
	m.Stop(42)
	m.Start(43)
	m.Hear(43, pmpHost(1, 9, 0))
	says(t, "told", m.Hear(44, grants(0, 53, 4002, 40)))
	is(t, "told", m, holding(0, 4002, 84, 64))
}

// P12.1: while it is Holding it is asked for nothing, so that it is told nothing but an epoch; one that is Renewing has its address, till it is granted another one.
func TestHolding(t *testing.T) {
	eachVersion(t, func(t *testing.T, version int) {
		m := given(t, version, 1000, 40)
		for _, b := range slices.Concat(notOwn(version), notGranted(version), noAnswers(), [][]byte{grants(version, 500, 4009, 400), pmpHost(0, 500, 77)}) {
			says(t, "holding", m.Hear(1000, b))
			is(t, "holding", m, holding(version, 4000, 1040, 1020))
		}
		m.Tick(1020)
		if version == 2 {
			return
		}
		says(t, "the host that was told last while it asked", m.Hear(1020, grants(0, 520, 4001, 40)))
		is(t, "the host that was told last while it asked", m, holding(0, 4001, 1060, 1040))
		m.Tick(1040)
		says(t, "another host", m.Hear(1040, pmpHost(0, 540, 78)))
		is(t, "another host", m, renewing(0, 4001, 1060, 1, 1041))
		says(t, "another host", m.Hear(1040, grants(0, 540, 4002, 40)))
		want := holding(0, 4002, 1080, 1060)
		want.Outer.Host = 78
		is(t, "another host", m, want)
	})
}

// P12.1: it wishes what it has, or had last, whatever came in between; in version 0 the port of that; else nothing.
func TestWish(t *testing.T) {
	m := made(t)
	says(t, "never had", m.Start(0), asks(2, secs, none)...)
	m.Hear(0, refuses(2, 8, 9))
	m.Hear(0, pcpTold(0, 9, nonce, inside, 4000, 40, 0))
	m.Hear(0, pcpTold(0, 9, nonce, inside+1, 4000, 40, 7))
	says(t, "never had", m.Tick(1), asks(2, secs, none)...)
	m.Hear(1, pcpTold(0, 9, nonce, inside, 65535, 40, math.MaxUint32))
	last := api.Addr{Host: math.MaxUint32, Port: 65535}
	says(t, "has", m.Tick(21), asks(2, secs, last)...)
	says(t, "has", m.Tick(22), asks(2, secs, last)...)
	m.Hear(22, pcpTold(0, 30, nonce, inside, 4001, 40, 78))
	last = api.Addr{Host: 78, Port: 4001}
	says(t, "has another one", m.Tick(42), asks(2, secs, last)...)
	says(t, "had", m.Tick(62), asks(2, secs, last)...)
	says(t, "had, in version 0", m.Hear(62, pmpHost(1, 9, 0)), asks(0, secs, last)...)
	says(t, "had, in version 0", m.Tick(63), asks(0, secs, last)...)
	m.Hear(63, pmpHost(0, 9, outside))
	m.Hear(63, grants(0, 9, 4002, 10))
	says(t, "has, by version 0", m.Tick(68), asks(0, secs, outer(4002))...)
	says(t, "had, by version 0", m.Tick(73), asks(2, secs, outer(4002))...)
	m.Hear(73, pmpHost(1, 9, 0))
	m.Hear(73, pmpHost(1, 9, 0))
	says(t, "had, and failed", m.Start(74), asks(2, secs, outer(4002))...)
	says(t, "had, and stopped", m.Stop(75))
	says(t, "had, and stopped", m.Start(76), asks(2, secs, outer(4002))...)
	m.Hear(76, grants(2, 9, 4003, 10))
	says(t, "has, and stopped", m.Stop(77), asks(2, 0, outer(4003))...)
	says(t, "had, and stopped", m.Start(78), asks(2, secs, outer(4003))...)
}

// behind: the greatest epoch by which a gateway has begun anew that told 500 so many ticks ago: one below 500 and seven eighths of them, less 2.
var behind = [][2]int{
	{0, 497}, {1, 497}, {2, 498}, {3, 499}, {4, 500}, {5, 501}, {6, 502}, {7, 503}, {8, 504}, {9, 504}, {10, 505}, {15, 510}, {16, 511}, {17, 511}, {80, 567}, {799, 1196}, {800, 1197}, {801, 1197},
}

// P12.1: Holding, an epoch that goes on, or stands, or is just as much behind as may be, does nothing, and one that is more behind tells that the gateway has begun anew, in any answer of its gateway's.
func TestEpochHolding(t *testing.T) {
	eachVersion(t, func(t *testing.T, version int) {
		for _, c := range behind {
			now := 1000 + c[0]
			for _, tell := range tellers(version) {
				for _, epoch := range []int{c[1] + 1, c[1] + 2, 500 + c[0], 501 + c[0], 600 + c[0], 1 << 31, math.MaxUint32} {
					m := given(t, version, 1000, 4000)
					says(t, "no new beginning", m.Hear(now, tell(epoch)))
					is(t, "no new beginning", m, holding(version, 4000, 5000, 3000))
				}
				for _, epoch := range []int{c[1], c[1] - 1, 100, 1, 0} {
					m := given(t, version, 1000, 4000)
					says(t, "a new beginning", m.Hear(now, tell(epoch)), asks(version, secs, outer(4000))...)
					is(t, "a new beginning", m, renewing(version, 4000, 5000, 1, now+1))
				}
			}
		}
	})
}

// tellers: answers that tell an epoch, of this version.
func tellers(version int) []func(epoch int) []byte {
	all := []func(epoch int) []byte{
		func(epoch int) []byte { return grants(version, epoch, 4001, 70) },
		func(epoch int) []byte { return grants(version, epoch, 0, 0) },
		func(epoch int) []byte { return refuses(version, 2, epoch) },
		func(epoch int) []byte { return refuses(version, 255, epoch) },
	}
	if version == 0 {
		return append(all,
			func(epoch int) []byte { return pmpHost(0, epoch, outside) },
			func(epoch int) []byte { return pmpHost(0, epoch, 0) },
			func(epoch int) []byte { return pmpHost(3, epoch, 77) })
	}
	return all
}

// P12.1: of what isn't its gateway's answer, or isn't an answer, no epoch is told, be it a lesser or a greater one.
func TestEpochOfOthers(t *testing.T) {
	eachVersion(t, func(t *testing.T, version int) {
		var others [][]byte
		for _, b := range notOwn(version) {
			for _, epoch := range []int{0, 100, 1 << 31} {
				other := slices.Clone(b)
				copy(other[map[byte]int{0: 4, 2: 8}[b[0]]:], row(num(4, epoch)))
				others = append(others, other)
			}
		}
		for _, cut := range tellers(version) {
			others = append(others, cut(0)[:11], append(cut(0), 0), cut(1 << 31)[:11], append(cut(1<<31), 0))
		}
		m := given(t, version, 1000, 4000)
		for _, b := range others {
			says(t, "other", m.Hear(1008, b))
			is(t, "other", m, holding(version, 4000, 5000, 3000))
		}
		says(t, "just as much behind as may be", m.Hear(1008, refuses(version, 2, 505)))
		is(t, "just as much behind as may be", m, holding(version, 4000, 5000, 3000))
	})
}

// P12.1: an epoch is held against that which was told last, and the time since that.
func TestEpochs(t *testing.T) {
	eachVersion(t, func(t *testing.T, version int) {
		m := given(t, version, 1000, 4000)
		for _, c := range [][2]int{{1008, 505}, {1016, 510}, {1017, 508}, {1017, 506}, {1117, 591}, {1117, 100000}, {1125, 100005}, {1500, 100331}} {
			says(t, "goes on", m.Hear(c[0], refuses(version, 2, c[1])))
			is(t, "goes on", m, holding(version, 4000, 5000, 3000))
		}
		says(t, "a new beginning", m.Hear(1500, refuses(version, 2, 100328)), asks(version, secs, outer(4000))...)
		is(t, "a new beginning", m, renewing(version, 4000, 5000, 1, 1501))
		says(t, "granted", m.Hear(1508, grants(version, 0, 4003, 400)))
		is(t, "granted", m, holding(version, 4003, 1908, 1708))
		says(t, "goes on", m.Hear(1516, refuses(version, 2, 5)))
		says(t, "a new beginning", m.Hear(1524, refuses(version, 2, 9)), asks(version, secs, outer(4003))...)
		is(t, "a new beginning", m, renewing(version, 4003, 1908, 1, 1525))
	})
}

// P12.1: Probing and Renewing it asks anyway: a new beginning does nothing then, and who is granted something in the same answer holds it; that answer's epoch is the one told last.
func TestEpochElsewhere(t *testing.T) {
	eachVersion(t, func(t *testing.T, version int) {
		for _, make := range []func(t *testing.T, version, now int) *Mapper{asking, again} {
			for _, epoch := range []int{600, 508, 505, 504, 500, 100, 1, 0} {
				m := make(t, version, 1000)
				want := m.State()
				if version == 0 {
					says(t, "about the host", m.Hear(1000, pmpHost(0, 500, outside)))
				}
				says(t, "refused", m.Hear(1000, refuses(version, 2, 500)))
				says(t, "refused", m.Hear(1008, refuses(version, 2, epoch)))
				is(t, "refused", m, want)
				says(t, "granted", m.Hear(1008, grants(version, max(0, epoch-9), 4001, 400)))
				is(t, "granted", m, holding(version, 4001, 1408, 1208))
				says(t, "goes on", m.Hear(1016, refuses(version, 2, max(0, epoch-9)+5)))
				is(t, "goes on", m, holding(version, 4001, 1408, 1208))
				says(t, "a new beginning", m.Hear(1024, refuses(version, 2, max(0, epoch-9)+5+4)), asks(version, secs, outer(4001))...)
				is(t, "a new beginning", m, renewing(version, 4001, 1408, 1, 1025))
			}
		}
	})
}

// P12.1: one that is Idle, or Failed, hears no epoch, and holds nothing by what it hears.
func TestHearAtRest(t *testing.T) {
	eachKind(t, func(t *testing.T, k kind, m *Mapper) {
		if !rests(m) {
			return
		}
		want := m.State()
		for _, b := range slices.Concat([][]byte{grants(2, 0, 4000, 40), grants(0, 0, 4000, 40), pmpHost(0, 0, 77)}, unspoken(), noAnswers()) {
			says(t, "at rest", m.Hear(1001, b))
			is(t, "at rest", m, want)
		}
		// The host of NAT-PMP wasn't told, either.
		m.Start(1001)
		m.Hear(1001, pmpHost(1, 0, 0))
		says(t, "without a host", m.Hear(1001, grants(0, 0, 4000, 40)))
		is(t, "without a host", m, probing(0, 1, 1002))
	})
}

// P12.1: Stop of one that has something asks for no seconds, in its version, and of one that has nothing sends nothing; either is Idle then. One that rests stays as it is.
func TestStop(t *testing.T) {
	eachKind(t, func(t *testing.T, k kind, m *Mapper) {
		want, sent := idle, [][]byte(nil)
		switch {
		case rests(m):
			want = m.State()
		case has(m):
			sent = asks(k.version, 0, outer(4000))
		}
		says(t, "Stop", m.Stop(1001), sent...)
		is(t, "Stop", m, want)
		for _, now := range []int{1001, 1002, 1021, 1040, 5000, api.MaxTime} {
			says(t, "Tick behind Stop", m.Tick(now))
			says(t, "Stop behind Stop", m.Stop(now))
			is(t, "behind Stop", m, want)
		}
	})
}

// P12.1: what is stopped is so from any try, and what it would ask for next is nothing.
func TestStopLate(t *testing.T) {
	for tries := range 9 {
		m := made(t)
		m.Start(0)
		for range tries {
			m.Tick(m.State().Next)
		}
		says(t, "Stop", m.Stop(100))
		is(t, "Stop", m, idle)
	}
	eachVersion(t, func(t *testing.T, version int) {
		m := given(t, version, 0, 2000)
		for range 6 {
			m.Tick(m.State().Next)
		}
		says(t, "Stop", m.Stop(3000), asks(version, 0, outer(4000))...)
		is(t, "Stop", m, idle)
	})
}

// P12.1: Start of one that is Idle or Failed begins, in version 2, wishing what it had; of any other one it does nothing.
func TestStart(t *testing.T) {
	eachKind(t, func(t *testing.T, k kind, m *Mapper) {
		want, sent := m.State(), [][]byte(nil)
		if rests(m) {
			wish := none
			if k.name == "stopped" {
				wish = outer(4000)
			}
			want, sent = probing(2, 1, 1006), asks(2, secs, wish)
		}
		says(t, "Start", m.Start(1005), sent...)
		is(t, "Start", m, want)
		says(t, "Start again", m.Start(1005))
		is(t, "Start again", m, want)
	})
}

// P12.1: behind a Stop, and behind having failed, it begins as a new one does, all tries being left.
func TestStartAgain(t *testing.T) {
	m := made(t)
	for i := range 3 {
		now := 1000 * i
		says(t, "Start", m.Start(now), asks(2, secs, none)...)
		for range 10 {
			now = m.State().Next
			m.Tick(now)
		}
		if now != 1000*i+62 {
			t.Errorf("failed at %d", now)
		}
		is(t, "failed", m, api.Mapped{State: api.Failed, Inside: inside, Tries: 5})
	}
	for i := range 3 {
		now := 4000 + 100*i
		m.Start(now)
		is(t, "Start", m, probing(2, 1, now+1))
		for range 3 + i {
			m.Tick(m.State().Next)
		}
		m.Stop(now + 70)
		is(t, "Stop", m, idle)
	}
	m.Start(5000)
	says(t, "granted", m.Hear(5001, grants(2, 9, 4000, 40)))
	is(t, "granted", m, holding(2, 4000, 5041, 5021))
}

// calls: each call that has a time, with something to hear.
func calls() map[string]func(m *Mapper, now int) [][]byte {
	all := map[string]func(m *Mapper, now int) [][]byte{"Start": (*Mapper).Start, "Tick": (*Mapper).Tick, "Stop": (*Mapper).Stop}
	for i, b := range append([][]byte{nil, {9}, grants(2, 0, 4001, 70), grants(0, 0, 4001, 70), pmpHost(0, 0, 77), refuses(2, 8, 0), refuses(0, 2, 0)}, unspoken()...) {
		all["Hear "+strconv.Itoa(i)] = func(m *Mapper, now int) [][]byte { return m.Hear(now, b) }
	}
	return all
}

// P12.1: at what is no time, or below that of the call ahead, nothing is sent, and nothing is done, not even that the time goes on.
func TestBadTimes(t *testing.T) {
	eachKind(t, func(t *testing.T, k kind, _ *Mapper) {
		for name, call := range calls() {
			m := k.make(t, 1000)
			want := m.State()
			for _, now := range append([]int{0, 1, 500, 998, 999}, badTimes...) {
				says(t, name, call(m, now))
				is(t, name, m, want)
			}
			twin := k.make(t, 1000)
			says(t, name+" at the time of the call ahead", call(m, 1000), call(twin, 1000)...)
			is(t, name+" at the time of the call ahead", m, twin.State())
		}
	})
}

// P12.1: 0 and MaxTime are times, in each state.
func TestEdgesOfTime(t *testing.T) {
	for _, now := range []int{0, api.MaxTime} {
		m := made(t)
		says(t, "Tick", m.Tick(now))
		says(t, "Start", m.Start(now), asks(2, secs, none)...)
		says(t, "Hear", m.Hear(now, pmpHost(1, 0, 0)), asks(0, secs, none)...)
		m.Hear(now, pmpHost(0, 0, outside))
		says(t, "Hear", m.Hear(now, grants(0, 9, 4000, 40)))
		is(t, "Hear", m, holding(0, 4000, min(now+40, api.MaxTime), now+20))
		says(t, "a new beginning", m.Hear(now, grants(0, 6, 4000, 40)), asks(0, secs, outer(4000))...)
		says(t, "Stop", m.Stop(now), asks(0, 0, outer(4000))...)
	}
	m := asking(t, 2, 0)
	says(t, "Tick", m.Tick(api.MaxTime), asks(2, secs, none)...)
	is(t, "Tick", m, probing(2, 2, api.MaxTime+2))
	says(t, "Tick", m.Tick(api.MaxTime))
}

// P12.1: the time goes on by every call at which it might be, whatever it does, but for a Start of one that doesn't rest, and a Hear and a Stop of one that does.
func TestTimeGoesOn(t *testing.T) {
	eachKind(t, func(t *testing.T, k kind, _ *Mapper) {
		for name, call := range calls() {
			m := k.make(t, 1000)
			counts := name == "Tick" || (name == "Start") == rests(m)
			call(m, 1010)
			// Whether 1009 is a time yet is told by what does something then.
			if !rests(m) {
				m.Hear(1009, unspoken()[0])
				m.Hear(1009, unspoken()[0])
				m.Stop(1009)
			} else {
				m.Start(1009)
			}
			twin := k.make(t, 1000)
			call(twin, 1010)
			if went := m.State() == twin.State(); went != counts {
				t.Errorf("%s of a %s one: the time went on: %t, want %t", name, k.name, went, counts)
			}
		}
	})
}

// P12.1: what is handed in isn't changed, its spare room neither, and isn't kept; what is sent is new memory.
func TestMemory(t *testing.T) {
	eachVersion(t, func(t *testing.T, version int) {
		m := asking(t, version, 0)
		for _, b := range [][]byte{pmpHost(0, 9, outside), grants(version, 9, 4000, 40), refuses(version, 8, 0)} {
			room := append(slices.Clone(b), 1, 2, 3)
			out := m.Hear(0, room[:len(b)])
			if !bytes.Equal(room, append(slices.Clone(b), 1, 2, 3)) {
				t.Errorf("Hear changed %x to %x", b, room)
			}
			clear(room)
			for _, o := range out {
				clear(o[:cap(o)])
			}
		}
		is(t, "overwritten", m, renewing(version, 4000, 40, 1, 1))
		for now := 1; now < 30; now++ {
			got := m.Tick(now)
			if len(got) > 0 {
				says(t, "overwritten", got, asks(version, secs, outer(4000))...)
			}
			for i := range got {
				clear(got[i][:cap(got[i])])
				got[i] = nil
			}
		}
		out := m.Stop(30)
		says(t, "overwritten", out, asks(version, 0, outer(4000))...)
		clear(out[0])
		says(t, "overwritten", m.Start(30), asks(2, secs, outer(4000))...)
	})
}
