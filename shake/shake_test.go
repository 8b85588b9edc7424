package shake

import (
	"bytes"
	"encoding/binary"
	"math"
	"reflect"
	"strings"
	"testing"

	"embrasure/api"
	"embrasure/notary"
)

// The numbers of the handshake that most tests have: 1's with 2.
const (
	ownNonce   = 50
	otherNonce = 60
)

// at: 1's handshake with 2 at a place, with what it knows as the other one's nonce.
func at(state int, echo uint64) api.Shake {
	return api.Shake{State: state, Own: 1, Other: 2, Nonce: ownNonce, Echo: echo}
}

// places: 1's handshake with 2 at each place, closed ones from each.
func places() []api.Shake {
	return []api.Shake{at(api.Fresh, 0), at(api.Called, 0), at(api.Heard, otherNonce), at(api.Open, otherNonce), at(api.Over, 0), at(api.Over, otherNonce)}
}

// told: a message as bytes, by a writer that isn't the program's.
func told(m api.Msg) []byte {
	b := binary.AppendUvarint(nil, uint64(m.Kind))
	for _, v := range m.Nums {
		b = binary.AppendUvarint(b, v)
	}
	b = binary.AppendUvarint(b, uint64(len(m.Addrs)))
	for _, a := range m.Addrs {
		b = binary.BigEndian.AppendUint32(b, a.Host)
		b = binary.BigEndian.AppendUint16(b, uint16(a.Port))
	}
	b = binary.AppendUvarint(b, uint64(len(m.Body)))
	return append(b, m.Body...)
}

// helloOf: a Hello with a tag.
func helloOf(own, other, nonce, tag uint64) api.Msg {
	return api.Msg{Kind: api.Hello, Nums: []uint64{own, other, nonce, tag}}
}

// answerOf: an Answer with a tag.
func answerOf(own, other, nonce, echo, tag uint64, body ...byte) api.Msg {
	return api.Msg{Kind: api.Answer, Nums: []uint64{own, other, nonce, echo, tag}, Body: body}
}

// withTag: a message with another tag.
func withTag(m api.Msg, tag uint64) api.Msg {
	m.Nums = append([]uint64(nil), m.Nums...)
	m.Nums[len(m.Nums)-1] = tag
	return m
}

// by: a message with a peer's tag for it.
func by(t *testing.T, n *notary.Notary, peer int, m api.Msg) api.Msg {
	t.Helper()
	tag, code := n.Mint(peer, told(withTag(m, 0)))
	if code != api.OK {
		t.Fatalf("Mint(%d) = %d", peer, code)
	}
	return withTag(m, tag)
}

// with: a message with addresses, or another body.
func with(m api.Msg, body string, addrs ...api.Addr) api.Msg {
	m.Body, m.Addrs = []byte(body), addrs
	return m
}

// isSent: that these bytes were sent.
func isSent(t *testing.T, got []byte, want ...byte) {
	t.Helper()
	if !bytes.Equal(got, want) {
		t.Errorf("sent % X, want % X", got, want)
	}
}

// isAt: that a handshake is this one.
func isAt(t *testing.T, got, want api.Shake) {
	t.Helper()
	if got != want {
		t.Errorf("it is %+v, want %+v", got, want)
	}
}

// The chapter's example, byte by byte: Hello, Answer, last Answer: both are Open.
func TestExample(t *testing.T) {
	n := notary.New()
	a, code := New(1, 2, ownNonce)
	isAt(t, a, at(api.Fresh, 0))
	b, code2 := New(2, 1, 300)
	if code != api.OK || code2 != api.OK {
		t.Fatalf("New = %d %d", code, code2)
	}
	a, hello := Call(a, n)
	isSent(t, hello, 1, 1, 2, 50, 1, 0, 0)
	isAt(t, a, at(api.Called, 0))
	b, first := Hear(b, n, hello)
	isSent(t, first, 2, 2, 1, 0xac, 2, 50, 2, 0, 0)
	isAt(t, b, api.Shake{State: api.Heard, Own: 2, Other: 1, Nonce: 300, Echo: 50})
	a, last := Hear(a, n, first)
	isSent(t, last, 2, 1, 2, 50, 0xac, 2, 3, 0, 1, 1)
	isAt(t, a, at(api.Open, 300))
	b, none := Hear(b, n, last)
	isSent(t, none)
	isAt(t, b, api.Shake{State: api.Open, Own: 2, Other: 1, Nonce: 300, Echo: 50})
	if n.Count() != 3 || n.Check(1, []byte{1, 1, 2, 50, 0, 0, 0}, 1) != api.OK || n.Check(2, []byte{2, 2, 1, 0xac, 2, 50, 0, 0, 0}, 2) != api.OK || n.Check(1, []byte{2, 1, 2, 50, 0xac, 2, 0, 0, 1, 1}, 3) != api.OK {
		t.Errorf("other entries than the three messages', but for their tags: %d", n.Count())
	}
}

// P15.2: both call at once, byte by byte; each is Heard ahead of Open, and the last Answers aren't answered.
func TestBothCall(t *testing.T) {
	n := notary.New()
	a, _ := New(1, 2, ownNonce)
	b, _ := New(2, 1, otherNonce)
	a, helloA := Call(a, n)
	b, helloB := Call(b, n)
	isSent(t, helloA, 1, 1, 2, 50, 1, 0, 0)
	isSent(t, helloB, 1, 2, 1, 60, 2, 0, 0)
	a, answerA := Hear(a, n, helloB)
	b, answerB := Hear(b, n, helloA)
	isSent(t, answerA, 2, 1, 2, 50, 60, 3, 0, 0)
	isSent(t, answerB, 2, 2, 1, 60, 50, 4, 0, 0)
	isAt(t, a, at(api.Heard, otherNonce))
	a, lastA := Hear(a, n, answerB)
	b, lastB := Hear(b, n, answerA)
	isSent(t, lastA, 2, 1, 2, 50, 60, 5, 0, 1, 1)
	isSent(t, lastB, 2, 2, 1, 60, 50, 6, 0, 1, 1)
	isAt(t, a, at(api.Open, otherNonce))
	isAt(t, b, api.Shake{State: api.Open, Own: 2, Other: 1, Nonce: otherNonce, Echo: ownNonce})
	a, noneA := Hear(a, n, lastB)
	b, noneB := Hear(b, n, lastA)
	isSent(t, noneA)
	isSent(t, noneB)
	isAt(t, a, at(api.Open, otherNonce))
	isAt(t, b, api.Shake{State: api.Open, Own: 2, Other: 1, Nonce: otherNonce, Echo: ownNonce})
}

// P15.1: New of every two peers that differ, and of nonces at the edges; and Arg of all others.
func TestNew(t *testing.T) {
	peers := []int{1, 2, 3, 255, 256, 1 << 16, 1 << 30, api.MaxPeer - 1, api.MaxPeer}
	noPeers := []int{0, -1, -2, -api.MaxPeer, math.MinInt, math.MinInt + 1, api.MaxPeer + 1, api.MaxPeer + 2, 1 << 32, 1<<32 + 1, 1<<32 + 2, 1<<62 + 1, math.MaxInt}
	nonces := []uint64{1, 2, 1 << 32, 1<<63 - 2, 1<<63 - 1}
	noNonces := []uint64{0, 1 << 63, 1<<63 + 1, math.MaxUint64 - 1, math.MaxUint64}
	try := func(own, other int, nonce uint64, ok bool) {
		want, code := api.Shake{}, api.Arg
		if ok {
			want, code = api.Shake{State: 0, Own: own, Other: other, Nonce: nonce, Echo: 0}, api.OK
		}
		if s, c := New(own, other, nonce); s != want || c != code {
			t.Errorf("New(%d, %d, %d) = %+v %d, want %+v %d", own, other, nonce, s, c, want, code)
		}
	}
	all := append(append([]int(nil), peers...), noPeers...)
	for i, own := range all {
		for j, other := range all {
			for _, nonce := range nonces {
				try(own, other, nonce, i < len(peers) && j < len(peers) && i != j)
			}
			for _, nonce := range noNonces {
				try(own, other, nonce, false)
			}
		}
	}
}

// rightOnes: Hellos and Answers that have their tags, at the edges of their numbers, addresses and bodies.
func rightOnes(t *testing.T, n *notary.Notary) []api.Msg {
	t.Helper()
	long := strings.Repeat("x", api.MaxBody)
	many := make([]api.Addr, api.MaxAddrs)
	for i := range many {
		many[i] = api.Addr{Host: uint32(i + 1), Port: 65535 - i}
	}
	const most = 1<<63 - 1
	var all []api.Msg
	for _, m := range []api.Msg{
		helloOf(1, 2, 50, 0),
		helloOf(2, 1, 50, 0),
		helloOf(1, 2, 0, 0),
		helloOf(1, 1, 50, 0),
		helloOf(1, 0, most, 0),
		helloOf(api.MaxPeer, most, 1, 0),
		with(helloOf(1, 2, 50, 0), "\x01"),
		with(helloOf(1, 2, 50, 0), long, many...),
		with(helloOf(1, 2, 50, 0), "", many[0]),
		answerOf(1, 2, 50, 60, 0),
		answerOf(1, 2, 50, 60, 0, 1),
		answerOf(1, 2, 50, 60, 0, 0),
		answerOf(1, 2, 50, 60, 0, 2),
		answerOf(1, 2, 50, 60, 0, 1, 1),
		answerOf(2, 1, 60, 50, 0),
		answerOf(2, 1, 0, 0, 0),
		answerOf(api.MaxPeer, most, most, most, 0),
		with(answerOf(1, 2, 50, 60, 0), long, many...),
		with(answerOf(1, 2, 50, 60, 0), "", many[1:3]...),
	} {
		all = append(all, by(t, n, int(m.Nums[0]), m))
	}
	return all
}

// P15.1: Check of Hellos and Answers with their tags.
func TestCheckRight(t *testing.T) {
	n := notary.New()
	for _, m := range rightOnes(t, n) {
		was := withTag(m, m.Nums[len(m.Nums)-1])
		count := n.Count()
		if !Check(n, m) {
			t.Errorf("Check(%v) = false", m)
		}
		if !reflect.DeepEqual(m, was) || n.Count() != count {
			t.Errorf("Check changed something: %v, was %v; entries %d, were %d", m, was, n.Count(), count)
		}
	}
}

// P15.1: a message has the tag of its text and its first number, and no other one; nor any of what was changed in it.
func TestCheckWrong(t *testing.T) {
	n := notary.New()
	right := rightOnes(t, n)
	count := uint64(n.Count())
	isNot := func(m api.Msg, why string) {
		t.Helper()
		if Check(n, m) {
			t.Errorf("Check(%v) = true: %s", m, why)
		}
	}
	for _, m := range right {
		own := m.Nums[len(m.Nums)-1]
		for tag := range count + 3 {
			if tag != own {
				isNot(withTag(m, tag), "another tag")
			}
		}
		for i := range m.Nums {
			for _, v := range []uint64{m.Nums[i] + 1, m.Nums[i] - 1, m.Nums[i] ^ 1<<40, m.Nums[i] ^ 1<<63, 0, 7, 1 << 63, math.MaxUint64} {
				x := withTag(m, own)
				if x.Nums[i] = v; v != m.Nums[i] {
					isNot(x, "another number")
				}
			}
		}
		x := withTag(m, own)
		x.Body = append(append([]byte(nil), m.Body...), 9)
		isNot(x, "a longer body")
		x = withTag(m, own)
		x.Addrs = append(append([]api.Addr(nil), m.Addrs...), api.Addr{Host: 9, Port: 9})
		isNot(x, "one more address")
		x = withTag(m, own)
		x.Nums = append(x.Nums, own)
		isNot(x, "one more number")
		x = withTag(m, own)
		x.Nums = x.Nums[:len(x.Nums)-1]
		isNot(x, "one number less")
		x = withTag(m, own)
		x.Kind = 3 - m.Kind
		isNot(x, "the other kind")
	}
	isNot(api.Msg{}, "no message")
	isNot(api.Msg{Kind: api.Hello}, "no numbers")
	isNot(api.Msg{Kind: api.Answer}, "no numbers")
	if uint64(n.Count()) != count {
		t.Errorf("Check minted: %d entries, were %d", n.Count(), count)
	}
}

// P15.1: the tag of another peer, and one for another text.
func TestCheckTagOfAnother(t *testing.T) {
	n := notary.New()
	for _, m := range []api.Msg{helloOf(1, 2, 50, 0), answerOf(1, 2, 50, 60, 0), answerOf(1, 2, 50, 60, 0, 1)} {
		for _, peer := range []int{2, 3, 50, api.MaxPeer} {
			if x := by(t, n, peer, m); Check(n, x) {
				t.Errorf("Check(%v) = true: %d's tag", x, peer)
			}
		}
		for _, text := range [][]byte{nil, {0}, told(m)[:5], append(told(m), 0), told(withTag(m, 1)), told(withTag(m, 99))} {
			tag, _ := n.Mint(1, text)
			if x := withTag(m, tag); Check(n, x) {
				t.Errorf("Check(%v) = true: a tag for % X", x, text)
			}
		}
		if x := by(t, n, 1, m); !Check(n, x) {
			t.Errorf("Check(%v) = false", x)
		}
	}
}

// P15.1: messages of all other kinds, and of no kind, though they have the tag of their first number.
func TestCheckOtherKinds(t *testing.T) {
	n := notary.New()
	counts := map[int]int{api.Data: 5, api.Ack: 6, api.Ping: 1, api.Pong: 1, api.Close: 3, api.Reset: 1, api.Dial: 2, api.DialBack: 2, api.Reserve: 2, api.Reserved: 4, api.Connect: 2, api.Stop: 4, api.Status: 2, api.Forward: 1, api.Punch: 2, api.Sync: 1}
	for kind, count := range counts {
		m := api.Msg{Kind: kind, Nums: []uint64{1, 2, 50, 60, 70, 80}[:count]}
		if x := by(t, n, 1, m); Check(n, x) {
			t.Errorf("Check(%v) = true", x)
		}
		m.Body = []byte{1}
		if x := by(t, n, 1, m); Check(n, x) {
			t.Errorf("Check(%v) = true", x)
		}
	}
	for _, kind := range []int{0, -1, 19, 257, 258, 1<<32 + 1, 1<<32 + 2, math.MinInt + 1, math.MaxInt} {
		for count := range 8 {
			m := api.Msg{Kind: kind, Nums: []uint64{1, 2, 50, 60, 70, 80, 90}[:count]}
			if Check(n, m) {
				t.Errorf("Check(%v) = true", m)
			}
			if count > 0 {
				if x := by(t, n, 1, m); Check(n, x) {
					t.Errorf("Check(%v) = true", x)
				}
			}
		}
	}
}

// P15.1: what is no message isn't a Hello or an Answer, though what would be its bytes has a tag.
func TestCheckNoMessage(t *testing.T) {
	n := notary.New()
	hello, first := helloOf(1, 2, 50, 0), answerOf(1, 2, 50, 60, 0)
	bad := []api.Msg{
		{Kind: api.Hello, Nums: []uint64{1, 2, 50, 60, 0}},
		{Kind: api.Hello, Nums: []uint64{1, 2, 0}},
		{Kind: api.Hello, Nums: []uint64{1}},
		{Kind: api.Answer, Nums: []uint64{1, 2, 50, 0}},
		{Kind: api.Answer, Nums: []uint64{1, 2, 50, 60, 0, 0}},
		helloOf(1, 2, 1<<63, 0),
		helloOf(1, 1<<63, 50, 0),
		answerOf(1, 2, 50, math.MaxUint64, 0),
		with(hello, strings.Repeat("x", api.MaxBody+1)),
		with(first, strings.Repeat("x", api.MaxBody+1)),
		with(hello, "", api.Addr{}),
		with(hello, "", api.Addr{Host: 1, Port: 65536}),
		with(first, "", api.Addr{Host: 0, Port: 1}),
		with(first, "", make([]api.Addr, 9)...),
	}
	nine := make([]api.Addr, api.MaxAddrs+1)
	for i := range nine {
		nine[i] = api.Addr{Host: 1, Port: 1}
	}
	bad = append(bad, with(hello, "", nine...), with(first, "", nine...))
	n.Mint(1, nil)
	for _, m := range bad {
		for _, x := range []api.Msg{m, withTag(m, 1), by(t, n, 1, m)} {
			if Check(n, x) {
				t.Errorf("Check(%v) = true", x)
			}
		}
	}
}

// P15.2: Call of one that is Fresh, and of one at each other place.
func TestCall(t *testing.T) {
	for _, s := range places() {
		n := notary.New()
		got, sent := Call(s, n)
		if s.State != api.Fresh {
			isAt(t, got, s)
			isSent(t, sent)
			if n.Count() != 0 {
				t.Errorf("Call of %+v minted", s)
			}
			continue
		}
		isAt(t, got, at(api.Called, 0))
		isSent(t, sent, told(helloOf(1, 2, ownNonce, 1))...)
		again, none := Call(got, n)
		isAt(t, again, got)
		isSent(t, none)
		if n.Count() != 1 {
			t.Errorf("Call made %d entries", n.Count())
		}
	}
}

// P15.2: a Hello with the greatest numbers, and one whose tag is greater than a byte.
func TestCallGreat(t *testing.T) {
	n := notary.New()
	for i := range 299 {
		n.Mint(5, []byte{byte(i), byte(i >> 8)})
	}
	const nonce = 1<<63 - 1
	s, _ := New(api.MaxPeer, api.MaxPeer-1, nonce)
	s, sent := Call(s, n)
	isAt(t, s, api.Shake{State: api.Called, Own: api.MaxPeer, Other: api.MaxPeer - 1, Nonce: nonce})
	isSent(t, sent, told(helloOf(api.MaxPeer, api.MaxPeer-1, nonce, 300))...)
	b, _ := New(api.MaxPeer-1, api.MaxPeer, nonce)
	b, sent = Hear(b, n, sent)
	isAt(t, b, api.Shake{State: api.Heard, Own: api.MaxPeer - 1, Other: api.MaxPeer, Nonce: nonce, Echo: nonce})
	isSent(t, sent, told(answerOf(api.MaxPeer-1, api.MaxPeer, nonce, nonce, 301))...)
	s, sent = Hear(s, n, sent)
	isAt(t, s, api.Shake{State: api.Open, Own: api.MaxPeer, Other: api.MaxPeer - 1, Nonce: nonce, Echo: nonce})
	isSent(t, sent, told(answerOf(api.MaxPeer, api.MaxPeer-1, nonce, nonce, 302, 1))...)
}

// P15.2: Again at each place, byte by byte.
func TestAgain(t *testing.T) {
	for _, s := range places() {
		n := notary.New()
		var want []byte
		switch s.State {
		case api.Called:
			want = told(helloOf(1, 2, ownNonce, 1))
		case api.Heard:
			want = told(answerOf(1, 2, ownNonce, otherNonce, 1))
		}
		isSent(t, Again(s, n), want...)
		isSent(t, Again(s, n), want...)
		if n.Count() != min(len(want), 1) {
			t.Errorf("Again of %+v made %d entries", s, n.Count())
		}
	}
}

// P15.2: what Again tells is the very same as what was sent, and is new memory.
func TestAgainSame(t *testing.T) {
	n := notary.New()
	a, _ := New(1, 2, ownNonce)
	b, _ := New(2, 1, otherNonce)
	isSent(t, Again(a, n))
	a, hello := Call(a, n)
	wasHello := bytes.Clone(hello)
	n.Mint(1, []byte("between"))
	again := Again(a, n)
	isSent(t, again, wasHello...)
	scribble(again)
	isSent(t, hello, wasHello...)
	b, first := Hear(b, n, hello)
	wasFirst := bytes.Clone(first)
	n.Mint(2, []byte("between"))
	again = Again(b, n)
	isSent(t, again, wasFirst...)
	scribble(again)
	isSent(t, first, wasFirst...)
	isSent(t, Again(b, n), wasFirst...)
	a, last := Hear(a, n, first)
	isSent(t, Again(a, n))
	b, _ = Hear(b, n, last)
	isSent(t, Again(b, n))
	isSent(t, Again(Close(a), n))
	isSent(t, Again(Close(b), n))
	if n.Count() != 5 {
		t.Errorf("%d entries, want 5", n.Count())
	}
}

// scribble writes all of a row over, its spare room too.
func scribble(b []byte) {
	b = b[:cap(b)]
	for i := range b {
		b[i] ^= 0xff
	}
}

// P15.2: Close at each place: it is Over, all else stands; what is heard, called and sent again behind it is nothing.
func TestClose(t *testing.T) {
	for _, s := range places() {
		got := Close(s)
		isAt(t, got, at(api.Over, s.Echo))
		isAt(t, Close(got), got)
		n := notary.New()
		var rows [][]byte
		for _, m := range []api.Msg{helloOf(2, 1, otherNonce, 0), answerOf(2, 1, otherNonce, ownNonce, 0), answerOf(2, 1, otherNonce, ownNonce, 0, 1), helloOf(2, 1, 61, 0)} {
			rows = append(rows, told(by(t, n, 2, m)))
		}
		count := n.Count()
		for _, row := range rows {
			x, sent := Hear(got, n, row)
			isAt(t, x, got)
			isSent(t, sent)
		}
		x, sent := Call(got, n)
		isAt(t, x, got)
		isSent(t, sent)
		isSent(t, Again(got, n))
		if n.Count() != count {
			t.Errorf("a closed one minted")
		}
	}
}

// P15.2 (rules 4 and 6): what New wouldn't give is no handshake: nothing is sent of it, nor changed, and nothing panics.
func TestNoHandshake(t *testing.T) {
	nums := []int{0, -1, math.MinInt, api.MaxPeer + 1, math.MaxInt, 1, 2}
	nonces := []uint64{0, 1 << 63, math.MaxUint64, 50}
	for _, own := range nums {
		for _, other := range nums {
			for _, nonce := range nonces {
				for _, echo := range nonces {
					for state := -1; state < 7; state++ {
						s := api.Shake{State: state, Own: own, Other: other, Nonce: nonce, Echo: echo}
						if own > 0 && own < 3 && other > 0 && other < 3 && own != other && nonce == 50 && (echo == 0 || echo == 50) {
							continue
						}
						doesNothing(t, s)
					}
				}
			}
		}
	}
	for _, state := range []int{-1, 5, 6, 256, math.MinInt, math.MaxInt} {
		doesNothing(t, at(state, otherNonce))
	}
}

// doesNothing: that a handshake isn't changed, but by Close, and sends nothing, whatever is heard.
func doesNothing(t *testing.T, s api.Shake) {
	t.Helper()
	n := notary.New()
	rows := [][]byte{nil}
	for _, own := range []int{1, 2} {
		for _, other := range []uint64{0, 1, 2} {
			rows = append(rows, told(by(t, n, own, helloOf(uint64(own), other, 50, 0))), told(by(t, n, own, answerOf(uint64(own), other, 50, 50, 0))), told(by(t, n, own, answerOf(uint64(own), other, 50, 0, 0))))
		}
	}
	count := n.Count()
	x, sent := Call(s, n)
	isAt(t, x, s)
	isSent(t, sent)
	isSent(t, Again(s, n))
	for _, row := range rows {
		x, sent := Hear(s, n, row)
		isAt(t, x, s)
		isSent(t, sent)
	}
	if n.Count() != count {
		t.Errorf("%+v minted", s)
	}
	over := s
	over.State = api.Over
	isAt(t, Close(s), over)
}
