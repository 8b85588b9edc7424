package shake

import (
	"bytes"
	"math"
	"slices"
	"strings"
	"testing"

	"embrasure/api"
	"embrasure/notary"
)

// end: what a handshake is behind a message, and what it sends: nothing, an Answer, or a last one.
type end struct {
	state int
	echo  uint64
	sends string
}

// hears: that 1's handshake with 2 hears a message so, byte by byte; and nothing else is minted.
func hears(t *testing.T, n *notary.Notary, s api.Shake, row []byte, want end) {
	t.Helper()
	count := n.Count()
	got, sent := Hear(s, n, row)
	isAt(t, got, at(want.state, want.echo))
	var text api.Msg
	switch want.sends {
	case "":
		isSent(t, sent)
		if n.Count() != count {
			t.Errorf("Hear(%+v, % X) minted", s, row)
		}
		return
	case "answer":
		text = answerOf(1, 2, ownNonce, want.echo, 0)
	case "last":
		text = answerOf(1, 2, ownNonce, want.echo, 0, 1)
	}
	isSent(t, sent, told(withTag(text, uint64(count)+1))...)
	if n.Count() != count+1 || n.Check(1, told(text), uint64(count)+1) != api.OK {
		t.Errorf("Hear(%+v, % X): %d entries, were %d", s, row, n.Count(), count)
	}
	again, second := Hear(got, n, row)
	isAt(t, again, got)
	if want.sends == "answer" || want.sends == "last" {
		isSent(t, second, sent...)
	}
	if n.Count() != count+1 {
		t.Error("what was heard again minted")
	}
}

// hearsNothing: that a message changes nothing at any place, and that nothing is sent.
func hearsNothing(t *testing.T, n *notary.Notary, row []byte) {
	t.Helper()
	for _, s := range places() {
		hears(t, n, s, row, end{s.State, s.Echo, ""})
	}
}

// P15.2: each message that is right, at each place, and again.
func TestHear(t *testing.T) {
	const held, other = otherNonce, otherNonce + 1
	fresh, called, heard, open, over := end{api.Fresh, 0, ""}, end{api.Called, 0, ""}, end{api.Heard, held, ""}, end{api.Open, held, ""}, end{api.Over, held, ""}
	addrs := []api.Addr{{Host: 7, Port: 7}, {Host: 8, Port: 8}}
	for _, c := range []struct {
		name string
		m    api.Msg
		want [5]end
	}{
		{"a Hello", helloOf(2, 1, held, 0), [5]end{{api.Heard, held, "answer"}, {api.Heard, held, "answer"}, {api.Heard, held, "answer"}, {api.Open, held, "answer"}, over}},
		{"a Hello with another nonce", helloOf(2, 1, other, 0), [5]end{{api.Heard, other, "answer"}, {api.Heard, other, "answer"}, heard, open, over}},
		{"a Hello with the own nonce", helloOf(2, 1, ownNonce, 0), [5]end{{api.Heard, ownNonce, "answer"}, {api.Heard, ownNonce, "answer"}, heard, open, over}},
		{"a Hello with addresses", with(helloOf(2, 1, held, 0), "", addrs...), [5]end{{api.Heard, held, "answer"}, {api.Heard, held, "answer"}, {api.Heard, held, "answer"}, {api.Open, held, "answer"}, over}},
		{"a Hello with a body", with(helloOf(2, 1, held, 0), "\x01"), [5]end{{api.Heard, held, "answer"}, {api.Heard, held, "answer"}, {api.Heard, held, "answer"}, {api.Open, held, "answer"}, over}},
		{"a Hello with the greatest nonce", helloOf(2, 1, math.MaxInt64, 0), [5]end{{api.Heard, math.MaxInt64, "answer"}, {api.Heard, math.MaxInt64, "answer"}, heard, open, over}},
		{"an Answer", answerOf(2, 1, held, ownNonce, 0), [5]end{fresh, {api.Open, held, "last"}, {api.Open, held, "last"}, {api.Open, held, "last"}, over}},
		{"an Answer with addresses", with(answerOf(2, 1, held, ownNonce, 0), "", addrs...), [5]end{fresh, {api.Open, held, "last"}, {api.Open, held, "last"}, {api.Open, held, "last"}, over}},
		{"a last Answer", answerOf(2, 1, held, ownNonce, 0, 1), [5]end{fresh, open, open, open, over}},
		{"a last Answer with addresses", with(answerOf(2, 1, held, ownNonce, 0), "\x01", addrs...), [5]end{fresh, open, open, open, over}},
		{"an Answer with another body", answerOf(2, 1, held, ownNonce, 0, 2), [5]end{fresh, open, open, open, over}},
		{"an Answer with the body 0", answerOf(2, 1, held, ownNonce, 0, 0), [5]end{fresh, open, open, open, over}},
		{"an Answer with the longest body", with(answerOf(2, 1, held, ownNonce, 0), strings.Repeat("\x00", api.MaxBody)), [5]end{fresh, open, open, open, over}},
		{"an Answer with another nonce", answerOf(2, 1, other, ownNonce, 0), [5]end{fresh, {api.Open, other, "last"}, heard, open, over}},
		{"a last Answer with another nonce", answerOf(2, 1, other, ownNonce, 0, 1), [5]end{fresh, {api.Open, other, ""}, heard, open, over}},
		{"an Answer with the own nonce", answerOf(2, 1, ownNonce, ownNonce, 0), [5]end{fresh, {api.Open, ownNonce, "last"}, heard, open, over}},
		{"an Answer whose Echo is another one", answerOf(2, 1, held, ownNonce+1, 0), [5]end{fresh, called, heard, open, over}},
		{"an Answer whose Echo is its nonce", answerOf(2, 1, held, held, 0), [5]end{fresh, called, heard, open, over}},
		{"an Answer whose Echo is 0", answerOf(2, 1, held, 0, 0), [5]end{fresh, called, heard, open, over}},
		{"a last Answer whose Echo is another one", answerOf(2, 1, held, ownNonce-1, 0, 1), [5]end{fresh, called, heard, open, over}},
		{"an Answer whose nonces are turned round", answerOf(2, 1, ownNonce, held, 0), [5]end{fresh, called, heard, open, over}},
	} {
		t.Run(c.name, func(t *testing.T) {
			for i, s := range []api.Shake{at(api.Fresh, 0), at(api.Called, 0), at(api.Heard, held), at(api.Open, held), at(api.Over, held)} {
				n := notary.New()
				hears(t, n, s, told(by(t, n, 2, c.m)), c.want[i])
			}
		})
	}
}

// P15.2: a Hello or an Answer that has a right tag, but not for this one: from another peer, to another one, from itself, or whose nonce is 0.
func TestHearNotItsOwn(t *testing.T) {
	n := notary.New()
	for _, m := range []api.Msg{
		helloOf(3, 1, otherNonce, 0), answerOf(3, 1, otherNonce, ownNonce, 0), answerOf(3, 1, otherNonce, ownNonce, 0, 1),
		helloOf(2, 3, otherNonce, 0), answerOf(2, 3, otherNonce, ownNonce, 0), answerOf(2, 3, otherNonce, ownNonce, 0, 1),
		helloOf(2, 2, otherNonce, 0), answerOf(2, 2, otherNonce, ownNonce, 0),
		helloOf(2, 0, otherNonce, 0), answerOf(2, 0, otherNonce, ownNonce, 0),
		helloOf(2, 1<<32+1, otherNonce, 0), answerOf(2, 1<<32+1, otherNonce, ownNonce, 0),
		helloOf(1, 2, otherNonce, 0), answerOf(1, 2, otherNonce, ownNonce, 0), answerOf(1, 2, ownNonce, otherNonce, 0, 1),
		helloOf(1, 1, otherNonce, 0), answerOf(1, 1, otherNonce, ownNonce, 0),
		helloOf(2, 1, 0, 0), answerOf(2, 1, 0, ownNonce, 0), answerOf(2, 1, 0, ownNonce, 0, 1), answerOf(2, 1, 0, 0, 0),
	} {
		x := by(t, n, int(m.Nums[0]), m)
		if !Check(n, x) {
			t.Errorf("Check(%v) = false", x)
		}
		hearsNothing(t, n, told(x))
	}
	// One that knows no nonce of the other one's holds none, not 0 either.
	for _, state := range []int{api.Heard, api.Open} {
		hears(t, n, at(state, 0), told(by(t, n, 2, helloOf(2, 1, 0, 0))), end{state, 0, ""})
		hears(t, n, at(state, 0), told(by(t, n, 2, answerOf(2, 1, 0, ownNonce, 0))), end{state, 0, ""})
	}
}

// P15.2: messages that would be heard, if their tags were right.
func TestHearWrongTag(t *testing.T) {
	n := notary.New()
	for _, m := range []api.Msg{helloOf(2, 1, otherNonce, 0), answerOf(2, 1, otherNonce, ownNonce, 0), answerOf(2, 1, otherNonce, ownNonce, 0, 1)} {
		hearsNothing(t, n, told(m))
		hearsNothing(t, n, told(withTag(m, 1)))
		hearsNothing(t, n, told(by(t, n, 1, m)))
		hearsNothing(t, n, told(by(t, n, 3, m)))
		for _, text := range [][]byte{nil, told(with(m, "x")), told(with(m, "", api.Addr{Host: 1, Port: 1})), told(withTag(m, 5)), told(m)[1:]} {
			tag, _ := n.Mint(2, text)
			hearsNothing(t, n, told(withTag(m, tag)))
		}
		right := by(t, n, 2, m)
		tag := right.Nums[len(right.Nums)-1]
		for other := range uint64(n.Count() + 2) {
			if other != tag {
				hearsNothing(t, n, told(withTag(m, other)))
			}
		}
		hearsNothing(t, n, told(with(right, "xyz")))
		hearsNothing(t, n, told(with(right, string(right.Body), api.Addr{Host: 1, Port: 1})))
	}
}

// P15.2: messages of other kinds, with the numbers of a Hello or an Answer, and a right tag.
func TestHearOtherKinds(t *testing.T) {
	n := notary.New()
	for kind, count := range map[int]int{api.Data: 5, api.Ack: 6, api.Ping: 1, api.Pong: 1, api.Close: 3, api.Reset: 1, api.Dial: 2, api.DialBack: 2, api.Reserve: 2, api.Reserved: 4, api.Connect: 2, api.Stop: 4, api.Status: 2, api.Forward: 1, api.Punch: 2, api.Sync: 1} {
		m := api.Msg{Kind: kind, Nums: []uint64{2, 1, otherNonce, ownNonce, 0, 0}[:count]}
		hearsNothing(t, n, told(m))
		hearsNothing(t, n, told(by(t, n, 2, m)))
	}
}

// P15.2: no bytes, bytes that are no message, and a message with any one of its bits turned, cut off anywhere, or longer.
func TestHearNoMessage(t *testing.T) {
	n := notary.New()
	hearsNothing(t, n, nil)
	hearsNothing(t, n, []byte{})
	for kind := range 256 {
		hearsNothing(t, n, []byte{byte(kind)})
		hearsNothing(t, n, bytes.Repeat([]byte{byte(kind)}, 7))
		hearsNothing(t, n, bytes.Repeat([]byte{byte(kind)}, 2000))
	}
	for _, m := range []api.Msg{helloOf(2, 1, otherNonce, 0), answerOf(2, 1, otherNonce, ownNonce, 0), answerOf(2, 1, otherNonce, ownNonce, 0, 1), with(helloOf(2, 1, otherNonce, 0), "ab", api.Addr{Host: 1, Port: 1})} {
		row := told(by(t, n, 2, m))
		for i := range row {
			hearsNothing(t, n, row[:i])
			hearsNothing(t, n, row[i+1:])
			for bit := range 8 {
				x := bytes.Clone(row)
				x[i] ^= 1 << bit
				hearsNothing(t, n, x)
			}
		}
		hearsNothing(t, n, append(bytes.Clone(row), 0))
		hearsNothing(t, n, append(bytes.Clone(row), row...))
		hearsNothing(t, n, append([]byte{0}, row...))
	}
	// Numbers that are told in more bytes than they must be.
	tag, _ := n.Mint(2, told(helloOf(2, 1, otherNonce, 0)))
	long := []byte{1, 0x82, 0, 1, otherNonce, byte(tag), 0, 0}
	hearsNothing(t, n, long)
}

// P15.2 (rule 3): what is handed in isn't changed, nor its spare room, nor kept; what is sent is new memory.
func TestHearHandedIn(t *testing.T) {
	for _, m := range []api.Msg{helloOf(2, 1, otherNonce, 0), answerOf(2, 1, otherNonce, ownNonce, 0), answerOf(2, 1, otherNonce, ownNonce, 0, 1)} {
		for _, s := range places() {
			n := notary.New()
			row := told(by(t, n, 2, m))
			room := append(slices.Clone(row), bytes.Repeat([]byte{0xaa}, 50)...)
			was := bytes.Clone(room)
			got, sent := Hear(s, n, room[:len(row)])
			if !bytes.Equal(room, was) {
				t.Errorf("what was handed in is now % X, was % X", room, was)
			}
			wasSent := bytes.Clone(sent)
			scribble(room)
			isSent(t, sent, wasSent...)
			_, second := Hear(got, n, row)
			wasSecond := bytes.Clone(second)
			scribble(sent)
			isSent(t, second, wasSecond...)
			if n.Check(2, told(m), 1) != api.OK {
				t.Error("the entry of what was handed in is gone")
			}
		}
	}
}

// P15.2 (rule 3): Check changes none of a message's lists, nor their spare room.
func TestCheckHandedIn(t *testing.T) {
	n := notary.New()
	m := by(t, n, 2, with(helloOf(2, 1, otherNonce, 0), "ab", api.Addr{Host: 1, Port: 1}))
	nums := append(slices.Clone(m.Nums), 7, 8, 9)
	body := append(slices.Clone(m.Body), 7, 8, 9)
	addrs := append(slices.Clone(m.Addrs), api.Addr{Host: 9, Port: 9})
	wasNums, wasBody, wasAddrs := slices.Clone(nums), slices.Clone(body), slices.Clone(addrs)
	m.Nums, m.Body, m.Addrs = nums[:4], body[:2], addrs[:1]
	if !Check(n, m) {
		t.Error("Check = false")
	}
	if !slices.Equal(nums, wasNums) || !slices.Equal(body, wasBody) || !slices.Equal(addrs, wasAddrs) {
		t.Error("Check changed what was handed in")
	}
}
