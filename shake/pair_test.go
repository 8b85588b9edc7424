package shake

import (
	"fmt"
	"slices"
	"testing"

	"embrasure/api"
	"embrasure/notary"
)

// pair: two handshakes with one another, and all rows that either ever sent to the other one, by who sent them. Whatever may be lost, doubled, late or out of order is one of these that comes, at some time, or doesn't.
type pair struct {
	n    *notary.Notary
	ends [2]api.Shake
	rows [2][][]byte
}

// newPair: 1's handshake with 2, and 2's with 1.
func newPair(t *testing.T) *pair {
	t.Helper()
	p := &pair{n: notary.New()}
	a, code := New(1, 2, ownNonce)
	b, code2 := New(2, 1, otherNonce)
	if code != api.OK || code2 != api.OK {
		t.Fatalf("New = %d %d", code, code2)
	}
	p.ends = [2]api.Shake{a, b}
	return p
}

// copied: a pair that goes on by itself. (A notary's entries never change, so that both go by one.)
func (p *pair) copied() *pair {
	q := *p
	q.rows = [2][][]byte{slices.Clone(p.rows[0]), slices.Clone(p.rows[1])}
	return &q
}

// sends: an end sends something, if it is something.
func (p *pair) sends(who int, row []byte) {
	if len(row) > 0 && !slices.ContainsFunc(p.rows[who], func(b []byte) bool { return string(b) == string(row) }) {
		p.rows[who] = append(p.rows[who], row)
	}
}

// calls, again and comes: what an end does, or what comes to it.
func (p *pair) calls(who int) {
	s, row := Call(p.ends[who], p.n)
	p.ends[who] = s
	p.sends(who, row)
}

func (p *pair) again(who int) { p.sends(who, Again(p.ends[who], p.n)) }

func (p *pair) comes(who int, row []byte) []byte {
	s, sent := Hear(p.ends[who], p.n, row)
	p.ends[who] = s
	p.sends(who, sent)
	return sent
}

// key: all that counts for what may come.
func (p *pair) key() string { return fmt.Sprint(p.ends, p.rows) }

// isSound: P15.3: who is Open has the other one's nonce, and the other one told it with the own nonce; who is Heard has it, too; and who isn't either knows nothing.
func (p *pair) isSound(t *testing.T) {
	t.Helper()
	for who, s := range p.ends {
		other := p.ends[1-who]
		switch s.State {
		case api.Open:
			first := string(told(by(t, p.n, other.Own, answerOf(uint64(other.Own), uint64(s.Own), s.Echo, s.Nonce, 0))))
			last := string(told(by(t, p.n, other.Own, answerOf(uint64(other.Own), uint64(s.Own), s.Echo, s.Nonce, 0, 1))))
			if s.Echo != other.Nonce || !slices.ContainsFunc(p.rows[1-who], func(b []byte) bool { return string(b) == first || string(b) == last }) {
				t.Fatalf("%+v is Open, but %+v didn't tell so", s, other)
			}
		case api.Heard:
			if s.Echo != other.Nonce {
				t.Fatalf("%+v has a nonce that isn't %+v's", s, other)
			}
		case api.Fresh, api.Called:
			if s.Echo != 0 {
				t.Fatalf("%+v knows a nonce", s)
			}
		}
	}
}

// opens: P15.3: if all comes, and is sent again, both are Open soon, with one another's nonces.
func (p *pair) opens(t *testing.T) {
	t.Helper()
	was := p.key()
	for who := range 4 {
		who %= 2
		row := Again(p.ends[who], p.n)
		for hops := 0; len(row) > 0; hops++ {
			if hops > 4 {
				t.Fatalf("from %s: they answer one another without an end", was)
			}
			who = 1 - who
			row = p.comes(who, row)
		}
	}
	if p.ends[0].State != api.Open || p.ends[1].State != api.Open || p.ends[0].Echo != otherNonce || p.ends[1].Echo != ownNonce {
		t.Fatalf("from %s: %+v", was, p.ends)
	}
}

// thrown: what a third one may throw in: all that it can tell without the others' tags for it, and what has their tags, but was for others.
func thrown(t *testing.T, n *notary.Notary) [][]byte {
	t.Helper()
	rows := [][]byte{nil, {1}, {2, 2, 1}}
	for _, from := range []uint64{1, 2, 3} {
		for _, to := range []uint64{1, 2, 3} {
			for _, nonce := range []uint64{0, ownNonce, otherNonce, 70} {
				for _, m := range []api.Msg{helloOf(from, to, nonce, 0), answerOf(from, to, nonce, ownNonce, 0), answerOf(from, to, nonce, otherNonce, 0), answerOf(from, to, nonce, ownNonce, 0, 1), answerOf(from, to, nonce, otherNonce, 0, 1)} {
					rows = append(rows, told(by(t, n, 3, m)), told(withTag(m, 0)))
					if from == 3 || to == 3 || from == to {
						rows = append(rows, told(by(t, n, int(from), m)))
					}
				}
			}
		}
	}
	return rows
}

// P15.3: everything that may come to be with two who call, or are called, whatever is lost, doubled, late or out of order, with what a third one throws in at each place, and from each place of it on: both are Open soon, if somebody called.
func TestEverything(t *testing.T) {
	first := newPair(t)
	bad := thrown(t, first.n)
	seen := map[string]bool{first.key(): true}
	ends := map[[2]int]bool{}
	for work := []*pair{first}; len(work) > 0; work = work[1:] {
		p := work[0]
		p.isSound(t)
		p.isDeafTo(t, bad)
		ends[[2]int{p.ends[0].State, p.ends[1].State}] = true
		if p.ends[0].State != api.Fresh || p.ends[1].State != api.Fresh {
			p.copied().opens(t)
		}
		for _, q := range p.next() {
			if !seen[q.key()] {
				seen[q.key()] = true
				work = append(work, q)
			}
		}
	}
	may := [][2]int{{api.Fresh, api.Fresh}, {api.Called, api.Fresh}, {api.Called, api.Called}, {api.Called, api.Heard}, {api.Heard, api.Heard}, {api.Open, api.Heard}, {api.Open, api.Open}}
	for _, both := range may {
		back := [2]int{both[1], both[0]}
		if !ends[both] || !ends[back] {
			t.Errorf("never at %v or %v", both, back)
		}
		delete(ends, both)
		delete(ends, back)
	}
	if len(ends) > 0 {
		t.Errorf("somebody heard one who didn't tell it: %v", ends)
	}
}

// next: the pairs that it may be in a step.
func (p *pair) next() []*pair {
	var all []*pair
	for who := range p.ends {
		q := p.copied()
		q.calls(who)
		r := p.copied()
		r.again(who)
		all = append(all, q, r)
		for _, row := range p.rows[1-who] {
			q := p.copied()
			q.comes(who, row)
			all = append(all, q)
		}
	}
	return all
}

// isDeafTo: P15.3: that rows change nothing, and nothing is sent; nor does what an end sent itself.
func (p *pair) isDeafTo(t *testing.T, rows [][]byte) {
	t.Helper()
	for who, s := range p.ends {
		for _, row := range append(slices.Clone(rows), p.rows[who]...) {
			if got, sent := Hear(s, p.n, row); got != s || len(sent) > 0 {
				t.Fatalf("Hear(%+v, % X) = %+v, % X", s, row, got, sent)
			}
		}
	}
}

// P15.3: one is closed: the other one is never Open by it alone, and nothing that comes wakes it.
func TestClosedAmid(t *testing.T) {
	for closed := range 2 {
		p := newPair(t)
		p.calls(0)
		p.comes(1, p.rows[0][0])
		p.ends[closed] = Close(p.ends[closed])
		for range 3 {
			for who := range p.ends {
				p.again(who)
				for _, row := range slices.Clone(p.rows[1-who]) {
					p.comes(who, row)
				}
			}
		}
		if p.ends[closed].State != api.Over {
			t.Errorf("%+v was closed", p.ends[closed])
		}
		if closed == 0 && p.ends[1].State != api.Heard {
			t.Errorf("%+v: the other one was closed ahead of telling its nonce", p.ends[1])
		}
	}
}

// P15.3: the other one begins anew with another nonce: what its old handshake sent opens nothing of the new one, and a nonce that is held stands.
func TestAnew(t *testing.T) {
	p := newPair(t)
	p.calls(0)
	p.comes(1, p.rows[0][0]) // an Answer with the nonce 60
	old := p.rows[1][0]
	fresh, _ := New(2, 1, otherNonce+1)
	p.ends[1], p.rows[1] = fresh, nil
	p.comes(1, p.rows[0][0]) // one with 61
	p.comes(0, p.rows[1][0])
	isAt(t, p.ends[0], at(api.Open, otherNonce+1))
	p.comes(0, old)
	isAt(t, p.ends[0], at(api.Open, otherNonce+1))
	p.comes(1, p.rows[0][1])
	isAt(t, p.ends[1], api.Shake{State: api.Open, Own: 2, Other: 1, Nonce: otherNonce + 1, Echo: ownNonce})

	// And the own one: an Answer to the old one isn't for the new one.
	q := newPair(t)
	q.calls(0)
	q.comes(1, q.rows[0][0])
	late := q.rows[1][0]
	next, _ := New(1, 2, ownNonce+1)
	q.ends[0], _ = Call(next, q.n)
	if sent := q.comes(0, late); len(sent) > 0 || q.ends[0].State != api.Called || q.ends[0].Echo != 0 {
		t.Errorf("an old Answer was heard: %+v", q.ends[0])
	}
}

// P15.3: two whose nonces are the same number, and whose peers' numbers are nonces, too, aren't mixed up.
func TestAlike(t *testing.T) {
	for _, nonce := range []uint64{1, 2, 50} {
		n := notary.New()
		a, _ := New(1, 2, nonce)
		b, _ := New(2, 1, nonce)
		a, row := Call(a, n)
		for range 2 {
			if x, sent := Hear(a, n, row); x != a || len(sent) > 0 {
				t.Errorf("it heard its own Hello: %+v", x)
			}
		}
		b, row = Hear(b, n, row)
		a, row = Hear(a, n, row)
		b, row = Hear(b, n, row)
		if a != (api.Shake{State: api.Open, Own: 1, Other: 2, Nonce: nonce, Echo: nonce}) || b != (api.Shake{State: api.Open, Own: 2, Other: 1, Nonce: nonce, Echo: nonce}) || len(row) > 0 {
			t.Errorf("%+v %+v % X", a, b, row)
		}
	}
}
