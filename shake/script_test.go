package shake

import (
	"slices"
	"testing"

	"embrasure/api"
	"embrasure/notary"
)

// office: tags by a rule that isn't the program's: texts in a list, and the rows that are right, each with what it tells.
type office struct {
	texts []string
	right map[string]api.Msg
}

// tag: a peer's tag for a message, which is right from then on, if it is its first number's.
func (o *office) tag(peer int, m api.Msg) api.Msg {
	text := string(rune(peer)) + string(told(withTag(m, 0)))
	at := slices.Index(o.texts, text)
	if at < 0 {
		o.texts = append(o.texts, text)
		at = len(o.texts) - 1
	}
	m = withTag(m, uint64(at)+1)
	if m.Nums[0] == uint64(peer) {
		o.right[string(told(m))] = m
	}
	return m
}

// plain: a handshake by the words alone.
type plain struct {
	place       string
	own, other  int
	nonce, echo uint64
}

// state: it as the program tells it.
func (p plain) state() api.Shake {
	return api.Shake{State: slices.Index([]string{"fresh", "called", "heard", "open", "over"}, p.place), Own: p.own, Other: p.other, Nonce: p.nonce, Echo: p.echo}
}

// hello and answer: what it sends.
func (p plain) hello(o *office) []byte {
	return told(o.tag(p.own, api.Msg{Kind: 1, Nums: []uint64{uint64(p.own), uint64(p.other), p.nonce, 0}}))
}

func (p plain) answer(o *office, body string) []byte {
	return told(o.tag(p.own, api.Msg{Kind: 2, Nums: []uint64{uint64(p.own), uint64(p.other), p.nonce, p.echo, 0}, Body: []byte(body)}))
}

// call, again and hear: by the words.
func (p *plain) call(o *office) []byte {
	if p.place != "fresh" {
		return nil
	}
	p.place = "called"
	return p.hello(o)
}

func (p *plain) again(o *office) []byte {
	if p.place == "called" {
		return p.hello(o)
	} else if p.place == "heard" {
		return p.answer(o, "")
	}
	return nil
}

func (p *plain) hear(o *office, row []byte) []byte {
	m, right := o.right[string(row)]
	if !right || m.Kind > 2 || int(m.Nums[0]) != p.other || int(m.Nums[1]) != p.own || m.Nums[2] == 0 {
		return nil
	}
	known := (p.place == "heard" || p.place == "open") && p.echo == m.Nums[2]
	if m.Kind == 1 {
		if p.place == "fresh" || p.place == "called" {
			p.place, p.echo = "heard", m.Nums[2]
			return p.answer(o, "")
		} else if known {
			return p.answer(o, "")
		}
		return nil
	}
	if m.Nums[3] != p.nonce || p.place != "called" && !known {
		return nil
	}
	p.place, p.echo = "open", m.Nums[2]
	if len(m.Body) == 0 {
		return p.answer(o, "\x01")
	}
	return nil
}

// stage: three peers, each with a handshake with each other one; each handshake beside its plain one, and all rows that ever were.
type stage struct {
	n      *notary.Notary
	o      *office
	shakes []api.Shake
	plains []plain
	rows   [][]byte
	sent   []api.Msg // by handshakes of 1 and 2, not thrown in
	next   uint64
}

// newStage: all handshakes anew.
func newStage(t *testing.T) *stage {
	s := &stage{n: notary.New(), o: &office{right: map[string]api.Msg{}}, shakes: make([]api.Shake, 6), plains: make([]plain, 6)}
	for i := range s.shakes {
		s.anew(t, i)
	}
	return s
}

// anew: a handshake begins anew, with another nonce.
func (s *stage) anew(t *testing.T, i int) {
	s.next++
	ends := [][2]int{{1, 2}, {2, 1}, {1, 3}, {3, 1}, {2, 3}, {3, 2}}[i]
	got, code := New(ends[0], ends[1], s.next)
	if code != api.OK {
		t.Fatalf("New(%d, %d, %d) = %d", ends[0], ends[1], s.next, code)
	}
	s.shakes[i], s.plains[i] = got, plain{place: "fresh", own: ends[0], other: ends[1], nonce: s.next}
}

// same: that a handshake is as the plain one, and sent the same.
func (s *stage) same(t *testing.T, what string, i int, got, want []byte) {
	t.Helper()
	if s.shakes[i] != s.plains[i].state() || string(got) != string(want) {
		t.Fatalf("%s: %+v sent % X, want %+v and % X", what, s.shakes[i], got, s.plains[i].state(), want)
	}
	if s.n.Count() != len(s.o.texts) {
		t.Fatalf("%s: %d entries, want %d", what, s.n.Count(), len(s.o.texts))
	}
	if len(want) > 0 {
		s.rows = append(s.rows, want)
		s.sent = append(s.sent, s.o.right[string(want)])
	}
}

// throw: a row that somebody other than the handshakes tells.
func (s *stage) throw(t *testing.T, peer int, m api.Msg) {
	want := s.o.tag(peer, m)
	if got := by(t, s.n, peer, m); string(told(got)) != string(told(want)) {
		t.Fatalf("a tag is %v, want %v", got, want)
	}
	s.rows = append(s.rows, told(want))
}

// isTrue: P15.3: who is Open with 1 or 2 has a nonce that a handshake of that one told, with the own nonce.
func (s *stage) isTrue(t *testing.T, i int) {
	x := s.shakes[i]
	if x.State != api.Open || x.Other == 3 {
		return
	}
	for _, m := range s.sent {
		if m.Kind == api.Answer && m.Nums[0] == uint64(x.Other) && m.Nums[1] == uint64(x.Own) && m.Nums[2] == x.Echo && m.Nums[3] == x.Nonce {
			return
		}
	}
	t.Fatalf("%+v is Open, but nobody told so", x)
}

// step: what three bytes of a script ask for.
func (s *stage) step(t *testing.T, what, x, y byte) {
	i := int(x) % 6
	switch what % 16 {
	case 0, 1:
		var got []byte
		s.shakes[i], got = Call(s.shakes[i], s.n)
		s.same(t, "Call", i, got, s.plains[i].call(s.o))
	case 2:
		got := Again(s.shakes[i], s.n)
		s.same(t, "Again", i, got, s.plains[i].again(s.o))
	case 3:
		if y%4 == 0 {
			s.shakes[i], s.plains[i].place = Close(s.shakes[i]), "over"
			s.same(t, "Close", i, nil, nil)
		}
	case 4:
		if y%2 == 0 {
			s.anew(t, i)
		}
	case 5, 6: // 3 has no tags but its own ones
		num := func(b byte) uint64 { return uint64(b) % (s.next + 2) }
		hello := helloOf(uint64(x)%4, uint64(x/4)%4, num(y), 0)
		first := answerOf(uint64(x)%4, uint64(x/4)%4, num(y), num(y/16), 0)
		s.throw(t, 3, []api.Msg{hello, first, with(first, "\x01"), with(hello, "", api.Addr{Host: 7, Port: 7})}[int(x)/16%4])
	case 7: // what was sent, with something changed
		if len(s.rows) > 0 {
			row := slices.Clone(s.rows[int(x)%len(s.rows)])
			row[int(y)%len(row)] ^= 1 << (y / 32)
			s.rows = append(s.rows, row)
		}
	default:
		if len(s.rows) > 0 {
			back := int(y) % len(s.rows)
			if what%16 > 10 {
				back %= 6 // one of the last ones
			}
			row := s.rows[len(s.rows)-1-back]
			var got []byte
			s.shakes[i], got = Hear(s.shakes[i], s.n, row)
			s.same(t, "Hear", i, got, s.plains[i].hear(s.o, row))
		}
	}
	s.isTrue(t, i)
}

// plays: that a script's calls come out as the words say.
func plays(t *testing.T, script []byte) {
	t.Helper()
	s := newStage(t)
	for len(script) >= 3 {
		s.step(t, script[0], script[1], script[2])
		script = script[3:]
	}
}

// chance: bytes from a fixed rule.
func chance(x *uint64) byte {
	*x ^= *x << 13
	*x ^= *x >> 7
	*x ^= *x << 17
	return byte(*x >> 40)
}

// P15.2, P15.3: scripts from a fixed rule, some of them with few handshakes that begin anew, so that many are Open.
func TestScripts(t *testing.T) {
	x := uint64(88172645463325252)
	for round := range 600 {
		script := make([]byte, 450)
		for i := range script {
			script[i] = chance(&x)
			if i%3 == 0 && round%2 == 0 && script[i]%16 > 2 && script[i]%16 < 5 {
				script[i] += 6
			}
			if i%3 == 1 && round%3 == 0 {
				script[i] %= 2
			}
		}
		plays(t, script)
	}
}

// P15.2, P15.3: whatever is called, heard and thrown in, it comes out as the words say.
func FuzzScript(f *testing.F) {
	for _, s := range []string{"", "\x00\x00\x00", "\x00\x00\x00\x0b\x01\x00\x0b\x00\x00\x0b\x01\x00", "\x00\x00\x00\x00\x01\x00\x0b\x00\x00\x0b\x01\x02\x0b\x00\x00\x0b\x01\x02\x03\x00\x00\x02\x01\x00"} {
		f.Add([]byte(s))
	}
	f.Fuzz(plays)
}
