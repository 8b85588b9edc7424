package flow

import (
	"bytes"
	"testing"

	"embrasure/api"
)

// pair: a sender and a receiver, what is on its way between them, what was written, and what was read.
type pair struct {
	s       *Sender
	r       *Receiver
	parts   []api.Part
	acks    [][2]int
	written int
	read    int
}

// newPair: both, with a window that the sender knows from the beginning.
func newPair(t *testing.T, window int) *pair {
	t.Helper()
	p := &pair{s: NewSender(), r: newOf(t, window)}
	acks(t, p.s, 0, window)
	return p
}

// writes: the stream goes on by so many bytes, as far as there is room, and not beyond an end.
func (p *pair) writes(many, end int) {
	p.written += p.s.Write(stream(p.written, min(p.written+many, end)))
}

// sends: all that the sender may send now is on its way.
func (p *pair) sends(t *testing.T) {
	t.Helper()
	p.parts = append(p.parts, allOf(t, p.s)...)
}

// reads: that what is read is the stream's, as it goes on.
func (p *pair) reads(t *testing.T, most int) {
	t.Helper()
	b := p.r.Read(most)
	if !bytes.Equal(b, stream(p.read, p.read+len(b))) || p.read+len(b) > p.written {
		t.Fatalf("behind %d bytes %d were read that aren't those written", p.read, len(b))
	}
	p.read += len(b)
}

// hears: a part comes; what a sender sent is always taken: by its Limit it is within the window.
func (p *pair) hears(t *testing.T, q api.Part) {
	t.Helper()
	if !p.r.Hear(q) {
		t.Fatalf("a part of %d bytes at %d isn't taken", len(q.Bytes), q.Off)
	}
}

// happens: by chance one of all that may.
func (p *pair) happens(t *testing.T, x *uint64, end int) {
	t.Helper()
	switch chance(x) % 12 {
	case 0:
		p.writes(chance(x)%1500, end)
	case 1, 2:
		if q, ok := p.s.Next(); ok {
			p.parts = append(p.parts, q)
		}
	case 3:
		if chance(x)%4 == 0 {
			p.s.Again()
		}
	case 4, 5, 6: // a part comes, and may come again
		if len(p.parts) > 0 {
			i := chance(x) % len(p.parts)
			p.hears(t, p.parts[i])
			if chance(x)%3 > 0 {
				p.drops(i)
			}
		}
	case 7: // a part is lost
		if len(p.parts) > 0 {
			p.drops(chance(x) % len(p.parts))
		}
	case 8, 9:
		p.reads(t, chance(x)%900)
	case 10:
		upto, window := p.r.Ack()
		p.acks = append(p.acks, [2]int{upto, window})
	case 11: // an old one comes, maybe not for the last time; it changes nothing or tells what is so
		if len(p.acks) > 0 {
			a := p.acks[chance(x)%len(p.acks)]
			p.s.Ack(a[0], a[1])
		}
	}
}

// drops: one isn't on its way any more.
func (p *pair) drops(i int) {
	p.parts[i] = p.parts[len(p.parts)-1]
	p.parts = p.parts[:len(p.parts)-1]
}

// comes: all that is on its way comes, is read, and told.
func (p *pair) comes(t *testing.T) {
	t.Helper()
	for _, q := range p.parts {
		p.hears(t, q)
	}
	p.parts = nil
	p.reads(t, api.MaxWindow)
	if upto, window := p.r.Ack(); !p.s.Ack(upto, window) {
		t.Fatalf("Ack(%d, %d) = false", upto, window)
	}
}

// ends: once all comes at last, all of it is read, and nothing is left.
func (p *pair) ends(t *testing.T, window int) {
	t.Helper()
	for range p.written + 2 {
		p.s.Again()
		p.sends(t)
		p.comes(t)
		if p.read == p.written {
			break
		}
	}
	if left, since := p.s.Left(); p.read != p.written || left != 0 || since != 0 {
		t.Fatalf("%d of %d bytes were read, %d %d are left", p.read, p.written, left, since)
	}
	came(t, p.r, p.written, window)
	p.s.Again()
	tellsNone(t, p.s)
}

// P16.3: parts that are lost, doubled, late and out of order, by chance, with windows of all sizes: what is read is a beginning of what was written, and all once all comes.
func TestPairs(t *testing.T) {
	x := uint64(88172645463325252)
	for _, window := range []int{1, 2, 3, 10, 100, 499, 500, 501, 1000, 2500, 4095, 4096} {
		for range 25 {
			p := newPair(t, window)
			for range 400 {
				p.happens(t, &x, 20*window+1000)
			}
			p.ends(t, window)
		}
	}
}

// P16.3: the same with every window, for a while.
func TestAllWindows(t *testing.T) {
	x := uint64(2463534242)
	for window := 1; window <= api.MaxWindow; window++ {
		p := newPair(t, window)
		for range 60 {
			p.happens(t, &x, 3*window+50)
		}
		p.ends(t, window)
	}
}

// P16.3: all ways in which five times one of four parts comes, or none: what is read ends where one hadn't come.
func TestOrders(t *testing.T) {
	const window, written, none = 2000, 1800, 4
	for code := range 5 * 5 * 5 * 5 * 5 {
		p := newPair(t, window)
		p.writes(written, written)
		p.sends(t)
		var had [none + 1]bool
		for rest, i := code, 0; i < 5; rest, i = rest/5, i+1 {
			had[rest%5] = true
			if rest%5 != none {
				p.hears(t, p.parts[rest%5])
			}
		}
		want := 0
		for want < none && had[want] {
			want++
		}
		p.reads(t, window)
		if p.read != min(want*api.MaxPart, written) {
			t.Fatalf("by %d: %d bytes were read, want %d", code, p.read, min(want*api.MaxPart, written))
		}
		p.ends(t, window)
	}
}

// P16.3: a part that is heard behind a time when it was cut otherwise: Again cuts anew, where more was written or Base is another.
func TestCutAnew(t *testing.T) {
	p := newPair(t, 4096)
	p.writes(3, 3)
	p.sends(t)
	p.writes(900, 903)
	p.sends(t)
	p.s.Again()
	p.sends(t)
	p.writes(1000, 1903)
	p.s.Again()
	p.sends(t)
	for i := len(p.parts) - 1; i >= 0; i-- {
		p.hears(t, p.parts[i])
		if i%2 == 0 {
			p.reads(t, 333)
		}
	}
	p.ends(t, 4096)
}

// P16.3: a stream of MaxStream bytes comes whole, with losses, and no byte more.
func TestWholeStream(t *testing.T) {
	x := uint64(521288629)
	for _, window := range []int{1000, 4096} {
		p := newPair(t, window)
		for turns := 0; p.read < api.MaxStream; turns++ {
			if turns > 20000 {
				t.Fatalf("it stands at %d bytes", p.read)
			}
			p.writes(50000, api.MaxStream+50000)
			p.sends(t)
			if chance(&x)%4 == 0 && len(p.parts) > 0 {
				p.drops(chance(&x) % len(p.parts))
			}
			p.comes(t)
			if chance(&x)%4 == 0 {
				p.s.Again()
			}
		}
		if p.written != api.MaxStream {
			t.Fatalf("%d bytes were written", p.written)
		}
		p.ends(t, window)
		writes(t, p.s, []byte{1}, 0)
		tellsNone(t, p.s)
		takesNot(t, p.r, api.MaxStream, api.MaxStream+1)
		reads(t, p.r, 9, nil)
	}
}
