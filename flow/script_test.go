package flow

import (
	"bytes"
	"math"
	"testing"

	"embrasure/api"
)

// plainSender: a sender by the words alone, that throws nothing away.
type plainSender struct {
	all                     []byte
	base, next, ever, limit int
}

// write, part and ack: by the words.
func (p *plainSender) write(b []byte) int {
	n := 0
	for n < len(b) && len(p.all) < api.MaxStream {
		p.all = append(p.all, b[n])
		n++
	}
	return n
}

func (p *plainSender) part() (int, []byte) {
	from := p.next
	for p.next-from < 500 && p.next < len(p.all) && p.next < p.limit {
		p.next++
	}
	p.ever = max(p.ever, p.next)
	return from, p.all[from:p.next]
}

func (p *plainSender) ack(upto, window int) bool {
	if upto < p.base || upto > p.ever || window < 0 || window > 4096 {
		return false
	}
	p.base = upto
	if p.next < upto {
		p.next = upto
	}
	if p.limit < upto+window {
		p.limit = upto + window
	}
	return true
}

// sameNext: that the part that is next is the plain one's.
func sameNext(t *testing.T, s *Sender, p *plainSender) ([]byte, int) {
	t.Helper()
	off, want := p.part()
	if len(want) == 0 {
		tellsNone(t, s)
	} else {
		tells(t, s, off, want)
	}
	return want, off
}

// sameAck: that it may be told so, if the plain one may.
func sameAck(t *testing.T, s *Sender, p *plainSender, upto, window int) {
	t.Helper()
	if p.ack(upto, window) {
		acks(t, s, upto, window)
	} else {
		acksNot(t, s, upto, window)
	}
}

// plainReceiver: a receiver by the words alone, that throws nothing away: by its places what came, or that nothing did.
type plainReceiver struct {
	window, read int
	got          []int
}

// none: nothing came at a place; at those behind the list nothing did either.
const none = -1

// newPlain: a plain one with a window.
func newPlain(window int) *plainReceiver { return &plainReceiver{window: window} }

// came: how many bytes came without a gap.
func (p *plainReceiver) came() int {
	for at := p.read; at < len(p.got); at++ {
		if p.got[at] == none {
			return at
		}
	}
	return len(p.got)
}

// hear: a part comes.
func (p *plainReceiver) hear(off int, b []byte) bool {
	if off < 0 || off >= api.MaxStream || len(b) == 0 || len(b) > 500 {
		return false
	}
	end := off + len(b)
	if end > p.read+p.window || end > api.MaxStream {
		return false
	}
	for len(p.got) < end {
		p.got = append(p.got, none)
	}
	for i, c := range b {
		if p.got[off+i] == none {
			p.got[off+i] = int(c)
		}
	}
	return true
}

// sameHear: that a part is taken, if the plain one takes it, and what Ack tells behind that.
func sameHear(t *testing.T, r *Receiver, p *plainReceiver, off int, b []byte) {
	t.Helper()
	hears(t, r, off, b, p.hear(off, b))
	sameCame(t, r, p)
}

// sameRead: that what is read is what the plain one has, and what Ack tells behind that.
func sameRead(t *testing.T, r *Receiver, p *plainReceiver, most int) {
	t.Helper()
	var want []byte
	for end := p.came(); p.read < end && len(want) < most; p.read++ {
		want = append(want, byte(p.got[p.read]))
	}
	reads(t, r, most, want)
	sameCame(t, r, p)
}

// sameCame: that Ack tells what the plain one has.
func sameCame(t *testing.T, r *Receiver, p *plainReceiver) {
	t.Helper()
	upto := p.came()
	came(t, r, upto, p.window-(upto-p.read))
}

// play: a sender and a receiver, each beside its plain one, and all parts that ever were sent.
type play struct {
	s     *Sender
	ps    *plainSender
	r     *Receiver
	pr    *plainReceiver
	parts []api.Part
	acks  [][2]int
}

// newPlay: both, with a window, and, if asked for, so far that there is little room left in the stream.
func newPlay(t *testing.T, window int, late bool) *play {
	t.Helper()
	p := &play{s: NewSender(), ps: &plainSender{}, r: newOf(t, window), pr: newPlain(window)}
	if late {
		const upto = api.MaxStream - 1500
		p.s, p.r = far(t, upto, 0, 0), farOf(t, window, upto)
		p.ps = &plainSender{all: stream(0, upto), base: upto, next: upto, ever: upto, limit: upto}
		p.pr.read = upto
		for _, c := range p.ps.all {
			p.pr.got = append(p.pr.got, int(c))
		}
	}
	return p
}

// numbers: such as a script seldom comes to.
var numbers = []int{math.MinInt, -1 << 32, -4096, -1, 0, 1, 499, 500, 501, 4095, 4096, 4097, api.MaxStream - 1, api.MaxStream, api.MaxStream + 1, 1 << 32, math.MaxInt - 499, math.MaxInt}

// sizes: how many bytes a script writes, hears, reads, and lets be on their way.
var sizes = []int{0, 1, 2, 3, 10, 100, 250, 499, 500, 501, 700, 1000, 1499, 1500, 2000, 4096}

// step: what three bytes of a script ask for.
func (p *play) step(t *testing.T, what, x, y byte) {
	t.Helper()
	size, odd := sizes[x%16], numbers[int(x)%len(numbers)]
	switch what % 16 {
	case 0:
		b := stream(len(p.ps.all)+int(y), len(p.ps.all)+int(y)+size)
		writes(t, p.s, b, p.ps.write(b))
	case 1, 2, 3:
		if b, off := sameNext(t, p.s, p.ps); len(b) > 0 {
			p.parts = append(p.parts, api.Part{Off: off, Bytes: bytes.Clone(b)})
		}
	case 4:
		p.s.Again()
		p.ps.next = p.ps.base
	case 5:
		upto, window := p.r.Ack()
		p.acks = append(p.acks, [2]int{upto, window})
		sameAck(t, p.s, p.ps, upto, window)
	case 6:
		if len(p.acks) > 0 {
			a := p.acks[int(x)%len(p.acks)]
			sameAck(t, p.s, p.ps, a[0], a[1])
		}
	case 7: // as no receiver tells it
		from := []int{0, p.ps.base, p.ps.next, p.ps.ever}[y%4]
		sameAck(t, p.s, p.ps, from+int(y/4)%5-2, size+int(x/16)%3-1)
	case 8:
		sameAck(t, p.s, p.ps, odd, numbers[int(y)%len(numbers)])
	case 9, 10, 11, 12:
		if len(p.parts) > 0 {
			q := p.parts[len(p.parts)-1-int(x)%min(len(p.parts), 8)]
			sameHear(t, p.r, p.pr, q.Off, q.Bytes)
		}
	case 13: // as no sender tells it
		off := p.pr.read + int(y)*3 - 100
		if y%5 == 0 {
			off = p.pr.read + p.pr.window - size + int(y/5)%3 - 1
		}
		sameHear(t, p.r, p.pr, off, bytes.Repeat([]byte{x}, size))
	case 14:
		sameHear(t, p.r, p.pr, odd, bytes.Repeat([]byte{x}, sizes[y%16]))
	case 15:
		if y%8 == 0 {
			sameRead(t, p.r, p.pr, odd)
		} else {
			sameRead(t, p.r, p.pr, size)
		}
	}
	leaves(t, p.s, len(p.ps.all)-p.ps.base, p.ps.next-p.ps.base)
	sameCame(t, p.r, p.pr)
}

// late: a script that begins so, or higher, begins near the stream's end.
const late = 208

// plays: that a script's calls come out as the words say. Its first byte tells the window, and where it begins.
func plays(t *testing.T, script []byte) {
	t.Helper()
	if len(script) == 0 {
		return
	}
	p := newPlay(t, max(sizes[script[0]%16], 1), script[0] >= late)
	for script = script[1:]; len(script) >= 3 && !t.Failed(); script = script[3:] {
		p.step(t, script[0], script[1], script[2])
	}
}

// chance: a number from a fixed rule.
func chance(x *uint64) int {
	*x ^= *x << 13
	*x ^= *x >> 7
	*x ^= *x << 17
	return int(*x >> 33)
}

// P16.1, P16.2: scripts from a fixed rule, some of them with few calls that are no sender's, or no receiver's.
func TestScripts(t *testing.T) {
	x := uint64(88172645463325252)
	for round := range 300 {
		script := make([]byte, 601)
		for i := range script {
			script[i] = byte(chance(&x))
			if i%3 == 1 && round%3 > 0 && (script[i]%16 == 8 || script[i]%16 > 12 && script[i]%32 < 31) {
				script[i] -= 7
			}
		}
		if script[0] = byte(round % 16); round%30 == 0 {
			script[0] = late + 15 - byte(round/30)
		}
		plays(t, script)
		if t.Failed() {
			t.Fatalf("in round %d", round)
		}
	}
}

// P16.1, P16.2: whatever is written, sent, told and heard, it comes out as the words say.
func FuzzScript(f *testing.F) {
	for _, s := range []string{"", "\x04", "\x04\x00\x04\x00\x05\x00\x00\x01\x00\x00\x09\x00\x00\x0f\x04\x01\x05\x00\x00", "\xff\x00\x0f\x00\x05\x00\x00\x01\x00\x00\x01\x00\x00\x04\x00\x00\x01\x00\x00\x09\x00\x00\x0f\x0f\x01"} {
		f.Add([]byte(s))
	}
	f.Fuzz(plays)
}
