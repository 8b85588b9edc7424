package net

import (
	"bytes"
	"iter"
	"math"
	"testing"

	"embrasure/api"
)

// plain: a net by the words alone, that throws nothing away: all that was sent, or copied, the one whose number is 1 first, and whether it was taken.
type plain struct {
	all   []api.Sent
	taken []bool
}

// now: those that are on their way, by rising numbers.
func (p *plain) now() []api.Sent {
	var now []api.Sent
	for i, s := range p.all {
		if !p.taken[i] {
			now = append(now, s)
		}
	}
	return now
}

// add: one more, if there is room.
func (p *plain) add(s api.Sent) (int, api.Code) {
	if len(p.now()) > 299 {
		return 0, 10
	}
	s.No = len(p.all) + 1
	p.all, p.taken = append(p.all, s), append(p.taken, false)
	return s.No, 0
}

// address: whether it is one.
func address(a api.Addr) bool { return a.Host > 0 && a.Port > 0 && a.Port < 1<<16 }

// send: Send, by the words.
func (p *plain) send(from, to api.Addr, b []byte) (int, api.Code) {
	if !address(from) || !address(to) || len(b) > 1200 {
		return 0, 1
	}
	return p.add(api.Sent{From: from, To: to, Bytes: bytes.Clone(b)})
}

// is: whether one with this number is on its way.
func (p *plain) is(no int) bool { return no >= 1 && no <= len(p.all) && !p.taken[no-1] }

// take: Take, by the words.
func (p *plain) take(no int) (api.Sent, api.Code) {
	if !p.is(no) {
		return api.Sent{}, 5
	}
	p.taken[no-1] = true
	return p.all[no-1], 0
}

// copy: Copy, by the words.
func (p *plain) copy(no int) (int, api.Code) {
	if !p.is(no) {
		return 0, 5
	}
	return p.add(p.all[no-1])
}

// dice: numbers from a row of bytes, 0 behind its end.
type dice struct{ rest []byte }

// roll: one of the numbers below so many.
func (d *dice) roll(below int) int {
	if len(d.rest) == 0 {
		return 0
	}
	b := int(d.rest[0])
	d.rest = d.rest[1:]
	return b % below
}

// addr: an address, seldom one that is none.
func (d *dice) addr() api.Addr {
	if d.roll(40) == 0 {
		return badAddrs[d.roll(len(badAddrs))]
	}
	return goodAddrs[d.roll(len(goodAddrs))]
}

// bytes: bytes to send, mostly few, seldom too many.
func (d *dice) bytes() []byte {
	switch d.roll(30) {
	case 0:
		return bytesOf(1199+d.roll(3), d.roll(256))
	case 1:
		return nil
	}
	return bytesOf(d.roll(9), d.roll(256))
}

// no: a number, mostly of one that is on its way, or was.
func (d *dice) no(p *plain) int {
	switch d.roll(20) {
	case 0:
		return noNumbers[d.roll(len(noNumbers))]
	case 1, 2:
		return len(p.all) + d.roll(4) - 1
	case 3, 4, 5:
		return 1 + (d.roll(256)*256+d.roll(256))%(len(p.all)+1)
	}
	if now := p.now(); len(now) > 0 {
		return now[(d.roll(256)*256+d.roll(256))%len(now)].No
	}
	return d.roll(3)
}

// run: a net, and the plain one, and sequences that were asked for, with what they ought to tell.
type run struct {
	t    *testing.T
	d    *dice
	n    *Net
	p    *plain
	seqs []iter.Seq[api.Sent]
	want [][]api.Sent
}

// change does one thing to both nets; whatever was handed in, or answered, is written over behind it.
func (r *run) change() {
	r.t.Helper()
	many := 4 + r.d.roll(2)
	switch n := r.d.roll(many); {
	case n < 2:
		from, to, b := r.d.addr(), r.d.addr(), r.d.bytes()
		want, code := r.p.send(from, to, b)
		if no, e := r.n.Send(from, to, b); no != want || e != code {
			r.t.Fatalf("Send(%v, %v, %d bytes) = %d %d, want %d %d", from, to, len(b), no, e, want, code)
		}
		scribble(b)
	case n == 2:
		no := r.d.no(r.p)
		want, code := r.p.copy(no)
		if got, e := r.n.Copy(no); got != want || e != code {
			r.t.Fatalf("Copy(%d) = %d %d, want %d %d", no, got, e, want, code)
		}
	default:
		no := r.d.no(r.p)
		want, code := r.p.take(no)
		got, e := r.n.Take(no)
		if !like(got, want) || e != code {
			r.t.Fatalf("Take(%d) = %v %d, want %v %d", no, got, e, want, code)
		}
		scribble(got.Bytes)
	}
}

// goes: that a sequence which was asked for before tells what it ought to, with changes while it runs; it is stopped at will.
func (r *run) goes(i int) {
	r.t.Helper()
	want, at, stop := r.want[i], 0, r.d.roll(4) == 0
	for s := range allOf(r.seqs[i]) {
		if at >= len(want) || !like(s, want[at]) {
			r.t.Fatalf("All tells %v as its %d, of %d", s, at, len(want))
		}
		at++
		scribble(s.Bytes)
		if r.d.roll(8) == 1 {
			r.change()
		}
		if stop && r.d.roll(8) == 2 {
			return
		}
	}
	if at != len(want) {
		r.t.Fatalf("All tells %d, want %d", at, len(want))
	}
}

// alike: that Count and At are those of the plain net.
func (r *run) alike() {
	r.t.Helper()
	now := r.p.now()
	if r.n.Count() != len(now) {
		r.t.Fatalf("Count() = %d, want %d", r.n.Count(), len(now))
	}
	for _, place := range []int{0, -1, r.d.roll(256) - 128, r.d.roll(256) * 1e4, -r.d.roll(256) * 1e4, math.MaxInt, math.MinInt} {
		want := 0
		if len(now) > 0 {
			at := place % len(now)
			if at < 0 {
				at += len(now)
			}
			want = now[at].No
		}
		if got := r.n.At(place); got != want {
			r.t.Fatalf("of %d: At(%d) = %d, want %d", len(now), place, got, want)
		}
	}
}

// plays: what a row of bytes says is done to a net.
func plays(t *testing.T, row []byte) {
	r := &run{t: t, d: &dice{row}, n: New(), p: &plain{}}
	// Every other net is nearly full from the beginning.
	for range r.d.roll(2) * 296 {
		r.n.Send(a, b, nil)
		r.p.send(a, b, nil)
	}
	for len(r.d.rest) > 0 {
		r.change()
		r.alike()
		switch r.d.roll(12) {
		case 0:
			r.seqs, r.want = append(r.seqs, r.n.All()), append(r.want, r.p.now())
		case 1:
			if len(r.seqs) > 0 {
				r.goes(r.d.roll(len(r.seqs)))
			}
		}
	}
	for i := range r.seqs {
		r.goes(i)
	}
	holds(t, r.n, r.p.now()...)
}

// rows: rows of bytes, as by chance, but always the same.
func rows(many, long int) [][]byte {
	x := uint64(88172645463325252)
	all := make([][]byte, many)
	for i := range all {
		for range long {
			x ^= x << 13
			x ^= x >> 7
			x ^= x << 17
			all[i] = append(all[i], byte(x>>32))
		}
	}
	return all
}

// P13.1, P13.2, P13.3: whatever is done, the answers are those by the words.
func TestScripts(t *testing.T) {
	for _, row := range rows(60, 2000) {
		plays(t, row)
	}
	for _, row := range rows(4, 20000) {
		plays(t, row)
	}
}

// FuzzScript: whatever is done, the answers are those by the words.
func FuzzScript(f *testing.F) {
	for _, row := range rows(10, 300) {
		f.Add(row)
	}
	// A long row takes long, and shows no more.
	f.Fuzz(func(t *testing.T, row []byte) { plays(t, row[:min(len(row), 3000)]) })
}
