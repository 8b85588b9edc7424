package pcp

import (
	"bytes"
	"encoding/binary"
	"math"
	"slices"
	"testing"

	"embrasure/api"
)

const secs = 1<<32 - 1 // the greatest number of four bytes

// said: what a datagram says: a lease, and, if it is a request, the client.
type said struct {
	l      api.Lease
	client uint32
}

// form: one of the two datagrams, and the greatest that each field of its lease may be.
type form struct {
	name   string
	answer bool
	kind   byte
	most   api.Lease
}

// forms: the two, as the document tells them.
var forms = []form{
	{"a request", false, 1, api.Lease{Ver: 2, Inside: 65535, Port: 65535, Secs: secs, Nonce: math.MaxUint64, Host: math.MaxUint32}},
	{"an answer", true, 129, api.Lease{Ver: 2, Inside: 65535, Port: 65535, Secs: secs, Nonce: math.MaxUint64, Host: math.MaxUint32, Result: 255, Epoch: secs}},
}

// fields: those of a lease that are numbers of the kind int.
var fields = []struct {
	name string
	of   func(l *api.Lease) *int
}{
	{"Ver", func(l *api.Lease) *int { return &l.Ver }},
	{"Inside", func(l *api.Lease) *int { return &l.Inside }},
	{"Port", func(l *api.Lease) *int { return &l.Port }},
	{"Secs", func(l *api.Lease) *int { return &l.Secs }},
	{"Result", func(l *api.Lease) *int { return &l.Result }},
	{"Epoch", func(l *api.Lease) *int { return &l.Epoch }},
}

// values: the edges, one below and one above, such as are a field's only when they are cut, and some between.
var values = []int{
	math.MinInt, math.MinInt + 1, math.MinInt + 2, math.MinInt + 5, -1 << 48, -1<<32 - 1, -1 << 32, -1<<32 + 2, -1<<32 + 5, -1<<31 - 1, -1 << 31, -65537, -65536, -65534, -65535, -256, -255, -254, -128, -2, -1,
	0, 1, 2, 3, 4, 5, 8, 127, 128, 129, 254, 255, 256, 257, 258, 300, 4001, 32767, 32768, 65534, 65535,
	65536, 65537, 65538, 65541, 1<<24 - 1, 1 << 24, 1<<31 - 1, 1 << 31, 1<<31 + 2, 1<<32 - 2, 1<<32 - 1,
	1 << 32, 1<<32 + 1, 1<<32 + 2, 1<<32 + 5, 1<<32 + 65535, 1<<33 + 5, 1<<48 + 5, 1 << 62, math.MaxInt - 1, math.MaxInt,
}

// hosts: any number of 32 bits is one.
var hosts = []uint32{0, 1, 255, 256, 0x0a000001, 0xcb007101, 1<<31 - 1, 1 << 31, 1 << 24, 0x00ffffff, 0xffff0000, math.MaxUint32 - 1, math.MaxUint32}

// nonces: any number of 64 bits is one.
var nonces = []uint64{0, 1, 2, 0xffff, 1 << 16, 0x0102030405060708, 0xf102030405060708, 1<<32 - 1, 1 << 32, 1<<56 - 1, 1 << 56, 1<<63 - 1, 1 << 63, 1<<63 + 1, math.MaxUint64 - 1, math.MaxUint64}

// ordinary: what a datagram of this form may say, no two fields alike.
func (f form) ordinary() said {
	s := said{l: api.Lease{Ver: 2, Inside: 0x0102, Port: 0xf304, Secs: 0xf5060708, Nonce: 0xf122334455667788, Host: 0xff102030}}
	if f.answer {
		s.l.Result, s.l.Epoch = 0xf9, 0xfb0c0d0e
	} else {
		s.client = 0xfe405060
	}
	return s
}

// bases: what is said by a form, of which one field after another is changed: the least, some, and the greatest.
func (f form) bases() []said {
	most := said{l: f.most}
	if !f.answer {
		most.client = math.MaxUint32
	}
	return []said{{l: api.Lease{Ver: 2}}, f.ordinary(), most}
}

// may: whether the fields of a lease may be so.
func (f form) may(l api.Lease) bool {
	for _, x := range fields {
		if *x.of(&l) < 0 || *x.of(&l) > *x.of(&f.most) {
			return false
		}
	}
	return l.Ver == 2
}

// tell: what is said, by the program.
func (f form) tell(s said) []byte {
	if f.answer {
		return Answer(s.l)
	}
	return Ask(s.l, s.client)
}

// sixteen: a host as 16 bytes.
func sixteen(host uint32) []byte {
	return binary.BigEndian.AppendUint32([]byte{0, 0, 0, 0, 0, 0, 0, 0, 0, 0, 0xff, 0xff}, host)
}

// written: what is said, by a rule that isn't the program's. What is too great is cut.
func (f form) written(s said) []byte {
	b := make([]byte, 60)
	b[0], b[1], b[36] = 2, f.kind, 17
	binary.BigEndian.PutUint32(b[4:], uint32(s.l.Secs))
	if f.answer {
		b[3] = byte(s.l.Result)
		binary.BigEndian.PutUint32(b[8:], uint32(s.l.Epoch))
	} else {
		copy(b[8:], sixteen(s.client))
	}
	binary.BigEndian.PutUint64(b[28:], s.l.Nonce)
	binary.BigEndian.PutUint16(b[40:], uint16(s.l.Inside))
	binary.BigEndian.PutUint16(b[42:], uint16(s.l.Port))
	copy(b[44:], sixteen(s.l.Host))
	return b
}

// must: what a datagram's byte must be; -1, if a field says it.
func (f form) must(at int) int {
	switch {
	case at == 0:
		return 2
	case at == 1:
		return int(f.kind)
	case at == 3 && f.answer, at >= 4 && at < 8, at >= 8 && at < 12 && f.answer, at >= 20 && at < 24 && !f.answer, at >= 28 && at < 36, at >= 40 && at < 44, at >= 56:
		return -1
	case (at == 18 || at == 19) && !f.answer, at == 54, at == 55:
		return 0xff
	case at == 36:
		return 17
	}
	return 0
}

// read: what a datagram says, and whether it is one of this form, by a rule that isn't the program's.
func (f form) read(b []byte) (said, bool) {
	if len(b) != 60 {
		return said{}, false
	}
	for at, c := range b {
		if must := f.must(at); must >= 0 && int(c) != must {
			return said{}, false
		}
	}
	four := func(at int) uint32 { return binary.BigEndian.Uint32(b[at:]) }
	s := said{l: api.Lease{Ver: 2, Secs: int(four(4)), Nonce: binary.BigEndian.Uint64(b[28:]), Host: four(56)}}
	s.l.Inside, s.l.Port = int(four(40)>>16), int(four(40)&0xffff)
	if f.answer {
		s.l.Result, s.l.Epoch = int(b[3]), int(four(8))
	} else {
		s.client = four(20)
	}
	return s, true
}

// then: bytes, and others behind them, in memory of their own.
func then(parts ...[]byte) []byte { return bytes.Join(parts, nil) }

// full: so many bytes that are all ones.
func full(n int) []byte { return bytes.Repeat([]byte{0xff}, n) }

// readBy: bytes read by the program, as an answer or as a request.
func readBy(b []byte, answer bool) (said, api.Code) {
	if answer {
		l, code := ReadAnswer(b)
		return said{l: l}, code
	}
	l, client, code := ReadAsk(b)
	return said{l, client}, code
}

// readsAs: that bytes are read as this, of this form.
func readsAs(t *testing.T, b []byte, f form, want said) {
	t.Helper()
	if s, code := readBy(b, f.answer); s != want || code != api.OK {
		t.Errorf("%s %x is read as %v %d, want %v OK", f.name, b, s, code, want)
	}
}

// refused: that bytes are no request, or no answer, and that nothing stands beside the code.
func refused(t *testing.T, b []byte, answer bool) {
	t.Helper()
	if s, code := readBy(b, answer); s != (said{}) || code != api.Malformed {
		t.Errorf("%x (an answer: %v) is read as %v %d, want nothing, Malformed", b, answer, s, code)
	}
}

// reads: that bytes are read as that rule reads them, as a request and as an answer, and told again as they were.
func reads(t *testing.T, b []byte) {
	t.Helper()
	for _, f := range forms {
		want, ok := f.read(b)
		if !ok {
			refused(t, b, f.answer)
			continue
		}
		readsAs(t, b, f, want)
		if again := f.tell(want); !bytes.Equal(again, b) {
			t.Errorf("%s: %x is read as %v, and told as %x", f.name, b, want, again)
		}
	}
	first := -1
	if len(b) > 0 {
		first = int(b[0])
	}
	if v := Version(b); v != first {
		t.Errorf("Version(%x) = %d, want %d", b, v, first)
	}
}

// tells: that something is told as that rule tells it, and read again; or not told, if a field of its lease may not be so.
func tells(t *testing.T, f form, s said) {
	t.Helper()
	b := f.tell(s)
	if !f.may(s.l) {
		if len(b) != 0 {
			t.Errorf("%s of %v is told as %x, want nothing", f.name, s, b)
		}
		return
	}
	if want := f.written(s); !bytes.Equal(b, want) {
		t.Errorf("%s of %v is told as %x, want %x", f.name, s, b, want)
	}
	readsAs(t, b, f, s)
	refused(t, b, !f.answer)
}

// changed: what is said by a form, with another lease.
func (f form) changed(s said, change func(l *api.Lease)) said {
	change(&s.l)
	return s
}

// P10.1: the chapter's example: any request has 60 bytes and begins with 02 01.
func TestExample(t *testing.T) {
	for _, s := range forms[0].bases() {
		if b := Ask(s.l, s.client); len(b) != 60 || b[0] != 2 || b[1] != 1 {
			t.Errorf("Ask(%v, %d) = %x", s.l, s.client, b)
		}
	}
}

// P10.1: requests, written out: for a port, for any port, one that is given back; the least and the greatest.
func TestAskWrittenOut(t *testing.T) {
	for _, c := range []struct {
		l      api.Lease
		client uint32
		want   []byte
	}{
		{api.Lease{Ver: 2, Inside: 5, Port: 7, Secs: 3600, Nonce: 0x0102030405060708, Host: 0xcb007101}, 0x0a000001, []byte{
			2, 1, 0, 0, 0, 0, 0x0e, 0x10, 0, 0, 0, 0, 0, 0, 0, 0, 0, 0, 0xff, 0xff, 10, 0, 0, 1,
			0, 0, 0, 0, 1, 2, 3, 4, 5, 6, 7, 8, 17, 0, 0, 0,
			0, 5, 0, 7, 0, 0, 0, 0, 0, 0, 0, 0, 0, 0, 0xff, 0xff, 203, 0, 113, 1}},
		{api.Lease{Ver: 2, Inside: 4001, Secs: 7200, Nonce: 9}, 0xc0a80002, []byte{
			2, 1, 0, 0, 0, 0, 0x1c, 0x20, 0, 0, 0, 0, 0, 0, 0, 0, 0, 0, 0xff, 0xff, 192, 168, 0, 2,
			0, 0, 0, 0, 0, 0, 0, 0, 0, 0, 0, 9, 17, 0, 0, 0,
			0x0f, 0xa1, 0, 0, 0, 0, 0, 0, 0, 0, 0, 0, 0, 0, 0xff, 0xff, 0, 0, 0, 0}},
		{api.Lease{Ver: 2, Inside: 4001, Port: 40000, Nonce: 9, Host: 0xcb007101}, 0xc0a80002, []byte{
			2, 1, 0, 0, 0, 0, 0, 0, 0, 0, 0, 0, 0, 0, 0, 0, 0, 0, 0xff, 0xff, 192, 168, 0, 2,
			0, 0, 0, 0, 0, 0, 0, 0, 0, 0, 0, 9, 17, 0, 0, 0,
			0x0f, 0xa1, 0x9c, 0x40, 0, 0, 0, 0, 0, 0, 0, 0, 0, 0, 0xff, 0xff, 203, 0, 113, 1}},
		{api.Lease{Ver: 2}, 0, []byte{
			2, 1, 0, 0, 0, 0, 0, 0, 0, 0, 0, 0, 0, 0, 0, 0, 0, 0, 0xff, 0xff, 0, 0, 0, 0,
			0, 0, 0, 0, 0, 0, 0, 0, 0, 0, 0, 0, 17, 0, 0, 0,
			0, 0, 0, 0, 0, 0, 0, 0, 0, 0, 0, 0, 0, 0, 0xff, 0xff, 0, 0, 0, 0}},
		{api.Lease{Ver: 2, Inside: 65535, Port: 65535, Secs: api.MaxSecs, Nonce: math.MaxUint64, Host: math.MaxUint32}, math.MaxUint32,
			then([]byte{2, 1, 0, 0}, full(4), make([]byte, 10), full(6), make([]byte, 4), full(8), []byte{17, 0, 0, 0}, full(4), make([]byte, 10), full(6))},
	} {
		if b := Ask(c.l, c.client); !bytes.Equal(b, c.want) {
			t.Errorf("Ask(%v, %d) = %x, want %x", c.l, c.client, b, c.want)
		}
		if l, client, code := ReadAsk(c.want); l != c.l || client != c.client || code != api.OK {
			t.Errorf("ReadAsk(%x) = %v %d %d, want %v %d OK", c.want, l, client, code, c.l, c.client)
		}
	}
}

// P10.1: answers, written out: what was granted, and what wasn't; a version that isn't spoken; the least and the greatest.
func TestAnswerWrittenOut(t *testing.T) {
	for _, c := range []struct {
		l    api.Lease
		want []byte
	}{
		{api.Lease{Ver: 2, Inside: 5, Port: 7, Secs: 3600, Nonce: 0x0102030405060708, Epoch: 1000, Host: 0xcb007101}, []byte{
			2, 129, 0, 0, 0, 0, 0x0e, 0x10, 0, 0, 3, 0xe8, 0, 0, 0, 0, 0, 0, 0, 0, 0, 0, 0, 0,
			0, 0, 0, 0, 1, 2, 3, 4, 5, 6, 7, 8, 17, 0, 0, 0,
			0, 5, 0, 7, 0, 0, 0, 0, 0, 0, 0, 0, 0, 0, 0xff, 0xff, 203, 0, 113, 1}},
		{api.Lease{Ver: 2, Inside: 5, Nonce: 9, Result: 8, Epoch: 1000}, []byte{
			2, 129, 0, 8, 0, 0, 0, 0, 0, 0, 3, 0xe8, 0, 0, 0, 0, 0, 0, 0, 0, 0, 0, 0, 0,
			0, 0, 0, 0, 0, 0, 0, 0, 0, 0, 0, 9, 17, 0, 0, 0,
			0, 5, 0, 0, 0, 0, 0, 0, 0, 0, 0, 0, 0, 0, 0xff, 0xff, 0, 0, 0, 0}},
		{api.Lease{Ver: 2, Result: 1, Epoch: 300}, []byte{
			2, 129, 0, 1, 0, 0, 0, 0, 0, 0, 1, 0x2c, 0, 0, 0, 0, 0, 0, 0, 0, 0, 0, 0, 0,
			0, 0, 0, 0, 0, 0, 0, 0, 0, 0, 0, 0, 17, 0, 0, 0,
			0, 0, 0, 0, 0, 0, 0, 0, 0, 0, 0, 0, 0, 0, 0xff, 0xff, 0, 0, 0, 0}},
		{api.Lease{Ver: 2}, then([]byte{2, 129}, make([]byte, 34), []byte{17}, make([]byte, 17), full(2), make([]byte, 4))},
		{api.Lease{Ver: 2, Inside: 65535, Port: 65535, Secs: api.MaxSecs, Nonce: math.MaxUint64, Result: 255, Epoch: secs, Host: math.MaxUint32},
			then([]byte{2, 129, 0}, full(9), make([]byte, 16), full(8), []byte{17, 0, 0, 0}, full(4), make([]byte, 10), full(6))},
	} {
		if b := Answer(c.l); !bytes.Equal(b, c.want) {
			t.Errorf("Answer(%v) = %x, want %x", c.l, b, c.want)
		}
		if l, code := ReadAnswer(c.want); l != c.l || code != api.OK {
			t.Errorf("ReadAnswer(%x) = %v %d, want %v OK", c.want, l, code, c.l)
		}
	}
}

// P10.1, P10.2: each field of a request and of an answer by itself, at its edges and beyond them; in a request Result and Epoch are 0.
func TestEachField(t *testing.T) {
	for _, f := range forms {
		for _, base := range f.bases() {
			tells(t, f, base)
			for _, x := range fields {
				for _, v := range values {
					tells(t, f, f.changed(base, func(l *api.Lease) { *x.of(l) = v }))
				}
			}
			for _, host := range hosts {
				tells(t, f, f.changed(base, func(l *api.Lease) { l.Host = host }))
				if !f.answer {
					tells(t, f, said{base.l, host})
				}
			}
			for _, nonce := range nonces {
				tells(t, f, f.changed(base, func(l *api.Lease) { l.Nonce = nonce }))
			}
		}
	}
}

// P10.1: a version by itself: 2, and none beside it.
func TestVersions(t *testing.T) {
	for ver := -300; ver <= 1100; ver++ {
		for _, f := range forms {
			b := f.tell(f.changed(f.ordinary(), func(l *api.Lease) { l.Ver = ver }))
			if (len(b) == 60) != (ver == 2) || (len(b) == 0) != (ver != 2) {
				t.Errorf("%s with the version %d is told as %x", f.name, ver, b)
			}
		}
	}
}

// P10.1: two fields that may not be so don't make up for one another, nor does one for another that may.
func TestTwoFields(t *testing.T) {
	few := []int{math.MinInt, -65536, -1, 0, 1, 2, 255, 256, 65535, 65536, 1<<32 - 1, 1 << 32, math.MaxInt}
	for _, f := range forms {
		for i, x := range fields {
			for _, y := range fields[i+1:] {
				for _, v := range few {
					for _, w := range few {
						tells(t, f, f.changed(f.ordinary(), func(l *api.Lease) { *x.of(l), *y.of(l) = v, w }))
					}
				}
			}
		}
	}
}

// P10.1: what no request, or no answer, says isn't told: an answer's lease as a request, one of NAT-PMP, none at all.
func TestNotTold(t *testing.T) {
	ok := forms[0].ordinary().l
	for _, change := range []func(l *api.Lease){
		func(l *api.Lease) { l.Result = 1 },
		func(l *api.Lease) { l.Epoch = 1 },
		func(l *api.Lease) { l.Result, l.Epoch = 8, 1000 },
	} {
		l := ok
		change(&l)
		if b := Ask(l, 1); len(b) != 0 {
			t.Errorf("Ask(%v, 1) = %x, want nothing", l, b)
		}
		if b := Answer(l); len(b) != 60 {
			t.Errorf("Answer(%v) = %x, want an answer", l, b)
		}
	}
	for _, l := range []api.Lease{{}, {Inside: 5, Port: 7, Secs: 60}, {Ver: 1, Inside: 5}, {Ver: 3, Inside: 5}, {Ver: -2}, {Ver: 2 + 256}, {Ver: 2 + 1<<32}} {
		if b := Ask(l, 1); len(b) != 0 {
			t.Errorf("Ask(%v, 1) = %x, want nothing", l, b)
		}
		if b := Answer(l); len(b) != 0 {
			t.Errorf("Answer(%v) = %x, want nothing", l, b)
		}
	}
}

// P10.1: bytes that are neither of the two.
func TestMalformed(t *testing.T) {
	list := [][]byte{
		nil, {}, {0}, {1}, {2}, {0xff}, {2, 1}, {2, 129}, {0, 0}, make([]byte, 59), make([]byte, 60), make([]byte, 61), full(60), full(1200), make([]byte, 1200),
		// NAT-PMP's.
		{0, 1, 0, 0, 0, 5, 0, 7, 0, 0, 0, 60}, {0, 128, 0, 1, 0, 0, 0, 9, 0, 0, 0, 0}, {0, 129, 0, 0, 0, 0, 1, 44, 0, 5, 0, 7, 0, 0, 0, 60},
		// The head alone, and all but the host.
		then([]byte{2, 1, 0, 0}, make([]byte, 14), full(2), []byte{10, 0, 0, 1}), then([]byte{2, 129}, make([]byte, 22)),
	}
	for _, b := range list {
		refused(t, b, false)
		refused(t, b, true)
	}
}

// P10.1: a request isn't an answer, nor an answer a request, whatever their fields are; nor is either with the kind of the other one.
func TestRequestIsNoAnswer(t *testing.T) {
	for _, f := range forms {
		for _, s := range f.bases() {
			b := f.tell(s)
			refused(t, b, !f.answer)
			for _, other := range forms {
				c := slices.Clone(b)
				c[1] = other.kind
				reads(t, c)
			}
		}
	}
	// The two bytes ahead of a request's client are FF, where an answer's are 0.
	b := Ask(api.Lease{Ver: 2}, 0)
	b[1] = 129
	refused(t, b, true)
	b[18], b[19] = 0, 0
	readsAs(t, b, forms[1], said{l: api.Lease{Ver: 2}})
	b[1] = 1
	refused(t, b, false)
}

// P10.1, P10.2: a datagram that is cut off anywhere, at either end, or has bytes behind it, or ahead, is Malformed.
func TestCutOff(t *testing.T) {
	for _, f := range forms {
		for _, s := range f.bases() {
			b := f.tell(s)
			for n := range b {
				for _, c := range [][]byte{b[:n], b[len(b)-n:]} {
					refused(t, c, false)
					refused(t, c, true)
				}
			}
			for _, more := range [][]byte{{0}, {1}, {0x7f}, {0x80}, {0xff}, {0, 0}, make([]byte, 4), full(4), make([]byte, 36), make([]byte, 60), make([]byte, 1000), b} {
				for _, c := range [][]byte{then(b, more), then(more, b)} {
					refused(t, c, false)
					refused(t, c, true)
				}
			}
		}
	}
}

// P10.1, P10.2: another byte anywhere, a byte more, one less: another datagram, or Malformed. Among them are all versions, kinds and protocols, and each byte that must be 0, or FF.
func TestOneByteOff(t *testing.T) {
	for _, f := range forms {
		for _, s := range f.bases() {
			b := f.tell(s)
			for i := range len(b) + 1 {
				for c := range 256 {
					reads(t, then(b[:i], []byte{byte(c)}, b[i:]))
					if i < len(b) {
						reads(t, then(b[:i], []byte{byte(c)}, b[i+1:]))
					}
				}
				if i < len(b) {
					reads(t, then(b[:i], b[i+1:]))
				}
			}
		}
	}
}

// P10.1: each byte that must be as it is, being each other one, makes it Malformed; none that a field says does.
func TestEachByte(t *testing.T) {
	for _, f := range forms {
		b := f.tell(f.ordinary())
		for i, was := range b {
			for c := range 256 {
				b[i] = byte(c)
				if c == int(was) || f.must(i) < 0 {
					if _, code := readBy(b, f.answer); code != api.OK {
						t.Errorf("%s with the byte %d being %d: %d, want OK", f.name, i, c, code)
					}
				} else {
					refused(t, b, f.answer)
				}
			}
			b[i] = was
		}
	}
}

// P10.1: two bytes that aren't as they must be don't make up for one another.
func TestTwoBytesOff(t *testing.T) {
	for _, f := range forms {
		b := f.tell(f.ordinary())
		for i := range b {
			for j := range i {
				for _, x := range []byte{1, 0x80, 0xff} {
					c := slices.Clone(b)
					c[i], c[j] = c[i]^x, c[j]^x
					reads(t, c)
					c = slices.Clone(b)
					c[i], c[j] = c[i]+x, c[j]-x
					reads(t, c)
					c = slices.Clone(b)
					c[i], c[j] = c[j], c[i]
					reads(t, c)
				}
			}
		}
	}
}

// P10.1: all versions and all kinds, of a request and of an answer.
func TestVersionsAndKinds(t *testing.T) {
	for ver := range 256 {
		for kind := range 256 {
			for _, f := range forms {
				b := f.written(f.ordinary())
				b[0], b[1] = byte(ver), byte(kind)
				reads(t, b)
			}
		}
	}
}

// P10.1: each length of zeros, and of ones, behind each version and kind near these.
func TestLengths(t *testing.T) {
	for n := range 130 {
		for _, head := range [][]byte{nil, {2}, {0, 0}, {0, 1}, {1, 1}, {3, 1}, {2, 0}, {2, 1}, {2, 2}, {2, 128}, {2, 129}, {2, 130}} {
			reads(t, then(head, make([]byte, n)))
			reads(t, then(head, full(n)))
		}
	}
}

// P10.1: the version is the first byte, of whatever bytes; of none it is -1.
func TestVersion(t *testing.T) {
	for _, b := range [][]byte{nil, {}, make([]byte, 5)[:0]} {
		if v := Version(b); v != -1 {
			t.Errorf("Version of no bytes is %d", v)
		}
	}
	for v := range 256 {
		for _, n := range []int{0, 1, 11, 59, 60, 1199, 5000} {
			for _, rest := range [][]byte{make([]byte, n), full(n)} {
				if got := Version(then([]byte{byte(v)}, rest)); got != v {
					t.Errorf("Version of %d and %d bytes more is %d", v, n, got)
				}
			}
		}
	}
	for _, f := range forms {
		if v := Version(f.tell(f.ordinary())); v != 2 {
			t.Errorf("Version of %s is %d", f.name, v)
		}
	}
}

// scattered: as many numbers as are asked for, from a fixed rule.
func scattered(yield func(uint64) bool) {
	x := uint64(88172645463325252)
	for {
		x ^= x << 13
		x ^= x >> 7
		x ^= x << 17
		if !yield(x) {
			return
		}
	}
}

// drawn: n things to be said, and by which of the two each, from a fixed rule, small numbers and great ones.
func drawn(n int) ([]form, []said) {
	var of []form
	var list []said
	for x := range scattered {
		if len(list) == n {
			break
		}
		f := forms[len(list)%len(forms)]
		next := func() uint64 {
			x = x*6364136223846793005 + 1442695040888963407
			return x >> (x >> 58)
		}
		s := said{l: api.Lease{Nonce: next(), Host: uint32(next())}}
		for _, y := range fields {
			*y.of(&s.l) = int(next() % uint64(*y.of(&f.most)+1))
		}
		s.l.Ver = 2
		if !f.answer {
			s.client = uint32(next())
		}
		of, list = append(of, f), append(list, s)
	}
	return of, list
}

// P10.2: what is told is read again, and no two that say something else have one datagram.
func TestReadAgain(t *testing.T) {
	type told struct {
		said
		answer bool
	}
	whose := map[string]told{}
	of, list := drawn(20000)
	for i, s := range list {
		f := of[i]
		tells(t, f, s)
		b := string(f.tell(s))
		if x, had := whose[b]; had && x != (told{s, f.answer}) {
			t.Errorf("%v and %v have one datagram", x, s)
		}
		whose[b] = told{s, f.answer}
	}
}

// P10.1: what is handed in isn't changed, nor is its spare room read.
func TestHandedIn(t *testing.T) {
	for _, f := range forms {
		s := f.ordinary()
		b := f.tell(s)
		room := then(b, []byte{1, 2, 3})
		was := slices.Clone(room)
		for n := range b {
			refused(t, room[:n], f.answer)
		}
		readsAs(t, room[:len(b)], f, s)
		refused(t, room[:len(b)], !f.answer)
		Version(room[:len(b)])
		if Version(room[:0]) != -1 {
			t.Error("the spare room of no bytes is read")
		}
		if !bytes.Equal(room, was) {
			t.Errorf("what was handed in, %x, is now %x", was, room)
		}
	}
}

// P10.1: what is answered is new memory.
func TestNewMemory(t *testing.T) {
	for _, f := range forms {
		s := f.ordinary()
		b, c := f.tell(s), f.tell(s)
		for i := range b {
			b[i] ^= 0xff
		}
		_ = append(b, 1, 2, 3)
		if !bytes.Equal(c, f.written(s)) || !bytes.Equal(f.tell(s), c) {
			t.Errorf("%s of %v: two answers share memory", f.name, s)
		}
	}
}

// P10.1, P10.2: whatever bytes come, they are read as the other rule reads them.
func FuzzRead(f *testing.F) {
	of, list := drawn(40)
	for i, s := range list {
		f.Add(of[i].written(s))
	}
	for _, b := range [][]byte{nil, {2}, {2, 1}, {0, 1, 0, 0, 0, 5, 0, 7, 0, 0, 0, 60}, make([]byte, 60), full(60), then(forms[0].written(forms[0].ordinary()), []byte{0})} {
		f.Add(b)
	}
	f.Fuzz(reads)
}

// P10.1, P10.2: whatever numbers a lease has, it is told as the other rule tells it, and read again, or not told.
func FuzzTell(f *testing.F) {
	for _, x := range forms {
		s := x.ordinary()
		f.Add(s.l.Ver, s.l.Inside, s.l.Port, s.l.Secs, s.l.Nonce, s.l.Result, s.l.Epoch, s.l.Host, s.client)
	}
	f.Add(1, -1, 65536, 1<<32, uint64(1), 256, 1<<32, uint32(1), uint32(1))
	f.Fuzz(func(t *testing.T, ver, inside, port, secs int, nonce uint64, result, epoch int, host, client uint32) {
		l := api.Lease{Ver: ver, Inside: inside, Port: port, Secs: secs, Nonce: nonce, Result: result, Epoch: epoch, Host: host}
		tells(t, forms[0], said{l, client})
		tells(t, forms[1], said{l: l})
	})
}
