package frame

import (
	"bytes"
	"iter"
	"slices"
	"testing"

	"embrasure/api"
	"embrasure/uvar"
)

// row: n bytes from a fixed rule, so that no two places look alike.
func row(n int) []byte {
	b := make([]byte, n)
	for i := range b {
		b[i] = byte(i*7 + i>>5 + n)
	}
	return b
}

// then: bytes, and others behind them, in memory of their own.
func then(parts ...[]byte) []byte { return bytes.Join(parts, nil) }

// full: n bytes that all say that another one follows.
func full(n int) []byte { return bytes.Repeat([]byte{0xff}, n) }

// head: the length as layer 1 writes it, whether a frame may have it or not.
func head(n uint64) []byte { return uvar.Put(n) }

// sizes: rows' lengths on both sides of where a length takes two bytes, and up to the longest.
func sizes() []int {
	return []int{0, 1, 2, 3, 126, 127, 128, 129, 255, 256, 300, 1000, 1199, api.MaxFrame}
}

// bad: bytes that begin with no frame, and Get's code of them.
func bad() []struct {
	b    []byte
	code api.Code
} {
	return []struct {
		b    []byte
		code api.Code
	}{
		// Layer 1's codes of the length.
		{[]byte{0x80}, api.Short},
		{[]byte{0xff}, api.Short},
		{full(2), api.Short},
		{full(8), api.Short},
		{full(9), api.Limit},
		{full(30), api.Limit},
		{then(full(9), []byte{1}), api.Limit},
		{[]byte{0x80, 0}, api.Malformed},
		{[]byte{0x82, 0, 'a', 'b'}, api.Malformed},
		{[]byte{0x80, 0x80, 0}, api.Malformed},
		{then(full(8), []byte{0}), api.Malformed},
		// A length above MaxFrame, whether its bytes are there or not.
		{[]byte{0xb1, 9}, api.Limit},
		{then(head(1201), row(1201)), api.Limit},
		{then(head(1201), row(3000)), api.Limit},
		{then(head(1<<14), row(5)), api.Limit},
		{head(1 << 31), api.Limit},
		{head(1<<32 + 1), api.Limit},
		{then(head(1<<32+1), row(5)), api.Limit},
		{head(1<<63 - 1), api.Limit},
		{then(head(1<<63-1), row(20)), api.Limit},
		// Fewer bytes than the length says.
		{[]byte{1}, api.Short},
		{[]byte{2, 'a'}, api.Short},
		{then(head(127), row(126)), api.Short},
		{then(head(128), row(127)), api.Short},
		{[]byte{0xb0, 9}, api.Short},
		{then(head(1200), row(1199)), api.Short},
	}
}

// told: what a sequence tells; each row is copied as it comes.
func told(seq iter.Seq[[]byte]) [][]byte {
	var rows [][]byte
	for r := range seq {
		rows = append(rows, bytes.Clone(r))
	}
	return rows
}

// same: the same rows; nil and empty mean the same.
func same(a, b [][]byte) bool { return slices.EqualFunc(a, b, bytes.Equal) }

// joined: rows' frames, which must be OK.
func joined(t *testing.T, rows ...[]byte) []byte {
	t.Helper()
	b, code := Join(rows...)
	if code != api.OK {
		t.Fatalf("Join of %d rows: %d", len(rows), code)
	}
	return b
}

// numbers: as many as are asked for, from a fixed rule.
func numbers(yield func(uint64) bool) {
	x := uint64(88172645463325252)
	for {
		x ^= x << 13
		x ^= x >> 7
		x ^= x << 17
		if !yield(x) {
			return
		}
	}
}

// P2.1: Put, row by row.
func TestPutWrittenOut(t *testing.T) {
	for _, c := range []struct{ row, want []byte }{
		{nil, []byte{0}},
		{[]byte{}, []byte{0}},
		{[]byte{0}, []byte{1, 0}},
		{[]byte("ab"), []byte{2, 0x61, 0x62}},
		{row(127), then([]byte{0x7f}, row(127))},
		{row(128), then([]byte{0x80, 1}, row(128))},
		{row(300), then([]byte{0xac, 2}, row(300))},
		{row(1199), then([]byte{0xaf, 9}, row(1199))},
		{row(1200), then([]byte{0xb0, 9}, row(1200))},
	} {
		if b, code := Put(c.row); !bytes.Equal(b, c.want) || code != api.OK {
			t.Errorf("Put of %d bytes: %x %d, want %x OK", len(c.row), b, code, c.want)
		}
	}
}

// P2.1: a row that is too long has no frame.
func TestPutLimit(t *testing.T) {
	for _, n := range []int{1201, 1202, 1300, 2400, 1 << 14, 1 << 20} {
		if b, code := Put(make([]byte, n)); len(b) != 0 || code != api.Limit {
			t.Errorf("Put of %d bytes: %d bytes, %d, want none, Limit", n, len(b), code)
		}
	}
}

// P2.1: a row may have every length up to MaxFrame; each is put with layer 1's length ahead, and got.
func TestEveryLength(t *testing.T) {
	for n := range api.MaxFrame + 1 {
		b, code := Put(row(n))
		if code != api.OK || !bytes.Equal(b, then(head(uint64(n)), row(n))) {
			t.Fatalf("Put of %d bytes: %d", n, code)
		}
		for _, behind := range [][]byte{nil, {0}, {0x80}, full(12), row(3)} {
			r, size, code := Get(then(b, behind))
			if !bytes.Equal(r, row(n)) || size != len(b) || code != api.OK {
				t.Fatalf("%d bytes, behind their frame %x: got %d bytes, %d, %d", n, behind, len(r), size, code)
			}
		}
	}
}

// P2.1: Get's codes, with zero values beside them.
func TestGetCodes(t *testing.T) {
	for _, c := range append(bad(), struct {
		b    []byte
		code api.Code
	}{nil, api.Short}) {
		if r, n, code := Get(c.b); len(r) != 0 || n != 0 || code != c.code {
			t.Errorf("Get(%x) = %x %d %d, want none 0 %d", c.b, r, n, code, c.code)
		}
	}
	if r, n, code := Get([]byte{}); len(r) != 0 || n != 0 || code != api.Short {
		t.Errorf("Get of no bytes = %x %d %d, want none 0 Short", r, n, code)
	}
}

// P2.2: Join, and Limit if one row, whichever, is too long.
func TestJoin(t *testing.T) {
	for _, c := range []struct {
		rows [][]byte
		want []byte
	}{
		{nil, nil},
		{[][]byte{}, nil},
		{[][]byte{nil}, []byte{0}},
		{[][]byte{{}, nil, {}}, []byte{0, 0, 0}},
		{[][]byte{[]byte("ab")}, []byte{2, 'a', 'b'}},
		{[][]byte{[]byte("ab"), nil, []byte("c")}, []byte{2, 'a', 'b', 0, 1, 'c'}},
		{[][]byte{row(127), row(128)}, then([]byte{127}, row(127), []byte{0x80, 1}, row(128))},
		{[][]byte{row(1200), row(1200)}, then([]byte{0xb0, 9}, row(1200), []byte{0xb0, 9}, row(1200))},
	} {
		if b, code := Join(c.rows...); !bytes.Equal(b, c.want) || code != api.OK {
			t.Errorf("Join of %d rows: %x %d, want %x OK", len(c.rows), b, code, c.want)
		}
	}
	if b, code := Join(); len(b) != 0 || code != api.OK {
		t.Errorf("Join(): %x %d, want none OK", b, code)
	}
	for at := range 4 {
		rows := [][]byte{row(2), nil, row(1200), row(128)}
		rows[at] = row(1201)
		if b, code := Join(rows...); len(b) != 0 || code != api.Limit {
			t.Errorf("Join with row %d too long: %d bytes, %d, want none, Limit", at, len(b), code)
		}
	}
}

// P2.2: the frames together may be longer than a frame.
func TestJoinMany(t *testing.T) {
	rows := slices.Repeat([][]byte{row(1200), nil, row(9)}, 500)
	b := joined(t, rows...)
	if want := 500 * (1202 + 1 + 10); len(b) != want {
		t.Fatalf("%d bytes, want %d", len(b), want)
	}
	if got, code := Split(b); code != api.OK || !same(got, rows) || Count(b) != len(rows) {
		t.Errorf("split: %d rows, %d; counted %d, want %d", len(got), code, Count(b), len(rows))
	}
}

// P2.2: Split, All and Count of bytes that are made of frames, and none: no bytes are no rows.
func TestSplitWhole(t *testing.T) {
	for _, c := range []struct {
		b    []byte
		want [][]byte
	}{
		{nil, nil},
		{[]byte{}, nil},
		{[]byte{0}, [][]byte{{}}},
		{[]byte{0, 0, 0}, [][]byte{{}, {}, {}}},
		{[]byte{2, 'a', 'b'}, [][]byte{[]byte("ab")}},
		{[]byte{2, 'a', 'b', 0, 1, 0x80}, [][]byte{[]byte("ab"), {}, {0x80}}},
		{then(head(1200), row(1200), head(128), row(128)), [][]byte{row(1200), row(128)}},
	} {
		if rows, code := Split(c.b); !same(rows, c.want) || code != api.OK {
			t.Errorf("Split(%x) = %x %d, want %x OK", c.b, rows, code, c.want)
		}
		if rows := told(All(c.b)); !same(rows, c.want) {
			t.Errorf("All(%x) told %x, want %x", c.b, rows, c.want)
		}
		if n := Count(c.b); n != len(c.want) {
			t.Errorf("Count(%x) = %d, want %d", c.b, n, len(c.want))
		}
	}
}

// P2.2: up to the first place where Get's code isn't OK, whatever follows there: its code, and the rows ahead.
func TestSplitUpTo(t *testing.T) {
	ahead := [][][]byte{nil, {{}}, {row(2)}, {row(1200)}, {row(2), nil, row(127), row(128), row(1200)}}
	for _, c := range bad() {
		for _, rows := range ahead {
			b := then(joined(t, rows...), c.b)
			if got, code := Split(b); len(got) != 0 || code != c.code {
				t.Errorf("%d rows, then %x: split %d rows, %d, want none, %d", len(rows), c.b, len(got), code, c.code)
			}
			if got := told(All(b)); !same(got, rows) {
				t.Errorf("%d rows, then %x: told %x", len(rows), c.b, got)
			}
			if n := Count(b); n != len(rows) {
				t.Errorf("%d rows, then %x: counted %d", len(rows), c.b, n)
			}
		}
	}
}

// P2.2: behind the first place that isn't OK nothing is told, and its code is Split's, though frames or other faults follow.
func TestSplitFirstFault(t *testing.T) {
	for _, c := range []struct {
		b    []byte
		code api.Code
	}{
		{[]byte{1, 'a', 0x80, 0, 1, 'b', 0xff}, api.Malformed},
		{then([]byte{1, 'a', 0xb1, 9, 1, 'b', 0x80, 0}), api.Limit},
		{then([]byte{1, 'a'}, full(9), []byte{1, 'b'}), api.Limit},
		{[]byte{1, 'a', 9, 1, 'b', 0x80, 0}, api.Short},
	} {
		rows, code := Split(c.b)
		if len(rows) != 0 || code != c.code {
			t.Errorf("Split(%x) = %x %d, want none %d", c.b, rows, code, c.code)
		}
		if got := told(All(c.b)); !same(got, [][]byte{[]byte("a")}) || Count(c.b) != 1 {
			t.Errorf("All(%x) told %x, Count %d, want one row", c.b, got, Count(c.b))
		}
	}
}

// P2.2: a sequence may be broken off at every place, and gone over again from its beginning.
func TestAllBrokenOff(t *testing.T) {
	rows := [][]byte{row(2), nil, row(128), row(1200), row(1)}
	for _, tail := range [][]byte{nil, {5}, {0x80, 0}, full(9)} {
		seq := All(then(joined(t, rows...), tail))
		for stop := range rows {
			var got [][]byte
			for r := range seq {
				got = append(got, r)
				if len(got) > stop {
					break
				}
			}
			if !same(got, rows[:stop+1]) {
				t.Errorf("broken off behind %d: %d rows, or others", stop+1, len(got))
			}
		}
		if got := told(seq); !same(got, rows) {
			t.Errorf("gone over again: %d rows, or others", len(got))
		}
	}
}

// P2.2: two may go over one sequence at once, each from its beginning.
func TestAllTwice(t *testing.T) {
	rows := [][]byte{row(3), nil, row(130)}
	seq := All(joined(t, rows...))
	for r := range seq {
		clear(r)
		if got := told(seq); !same(got, rows) {
			t.Errorf("gone over within: %x, want %x", got, rows)
		}
	}
}

// P2.2: a sequence tells what there was at the call, whatever is written over behind it.
func TestAllKeepsNothing(t *testing.T) {
	rows := [][]byte{row(2), nil, row(128), row(5)}
	b := joined(t, rows...)
	seq := All(b)
	copy(b, full(len(b)))
	if got := told(seq); !same(got, rows) {
		t.Errorf("written over ahead of going: %x, want %x", got, rows)
	}
	b = joined(t, rows...)
	var got [][]byte
	for r := range All(b) {
		got = append(got, r)
		clear(b)
	}
	if !same(got, rows) {
		t.Errorf("written over while going: %x, want %x", got, rows)
	}
}

// spoil writes over a list and its spare room.
func spoil(b []byte) {
	for i := range b[:cap(b)] {
		b[:cap(b)][i] ^= 0xff
	}
}

// P2.1, P2.2: what is answered is new memory: written over, spare room too, it changes neither arguments nor other answers.
func TestNewMemory(t *testing.T) {
	rows := [][]byte{row(2), row(3), {}, row(128)}
	b := joined(t, rows...)
	was := bytes.Clone(b)
	split, _ := Split(b)
	var all [][]byte
	for r := range All(b) {
		all = append(all, r)
	}
	got, _, _ := Get(b)
	spoil(got)
	for i := range rows {
		if !bytes.Equal(split[i], rows[i]) || !bytes.Equal(all[i], rows[i]) {
			t.Errorf("row %d shares memory with another: %x %x, want %x", i, split[i], all[i], rows[i])
		}
		spoil(split[i])
		spoil(all[i])
	}
	put, _ := Put(rows[0])
	spoil(put)
	join, _ := Join(rows[0])
	spoil(join)
	if !bytes.Equal(b, was) || !bytes.Equal(rows[0], row(2)) {
		t.Errorf("an answer shares memory with an argument: %x, %x", b, rows[0])
	}
}

// P2.1, P2.2: spare room behind what is handed in is neither read nor written.
func TestSpareRoom(t *testing.T) {
	room := []byte{1, 'a', 2, 'b', 'c', 9, 9, 9}
	was := bytes.Clone(room)
	cut := room[:4]
	if _, _, code := Get(cut[2:]); code != api.Short {
		t.Errorf("Get read spare room: %d", code)
	}
	if rows, code := Split(cut); len(rows) != 0 || code != api.Short {
		t.Errorf("Split read spare room: %x %d", rows, code)
	}
	if n := Count(cut); n != 1 || len(told(All(cut))) != 1 {
		t.Errorf("Count or All read spare room: %d", n)
	}
	Put(room[:2])
	Join(room[:2], room[:1], room[1:3])
	if !bytes.Equal(room, was) {
		t.Errorf("what was handed in is now %x, was %x", room, was)
	}
}

// P2.2: the list of rows that is handed in isn't changed either.
func TestJoinLeavesRows(t *testing.T) {
	rows := [][]byte{row(2), nil, row(200), row(7)}
	Join(rows[:2]...)
	Join(append(slices.Clone(rows), row(1201))...)
	if !same(rows, [][]byte{row(2), nil, row(200), row(7)}) {
		t.Errorf("the rows are now %x", rows)
	}
}

// P2.3: what is joined is split again, for rows of all lengths in all orders.
func TestJoinedIsSplit(t *testing.T) {
	list := sizes()
	for _, i := range list {
		for _, j := range list {
			for _, k := range list {
				rows := [][]byte{row(i), row(j), row(k)}
				b := joined(t, rows...)
				got, code := Split(b)
				if code != api.OK || !same(got, rows) || !same(told(All(b)), rows) || Count(b) != 3 {
					t.Fatalf("rows of %d, %d and %d bytes: %d rows, %d", i, j, k, len(got), code)
				}
			}
		}
	}
}

// P2.3: many rows from a fixed rule.
func TestManyJoinedIsSplit(t *testing.T) {
	var rows [][]byte
	for x := range numbers {
		if len(rows) == 2000 {
			break
		}
		rows = append(rows, row(int((x>>8)%(api.MaxFrame+1))))
	}
	b := joined(t, rows...)
	if got, code := Split(b); code != api.OK || !same(got, rows) || Count(b) != len(rows) {
		t.Errorf("split: %d rows of %d, or others, %d", len(got), len(rows), code)
	}
}

// P2.3: a frame cut off, wherever, is Short.
func TestCutOff(t *testing.T) {
	for _, n := range sizes() {
		b, _ := Put(row(n))
		for cut := range b {
			if r, size, code := Get(b[:cut]); len(r) != 0 || size != 0 || code != api.Short {
				t.Fatalf("%d of %d bytes: got %d bytes, %d, %d", cut, len(b), len(r), size, code)
			}
		}
	}
}

// P2.3: frames cut off within the last of them are Short; cut between two they are those ahead.
func TestFramesCutOff(t *testing.T) {
	rows := [][]byte{row(2), nil, row(127), row(128), row(1200)}
	b := joined(t, rows...)
	ends := map[int]int{0: 0}
	for i := range rows {
		ends[len(joined(t, rows[:i+1]...))] = i + 1
	}
	whole := 0
	for cut := range len(b) + 1 {
		n, between := ends[cut]
		want := api.Short
		if between {
			whole, want = n, api.OK
		}
		got, code := Split(b[:cut])
		if code != want || code == api.OK && !same(got, rows[:whole]) || code != api.OK && len(got) != 0 {
			t.Fatalf("cut at %d: %d rows, %d, want %d", cut, len(got), code, want)
		}
		if Count(b[:cut]) != whole || !same(told(All(b[:cut])), rows[:whole]) {
			t.Fatalf("cut at %d: counted %d, want %d", cut, Count(b[:cut]), whole)
		}
	}
}

// want is Get by the definition, over layer 1.
func want(b []byte) ([]byte, int, api.Code) {
	size, n, code := uvar.Get(b)
	switch {
	case code != api.OK:
		return nil, 0, code
	case size > 1200:
		return nil, 0, api.Limit
	case uint64(len(b)-n) < size:
		return nil, 0, api.Short
	}
	return b[n:][:size], n + int(size), api.OK
}

// agree: all calls agree with the definition on these bytes, and rows are joined to the bytes of which they were split.
func agree(t *testing.T, b []byte) {
	t.Helper()
	r, n, code := Get(b)
	if x, m, c := want(b); !bytes.Equal(r, x) || n != m || code != c {
		t.Fatalf("Get(%x) = %x %d %d, want %x %d %d", b, r, n, code, x, m, c)
	}
	var rows [][]byte
	at, end := 0, api.OK
	for at < len(b) {
		x, m, c := want(b[at:])
		if end = c; c != api.OK {
			break
		}
		rows, at = append(rows, x), at+m
	}
	if !same(told(All(b)), rows) || Count(b) != len(rows) {
		t.Fatalf("%x: told %x, counted %d, want %x", b, told(All(b)), Count(b), rows)
	}
	if back := joined(t, rows...); !bytes.Equal(back, b[:at]) {
		t.Fatalf("%x: joined again %x", b[:at], back)
	}
	if end != api.OK {
		rows = nil
	}
	if got, code := Split(b); !same(got, rows) || code != end {
		t.Fatalf("Split(%x) = %x %d, want %x %d", b, got, code, rows, end)
	}
}

// P2.1, P2.2: every two bytes, with and without others behind them.
func TestTwoBytes(t *testing.T) {
	behind := row(1300)
	for i := range 1 << 16 {
		b := []byte{byte(i), byte(i >> 8)}
		agree(t, b)
		if i%16 == 0 || i>>8 == 9 {
			agree(t, then(b, behind))
		}
	}
}

// P2.1, P2.2: bytes from a fixed rule, most of them small, so that frames follow one another.
func TestScattered(t *testing.T) {
	var b []byte
	for x := range numbers {
		if len(b) == 6000 {
			break
		}
		c := byte(x>>20) % 6
		if x%40 == 0 {
			c = byte(x >> 30)
		}
		b = append(b, c)
	}
	for from := range b {
		agree(t, b[from:min(from+90, len(b))])
	}
}

// P2.1 to P2.3: whatever bytes come.
func FuzzSplit(f *testing.F) {
	f.Add([]byte(nil))
	f.Add([]byte{2, 'a', 'b', 0, 1, 'c'})
	for _, c := range bad() {
		f.Add(c.b)
		f.Add(then([]byte{1, 7}, c.b))
	}
	f.Fuzz(agree)
}
