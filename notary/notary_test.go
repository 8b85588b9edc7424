package notary

import (
	"bytes"
	"math"
	"slices"
	"strconv"
	"strings"
	"testing"

	"embrasure/api"
)

// goodPeers: peers' numbers at the edges, and such as are alike in their low bits or their digits.
func goodPeers() []int {
	return []int{1, 2, 7, 8, 12, 21, 255, 256, 257, 1 << 16, 1<<16 + 1, 1<<30 + 7, api.MaxPeer - 1, api.MaxPeer}
}

// badPeers: numbers of no peer.
func badPeers() []int {
	return []int{0, -1, -7, -api.MaxPeer, -api.MaxPeer - 1, api.MaxPeer + 1, api.MaxPeer + 2, 1 << 32, 1<<32 + 1, 1<<32 + 7, -1<<32 + 7, math.MaxInt, math.MinInt, math.MinInt + 7}
}

// texts: such as a careless rule takes for one another.
func texts() []string {
	return []string{
		"", "a", "b", "A", "aa", "ab", "ba", "a ", " a", "2a", "12a", "7", "7a", "a7", "\x00", "\x00\x00", "a\x00", "\x00a", "a\x00b",
		"\xff", "\xfe", "\xff\xff", "\ufffd", "a\n", "a\r\n", "\x07\x00\x00\x00a", "7,a", "7/a",
		strings.Repeat("a", 1200), strings.Repeat("a", 1199) + "b", "b" + strings.Repeat("a", 1199), strings.Repeat("a", 1201), strings.Repeat("a", 1<<16), strings.Repeat("a", 1<<16+1),
	}
}

// filled: a notary with every good peer's every text, which were minted in this order.
func filled(t *testing.T) *Notary {
	t.Helper()
	n := New()
	next := uint64(1)
	for _, p := range goodPeers() {
		for _, s := range texts() {
			if tag, code := n.Mint(p, []byte(s)); tag != next || code != api.OK {
				t.Fatalf("Mint(%d, %.20q) = %d %d, want %d OK", p, s, tag, code, next)
			}
			next++
		}
	}
	return n
}

// P4.1: entries in the order in which they come, written out; alike ones have one number.
func TestMintWrittenOut(t *testing.T) {
	n := New()
	for i, c := range []struct {
		peer  int
		text  []byte
		tag   uint64
		code  api.Code
		count int
	}{
		{7, []byte("a"), 1, api.OK, 1},
		{7, []byte("b"), 2, api.OK, 2},
		{7, []byte("a"), 1, api.OK, 2},
		{8, []byte("a"), 3, api.OK, 3},
		{7, nil, 4, api.OK, 4},
		{7, []byte{}, 4, api.OK, 4},
		{0, []byte("a"), 0, api.Arg, 4},
		{1, []byte("a"), 5, api.OK, 5},
		{-1, []byte("a"), 0, api.Arg, 5},
		{api.MaxPeer + 1, []byte("a"), 0, api.Arg, 5},
		{api.MaxPeer, []byte("a"), 6, api.OK, 6},
		{api.MaxPeer, []byte("a"), 6, api.OK, 6},
		{8, []byte{}, 7, api.OK, 7},
		{0, nil, 0, api.Arg, 7},
		{7, []byte{0}, 8, api.OK, 8},
		{7, []byte("b"), 2, api.OK, 8},
		{8, []byte("a"), 3, api.OK, 8},
		{7, []byte("aa"), 9, api.OK, 9},
	} {
		tag, code := n.Mint(c.peer, c.text)
		if tag != c.tag || code != c.code || n.Count() != c.count {
			t.Errorf("%d: Mint(%d, %q) = %d %d, want %d %d; Count %d, want %d", i, c.peer, c.text, tag, code, c.tag, c.code, n.Count(), c.count)
		}
	}
}

// P4.1: a new notary has no entry, and no tag is one.
func TestNew(t *testing.T) {
	n := New()
	if n.Count() != 0 {
		t.Errorf("Count() = %d", n.Count())
	}
	for _, tag := range []uint64{0, 1, 2, math.MaxInt64, math.MaxUint64} {
		for _, p := range append(goodPeers(), badPeers()...) {
			for _, s := range texts() {
				if code := n.Check(p, []byte(s), tag); code != api.BadTag {
					t.Errorf("Check(%d, %.20q, %d) = %d, want BadTag", p, s, tag, code)
				}
			}
		}
	}
	if tag, code := n.Mint(7, []byte("a")); tag != 1 || code != api.OK {
		t.Errorf("the first Mint = %d %d, want 1 OK", tag, code)
	}
}

// P4.1: whoever isn't 1 to MaxPeer gets Arg and no tag, whatever the text, and nothing is changed by it.
func TestMintArg(t *testing.T) {
	n := New()
	for i, p := range badPeers() {
		for _, s := range texts() {
			if tag, code := n.Mint(p, []byte(s)); tag != 0 || code != api.Arg || n.Count() != i {
				t.Errorf("Mint(%d, %.20q) = %d %d, want 0 Arg; Count %d, want %d", p, s, tag, code, n.Count(), i)
			}
		}
		want := uint64(i + 1)
		if tag, code := n.Mint(i+1, []byte("a")); tag != want || code != api.OK {
			t.Errorf("Mint behind an Arg = %d %d, want %d OK", tag, code, want)
		}
	}
}

// P4.1: what is minted again, at once or long behind, has the tag that it had, and is no new entry.
func TestMintAgain(t *testing.T) {
	n := filled(t)
	count := n.Count()
	for range 2 {
		next := uint64(1)
		for _, p := range goodPeers() {
			for _, s := range texts() {
				if tag, code := n.Mint(p, []byte(s)); tag != next || code != api.OK || n.Count() != count {
					t.Errorf("Mint(%d, %.20q) again = %d %d, want %d OK; Count %d, want %d", p, s, tag, code, next, n.Count(), count)
				}
				next++
			}
		}
	}
	if tag, code := n.Mint(7, []byte("new")); tag != uint64(count)+1 || code != api.OK {
		t.Errorf("Mint of what is new = %d %d, want %d OK", tag, code, count+1)
	}
}

// P4.1, P4.2: of each peer and text its own tag is one, and no other.
func TestCheckEveryTag(t *testing.T) {
	n := filled(t)
	count := uint64(n.Count())
	own := uint64(0)
	for _, p := range goodPeers() {
		for _, s := range texts() {
			own++
			text := []byte(s)
			for tag := range count + 3 {
				want := api.BadTag
				if tag == own {
					want = api.OK
				}
				if code := n.Check(p, text, tag); code != want {
					t.Fatalf("Check(%d, %.20q, %d) = %d, want %d", p, s, tag, code, want)
				}
			}
		}
	}
	if own != count || uint64(n.Count()) != count {
		t.Errorf("Count() = %d, was %d, want %d", n.Count(), count, own)
	}
}

// P4.1: the tags 0, one above the last number, and such as are an entry's number only when they are cut or wrapped.
func TestCheckTagsOfNone(t *testing.T) {
	n := New()
	for i := range 3 {
		if _, code := n.Mint(7, []byte{byte('a' + i)}); code != api.OK {
			t.Fatal(code)
		}
	}
	for _, text := range []string{"a", "b", "c", "", "d"} {
		for _, tag := range []uint64{0, 4, 5, 1 << 8, 1<<8 + 1, 1<<16 + 1, 1 << 31, 1<<31 + 1, 1 << 32, 1<<32 + 1, 1<<32 + 2, 1<<32 + 3, 1<<63 - 1, 1 << 63, 1<<63 + 1, 1<<63 + 3, math.MaxUint64 - 2, math.MaxUint64 - 1, math.MaxUint64} {
			if code := n.Check(7, []byte(text), tag); code != api.BadTag {
				t.Errorf("Check(7, %q, %d) = %d, want BadTag", text, tag, code)
			}
		}
	}
	if n.Check(7, []byte("a"), 1) != api.OK || n.Check(7, []byte("c"), 3) != api.OK || n.Count() != 3 {
		t.Error("the first or the last entry is gone")
	}
}

// P4.1: to Check, a number of no peer is one who has no entry.
func TestCheckPeersOfNone(t *testing.T) {
	n := filled(t)
	for _, p := range badPeers() {
		for _, s := range texts() {
			for tag := range uint64(n.Count()) + 2 {
				if code := n.Check(p, []byte(s), tag); code != api.BadTag {
					t.Fatalf("Check(%d, %.20q, %d) = %d, want BadTag", p, s, tag, code)
				}
			}
		}
	}
}

// P4.2: what was asked for by Check, but never minted, has no tag; asking makes none.
func TestCheckMintsNothing(t *testing.T) {
	n := New()
	for tag := range uint64(5) {
		if n.Check(7, []byte("a"), tag) != api.BadTag || n.Count() != 0 {
			t.Errorf("Check of what wasn't minted: tag %d, Count %d", tag, n.Count())
		}
	}
	if tag, code := n.Mint(7, []byte("b")); tag != 1 || code != api.OK {
		t.Errorf("Mint = %d %d, want 1 OK", tag, code)
	}
	for tag := range uint64(5) {
		if code := n.Check(7, []byte("a"), tag); code != api.BadTag {
			t.Errorf("Check(7, a, %d) = %d, want BadTag", tag, code)
		}
	}
}

// P4.1: an empty text is a text, of each peer its own one; nil is the same as empty.
func TestEmptyText(t *testing.T) {
	n := New()
	room := []byte("abc")
	for i, p := range []int{1, 7, api.MaxPeer} {
		want := uint64(i + 1)
		for _, text := range [][]byte{nil, {}, room[:0], room[3:]} {
			if tag, code := n.Mint(p, text); tag != want || code != api.OK {
				t.Errorf("Mint(%d, %v) = %d %d, want %d OK", p, text, tag, code, want)
			}
			if code := n.Check(p, text, want); code != api.OK {
				t.Errorf("Check(%d, %v, %d) = %d, want OK", p, text, want, code)
			}
			if n.Check(p, text, 0) != api.BadTag || n.Check(p, text, want+1) != api.BadTag || n.Check(p, []byte{0}, want) != api.BadTag {
				t.Errorf("peer %d: another tag, or another text, was taken for the empty text's", p)
			}
		}
	}
	if n.Count() != 3 {
		t.Errorf("Count() = %d, want 3", n.Count())
	}
}

// P4.1: what is handed in isn't kept: an entry stands though its text is written over behind the call.
func TestTextNotKept(t *testing.T) {
	n := New()
	text := []byte("abc")
	n.Mint(7, text)
	copy(text, "xyz")
	if n.Check(7, []byte("abc"), 1) != api.OK || n.Check(7, []byte("xyz"), 1) != api.BadTag {
		t.Error("an entry went with the bytes that were handed in")
	}
	if tag, code := n.Mint(7, text); tag != 2 || code != api.OK {
		t.Errorf("Mint of other bytes in the same room = %d %d, want 2 OK", tag, code)
	}
	copy(text, "abc")
	if tag, code := n.Mint(7, text); tag != 1 || code != api.OK {
		t.Errorf("Mint of the first bytes again = %d %d, want 1 OK", tag, code)
	}
	if n.Check(7, []byte("xyz"), 2) != api.OK || n.Count() != 2 {
		t.Errorf("Check of the second entry isn't OK, or Count() = %d", n.Count())
	}
}

// P4.1: what is handed in isn't changed, and its spare room is neither read nor written.
func TestTextSpareRoom(t *testing.T) {
	n := New()
	room := []byte("abcdef")
	was := slices.Clone(room)
	for i := range room {
		if tag, code := n.Mint(7, room[:i]); tag != uint64(i+1) || code != api.OK {
			t.Errorf("Mint(7, %q) = %d %d, want %d OK", room[:i], tag, code, i+1)
		}
		if code := n.Check(7, room[:i], uint64(i+1)); code != api.OK {
			t.Errorf("Check(7, %q, %d) = %d, want OK", room[:i], i+1, code)
		}
		if code := n.Check(7, room[:i+1], uint64(i+1)); code != api.BadTag {
			t.Errorf("Check(7, %q, %d) = %d, want BadTag", room[:i+1], i+1, code)
		}
	}
	if !bytes.Equal(room, was) {
		t.Errorf("what was handed in is now %q", room)
	}
}

// P4.2: one notary knows nothing of another one's entries.
func TestNotariesApart(t *testing.T) {
	x, y := New(), New()
	x.Mint(7, []byte("a"))
	x.Mint(7, []byte("b"))
	if y.Count() != 0 || y.Check(7, []byte("a"), 1) != api.BadTag || y.Check(7, []byte("b"), 2) != api.BadTag {
		t.Error("a notary has another one's entries")
	}
	if tag, code := y.Mint(7, []byte("b")); tag != 1 || code != api.OK {
		t.Errorf("Mint = %d %d, want 1 OK", tag, code)
	}
	if x.Count() != 2 || x.Check(7, []byte("b"), 1) != api.BadTag || x.Check(7, []byte("b"), 2) != api.OK {
		t.Error("a notary was changed by another one's entry")
	}
}

// P4.1, P4.2: many entries of one peer, and one text of many peers.
func TestMany(t *testing.T) {
	const many = 20000
	n := New()
	for i := range many {
		text := strconv.Itoa(i)
		if tag, code := n.Mint(7, []byte(text)); tag != uint64(2*i+1) || code != api.OK {
			t.Fatalf("Mint(7, %q) = %d %d", text, tag, code)
		}
		if tag, code := n.Mint(8+i, []byte("a")); tag != uint64(2*i+2) || code != api.OK {
			t.Fatalf("Mint(%d, a) = %d %d", 8+i, tag, code)
		}
	}
	for i := range many {
		text, tag := []byte(strconv.Itoa(i)), uint64(2*i+1)
		if n.Check(7, text, tag) != api.OK || n.Check(7, text, tag+1) != api.BadTag || n.Check(7, text, tag+2) != api.BadTag || n.Check(8, text, tag) != api.BadTag {
			t.Fatalf("Check of %q", text)
		}
		if n.Check(8+i, []byte("a"), tag+1) != api.OK || n.Check(9+i, []byte("a"), tag+1) != api.BadTag {
			t.Fatalf("Check of peer %d", 8+i)
		}
	}
	if n.Count() != 2*many {
		t.Errorf("Count() = %d", n.Count())
	}
}

// plain: a notary by a rule that isn't the program's: the entries in a list, which is gone through.
type plain struct {
	peers []int
	texts [][]byte
}

// find: the number of an entry, or 0.
func (m *plain) find(peer int, text []byte) uint64 {
	for i, p := range m.peers {
		if p == peer && bytes.Equal(m.texts[i], text) {
			return uint64(i + 1)
		}
	}
	return 0
}

// mint is Mint.
func (m *plain) mint(peer int, text []byte) (uint64, api.Code) {
	if peer < 1 || peer >= 1<<31 {
		return 0, api.Arg
	}
	if m.find(peer, text) == 0 {
		m.peers = append(m.peers, peer)
		m.texts = append(m.texts, bytes.Clone(text))
	}
	return m.find(peer, text), api.OK
}

// check is Check.
func (m *plain) check(peer int, text []byte, tag uint64) api.Code {
	if tag == 0 || m.find(peer, text) != tag {
		return api.BadTag
	}
	return api.OK
}

// plays: that a script's calls are answered as the plain notary answers them. Of a call there are three bytes (what, who, which tag) and a text of up to three more.
func plays(t *testing.T, script []byte) {
	t.Helper()
	peers := append(goodPeers(), badPeers()...)
	n, m := New(), &plain{}
	for len(script) >= 3 {
		what, peer, tag := script[0], peers[int(script[1])%len(peers)], uint64(script[2])-1
		script = script[3:]
		size := min(int(what>>1)%4, len(script))
		text := script[:size]
		script = script[size:]
		if what%2 == 0 {
			got, code := n.Mint(peer, text)
			if want, c := m.mint(peer, text); got != want || code != c {
				t.Fatalf("Mint(%d, %q) = %d %d, want %d %d", peer, text, got, code, want, c)
			}
		}
		for _, tag := range []uint64{tag, m.find(peer, text), uint64(len(m.peers)), uint64(len(m.peers)) + 1} {
			if code, want := n.Check(peer, text, tag), m.check(peer, text, tag); code != want {
				t.Fatalf("Check(%d, %q, %d) = %d, want %d", peer, text, tag, code, want)
			}
		}
		if n.Count() != len(m.peers) {
			t.Fatalf("Count() = %d, want %d", n.Count(), len(m.peers))
		}
	}
}

// P4.1, P4.2: scripts from a fixed rule, with few different bytes, so that entries come again.
func TestScripts(t *testing.T) {
	x := uint64(88172645463325252)
	for range 200 {
		script := make([]byte, 600)
		for i := range script {
			x ^= x << 13
			x ^= x >> 7
			x ^= x << 17
			script[i] = byte(x>>40) % 9
		}
		plays(t, script)
	}
}

// P4.1, P4.2: whatever is called, it is answered as the plain notary answers it.
func FuzzScript(f *testing.F) {
	for _, s := range []string{"", "\x00\x00\x00", "\x02\x02\x02a\x02\x02\x03b\x03\x02\x02a\x03\x03\x02a", "\x00\x0e\x02\x02\x0d\x02a\x02\x13\x02a", strings.Repeat("\x06\x02\x01abc", 20)} {
		f.Add([]byte(s))
	}
	f.Fuzz(plays)
}
