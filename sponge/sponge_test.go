package sponge_test

import (
	"bytes"
	"encoding/binary"
	"encoding/hex"
	"math"
	"math/bits"
	"slices"
	"testing"

	"postmark/api"
	"postmark/bin"
	"postmark/sponge"
)

// box: what a round makes of the five bits at one place (s0's the highest), as the standard's table has it.
var box = [32]byte{
	0x04, 0x0b, 0x1f, 0x14, 0x1a, 0x15, 0x09, 0x02, 0x1b, 0x05, 0x08, 0x12, 0x1d, 0x03, 0x06, 0x1c,
	0x1e, 0x13, 0x07, 0x0e, 0x00, 0x0d, 0x11, 0x18, 0x10, 0x0c, 0x01, 0x19, 0x16, 0x0a, 0x0f, 0x17,
}

// perm is Perm by that table, place by place.
func perm(s [5]uint64) [5]uint64 {
	for _, n := range []uint64{0xf0, 0xe1, 0xd2, 0xc3, 0xb4, 0xa5, 0x96, 0x87, 0x78, 0x69, 0x5a, 0x4b} {
		s[2] ^= n
		var t [5]uint64
		for place := range 64 {
			in := 0
			for _, w := range s {
				in = in<<1 | int(w>>place&1)
			}
			for i := range t {
				t[i] |= uint64(box[in]>>(4-i)&1) << place
			}
		}
		for i, by := range [5][2]int{{19, 28}, {61, 39}, {1, 6}, {10, 17}, {7, 41}} {
			s[i] = t[i] ^ bits.RotateLeft64(t[i], -by[0]) ^ bits.RotateLeft64(t[i], -by[1])
		}
	}
	return s
}

// sum is Sum by perm and whole copies.
func sum(b []byte) api.Hash {
	whole := append(bytes.Clone(b), 1)
	for len(whole)%8 != 0 {
		whole = append(whole, 0)
	}
	s := perm([5]uint64{0x0000080100cc0002})
	for i := 0; i < len(whole); i += 8 {
		s[0] ^= binary.LittleEndian.Uint64(whole[i:])
		s = perm(s)
	}
	var out []byte
	for len(out) < 32 {
		out = binary.LittleEndian.AppendUint64(out, s[0])
		s = perm(s)
	}
	return api.Hash(out)
}

// mixed is n bytes of all kinds.
func mixed(n int) []byte {
	b := make([]byte, n)
	for i := range b {
		b[i] = byte(i*i*11 + i*3 + 5)
	}
	return b
}

// spare is text with room behind it that is filled with '#'.
func spare(text string) []byte {
	b := append([]byte(text), "################"...)
	return b[:len(text)]
}

// unchanged tells whether b is still spare(text), its room included.
func unchanged(b []byte, text string) bool {
	return string(b[:len(text)+16]) == text+"################"
}

// P2.1: what the standard says that Perm makes of the state that Sum begins with.
func TestPermOfStandardState(t *testing.T) {
	want := [5]uint64{0x9b1e5494e934d681, 0x4bc3a01e333751d2, 0xae65396c6b34b81a, 0x3c7fd4a4d56a4db3, 0x1a5c464906c5976d}
	s := [5]uint64{0x0000080100cc0002}
	if got := sponge.Perm(s); got != want {
		t.Errorf("Perm: %x, want %x", got, want)
	}
	if s != [5]uint64{0x0000080100cc0002} {
		t.Errorf("the state is now %x", s)
	}
}

// P2.1: nothing, everything, each bit alone, and states of all kinds.
func TestPermOfAllKinds(t *testing.T) {
	l := [][5]uint64{
		{},
		{math.MaxUint64, math.MaxUint64, math.MaxUint64, math.MaxUint64, math.MaxUint64},
		{0x0123456789abcdef, 0xfedcba9876543210, 0x5555555555555555, 0xaaaaaaaaaaaaaaaa, 0x00000000ffffffff},
	}
	for i := range 5 {
		var all [5]uint64
		all[i] = math.MaxUint64
		l = append(l, all)
		for place := range 64 {
			var one [5]uint64
			one[i] = 1 << place
			l = append(l, one)
		}
	}
	s := [5]uint64{1, 2, 3, 4, 5}
	for range 100 {
		s = perm(s)
		l = append(l, s)
	}
	for _, s := range l {
		if got, want := sponge.Perm(s), perm(s); got != want {
			t.Errorf("Perm of %x: %x, want %x", s, got, want)
		}
	}
}

// P2.2: the standard's own examples.
func TestSumOfStandardTexts(t *testing.T) {
	for text, want := range map[string]string{
		"":     "0b3be5850f2f6b98caf29f8fdea89b64a1fa70aa249b8f839bd53baa304d92b2",
		"\x00": "0728621035af3ed2bca03bf6fde900f9456f5330e4b5ee23e7f6a1e70291bc80",
	} {
		if got := sponge.Sum([]byte(text)); hex.EncodeToString(got[:]) != want {
			t.Errorf("Sum(%q): %x, want %s", text, got, want)
		}
	}
	if sponge.Sum(nil) != sponge.Sum([]byte{}) {
		t.Error("Sum of nil isn't that of no bytes")
	}
}

// P2.2: each length about the ends of eight bytes, and great ones.
func TestSumOfEachLength(t *testing.T) {
	lengths := []int{511, 512, 513, 4095, 4096, 4097}
	for n := range 100 {
		lengths = append(lengths, n)
	}
	for _, n := range lengths {
		for _, b := range [][]byte{mixed(n), make([]byte, n), bytes.Repeat([]byte{0xff}, n)} {
			if got, want := sponge.Sum(b), sum(b); got != want {
				t.Errorf("Sum of %d bytes: %x, want %x", n, got, want)
			}
		}
	}
}

// P2.2: each byte counts, at its own place.
func TestSumHangsOnEachByte(t *testing.T) {
	seen := map[api.Hash]bool{}
	count := 0
	note := func(b []byte) {
		seen[sponge.Sum(b)] = true
		count++
	}
	note(mixed(17))
	for i := range 17 {
		for bit := range 8 {
			b := mixed(17)
			b[i] ^= 1 << bit
			note(b)
		}
	}
	if len(seen) != count {
		t.Errorf("%d texts have %d sums", count, len(seen))
	}
}

// P2.2: what stands at the end of a text isn't taken for what is laid behind one.
func TestSumTellsEndsApart(t *testing.T) {
	seen := map[api.Hash]string{}
	for n := range 20 {
		for _, end := range []string{"\x02", "\x01", "\x80"} {
			for noughts := range 20 {
				b := append(bytes.Repeat([]byte{7}, n), end...)
				b = append(b, make([]byte, noughts)...)
				h := sponge.Sum(b)
				if other, ok := seen[h]; ok {
					t.Errorf("%x and %x have one sum", other, b)
				}
				seen[h] = string(b)
			}
		}
	}
}

// P2.2 and DOC.md's rule 3: neither what is handed in nor the room behind it is changed, or read beyond its end.
func TestSumLeavesItsArgument(t *testing.T) {
	for n := range 18 {
		text := string(mixed(n))
		b := spare(text)
		got := sponge.Sum(b)
		if !unchanged(b, text) {
			t.Errorf("%d bytes are now %x", n, b[:n+16])
		}
		if got != sum([]byte(text)) {
			t.Errorf("Sum of %d bytes with room behind them: %x", n, got)
		}
	}
}

// lists are lists of bytes and what Text with the tag 'q' makes of them.
func lists() map[string][][]byte {
	return map[string][][]byte{
		"q":                                  nil,
		"q\x00\x00\x00\x00\x00\x00\x00\x00":  {nil},
		"q\x01\x00\x00\x00\x00\x00\x00\x00a": {[]byte("a")},
		"q\x02\x00\x00\x00\x00\x00\x00\x00xy\x00\x00\x00\x00\x00\x00\x00\x00\x01\x00\x00\x00\x00\x00\x00\x00z": {[]byte("xy"), {}, []byte("z")},
		"q\x01\x00\x00\x00\x00\x00\x00\x00x\x02\x00\x00\x00\x00\x00\x00\x00yz":                                 {[]byte("x"), []byte("yz")},
		"q\x02\x00\x00\x00\x00\x00\x00\x00xy\x01\x00\x00\x00\x00\x00\x00\x00z":                                 {[]byte("xy"), []byte("z")},
		"q\x01\x00\x00\x00\x00\x00\x00\x00z\x02\x00\x00\x00\x00\x00\x00\x00xy":                                 {[]byte("z"), []byte("xy")},
		"q\x03\x00\x00\x00\x00\x00\x00\x00xyz":                                                                 {[]byte("xyz")},
		"q\x01\x01\x00\x00\x00\x00\x00\x00" + string(make([]byte, 257)):                                        {make([]byte, 257)},
	}
}

// P2.3: the tag, then a lump of each, in their order.
func TestTextIsTagThenLumps(t *testing.T) {
	for want, l := range lists() {
		if got := sponge.Text('q', l...); string(got) != want {
			t.Errorf("Text of %q: %x, want %x", l, got, want)
		}
	}
	for tag := range 256 {
		if got := sponge.Text(byte(tag)); string(got) != string([]byte{byte(tag)}) {
			t.Errorf("Text of tag %d alone: %x", tag, got)
		}
		if got := sponge.Text(byte(tag), nil, []byte("b")); string(got[:1]) != string([]byte{byte(tag)}) || !bytes.Equal(got[1:], bin.Join(bin.Num(0), bin.Num(1), []byte("b"))) {
			t.Errorf("Text of tag %d: %x", tag, got)
		}
	}
}

// P2.3: Tag is Sum of Text.
func TestTagIsSumOfText(t *testing.T) {
	if got, want := sponge.Tag('a'), sponge.Sum([]byte("a")); got != want {
		t.Errorf("Tag 'a' of nothing: %x, want %x", got, want)
	}
	for text, l := range lists() {
		for _, tag := range []byte{0, 1, 'q', 0xff} {
			want := sum(append([]byte{tag}, text[1:]...))
			if got := sponge.Tag(tag, l...); got != want {
				t.Errorf("Tag %d of %q: %x, want %x", tag, l, got, want)
			}
		}
	}
}

// P2.3 and DOC.md's rule 3: what is handed in isn't changed, what is answered is new memory.
func TestTextLeavesItsArguments(t *testing.T) {
	a, b := spare("ab"), spare("c")
	l := slices.Grow([][]byte{a, b}, 3)
	room := l[:3]
	room[2] = []byte("room")
	first, tag := sponge.Text('t', l...), sponge.Tag('t', l...)
	clear(first[:cap(first)])
	if !unchanged(a, "ab") || !unchanged(b, "c") {
		t.Errorf("arguments are now %q, %q", a[:18], b[:17])
	}
	if len(l) != 2 || string(l[0]) != "ab" || string(l[1]) != "c" || string(room[2]) != "room" {
		t.Errorf("the list is now %q", room)
	}
	again := sponge.Text('t', l...)
	if string(again) != string(bin.Join([]byte("t"), bin.Lump([]byte("ab")), bin.Lump([]byte("c")))) || sponge.Sum(again) != tag {
		t.Errorf("Text when an earlier one was changed: %x", again)
	}
}

// P2.4: texts that are unlike have sums that are unlike, and so have lists that are.
func TestSmallThingsStandForGreatOnes(t *testing.T) {
	seen := map[api.Hash]bool{}
	count := 0
	note := func(h api.Hash) {
		seen[h] = true
		count++
	}
	for n := range 300 {
		note(sponge.Sum(bytes.Repeat([]byte{0}, n)))
	}
	for _, l := range lists() {
		note(sponge.Tag(1, l...))
		note(sponge.Tag(2, l...))
	}
	if len(seen) != count {
		t.Errorf("%d texts and lists have %d sums", count, len(seen))
	}
}
