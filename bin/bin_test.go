package bin_test

import (
	"bytes"
	"math"
	"testing"

	"postmark/api"
	"postmark/bin"
)

// numbers: each byte's place, and the edges of the kinds that a number might be turned into on the way.
func numbers() []uint64 {
	l := []uint64{0, 1, 127, 128, 255, 256, 258, math.MaxInt32, math.MaxUint32, math.MaxInt64, 1 << 63, math.MaxUint64, 0x0102030405060708}
	for i := range 64 {
		l = append(l, 1<<i, 1<<i-1)
	}
	return l
}

// spare is text with room behind it that is filled with '#'.
func spare(text string) []byte {
	b := append([]byte(text), "################"...)
	return b[:len(text)]
}

// unchanged tells whether b is still spare(text), its room included.
func unchanged(b []byte, text string) bool {
	return string(b[:len(text)+16]) == text+"################"
}

// spoil overwrites an answer and the room behind it, as a caller may.
func spoil(b []byte) {
	copy(b[:cap(b)], bytes.Repeat([]byte{'z'}, cap(b)))
}

// hold fails the test unless r has that many bytes left and that error.
func hold(t *testing.T, what string, r *bin.Reader, left int, e api.Errno) {
	t.Helper()
	if r.Left() != left || r.Err() != e {
		t.Errorf("%s: %d left, error %d; want %d left, error %d", what, r.Left(), r.Err(), left, e)
	}
}

// P1.1: eight bytes, the lowest first.
func TestNumIsEightBytesLowestFirst(t *testing.T) {
	for n, want := range map[uint64]string{
		0:                  "\x00\x00\x00\x00\x00\x00\x00\x00",
		258:                "\x02\x01\x00\x00\x00\x00\x00\x00",
		0x0102030405060708: "\x08\x07\x06\x05\x04\x03\x02\x01",
		1 << 63:            "\x00\x00\x00\x00\x00\x00\x00\x80",
		math.MaxUint64:     "\xff\xff\xff\xff\xff\xff\xff\xff",
	} {
		if got := bin.Num(n); string(got) != want {
			t.Errorf("Num(%d): %x", n, got)
		}
	}
	a := bin.Num(7)
	a[0] = 9
	if b := bin.Num(7); b[0] != 7 {
		t.Errorf("Num(7) when an earlier one was changed: %x", b)
	}
}

// P1.1: a lump is Num of its length, then the bytes.
func TestLumpIsLengthThenBytes(t *testing.T) {
	for text, want := range map[string]string{
		"":         "\x00\x00\x00\x00\x00\x00\x00\x00",
		"a":        "\x01\x00\x00\x00\x00\x00\x00\x00a",
		"\x00\xff": "\x02\x00\x00\x00\x00\x00\x00\x00\x00\xff",
	} {
		if got := bin.Lump([]byte(text)); string(got) != want {
			t.Errorf("Lump(%q): %x", text, got)
		}
	}
	long := bytes.Repeat([]byte("x"), 70000)
	if got := bin.Lump(long); string(got) != "\x70\x11\x01\x00\x00\x00\x00\x00"+string(long) {
		t.Errorf("Lump of 70000 bytes: %d bytes, %x ..", len(got), got[:9])
	}
	if !bytes.Equal(bin.Lump(nil), bin.Lump([]byte{})) {
		t.Error("Lump of nil isn't that of no bytes")
	}
}

// P1.1: all, one behind another.
func TestJoinIsAllInOrder(t *testing.T) {
	for i, c := range []struct {
		l    [][]byte
		want string
	}{
		{nil, ""},
		{[][]byte{}, ""},
		{[][]byte{nil}, ""},
		{[][]byte{{}, nil, {}}, ""},
		{[][]byte{[]byte("a")}, "a"},
		{[][]byte{[]byte("bc"), nil, []byte("a"), {}, []byte("bc")}, "bcabc"},
	} {
		if got := bin.Join(c.l...); string(got) != c.want {
			t.Errorf("Join %d: %q, want %q", i, got, c.want)
		}
	}
}

// P1.1 and DOC.md's rule 3: what is handed in isn't changed, what is answered is new memory.
func TestWritersLeaveTheirArguments(t *testing.T) {
	a, b := spare("ab"), spare("c")
	l := [][]byte{a, b}
	joined, alone, lump := bin.Join(l...), bin.Join(a), bin.Lump(a)
	for _, x := range [][]byte{joined, alone, lump} {
		spoil(x)
	}
	if !unchanged(a, "ab") || !unchanged(b, "c") {
		t.Errorf("arguments are now %q, %q", a[:18], b[:17])
	}
	if len(l) != 2 || string(l[0]) != "ab" || string(l[1]) != "c" {
		t.Errorf("the list is now %q", l)
	}
}

// P1.2: number, lump and raw bytes, each where the one ahead of it ended.
func TestReaderReadsInOrder(t *testing.T) {
	r := bin.New([]byte("\x02\x01\x00\x00\x00\x00\x00\x00" + "\x03\x00\x00\x00\x00\x00\x00\x00abc" + "xyz"))
	hold(t, "at first", r, 22, api.OK)
	if n := r.Num(); n != 258 {
		t.Errorf("Num: %d", n)
	}
	hold(t, "behind Num", r, 14, api.OK)
	if b := r.Lump(3); string(b) != "abc" {
		t.Errorf("Lump: %q", b)
	}
	hold(t, "behind Lump", r, 3, api.OK)
	if b := r.Raw(0); len(b) != 0 {
		t.Errorf("Raw(0): %q", b)
	}
	if b := r.Raw(2); string(b) != "xy" {
		t.Errorf("Raw(2): %q", b)
	}
	hold(t, "behind Raw", r, 1, api.OK)
	if b := r.Raw(1); string(b) != "z" {
		t.Errorf("Raw(1): %q", b)
	}
	hold(t, "at the end", r, 0, api.OK)
	if b := r.Raw(0); len(b) != 0 {
		t.Errorf("Raw(0) at the end: %q", b)
	}
	hold(t, "behind Raw(0) at the end", r, 0, api.OK)
}

// P1.2: below 0 counts as 0.
func TestReaderBelowNoughtIsNought(t *testing.T) {
	for _, n := range []int{0, -1, -5, math.MinInt32, math.MinInt} {
		r := bin.New([]byte("\x00\x00\x00\x00\x00\x00\x00\x00ab"))
		if b := r.Raw(n); len(b) != 0 {
			t.Errorf("Raw(%d): %q", n, b)
		}
		hold(t, "behind Raw", r, 10, api.OK)
		if b := r.Lump(n); len(b) != 0 {
			t.Errorf("Lump(%d): %q", n, b)
		}
		hold(t, "behind a lump of nothing", r, 2, api.OK)
		r = bin.New(bin.Lump([]byte("a")))
		if b := r.Lump(n); len(b) != 0 {
			t.Errorf("Lump(%d) of one byte: %q", n, b)
		}
		hold(t, "behind a lump of one byte", r, 0, api.ErrLong)
	}
}

// P1.2: a number of fewer than eight bytes isn't there.
func TestReaderShortNumber(t *testing.T) {
	for n := range 8 {
		r := bin.New(bytes.Repeat([]byte{1}, n))
		if got := r.Num(); got != 0 {
			t.Errorf("Num of %d bytes: %d", n, got)
		}
		hold(t, "behind a short number", r, 0, api.ErrShort)
	}
}

// P1.2: as many raw bytes as there are, and none if one is missing.
func TestReaderShortRaw(t *testing.T) {
	for _, n := range []int{4, 5, math.MaxInt32, math.MaxInt} {
		r := bin.New([]byte("abc"))
		if b := r.Raw(n); len(b) != 0 {
			t.Errorf("Raw(%d) of three bytes: %q", n, b)
		}
		hold(t, "behind short bytes", r, 0, api.ErrShort)
	}
	if b := bin.New([]byte("abc")).Raw(3); string(b) != "abc" {
		t.Errorf("Raw(3) of three bytes: %q", b)
	}
}

// P1.2: whether a lump is too long is asked ahead of whether it is there; its length must be there for either.
func TestReaderLumpErrors(t *testing.T) {
	three := bin.Lump([]byte("abc"))
	for i, c := range []struct {
		b    []byte
		most int
		want string
		e    api.Errno
	}{
		{three, 3, "abc", api.OK},
		{three, 4, "abc", api.OK},
		{three, math.MaxInt, "abc", api.OK},
		{three, 2, "", api.ErrLong},
		{three, 0, "", api.ErrLong},
		{three[:10], 3, "", api.ErrShort},
		{three[:10], 2, "", api.ErrLong},
		{three[:8], 3, "", api.ErrShort},
		{three[:8], 2, "", api.ErrLong},
		{three[:7], 2, "", api.ErrShort},
		{three[:7], -1, "", api.ErrShort},
		{nil, 5, "", api.ErrShort},
		{bin.Num(1<<32 + 1), 1, "", api.ErrLong},
		{bin.Num(math.MaxInt64), math.MaxInt64, "", api.ErrShort},
		{bin.Num(math.MaxInt64), math.MaxInt64 - 1, "", api.ErrLong},
		{bin.Num(1 << 63), math.MaxInt64, "", api.ErrLong},
		{bin.Num(math.MaxUint64), math.MaxInt64, "", api.ErrLong},
		{bin.Num(math.MaxUint64), -1, "", api.ErrLong},
		{bin.Num(math.MaxUint64 - 7), 0, "", api.ErrLong},
	} {
		r := bin.New(c.b)
		if got := r.Lump(c.most); string(got) != c.want || r.Err() != c.e || r.Left() != 0 {
			t.Errorf("lump %d: %q, %d left, error %d; want %q, error %d", i, got, r.Left(), r.Err(), c.want, c.e)
		}
	}
}

// P1.2: behind an error everything tells nothing, and the first error stays.
func TestReaderStaysAtItsFirstError(t *testing.T) {
	much := bytes.Repeat([]byte{1}, 40)
	for i, c := range []struct {
		ask func(r *bin.Reader)
		e   api.Errno
	}{
		{func(r *bin.Reader) { r.Raw(41) }, api.ErrShort},
		{func(r *bin.Reader) { r.Lump(5) }, api.ErrLong},
		{func(r *bin.Reader) { r.Raw(33); r.Num() }, api.ErrShort},
		{func(r *bin.Reader) { r.Raw(33); r.Lump(0) }, api.ErrShort},
	} {
		r := bin.New(much)
		c.ask(r)
		hold(t, "behind the error", r, 0, c.e)
		for range 2 {
			if n, a, b, l := r.Num(), r.Raw(1), r.Raw(0), r.Lump(0); n != 0 || len(a)+len(b)+len(l) != 0 {
				t.Errorf("case %d: behind the error: %d, %q, %q, %q", i, n, a, b, l)
			}
			r.Lump(math.MaxInt)
			r.Raw(-1)
			r.Raw(math.MaxInt)
			hold(t, "further behind the error", r, 0, c.e)
		}
	}
}

// P1.2 and DOC.md's rule 3: what is handed in is neither changed nor kept, what is answered is new memory.
func TestReaderKeepsItsOwn(t *testing.T) {
	text := string(bin.Lump([]byte("abc"))) + "defgh"
	b := spare(text)
	r, other := bin.New(b), bin.New(b)
	l, d := r.Lump(3), r.Raw(2)
	spoil(l)
	spoil(d)
	if !unchanged(b, text) {
		t.Errorf("what was handed in is now %q", b)
	}
	clear(b)
	if got := r.Raw(3); string(got) != "fgh" {
		t.Errorf("behind changes from outside: %q", got)
	}
	if got := other.Lump(3); string(got) != "abc" || other.Left() != 5 {
		t.Errorf("another Reader of the same bytes: %q, %d left", got, other.Left())
	}
	if r := bin.New(spare("ab")); r.Left() != 2 || len(r.Raw(3)) != 0 || r.Err() != api.ErrShort {
		t.Errorf("the room behind what is handed in is read: error %d", r.Err())
	}
}

// P1.3: what was said by Num, Lump and Join is heard by a Reader, and no shorter text is heard as the whole one.
func TestSaidIsHeard(t *testing.T) {
	for _, n := range numbers() {
		r := bin.New(bin.Num(n))
		if got := r.Num(); got != n {
			t.Errorf("said %d, heard %d", n, got)
		}
		hold(t, "behind a number", r, 0, api.OK)
	}
	lumps := [][]byte{nil, []byte("a"), bin.Num(math.MaxUint64), bytes.Repeat([]byte{0xff}, 300), bin.Lump(bin.Lump(nil))}
	for _, a := range lumps {
		for _, b := range lumps {
			said := bin.Join(bin.Lump(a), bin.Num(uint64(len(b))), b, bin.Lump(b))
			for n := range len(said) + 1 {
				r := bin.New(said[:n])
				x := r.Lump(len(a))
				y := r.Raw(int(r.Num()))
				z := r.Lump(len(b))
				if n < len(said) {
					hold(t, "a shorter text", r, 0, api.ErrShort)
				} else if hold(t, "the whole text", r, 0, api.OK); !bytes.Equal(x, a) || !bytes.Equal(y, b) || !bytes.Equal(z, b) {
					t.Errorf("said %x, %x; heard %x, %x, %x", a, b, x, y, z)
				}
			}
		}
	}
}
