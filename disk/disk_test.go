package disk_test

import (
	"bytes"
	"fmt"
	"math"
	"strings"
	"testing"

	"postmark/api"
	"postmark/disk"
)

const all = math.MaxUint64 // a mask that keeps each write that can be kept

// strangers: numbers that are no file's.
func strangers() []int {
	return []int{-1, -2, api.Files, api.Files + 1, 256, 1 << 32, math.MaxInt, math.MinInt, math.MinInt + 1}
}

// told tells all files, and how many bytes of each are sure.
func told(d *disk.Disk) string {
	s := ""
	for f := range api.Files {
		s += fmt.Sprintf("%q %d;", d.Read(f), d.Sure(f))
	}
	return s
}

// is fails the test unless file f has that text, and that many bytes of it are sure.
func is(t *testing.T, what string, d *disk.Disk, f int, text string, sure int) {
	t.Helper()
	if got := d.Read(f); string(got) != text || d.Sure(f) != sure {
		t.Errorf("%s: file %d is %q, %d sure; want %q, %d sure", what, f, got, d.Sure(f), text, sure)
	}
}

// says fails the test unless a call said want.
func says(t *testing.T, what string, got, want api.Errno) {
	t.Helper()
	if got != want {
		t.Errorf("%s: error %d, want %d", what, got, want)
	}
}

// holding is a disk with plenty of room, whose file f has a text that is sure and writes that aren't.
func holding(t *testing.T, f int, text string, writes ...string) *disk.Disk {
	t.Helper()
	d := disk.New(1 << 20)
	says(t, "Append", d.Append(f, []byte(text)), api.OK)
	says(t, "Sync", d.Sync(f), api.OK)
	for _, s := range writes {
		says(t, "Append", d.Append(f, []byte(s)), api.OK)
	}
	return d
}

// write is one of each kind of write.
type write struct {
	name string
	do   func(d *disk.Disk, f int) api.Errno
}

func writes() []write {
	return []write{
		{"Append", func(d *disk.Disk, f int) api.Errno { return d.Append(f, []byte("new")) }},
		{"Append of nothing", func(d *disk.Disk, f int) api.Errno { return d.Append(f, nil) }},
		{"Append without room", func(d *disk.Disk, f int) api.Errno { return d.Append(f, make([]byte, 1<<20+1)) }},
		{"Sync", func(d *disk.Disk, f int) api.Errno { return d.Sync(f) }},
		{"Cut", func(d *disk.Disk, f int) api.Errno { return d.Cut(f, 1) }},
		{"Cut of nothing", func(d *disk.Disk, f int) api.Errno { return d.Cut(f, len(d.Read(f))) }},
	}
}

// P12.1: each file is empty at first, whatever the room.
func TestFilesAreEmptyAtFirst(t *testing.T) {
	for _, room := range []int{0, 1, 4096, math.MaxInt, -1, math.MinInt} {
		d := disk.New(room)
		for f := range api.Files {
			is(t, "New", d, f, "", 0)
		}
	}
}

// P12.1: Append stands behind all of its own file, and isn't sure.
func TestAppendStandsBehindAll(t *testing.T) {
	for f := range api.Files {
		d := disk.New(1000)
		want := ""
		for _, s := range []string{"ab", "", "c", "\x00\xff", strings.Repeat("d", 500), "ab"} {
			says(t, "Append", d.Append(f, []byte(s)), api.OK)
			want += s
			is(t, "Append", d, f, want, 0)
		}
		for other := range api.Files {
			if other != f {
				is(t, "Append to another file", d, other, "", 0)
			}
		}
	}
}

// P12.1: Sync makes all of its file sure, and nothing of another one.
func TestSyncMakesAllOfAFileSure(t *testing.T) {
	for f := range api.Files {
		d := disk.New(1000)
		for other := range api.Files {
			d.Append(other, []byte("ab"))
			d.Append(other, []byte("c"))
		}
		says(t, "Sync", d.Sync(f), api.OK)
		for other := range api.Files {
			sure := 0
			if other == f {
				sure = 3
			}
			is(t, "Sync", d, other, "abc", sure)
		}
		d.Append(f, []byte("def"))
		is(t, "Append behind Sync", d, f, "abcdef", 3)
		says(t, "Sync", d.Sync(f), api.OK)
		says(t, "Sync of what is sure", d.Sync(f), api.OK)
		is(t, "Sync", d, f, "abcdef", 6)
	}
	d := disk.New(0)
	says(t, "Sync of an empty file", d.Sync(1), api.OK)
	is(t, "Sync of an empty file", d, 1, "", 0)
}

// P12.1: the first n bytes are left, for each n to the length; what of them was sure is sure, what wasn't isn't yet.
func TestCutLeavesTheFirstBytes(t *testing.T) {
	text := "abcdefghij"
	for f := range api.Files {
		for n := range len(text) + 1 {
			d := holding(t, f, text[:4], text[4:6], text[6:9], text[9:])
			other := (f + 1) % api.Files
			d.Append(other, []byte("xyz"))
			says(t, "Cut", d.Cut(f, n), api.OK)
			is(t, "Cut", d, f, text[:n], min(n, 4))
			is(t, "Cut of another file", d, other, "xyz", 0)
			says(t, "Cut again", d.Cut(f, n), api.OK)
			is(t, "Cut again", d, f, text[:n], min(n, 4))
			says(t, "Cut of what is gone", d.Cut(f, n+1), api.ErrFile)
			d.Append(f, []byte("XY"))
			is(t, "Append behind Cut", d, f, text[:n]+"XY", min(n, 4))
			d.Sync(f)
			is(t, "Sync behind Cut", d, f, text[:n]+"XY", n+2)
		}
	}
}

// P12.1: Cut is at once and for sure: no crash brings back what was cut off, nor takes what was sure.
func TestCutIsForSure(t *testing.T) {
	for n := range 9 {
		for _, mask := range []uint64{0, all} {
			d := holding(t, 2, "abcd", "ef", "gh")
			d.Cut(2, n)
			d.Crash(mask, -1)
			want := "abcdefgh"[:n]
			if mask == 0 {
				want = want[:min(n, 4)]
			}
			is(t, fmt.Sprintf("Cut to %d, Crash(%x)", n, mask), d, 2, want, len(want))
		}
	}
}

// P12.1: writes that are cut in two are shorter, those behind are gone, and so is one of no bytes at the cut; others stay: a crash counts what is left.
func TestCutOfWrites(t *testing.T) {
	for _, c := range []struct {
		n    int
		mask uint64
		want string
	}{
		// "abc", "", "def", "", "ghi", ""; behind the cut "XY"
		{9, 1 << 5, "\x00\x00\x00\x00\x00\x00\x00\x00\x00XY"}, // the one of no bytes at the end is gone
		{9, 1 << 6, ""},
		{8, 1 << 5, "\x00\x00\x00\x00\x00\x00\x00\x00XY"}, // "ghi" is "gh"
		{8, 1 << 4, "\x00\x00\x00\x00\x00\x00gh"},
		{7, 1<<4 | 1<<5, "\x00\x00\x00\x00\x00\x00gXY"},
		{6, 1 << 3, "\x00\x00\x00\x00\x00\x00XY"}, // "ghi" and both of no bytes are gone
		{6, 1<<2 | 1<<3, "\x00\x00\x00defXY"},
		{5, 1<<2 | 1<<3, "\x00\x00\x00deXY"},
		{5, 1 << 2, "\x00\x00\x00de"},
		{4, 1 << 1, "\x00\x00\x00"}, // the one of no bytes ahead of the cut stays
		{4, 1 << 3, "\x00\x00\x00\x00XY"},
		{3, 1 << 1, "\x00\x00\x00XY"},
		{3, 1 << 2, ""},
		{2, 1<<0 | 1<<1, "abXY"},
		{1, 1 << 0, "a"},
		{1, 1 << 1, "\x00XY"},
		{0, 1 << 0, "XY"},
		{0, 1 << 1, ""},
	} {
		d := holding(t, 0, "", "abc", "", "def", "", "ghi", "")
		says(t, "Cut", d.Cut(0, c.n), api.OK)
		d.Append(0, []byte("XY"))
		d.Crash(c.mask, -1)
		is(t, fmt.Sprintf("Cut to %d, Crash(%b)", c.n, c.mask), d, 0, c.want, len(c.want))
	}
}

// P12.1: writes are cut in two more than once, and one that was cut is no longer when others stand behind it.
func TestCutOfAWriteAgain(t *testing.T) {
	d := holding(t, 1, "s", "abcdef", "ghi")
	for _, n := range []int{6, 4, 3} {
		says(t, "Cut", d.Cut(1, n), api.OK)
	}
	d.Append(1, []byte("XY"))
	d.Append(1, []byte("Z"))
	d.Cut(1, 4)
	d.Append(1, []byte("W"))
	is(t, "Cut", d, 1, "sabXW", 1)
	d.Crash(1<<0|1<<2, -1)
	is(t, "Crash", d, 1, "sab\x00W", 5)
}

// P12.1: ErrFile of no such file, and of n not 0 to its length; of no such file nothing is read; nothing is done.
func TestNoSuchFile(t *testing.T) {
	d := holding(t, 0, "abc", "de")
	d.Append(1, []byte("f"))
	before := told(d)
	for _, f := range strangers() {
		says(t, "Append to a stranger", d.Append(f, []byte("x")), api.ErrFile)
		says(t, "Append of nothing to a stranger", d.Append(f, nil), api.ErrFile)
		says(t, "Append of too much to a stranger", d.Append(f, make([]byte, 2<<20)), api.ErrFile)
		says(t, "Sync of a stranger", d.Sync(f), api.ErrFile)
		says(t, "Cut of a stranger", d.Cut(f, 0), api.ErrFile)
		says(t, "Cut of a stranger", d.Cut(f, -1), api.ErrFile)
		if b := d.Read(f); len(b) != 0 || d.Sure(f) != 0 {
			t.Errorf("file %d: %q, %d sure", f, b, d.Sure(f))
		}
	}
	for f, length := range []int{5, 1, 0} {
		for _, n := range []int{-1, length + 1, length + 2, 1 << 32, math.MaxInt, math.MinInt} {
			says(t, fmt.Sprintf("Cut(%d, %d)", f, n), d.Cut(f, n), api.ErrFile)
		}
	}
	if got := told(d); got != before {
		t.Errorf("ErrFile: %s, want %s", got, before)
	}
}

// P12.1: the n-th write from now on fails, of whatever kind; none ahead of it, and none behind it.
func TestFailOfTheNthWrite(t *testing.T) {
	for _, w := range writes() {
		for n := range 8 {
			d := holding(t, 0, "abc", "de")
			d.Fail(n)
			for range n {
				says(t, "a write ahead of the one that fails", d.Append(1, []byte("x")), api.OK)
			}
			before := told(d)
			says(t, fmt.Sprintf("%s behind Fail(%d)", w.name, n), w.do(d, 0), api.ErrDisk)
			if got := told(d); got != before {
				t.Errorf("%s that fails: %s, want %s", w.name, got, before)
			}
			for range 20 {
				says(t, "a write behind the one that fails", d.Append(1, []byte("x")), api.OK)
			}
		}
	}
}

// P12.1: a write that fails is none that a crash counts.
func TestAWriteThatFailsIsNone(t *testing.T) {
	d := holding(t, 0, "s", "ab")
	d.Fail(0)
	says(t, "Append", d.Append(0, []byte("cd")), api.ErrDisk)
	says(t, "Append without room", d.Append(0, make([]byte, 2<<20)), api.ErrRoom)
	d.Append(0, []byte("ef"))
	d.Crash(1<<1, -1)
	is(t, "Crash", d, 0, "s\x00\x00ef", 5)
}

// P12.1: writes of all kinds count, those to each file, and those that find no room; what is ErrFile, and what only reads, doesn't.
func TestFailCountsWrites(t *testing.T) {
	for _, w := range writes() {
		for f := range api.Files {
			d := holding(t, f, "abc", "de")
			d.Fail(1)
			if e := w.do(d, f); e != api.OK && e != api.ErrRoom {
				t.Errorf("%s ahead of the one that fails: error %d", w.name, e)
			}
			says(t, "the one that fails, behind "+w.name, d.Sync((f+1)%api.Files), api.ErrDisk)
			says(t, "one more", d.Sync(f), api.OK)
		}
	}
	d := holding(t, 0, "abc", "de")
	d.Fail(0)
	for _, f := range strangers() {
		d.Append(f, []byte("x"))
		d.Append(f, make([]byte, 2<<20))
		d.Sync(f)
		d.Cut(f, 0)
		d.Read(f)
		d.Sure(f)
	}
	d.Cut(0, -1)
	d.Cut(0, 6)
	d.Read(0)
	d.Sure(0)
	disk.New(10).Sync(0)
	says(t, "the first write", d.Cut(0, 0), api.ErrDisk)
	says(t, "the second write", d.Cut(0, 0), api.OK)
}

// P12.1: Fail below 0: none fails; the last Fail holds alone.
func TestFailAgain(t *testing.T) {
	for _, none := range []int{-1, -2, math.MinInt, math.MinInt + 1} {
		d := disk.New(10)
		d.Fail(none)
		for range 5 {
			says(t, "none fails", d.Sync(0), api.OK)
		}
		d.Fail(2)
		d.Sync(0)
		d.Fail(none)
		for range 5 {
			says(t, "none fails any more", d.Sync(0), api.OK)
		}
	}
	d := disk.New(10)
	d.Fail(1)
	d.Fail(3)
	for i, want := range []api.Errno{0, 0, 0, api.ErrDisk, 0, 0} {
		says(t, fmt.Sprintf("write %d behind Fail(1), Fail(3)", i), d.Sync(0), want)
	}
	d.Fail(3)
	d.Sync(0)
	d.Fail(3) // from now on
	for i, want := range []api.Errno{0, 0, 0, api.ErrDisk, 0, 0} {
		says(t, fmt.Sprintf("write %d behind Fail(3) again", i), d.Sync(0), want)
	}
	d.Fail(math.MaxInt)
	for range 100 {
		says(t, "a write far ahead of the one that fails", d.Sync(0), api.OK)
	}
}

// P12.1: all files together have at most room bytes: the last one still goes, one more doesn't, and changes nothing.
func TestRoom(t *testing.T) {
	d := disk.New(10)
	says(t, "Append", d.Append(0, []byte("abcd")), api.OK)
	says(t, "Append", d.Append(1, []byte("efg")), api.OK)
	d.Sync(0)
	before := told(d)
	for f := range api.Files {
		for _, n := range []int{4, 5, 10, 11, 1000} {
			says(t, "Append without room", d.Append(f, make([]byte, n)), api.ErrRoom)
		}
	}
	if got := told(d); got != before {
		t.Errorf("Append without room: %s, want %s", got, before)
	}
	says(t, "Append of the last ones", d.Append(2, []byte("hij")), api.OK)
	for f := range api.Files {
		says(t, "Append to a full disk", d.Append(f, []byte("x")), api.ErrRoom)
		says(t, "Append of nothing to a full disk", d.Append(f, nil), api.OK)
	}
	says(t, "Sync of a full disk", d.Sync(1), api.OK)
	is(t, "full", d, 0, "abcd", 4)
	is(t, "full", d, 1, "efg", 3)
	is(t, "full", d, 2, "hij", 0)
	says(t, "Cut", d.Cut(0, 2), api.OK)
	says(t, "Append of more than was cut off", d.Append(1, []byte("xyz")), api.ErrRoom)
	says(t, "Append of as much as was cut off", d.Append(1, []byte("xy")), api.OK)
	d.Crash(0, -1)
	is(t, "Crash", d, 0, "ab", 2)
	is(t, "Crash", d, 1, "efg", 3)
	is(t, "Crash", d, 2, "", 0)
	says(t, "Append of more than was forgotten", d.Append(1, make([]byte, 6)), api.ErrRoom)
	says(t, "Append of as much as was forgotten", d.Append(1, make([]byte, 5)), api.OK)
}

// P12.1: one byte more or less of room, that below 0 counts as 0, and one that no sum reaches.
func TestRoomAtItsEdges(t *testing.T) {
	for room := range 6 {
		for n := range 8 {
			want := api.OK
			if n > room {
				want = api.ErrRoom
			}
			says(t, fmt.Sprintf("Append of %d bytes, room %d", n, room), disk.New(room).Append(n%3, make([]byte, n)), want)
		}
	}
	for _, room := range []int{0, -1, -5, math.MinInt, math.MinInt + 1} {
		d := disk.New(room)
		says(t, "Append of nothing", d.Append(0, nil), api.OK)
		says(t, "Append of a byte", d.Append(0, []byte("a")), api.ErrRoom)
		is(t, "no room", d, 0, "", 0)
	}
	d := disk.New(math.MaxInt)
	for f := range api.Files {
		says(t, "Append", d.Append(f, make([]byte, 5000)), api.OK)
		says(t, "Append", d.Append(f, make([]byte, 5000)), api.OK)
	}
}

// P12.1: noughts that a crash leaves take room, too.
func TestNoughtsTakeRoom(t *testing.T) {
	d := disk.New(10)
	d.Append(0, []byte("abcde"))
	d.Append(0, []byte("fg"))
	d.Crash(1<<1, 1)
	is(t, "Crash", d, 0, "\x00\x00\x00\x00\x00f", 6)
	says(t, "Append of one too many", d.Append(2, make([]byte, 5)), api.ErrRoom)
	says(t, "Append of the last ones", d.Append(2, make([]byte, 4)), api.OK)
}

// P12.1: ErrFile comes ahead of ErrDisk, ErrDisk ahead of ErrRoom.
func TestWhichErrorComesFirst(t *testing.T) {
	d := disk.New(1)
	d.Fail(0)
	says(t, "no such file, fails, no room", d.Append(3, []byte("ab")), api.ErrFile)
	says(t, "fails, no room", d.Append(0, []byte("ab")), api.ErrDisk)
	says(t, "no room", d.Append(0, []byte("ab")), api.ErrRoom)
	says(t, "none of them", d.Append(0, []byte("a")), api.OK)
}

// P12.2: which bytes each crash leaves of the writes "cd", "e", "", "fgh" behind "ab", that is sure.
func TestCrash(t *testing.T) {
	for _, c := range []struct {
		mask uint64
		torn int
		want string
	}{
		{0, -1, "ab"}, {0, 0, "ab"}, {0, 1, "ab"}, {0, 99, "ab"},
		{1, -1, "abcd"}, {1, 0, "ab"}, {1, 1, "abc"}, {1, 2, "abcd"}, {1, 3, "abcd"},
		{1, math.MaxInt, "abcd"}, {1, math.MaxInt - 1, "abcd"}, {1, math.MinInt, "abcd"}, {1, -2, "abcd"},
		{2, -1, "ab\x00\x00e"}, {2, 0, "ab\x00\x00"}, {2, 1, "ab\x00\x00e"}, {2, 5, "ab\x00\x00e"},
		{3, -1, "abcde"}, {3, 0, "abcd"},
		{4, -1, "ab\x00\x00\x00"}, {4, 0, "ab\x00\x00\x00"}, {4, 3, "ab\x00\x00\x00"},
		{5, -1, "abcd\x00"}, {5, 0, "abcd\x00"}, {6, 0, "ab\x00\x00e"}, {7, 0, "abcde"}, {7, -1, "abcde"},
		{8, -1, "ab\x00\x00\x00fgh"}, {8, 0, "ab\x00\x00\x00"}, {8, 1, "ab\x00\x00\x00f"}, {8, 2, "ab\x00\x00\x00fg"}, {8, 3, "ab\x00\x00\x00fgh"}, {8, 4, "ab\x00\x00\x00fgh"},
		{8, math.MaxInt, "ab\x00\x00\x00fgh"},
		{9, 1, "abcd\x00f"}, {10, 2, "ab\x00\x00efg"}, {11, 1, "abcdef"}, {11, 0, "abcde"}, {13, -1, "abcd\x00fgh"},
		{15, -1, "abcdefgh"}, {15, 2, "abcdefg"}, {all, 2, "abcdefg"}, {all, -1, "abcdefgh"},
		{16, -1, "ab"}, {1 << 32, -1, "ab"}, {1 << 63, -1, "ab"}, {all - 15, -1, "ab"}, {all - 13, 0, "ab\x00\x00"},
	} {
		for f := range api.Files {
			d := holding(t, f, "ab", "cd", "e", "", "fgh")
			d.Crash(c.mask, c.torn)
			is(t, fmt.Sprintf("Crash(%b, %d)", c.mask, c.torn), d, f, c.want, len(c.want))
		}
	}
}

// P12.2: each file is crashed by the same mask, each by its own writes.
func TestCrashOfEachFile(t *testing.T) {
	d := disk.New(100)
	for f, l := range [][]string{{"a", "bcd"}, {}, {"efg", "hi", "jk"}} {
		for _, s := range l {
			d.Append(f, []byte(s))
		}
	}
	d.Crash(1<<1, 2)
	is(t, "Crash", d, 0, "\x00bc", 3)
	is(t, "Crash", d, 1, "", 0)
	is(t, "Crash", d, 2, "\x00\x00\x00hi", 5)
}

// P12.2: bit 63 is the last one: of 64 writes each may be kept, none from the 64th on.
func TestCrashOfManyWrites(t *testing.T) {
	text := make([]byte, 200)
	for i := range text {
		text[i] = byte(i + 1)
	}
	for _, n := range []int{1, 63, 64, 65, 66, 127, 128, 129, 200} {
		fresh := func() *disk.Disk {
			d := disk.New(1000)
			for i := range n {
				d.Append(0, text[i:i+1])
			}
			return d
		}
		d := fresh()
		d.Crash(all, -1)
		is(t, "all bits", d, 0, string(text[:min(n, 64)]), min(n, 64))
		for i := range 64 {
			d := fresh()
			d.Crash(1<<i, -1)
			want := ""
			if i < n {
				want = strings.Repeat("\x00", i) + string(text[i:i+1])
			}
			is(t, fmt.Sprintf("%d writes, bit %d", n, i), d, 0, want, len(want))
		}
	}
}

// P12.2: the bits count from the first write that isn't sure, and writes that are sure stay, kept by no bit.
func TestCrashCountsFromWhatIsSure(t *testing.T) {
	d := disk.New(1000)
	for range 70 {
		d.Append(0, []byte("s"))
	}
	d.Sync(0)
	d.Append(0, []byte("ab"))
	d.Append(0, []byte("cd"))
	d.Crash(1<<1, 1)
	is(t, "Crash", d, 0, strings.Repeat("s", 70)+"\x00\x00c", 73)
	d.Append(0, []byte("ef"))
	is(t, "Append behind Crash", d, 0, strings.Repeat("s", 70)+"\x00\x00cef", 73)
	d.Crash(1<<0, -1)
	is(t, "Crash again", d, 0, strings.Repeat("s", 70)+"\x00\x00cef", 75)
	d.Crash(0, 0)
	is(t, "Crash of what is sure", d, 0, strings.Repeat("s", 70)+"\x00\x00cef", 75)
}

// P12.2: what a crash took away doesn't come back in the room that it left.
func TestWhatIsForgottenStaysForgotten(t *testing.T) {
	d := holding(t, 0, "s", "abcdefgh")
	d.Crash(0, -1)
	is(t, "Crash", d, 0, "s", 1)
	d.Append(0, []byte("12"))
	d.Append(0, []byte("3"))
	d.Crash(1<<1, -1)
	is(t, "Crash again", d, 0, "s\x00\x003", 4)
}

// P12.2: behind a crash no write fails any more, till Fail is called again.
func TestCrashEndsFail(t *testing.T) {
	for _, n := range []int{0, 1, 5, math.MaxInt} {
		d := disk.New(10)
		d.Fail(n)
		d.Crash(all, -1)
		for range 8 {
			says(t, "a write behind Crash", d.Append(0, []byte("a")), api.OK)
		}
		d.Fail(0)
		says(t, "a write behind Fail", d.Sync(0), api.ErrDisk)
	}
}

// P12.3: whatever a crash forgets and tears, what is sure stays as it is; with no bit, nothing else does.
func TestNothingIsSureTillItIs(t *testing.T) {
	for sure := range 6 {
		for mask := range uint64(64) {
			for torn := -1; torn < 4; torn++ {
				d := disk.New(1000)
				for i, s := range []string{"ab", "c", "def", "", "gh", "i"} {
					if i == sure {
						d.Sync(1)
					}
					d.Append(1, []byte(s))
				}
				was := string(d.Read(1)[:d.Sure(1)])
				d.Crash(mask, torn)
				got := string(d.Read(1))
				if !strings.HasPrefix(got, was) || (mask == 0 && got != was) || d.Sure(1) != len(got) {
					t.Errorf("%q was sure; Crash(%b, %d): %q, %d sure", was, mask, torn, got, d.Sure(1))
				}
			}
		}
	}
}

// P12.3: the chapter's example, and the same with a Sync.
func TestAppendCrash(t *testing.T) {
	d := disk.New(100)
	d.Append(0, []byte("abc"))
	d.Crash(0, 0)
	is(t, "Append, Crash(0, 0)", d, 0, "", 0)
	d.Append(0, []byte("abc"))
	d.Sync(0)
	d.Crash(0, 0)
	is(t, "Append, Sync, Crash(0, 0)", d, 0, "abc", 3)
}

// P12.1 and DOC.md's rule 3: what is handed in is neither changed nor kept, its spare room included; what is answered is new.
func TestBytesAreCopied(t *testing.T) {
	b := append([]byte("abc"), "################"...)
	d := disk.New(100)
	d.Append(0, b[:3])
	d.Append(0, []byte("de"))
	d.Append(1, b[:3])
	d.Crash(1<<1, 0)
	d.Append(0, []byte("fgh"))
	d.Cut(1, 0)
	if string(b) != "abc################" {
		t.Errorf("what was handed in is now %q", b)
	}
	d.Append(2, b[:3])
	copy(b, bytes.Repeat([]byte{'z'}, len(b)))
	is(t, "what was handed in is changed", d, 2, "abc", 0)
	got, again := d.Read(2), d.Read(2)
	copy(got[:cap(got)], bytes.Repeat([]byte{'z'}, cap(got)))
	d.Append(2, []byte("ij"))
	is(t, "what was answered is changed", d, 2, "abcij", 0)
	d.Crash(0, 0)
	if string(again) != "abc" {
		t.Errorf("what was answered is now %q", again)
	}
}

// P12.1: each disk is one of its own.
func TestDisksAreApart(t *testing.T) {
	a, b := disk.New(3), disk.New(3)
	a.Append(0, []byte("abc"))
	a.Sync(0)
	a.Fail(0)
	is(t, "another disk", b, 0, "", 0)
	says(t, "another disk's write", b.Append(0, []byte("xyz")), api.OK)
	b.Crash(0, 0)
	is(t, "a disk that didn't crash", a, 0, "abc", 3)
	says(t, "a disk that didn't crash", a.Sync(0), api.ErrDisk)
}

// plain is a disk by the chapter's words alone: of each file what is sure, and each write that isn't.
type plain struct {
	sure   [api.Files]string
	writes [api.Files][]string
	room   int
	fail   int
}

func (p *plain) text(f int) string { return p.sure[f] + strings.Join(p.writes[f], "") }

func (p *plain) told() string {
	s := ""
	for f := range api.Files {
		s += fmt.Sprintf("%q %d;", p.text(f), len(p.sure[f]))
	}
	return s
}

func (p *plain) fails() bool {
	p.fail--
	return p.fail == -1
}

func (p *plain) append(f int, b string) api.Errno {
	switch {
	case f < 0 || f > 2:
		return api.ErrFile
	case p.fails():
		return api.ErrDisk
	case len(p.text(0)+p.text(1)+p.text(2)+b) > p.room:
		return api.ErrRoom
	}
	p.writes[f] = append(p.writes[f], b)
	return api.OK
}

func (p *plain) sync(f int) api.Errno {
	switch {
	case f < 0 || f > 2:
		return api.ErrFile
	case p.fails():
		return api.ErrDisk
	}
	p.sure[f], p.writes[f] = p.text(f), nil
	return api.OK
}

func (p *plain) cut(f, n int) api.Errno {
	switch {
	case f < 0 || f > 2 || n < 0 || n > len(p.text(f)):
		return api.ErrFile
	case p.fails():
		return api.ErrDisk
	}
	var left []string
	at := len(p.sure[f])
	for _, s := range p.writes[f] {
		if at < n {
			left = append(left, s[:min(len(s), n-at)])
		}
		at += len(s)
	}
	p.sure[f], p.writes[f] = p.sure[f][:min(n, len(p.sure[f]))], left
	return api.OK
}

func (p *plain) crash(mask uint64, torn int) {
	for f := range api.Files {
		last := -1
		for i := range p.writes[f] {
			if i < 64 && mask&(1<<i) != 0 {
				last = i
			}
		}
		for i, s := range p.writes[f][:last+1] {
			switch {
			case mask&(1<<i) == 0:
				s = strings.Repeat("\x00", len(s))
			case i == last && torn >= 0 && torn < len(s):
				s = s[:torn]
			}
			p.sure[f] += s
		}
		p.writes[f] = nil
	}
	p.fail = -1
}

// P12.1, P12.2: many calls in a row, each held against the chapter's words.
func TestManyCallsInARow(t *testing.T) {
	seed := uint64(1)
	pick := func(n int) int {
		seed = seed*6364136223846793005 + 1442695040888963407
		return int(seed>>33) % n
	}
	for round := range 300 {
		room := pick(120) - 1
		d, p := disk.New(room), &plain{room: max(room, 0), fail: -1}
		for step := range 200 {
			f := pick(3)
			if pick(20) == 0 {
				f = pick(7) - 2
			}
			var got, want api.Errno
			what := ""
			switch k := pick(40); {
			case k < 22:
				b := bytes.Repeat([]byte{byte('a' + step%26)}, pick(4))
				what = fmt.Sprintf("Append(%d, %q)", f, b)
				got, want = d.Append(f, b), p.append(f, string(b))
			case k < 28:
				what = fmt.Sprintf("Sync(%d)", f)
				got, want = d.Sync(f), p.sync(f)
			case k < 35:
				n := pick(len(d.Read(f))+3) - 1
				what = fmt.Sprintf("Cut(%d, %d)", f, n)
				got, want = d.Cut(f, n), p.cut(f, n)
			case k < 37:
				n := pick(6) - 1
				what = fmt.Sprintf("Fail(%d)", n)
				d.Fail(n)
				p.fail = n
			default:
				mask, torn := uint64(pick(1<<16)), pick(6)-1
				what = fmt.Sprintf("Crash(%b, %d)", mask, torn)
				d.Crash(mask, torn)
				p.crash(mask, torn)
			}
			if got != want || told(d) != p.told() {
				t.Fatalf("round %d, step %d, %s: error %d, %s; want error %d, %s", round, step, what, got, told(d), want, p.told())
			}
		}
	}
}
