package frame_test

import (
	"bytes"
	"encoding/hex"
	"fmt"
	"math"
	"math/rand"
	"slices"
	"strings"
	"testing"

	"postmark/api"
	"postmark/frame"
	"postmark/sponge"
)

const (
	ahead  = 13 // bytes ahead of a body
	behind = 8  // and behind it
)

// record is what Put is handed, and what Read tells.
type record struct {
	kind int
	seq  int64
	body string
}

// read is all that Read tells.
type read struct {
	record
	size int
	e    api.Errno
}

func readOf(b []byte) read {
	kind, seq, body, size, e := frame.Read(b)
	return read{record{kind, seq, string(body)}, size, e}
}

// text tells r without printing a long body.
func (r read) text() string {
	return fmt.Sprintf("kind %d, seq %d, body %s, size %d, error %d", r.kind, r.seq, short([]byte(r.body)), r.size, r.e)
}

// bytesOf is a record by the chapter's words, one byte after another, whatever its fields are.
func bytesOf(length uint32, kind byte, seq uint64, body string) []byte {
	b := []byte{byte(length), byte(length >> 8), byte(length >> 16), byte(length >> 24), kind}
	number := make([]byte, 8)
	for i := range number {
		number[i] = byte(seq >> (8 * i))
	}
	h := sponge.Tag('f', []byte{kind}, number, []byte(body))
	return slices.Concat(b, number, []byte(body), h[:8])
}

func (r record) bytes() []byte {
	return bytesOf(uint32(len(r.body)), byte(r.kind), uint64(r.seq), r.body)
}

// wanted is what Read is to tell of b, by the chapter's words, one byte after another.
func wanted(b []byte) read {
	if len(b) < 13 {
		return read{e: api.ErrShort}
	}
	length := int64(b[0]) + int64(b[1])*256 + int64(b[2])*65536 + int64(b[3])*16777216
	if length > 4096 || b[4] == 0 || b[12] >= 128 {
		return read{e: api.ErrBytes}
	}
	size := 13 + int(length) + 8
	if len(b) < size {
		return read{e: api.ErrShort}
	}
	seq := int64(0)
	for i := 12; i >= 5; i-- {
		seq = seq*256 + int64(b[i])
	}
	r := record{int(b[4]), seq, string(b[13 : size-8])}
	if !bytes.Equal(r.bytes(), b[:size]) {
		return read{e: api.ErrSum}
	}
	return read{r, size, api.OK}
}

// records: those that may be, at the edges of each field.
func records() []record {
	l := []record{{1, 0, ""}, {255, math.MaxInt64, strings.Repeat("\xff", api.MaxBody)}}
	for _, kind := range []int{1, 2, 3, 4, 5, 'f', 127, 128, 129, 254, 255} {
		l = append(l, record{kind, 7, "ab"})
	}
	for i := range 63 {
		l = append(l, record{9, 1 << i, "ab"}, record{9, 1<<i - 1, "ab"})
	}
	for _, seq := range []int64{258, math.MaxInt32, math.MaxUint32, api.MaxTick, 0x0102030405060708, math.MaxInt64 - 1, math.MaxInt64} {
		l = append(l, record{9, seq, "ab"})
	}
	for _, n := range []int{0, 1, 2, 6, 7, 8, 9, 12, 13, 21, 127, 128, 254, 255, 256, 257, 511, 512, 2047, 2048, 4088, 4095, 4096} {
		l = append(l, record{9, 7, strings.Repeat("x", n)}, record{9, 7, string(make([]byte, n))})
	}
	for _, s := range []string{"\x00", "\xff", "postmark", "é", "a\x00", "\x00a"} {
		l = append(l, record{9, 7, s}, record{9, 7, string(record{8, 6, s}.bytes())})
	}
	return l
}

// few are short records, no two alike in any field, for tests that go through each bit.
func few() []record {
	return []record{{1, 0, ""}, {255, math.MaxInt64, "abc"}, {4, 0x0102030405060708, "\x00"}, {2, 1 << 62, strings.Repeat("x", 40)}}
}

// spare is b with room behind it that is filled with '#'.
func spare(b []byte) []byte {
	return slices.Concat(b, bytes.Repeat([]byte{'#'}, 64))[:len(b)]
}

// unchanged tells whether b is still spare(text), its room included.
func unchanged(b []byte, text string) bool {
	return string(b[:len(text)+64]) == text+strings.Repeat("#", 64)
}

// spoil overwrites an answer and the room behind it, as a caller may.
func spoil(b []byte) {
	copy(b[:cap(b)], bytes.Repeat([]byte{'z'}, cap(b)))
}

// is fails the test unless Read tells want of b.
func is(t *testing.T, what string, b []byte, want read) {
	t.Helper()
	if got := readOf(b); got != want {
		t.Errorf("%s: Read of %s: %s, want %s", what, short(b), got.text(), want.text())
	}
}

// none fails the test unless Read answers e alone of b.
func none(t *testing.T, what string, b []byte, e api.Errno) {
	t.Helper()
	is(t, what, b, read{e: e})
}

func short(b []byte) string {
	if len(b) > 60 {
		return hex.EncodeToString(b[:60]) + ".."
	}
	return hex.EncodeToString(b)
}

// P13.1: bytes that were worked out apart from the program, by the chapters' words.
func TestBytesAreThoseOfTheChapter(t *testing.T) {
	for _, c := range []struct {
		r                   record
		ahead, body, behind string
	}{
		{record{1, 0, ""}, "00000000010000000000000000", "", "d8d550e714342c65"},
		{record{255, math.MaxInt64, "abc"}, "03000000ffffffffffffffff7f", "616263", "4fc4da8d0e8bdd69"},
		{record{2, 258, "\x00"}, "01000000020201000000000000", "00", "38107e3af99e9b11"},
		{record{4, 0x0102030405060708, strings.Repeat("postmark", 40)}, "40010000040807060504030201", strings.Repeat("706f73746d61726b", 40), "d1e9ba6c5aae1d5c"},
		{record{3, 255, strings.Repeat("\xff", 255)}, "ff00000003ff00000000000000", strings.Repeat("ff", 255), "c732c7f920e4c75b"},
		{record{3, 256, strings.Repeat("\xff", 256)}, "00010000030001000000000000", strings.Repeat("ff", 256), "9fd1fbbf0ef8a258"},
		{record{3, 4095, strings.Repeat("\xff", 4095)}, "ff0f000003ff0f000000000000", strings.Repeat("ff", 4095), "b52f29ea688c9484"},
		{record{3, 4096, strings.Repeat("\xff", 4096)}, "00100000030010000000000000", strings.Repeat("ff", 4096), "b0736f7c4f108159"},
	} {
		want := c.ahead + c.body + c.behind
		b, e := frame.Put(c.r.kind, c.r.seq, []byte(c.r.body))
		if hex.EncodeToString(b) != want || e != api.OK {
			t.Errorf("Put(%d, %d, ..): %s, error %d", c.r.kind, c.r.seq, short(b), e)
		}
		whole, _ := hex.DecodeString(want)
		is(t, "worked out", whole, read{c.r, len(want) / 2, api.OK})
	}
}

// P13.1: what Put writes of each record that may be, and that it is as long as that.
func TestPutWritesLengthKindSeqBodySum(t *testing.T) {
	for _, r := range records() {
		b, e := frame.Put(r.kind, r.seq, []byte(r.body))
		if !bytes.Equal(b, r.bytes()) || e != api.OK {
			t.Errorf("Put(%d, %d, %d bytes): %s, error %d", r.kind, r.seq, len(r.body), short(b), e)
		}
		if len(b) != ahead+len(r.body)+behind {
			t.Errorf("Put of %d bytes: %d bytes", len(r.body), len(b))
		}
	}
	for kind := 1; kind <= 255; kind++ {
		b, e := frame.Put(kind, 5, []byte("k"))
		if want := (record{kind, 5, "k"}).bytes(); !bytes.Equal(b, want) || e != api.OK {
			t.Errorf("Put of kind %d: %s, error %d", kind, short(b), e)
		}
	}
}

// P13.1: ErrForm of a kind not 1 to 255 and of a seq below 0, ErrLong of a body above MaxBody; ErrForm comes first.
func TestPutRefuses(t *testing.T) {
	kinds := []int{0, -1, -2, -255, -256, 256, 257, 258, 511, 512, 513, 1 << 16, 1<<16 + 1, 1 << 32, 1<<32 + 1, math.MaxInt, math.MinInt, math.MinInt + 1}
	seqs := []int64{-1, -2, -256, -1 << 32, -1<<32 + 1, math.MinInt64, math.MinInt64 + 1}
	lengths := []int{4097, 4098, 4352, 5000, 8192, 1 << 16, 1<<16 + 1, 1<<20 + 3}
	refused := func(kind int, seq int64, n int, want api.Errno) {
		t.Helper()
		if b, e := frame.Put(kind, seq, make([]byte, n)); e != want || len(b) != 0 {
			t.Errorf("Put(%d, %d, %d bytes): %s, error %d, want %d", kind, seq, n, short(b), e, want)
		}
	}
	for _, kind := range kinds {
		for _, n := range []int{0, 1, 4096, 4097, 1 << 16} {
			refused(kind, 1, n, api.ErrForm)
		}
		for _, seq := range seqs {
			refused(kind, seq, 1, api.ErrForm)
		}
	}
	for _, seq := range seqs {
		for _, n := range []int{0, 1, 4096, 4097, 1 << 16} {
			refused(1, seq, n, api.ErrForm)
			refused(255, seq, n, api.ErrForm)
		}
	}
	for _, n := range lengths {
		refused(1, 0, n, api.ErrLong)
		refused(255, math.MaxInt64, n, api.ErrLong)
	}
}

// P13.1: Read tells what stands at the beginning, whatever stands behind it, and how many bytes that has.
func TestReadTellsWhatWasPut(t *testing.T) {
	for _, r := range records() {
		b, _ := frame.Put(r.kind, r.seq, []byte(r.body))
		want := read{r, len(b), api.OK}
		other := record{3, 4, "other"}.bytes()
		for _, rest := range [][]byte{nil, {0}, {9, 9}, make([]byte, 100), other, other[:5], b, bytes.Repeat([]byte{0xff}, 5000)} {
			is(t, "behind Put", slices.Concat(b, rest), want)
			is(t, "by the chapter's words", slices.Concat(r.bytes(), rest), want)
		}
		is(t, "with room behind it", spare(b), want)
	}
	for kind := 1; kind <= 255; kind++ {
		r := record{kind, 5, "k"}
		is(t, "each kind", r.bytes(), read{r, 22, api.OK})
	}
}

// P13.1: a record that is cut off anywhere is ErrShort, though the rest of it lies in the room behind.
func TestReadOfARecordThatIsCutOff(t *testing.T) {
	l := append(few(), record{7, 8, strings.Repeat("\xff", 4096)}, record{7, 8, string(make([]byte, 300))})
	for _, r := range l {
		whole := r.bytes()
		for n := range whole {
			none(t, "cut off", whole[:n], api.ErrShort)
			none(t, "cut off", bytes.Clone(whole[:n]), api.ErrShort)
		}
	}
	none(t, "nil", nil, api.ErrShort)
	none(t, "empty", []byte{}, api.ErrShort)
}

// P13.1: of fewer than 13 bytes it is ErrShort, whatever they are; from 13 on what may not be is ErrBytes.
func TestReadOfFewBytes(t *testing.T) {
	for _, fill := range []byte{0, 1, 'f', 0x7f, 0x80, 0xff} {
		for n := range 13 {
			none(t, "few bytes", bytes.Repeat([]byte{fill}, n), api.ErrShort)
		}
	}
	for _, n := range []int{13, 14, 20, 21, 22, 99, 5000} {
		none(t, "noughts", make([]byte, n), api.ErrBytes)
		none(t, "ones", bytes.Repeat([]byte{1}, n), api.ErrBytes)
		none(t, "bytes 0xff", bytes.Repeat([]byte{0xff}, n), api.ErrBytes)
	}
}

// P13.1: ErrBytes of a length above MaxBody, of kind 0, of a seq above 2^63 - 1: though the checksum is right, or there isn't all of it.
func TestReadOfFieldsThatMayNotBe(t *testing.T) {
	refused := func(what string, b []byte) {
		t.Helper()
		none(t, what, b, api.ErrBytes)
		none(t, what+", all but the last byte", b[:len(b)-1], api.ErrBytes)
		none(t, what+", 13 bytes", b[:13], api.ErrBytes)
		none(t, what+", 12 bytes", b[:12], api.ErrShort)
		none(t, what+", more behind it", append(bytes.Clone(b), make([]byte, 5000)...), api.ErrBytes)
		b[len(b)-1]++
		none(t, what+", another sum", b, api.ErrBytes)
	}
	for _, n := range []int{4097, 4098, 4352, 5000, 8191, 8192, 1 << 16, 1<<16 + 1, 1 << 20} {
		refused("a great length", bytesOf(uint32(n), 1, 2, strings.Repeat("x", n)))
	}
	for _, length := range []uint32{4097, 1 << 13, 1 << 15, 1 << 16, 1<<16 + 3, 1 << 24, 1<<24 + 3, 1 << 31, 1<<31 - 1, 1<<31 + 3, math.MaxUint32, math.MaxUint32 - 7, math.MaxUint32 - 12, math.MaxUint32 - 20} {
		refused("a length that isn't there", bytesOf(length, 1, 2, "abc"))
	}
	for _, body := range []string{"", "abc", strings.Repeat("x", 4096)} {
		refused("kind 0", bytesOf(uint32(len(body)), 0, 2, body))
		for _, seq := range []uint64{1 << 63, 1<<63 + 1, 1<<63 + 1<<62, math.MaxUint64, math.MaxUint64 - 1} {
			refused("a great seq", bytesOf(uint32(len(body)), 1, seq, body))
		}
	}
	refused("all three", bytesOf(math.MaxUint32, 0, math.MaxUint64, "abc"))
}

// P13.1: a length that is greater than what is there is ErrShort up to MaxBody; a shorter one takes other bytes for the sum.
func TestReadOfAnotherLength(t *testing.T) {
	whole := record{7, 8, strings.Repeat("x", 100)}.bytes()
	for n := range 4097 {
		b := bytes.Clone(whole)
		b[0], b[1] = byte(n), byte(n>>8)
		switch {
		case n < 100:
			none(t, "a shorter length", b, api.ErrSum)
		case n == 100:
			is(t, "the length", b, read{record{7, 8, strings.Repeat("x", 100)}, 121, api.OK})
		default:
			none(t, "a longer length", b, api.ErrShort)
			none(t, "a longer length, all there", append(b, make([]byte, n-100)...), api.ErrSum)
		}
	}
}

// P13.1: another checksum is ErrSum, by each of its bits; so is any other kind, seq or body, for the checksum is of all of them.
func TestReadOfAnotherSum(t *testing.T) {
	for _, r := range few() {
		whole := r.bytes()
		for i := ahead; i < len(whole); i++ {
			for bit := range 8 {
				b := bytes.Clone(whole)
				b[i] ^= 1 << bit
				none(t, "another body or sum", b, api.ErrSum)
				none(t, "another body or sum, more behind it", append(b, whole...), api.ErrSum)
			}
		}
		for i := 4; i < 12; i++ { // the byte at 12 has the bit by which a seq may not be
			b := bytes.Clone(whole)
			for range 255 {
				if b[i]++; i != 4 || b[i] != 0 {
					none(t, "another kind or seq", b, api.ErrSum)
				}
			}
		}
	}
	a, b := record{1, 2, "abc"}, record{1, 2, "abd"}
	none(t, "another record's sum", slices.Concat(a.bytes()[:16], b.bytes()[16:]), api.ErrSum)
	h := sponge.Tag('f', []byte{1}, make([]byte, 8), nil)
	head := bytesOf(0, 1, 0, "")[:13]
	none(t, "the hash's last bytes", slices.Concat(head, h[24:]), api.ErrSum)
	none(t, "noughts for the sum", slices.Concat(head, make([]byte, 8)), api.ErrSum)
	is(t, "the whole hash behind it", slices.Concat(head, h[:]), read{record{1, 0, ""}, 21, api.OK})
}

// P13.1: each byte of a record, and of one behind it, changed in each way: Read tells what the chapter's words ask.
func TestReadOfChangedBytes(t *testing.T) {
	rest := record{3, 4, "another one"}.bytes()
	for _, r := range few() {
		whole := append(r.bytes(), rest...)
		for i := range whole {
			for mask := 1; mask < 256; mask++ {
				b := bytes.Clone(whole)
				b[i] ^= byte(mask)
				is(t, "a changed byte", b, wanted(b))
				if i < ahead+len(r.body)+behind && readOf(b).e == api.OK {
					t.Errorf("a byte changed at %d: it is read", i)
				}
			}
		}
	}
}

// P13.1: Read takes all arguments, and tells of each what the chapter's words ask: bytes by chance, those of records by chance, cut off, changed.
func TestReadTakesAllBytes(t *testing.T) {
	chance := rand.New(rand.NewSource(13))
	some := func(n int) []byte {
		b := make([]byte, n)
		chance.Read(b)
		return b
	}
	seen := map[api.Errno]int{}
	for range 20000 {
		b := some(chance.Intn(60))
		if len(b) >= 4 && chance.Intn(4) > 0 {
			b[1], b[2], b[3] = 0, 0, 0
			b[0] %= 64
		}
		if len(b) > 21 && chance.Intn(3) == 0 {
			b = slices.Concat(bytesOf(uint32(len(b)), b[0]%5, uint64(chance.Int63())<<chance.Intn(2), string(b)), some(chance.Intn(3)))
		}
		if chance.Intn(5) == 0 {
			b = b[:chance.Intn(len(b)+1)]
		}
		if len(b) > 0 && chance.Intn(5) == 0 {
			b[chance.Intn(len(b))] ^= 1 << chance.Intn(8)
		}
		want := wanted(b)
		seen[want.e]++
		is(t, "by chance", b, want)
	}
	for _, e := range []api.Errno{api.OK, api.ErrShort, api.ErrBytes, api.ErrSum} {
		if seen[e] < 500 {
			t.Errorf("error %d was asked for %d times only", e, seen[e])
		}
	}
}

// P13.1: Put takes all arguments, and Read tells what it writes.
func TestPutIsReadBack(t *testing.T) {
	chance := rand.New(rand.NewSource(131))
	for range 2000 {
		body := make([]byte, chance.Intn(200))
		chance.Read(body)
		r := record{chance.Intn(300) - 20, chance.Int63() >> chance.Intn(64), string(body)}
		if chance.Intn(10) == 0 {
			r.seq = -r.seq
		}
		b, e := frame.Put(r.kind, r.seq, body)
		if r.kind < 1 || r.kind > 255 || r.seq < 0 {
			if len(b) != 0 || e != api.ErrForm {
				t.Errorf("Put(%d, %d, ..): %s, error %d", r.kind, r.seq, short(b), e)
			}
			continue
		}
		if e != api.OK {
			t.Errorf("Put(%d, %d, ..): error %d", r.kind, r.seq, e)
		}
		is(t, "put", b, read{r, len(b), api.OK})
	}
}

// P13.1 and DOC.md's rules 2, 3 and 8: nil is empty, arguments stay as they are and aren't kept, answers are new memory, the same is told again.
func TestArgumentsAndAnswersAreApart(t *testing.T) {
	for _, r := range few() {
		body := spare([]byte(r.body))
		a, _ := frame.Put(r.kind, r.seq, body)
		b, _ := frame.Put(r.kind, r.seq, body)
		spoil(a)
		if !unchanged(body, r.body) || !bytes.Equal(b, r.bytes()) {
			t.Errorf("an answer of Put was changed: the body is %q, another answer %s", body, short(b))
		}
		spoil(body)
		if !bytes.Equal(b, r.bytes()) {
			t.Errorf("a body was changed: what Put answered is %s", short(b))
		}
		text := string(r.bytes()) + "more"
		whole := spare([]byte(text))
		_, _, got, _, _ := frame.Read(whole)
		_, _, again, _, _ := frame.Read(whole)
		spoil(got)
		if !unchanged(whole, text) || string(again) != r.body {
			t.Errorf("an answer of Read was changed: the bytes are %s, another answer %q", short(whole), again)
		}
		spoil(whole)
		if string(again) != r.body {
			t.Errorf("the bytes were changed: what Read answered is %q", again)
		}
	}
	a, e := frame.Put(1, 2, nil)
	b, f := frame.Put(1, 2, []byte{})
	if !bytes.Equal(a, b) || e != api.OK || f != api.OK {
		t.Errorf("Put of nil: %s, error %d; of no bytes: %s, error %d", short(a), e, short(b), f)
	}
}

// walk tells the records that stand one behind another, how many bytes they have, and what ended it.
func walk(b []byte) ([]record, int, api.Errno) {
	var l []record
	at := 0
	for {
		got := readOf(b[at:])
		if got.e != api.OK || got.size < 1 || got.size > len(b)-at { // a size that can't be would have no end
			return l, at, got.e
		}
		l = append(l, got.record)
		at += got.size
	}
}

// ends fails the test unless a walk over all and what is behind them tells these, their size, and the error.
func ends(t *testing.T, what string, l []record, rubbish []byte, e api.Errno) {
	t.Helper()
	var b []byte
	for _, r := range l {
		b = append(b, r.bytes()...)
	}
	got, size, end := walk(slices.Concat(b, rubbish))
	if !slices.Equal(got, l) || size != len(b) || end != e {
		t.Errorf("%s: %d records, %d bytes, error %d; want %d, %d, error %d", what, len(got), size, end, len(l), len(b), e)
	}
}

// P13.2: records one behind another are told up to where they end, or where the last one is torn, noughts or not in the place of what is lost.
func TestWhatIsTornEndsIt(t *testing.T) {
	whole := few()[1].bytes()
	for n := range 5 {
		l := few()[:n]
		ends(t, "nothing", l, nil, api.ErrShort)
		for k := 1; k < len(whole); k++ {
			ends(t, "a torn record", l, whole[:k], api.ErrShort)
			want := api.ErrSum
			if k <= 4 {
				want = api.ErrBytes // its kind is a nought
			}
			ends(t, "a torn record and noughts", l, append(whole[:k:k], make([]byte, 100)...), want)
		}
	}
}

// P13.2: noughts end it, and so does what was changed or has lost its beginning: no record behind them is told.
func TestRubbishEndsIt(t *testing.T) {
	whole := few()[1].bytes()
	for n := range 5 {
		l := few()[:n]
		for k := 1; k < 30; k++ {
			b := append(make([]byte, k), whole...)
			ends(t, "noughts and a record", l, b, api.ErrBytes)
		}
		ends(t, "many noughts and a record", l, append(make([]byte, 5000), whole...), api.ErrBytes)
		ends(t, "a record of kind 0 and another one", l, append(bytesOf(3, 0, 1, "abc"), whole...), api.ErrBytes)
		ends(t, "a record that is too long and another one", l, append(bytesOf(4097, 1, 1, strings.Repeat("x", 4097)), whole...), api.ErrBytes)
		for k := 1; k < len(whole); k++ {
			b := slices.Concat(whole[k:], whole)
			ends(t, "a record without its beginning and a whole one", l, b, wanted(b).e)
		}
		for i := range whole {
			for bit := range 8 {
				b := append(bytes.Clone(whole), whole...)
				b[i] ^= 1 << bit
				ends(t, "a changed record and a whole one", l, b, wanted(b).e)
			}
		}
	}
}
