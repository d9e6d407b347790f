package journal_test

import (
	"bytes"
	"encoding/hex"
	"math"
	"math/rand"
	"slices"
	"strings"
	"testing"

	"postmark/api"
	"postmark/disk"
	"postmark/frame"
	"postmark/journal"
	"postmark/promise"
	"postmark/sigs"
	"postmark/sponge"
	"postmark/update"
)

const greatest = math.MaxUint64

// ann is an update that is Right, each field unlike the others.
func ann() api.Update {
	return api.Update{Name: "ann", Version: 258, Key: 5, Class: api.Urgent, Sig: api.Sig{R: 8, S: 9}}
}

// with is ann with one change.
func with(change func(u *api.Update)) api.Update {
	u := ann()
	change(&u)
	return u
}

func named(s string) api.Update     { return with(func(u *api.Update) { u.Name = s }) }
func versioned(n int) api.Update    { return with(func(u *api.Update) { u.Version = n }) }
func keyed(n uint64) api.Update     { return with(func(u *api.Update) { u.Key = n }) }
func classed(n int) api.Update      { return with(func(u *api.Update) { u.Class = n }) }
func signedBy(s api.Sig) api.Update { return with(func(u *api.Update) { u.Sig = s }) }
func base(seq, gen int64, count int) api.Record {
	return api.Record{Kind: api.RecBase, Seq: seq, Gen: gen, Count: count}
}
func pending(seq, tick int64, u api.Update) api.Record {
	return api.Record{Kind: api.RecPending, Seq: seq, Tick: tick, Update: u}
}
func done(seq int64, epoch int) api.Record {
	return api.Record{Kind: api.RecDone, Seq: seq, Epoch: epoch}
}

// goodUpdates: those that are Right, at the edges of each field.
func goodUpdates() []api.Update {
	l := []api.Update{ann(), {Name: "a", Version: 1, Key: 1}}
	for _, s := range []string{"a", "\x00", "\xff", "Ann", "ann ", "élève", strings.Repeat("a", 31), strings.Repeat("\xff", 32), strings.Repeat("\x00", 32)} {
		l = append(l, named(s))
	}
	for _, n := range []int{1, 2, 255, 256, 1<<30 - 1, 1 << 30} {
		l = append(l, versioned(n))
	}
	for _, n := range []uint64{1, 2, 256, 1 << 32, 1<<61 - 3, 1<<61 - 2} {
		l = append(l, keyed(n))
	}
	for _, s := range []api.Sig{{}, {R: 1}, {S: 1}, {R: 1 << 63, S: 1<<63 - 1}, {R: 1<<63 - 1, S: 1 << 63}, {R: greatest, S: greatest}} {
		l = append(l, signedBy(s))
	}
	return append(l, classed(api.Plain), classed(api.Urgent))
}

// badUpdates: those that aren't Right, each by one field, and some by several.
func badUpdates() []api.Update {
	l := []api.Update{{}, {Name: "ann"}, {Version: 1, Key: 1}, {Name: strings.Repeat("a", 33), Version: -1, Class: 9}}
	for _, s := range []string{"", strings.Repeat("a", 33), strings.Repeat("é", 17), strings.Repeat("a", 256+3), strings.Repeat("a", 5000)} {
		l = append(l, named(s))
	}
	for _, n := range []int{0, -1, math.MinInt, 1<<30 + 1, math.MaxInt, 1<<32 + 1} {
		l = append(l, versioned(n))
	}
	for _, n := range []uint64{0, 1<<61 - 1, 1 << 61, 1 << 63, 1<<63 + 5, greatest} {
		l = append(l, keyed(n))
	}
	for _, n := range []int{-1, 2, 256, 1 << 32, 1<<32 + 1, math.MaxInt, math.MinInt} {
		l = append(l, classed(n))
	}
	return l
}

// goodTicks: what Seq, Gen and Tick may be.
func goodTicks() []int64 {
	return []int64{0, 1, 2, 255, 256, 1 << 31, 1 << 32, 1<<32 + 1, 0x0102030405060708, 1<<60 - 1, 1 << 60}
}

// badTicks: what they may not be.
func badTicks() []int64 {
	return []int64{-1, -2, -256, math.MinInt32, -1 << 60, math.MinInt64, math.MinInt64 + 1, 1<<60 + 1, 1<<60 + 2, 1 << 61, 1 << 62, math.MaxInt64 - 1, math.MaxInt64}
}

// few: one of each kind, no field zero, no two fields of one alike.
func few() []api.Record {
	return []api.Record{base(3, 258, 2), pending(4, 7, ann()), done(5, 259)}
}

// rights: records that are Right.
func rights() []api.Record {
	l := append(few(), base(0, 0, 0), pending(0, 0, ann()), done(0, 1))
	for _, n := range goodTicks() {
		l = append(l, base(n, 1, 2), base(1, n, 2), pending(n, 1, ann()), pending(1, n, ann()), done(n, 1))
	}
	for n := range 33 {
		l = append(l, base(5, 6, n))
	}
	for _, n := range []int{1, 2, 255, 256, 258, 1 << 16, 1<<30 - 1, 1 << 30} {
		l = append(l, done(5, n))
	}
	for _, u := range goodUpdates() {
		l = append(l, pending(5, 6, u))
	}
	return append(l, base(1<<60, 1<<60, 32), pending(1<<60, 1<<60, ann()), done(1<<60, 1<<30))
}

// wrongs: records that aren't Right.
func wrongs() []api.Record {
	l := []api.Record{{}, {Kind: api.RecPending}, {Kind: api.RecDone}}
	for _, n := range badTicks() {
		l = append(l, base(n, 1, 2), base(1, n, 2), pending(n, 1, ann()), pending(1, n, ann()), done(n, 1))
	}
	for _, n := range []int{-1, -32, math.MinInt32, math.MinInt, 33, 34, 64, 256, 1 << 31, 1 << 32, 1<<32 + 2, math.MaxInt} {
		l = append(l, base(5, 6, n))
	}
	for _, n := range []int{0, -1, math.MinInt32, math.MinInt, 1<<30 + 1, 1 << 31, 1 << 32, 1<<32 + 1, math.MaxInt} {
		l = append(l, done(5, n))
	}
	for _, u := range badUpdates() {
		l = append(l, pending(5, 6, u))
	}
	return append(l, strangers()...)
}

// strangers: records that are Right but for a field that their kind doesn't have, or for a kind that there isn't.
func strangers() []api.Record {
	var l []api.Record
	for _, change := range []func(r *api.Record){
		func(r *api.Record) { r.Gen = 1 },
		func(r *api.Record) { r.Gen = -1 },
		func(r *api.Record) { r.Count = 1 },
		func(r *api.Record) { r.Count = -1 },
		func(r *api.Record) { r.Tick = 1 },
		func(r *api.Record) { r.Tick = math.MinInt64 },
		func(r *api.Record) { r.Epoch = 1 },
		func(r *api.Record) { r.Epoch = -1 },
		func(r *api.Record) { r.Update = ann() },
		func(r *api.Record) { r.Update.Name = "a" },
		func(r *api.Record) { r.Update.Version = 1 },
		func(r *api.Record) { r.Update.Key = 1 },
		func(r *api.Record) { r.Update.Class = api.Urgent },
		func(r *api.Record) { r.Update.Sig.R = 1 },
		func(r *api.Record) { r.Update.Sig.S = 1 },
	} {
		for _, r := range []api.Record{base(0, 0, 0), base(1, 0, 0), pending(1, 0, ann()), done(1, 1)} {
			was := r
			if change(&r); foreign(was, r) {
				l = append(l, r)
			}
		}
	}
	for _, kind := range []int{0, -1, -2, -253, -254, -255, 4, 5, 6, 127, 128, 129, 255, 256, 257, 258, 259, 1<<32 + 1, 1<<32 + 2, 1<<32 + 3, math.MaxInt, math.MinInt} {
		for _, r := range append(few(), api.Record{}) {
			r.Kind = kind
			l = append(l, r)
		}
	}
	return l
}

// foreign tells whether r and was differ in a field that their kind doesn't have.
func foreign(was, r api.Record) bool {
	switch r.Kind {
	case api.RecBase:
		return r.Update != was.Update || r.Tick != was.Tick || r.Epoch != was.Epoch
	case api.RecPending:
		return r.Gen != was.Gen || r.Count != was.Count || r.Epoch != was.Epoch
	}
	return r.Gen != was.Gen || r.Count != was.Count || r.Update != was.Update || r.Tick != was.Tick
}

// num is eight bytes, the lowest first, of each of l.
func num(l ...uint64) []byte {
	var out []byte
	for _, n := range l {
		for i := range 8 {
			out = append(out, byte(n>>(8*i)))
		}
	}
	return out
}

// request is the bytes of a request with these fields.
func request(name string, version, key, class, r, s uint64) []byte {
	return slices.Concat(num(uint64(len(name))), []byte(name), num(version, key, class, r, s))
}

// requestOf is those of u.
func requestOf(u api.Update) []byte {
	return request(u.Name, uint64(u.Version), u.Key, uint64(u.Class), u.Sig.R, u.Sig.S)
}

// sealed is a frame by chapter 13's words, whatever its fields are.
func sealed(kind byte, seq uint64, body []byte) []byte {
	n := len(body)
	h := sponge.Tag('f', []byte{kind}, num(seq), body)
	return slices.Concat([]byte{byte(n), byte(n >> 8), byte(n >> 16), byte(n >> 24), kind}, num(seq), body, h[:8])
}

// bodyOf is r's body by the chapter's words, whatever its fields are.
func bodyOf(r api.Record) []byte {
	switch r.Kind {
	case api.RecBase:
		return num(uint64(r.Gen), uint64(r.Count))
	case api.RecPending:
		return append(num(uint64(r.Tick)), requestOf(r.Update)...)
	}
	return num(uint64(r.Epoch))
}

// bytesOf is r's bytes by the chapters' words.
func bytesOf(r api.Record) []byte {
	return sealed(byte(r.Kind), uint64(r.Seq), bodyOf(r))
}

// read is all that Read tells.
type read struct {
	r    api.Record
	size int
	e    api.Errno
}

func readOf(b []byte) read {
	r, size, e := journal.Read(b)
	return read{r, size, e}
}

// number is eight bytes' number, and whether it is at most most.
func number(b []byte, most uint64) (uint64, bool) {
	n := uint64(0)
	for i := 7; i >= 0; i-- {
		n = n*256 + uint64(b[i])
	}
	return n, n <= most
}

// wanted is what Read is to tell of b, by the chapter's words: the fields are taken from where the chapters say that they stand.
func wanted(b []byte) read {
	kind, seq, body, size, e := frame.Read(b)
	if e != api.OK {
		return read{e: e}
	}
	none := read{e: api.ErrBytes}
	if seq > 1<<60 {
		return none
	}
	r := api.Record{Kind: kind, Seq: seq}
	switch {
	case kind == 1 && len(body) == 16:
		gen, ok := number(body, 1<<60)
		count, also := number(body[8:], 32)
		if !ok || !also {
			return none
		}
		r.Gen, r.Count = int64(gen), int(count)
	case kind == 2 && len(body) >= 57 && len(body) <= 88:
		tick, ok := number(body, 1<<60)
		length, also := number(body[8:], 32)
		if !ok || !also || int(length) != len(body)-56 {
			return none
		}
		rest := body[16+length:]
		version, a := number(rest, 1<<30)
		key, b := number(rest[8:], 1<<61-2)
		class, c := number(rest[16:], 1)
		if !a || !b || !c || version == 0 || key == 0 {
			return none
		}
		r.Tick, r.Update = int64(tick), api.Update{Name: string(body[16 : 16+length]), Version: int(version), Key: key, Class: int(class)}
		r.Update.Sig.R, _ = number(rest[24:], greatest)
		r.Update.Sig.S, _ = number(rest[32:], greatest)
	case kind == 3 && len(body) == 8:
		epoch, ok := number(body, 1<<30)
		if !ok || epoch == 0 {
			return none
		}
		r.Epoch = int(epoch)
	default:
		return none
	}
	return read{r, size, api.OK}
}

// spare is b with room behind it that is filled with '#'.
func spare(b []byte) []byte {
	return slices.Concat(b, bytes.Repeat([]byte{'#'}, 64))[:len(b)]
}

// unchanged tells whether b is still spare(was), its room included.
func unchanged(b, was []byte) bool {
	return bytes.Equal(b[:len(was)+64], slices.Concat(was, bytes.Repeat([]byte{'#'}, 64)))
}

// spoil overwrites an answer and the room behind it, as a caller may.
func spoil(b []byte) {
	copy(b[:cap(b)], bytes.Repeat([]byte{'z'}, cap(b)))
}

func short(b []byte) string {
	if len(b) > 120 {
		return hex.EncodeToString(b[:120]) + ".."
	}
	return hex.EncodeToString(b)
}

// is fails the test unless Read tells want of b.
func is(t *testing.T, what string, b []byte, want read) {
	t.Helper()
	if got := readOf(b); got != want {
		t.Errorf("%s: Read of %s: %#v, want %#v", what, short(b), got, want)
	}
}

// none fails the test unless Read answers e alone of b.
func none(t *testing.T, what string, b []byte, e api.Errno) {
	t.Helper()
	is(t, what, b, read{e: e})
}

func unhex(t *testing.T, s string) []byte {
	t.Helper()
	b, err := hex.DecodeString(s)
	if err != nil {
		t.Fatal(err)
	}
	return b
}

// P14.1: bytes that were worked out apart from the program, by the chapters' words.
func TestBytesAreThoseOfTheChapter(t *testing.T) {
	for _, c := range []struct {
		r                   api.Record
		ahead, body, behind string
	}{
		{base(0, 0, 0), "10000000010000000000000000", "00000000000000000000000000000000", "51c6b321a633048e"},
		{base(1, 2, 3), "10000000010100000000000000", "02000000000000000300000000000000", "9f66981c5d6ca293"},
		{base(1<<60, 1<<60, 32), "10000000010000000000000010", "00000000000000102000000000000000", "c4d5af2a15272a6a"},
		{base(258, 0x0102030405060708, 31), "10000000010201000000000000", "08070605040302011f00000000000000", "f1a6f511a135e906"},
		{pending(3, 258, api.Update{Name: "ann", Version: 1, Key: 7, Class: 1, Sig: api.Sig{R: 8, S: 9}}), "3b000000020300000000000000",
			"02010000000000000300000000000000616e6e01000000000000000700000000000000010000000000000008000000000000000900000000000000", "edeba4e657917d60"},
		{pending(1<<60, 1<<60, api.Update{Name: strings.Repeat("\xff", 32), Version: 1 << 30, Key: 1<<61 - 2, Sig: api.Sig{R: greatest, S: 1 << 63}}), "58000000020000000000000010",
			"00000000000000102000000000000000" + strings.Repeat("ff", 32) + "0000004000000000feffffffffffff1f0000000000000000ffffffffffffffff0000000000000080", "1c05d109934d71a9"},
		{pending(0, 0, api.Update{Name: "\x00", Version: 1, Key: 1}), "39000000020000000000000000",
			"000000000000000001000000000000000001000000000000000100000000000000000000000000000000000000000000000000000000000000", "301ae7b86edb70c0"},
		{done(0, 1), "08000000030000000000000000", "0100000000000000", "9d0acbead9738a6b"},
		{done(1<<60, 1<<30), "08000000030000000000000010", "0000004000000000", "e02ff493b2929fba"},
		{done(4, 258), "08000000030400000000000000", "0201000000000000", "130eb8edc18ce0dc"},
	} {
		whole := unhex(t, c.ahead+c.body+c.behind)
		if b, e := journal.Put(c.r); !bytes.Equal(b, whole) || e != api.OK {
			t.Errorf("Put(%#v): %s, error %d", c.r, short(b), e)
		}
		is(t, "worked out", whole, read{c.r, len(whole), api.OK})
	}
}

// P14.1: each kind's fields within their bounds, all else zero, no other kind.
func TestRight(t *testing.T) {
	for _, r := range rights() {
		if !journal.Right(r) {
			t.Errorf("Right(%#v): false", r)
		}
	}
	for _, r := range wrongs() {
		if journal.Right(r) {
			t.Errorf("Right(%#v): true", r)
		}
	}
}

// P14.1: what Put writes of each record that is Right.
func TestPutWritesKindSeqBody(t *testing.T) {
	for _, r := range rights() {
		b, e := journal.Put(r)
		if !bytes.Equal(b, bytesOf(r)) || e != api.OK {
			t.Errorf("Put(%#v): %s, error %d", r, short(b), e)
		}
	}
}

// P14.1 and the chapter's example (RecDone of epoch 0): what isn't Right has no bytes, and is ErrForm whatever is wrong.
func TestPutRefusesWhatIsntRight(t *testing.T) {
	for _, r := range append(wrongs(), done(4, 0)) {
		if b, e := journal.Put(r); len(b) != 0 || e != api.ErrForm {
			t.Errorf("Put(%#v): %s, error %d", r, short(b), e)
		}
	}
}

// P14.1: Read tells what stands at the beginning, whatever stands behind it, and how many bytes that has.
func TestReadTellsWhatWasPut(t *testing.T) {
	for _, r := range rights() {
		b, _ := journal.Put(r)
		want := read{r, len(b), api.OK}
		other := bytesOf(done(8, 9))
		for _, rest := range [][]byte{nil, {0}, {9, 9}, make([]byte, 100), other, other[:5], b, bytes.Repeat([]byte{0xff}, 5000)} {
			is(t, "behind Put", slices.Concat(b, rest), want)
			is(t, "by the chapter's words", slices.Concat(bytesOf(r), rest), want)
		}
		is(t, "with room behind it", spare(b), want)
	}
}

// P14.1: no two records have the same bytes.
func TestUnlikeRecordsHaveUnlikeBytes(t *testing.T) {
	seen := map[string]api.Record{}
	for _, r := range rights() {
		b, _ := journal.Put(r)
		if other, ok := seen[string(b)]; ok && other != r {
			t.Errorf("Put of %#v and of %#v: %s", r, other, short(b))
		}
		seen[string(b)] = r
	}
}

// P14.1: a record that is cut off anywhere is ErrShort, though the rest of it lies in the room behind.
func TestReadOfARecordThatIsCutOff(t *testing.T) {
	for _, r := range append(few(), base(0, 0, 0), pending(0, 0, named(strings.Repeat("\x00", 32)))) {
		whole := bytesOf(r)
		for n := range whole {
			none(t, "cut off", whole[:n], api.ErrShort)
			none(t, "cut off", bytes.Clone(whole[:n]), api.ErrShort)
		}
	}
	none(t, "nil", nil, api.ErrShort)
	none(t, "empty", []byte{}, api.ErrShort)
}

// P14.1: frame.Read's error is told as it is.
func TestReadTellsTheFramesError(t *testing.T) {
	for _, n := range []int{0, 1, 12} {
		none(t, "few noughts", make([]byte, n), api.ErrShort)
		none(t, "few bytes", bytes.Repeat([]byte{0xff}, n), api.ErrShort)
	}
	for _, n := range []int{13, 21, 5000} {
		none(t, "noughts", make([]byte, n), api.ErrBytes)
		none(t, "ones", bytes.Repeat([]byte{0xff}, n), api.ErrBytes)
	}
	for _, r := range few() {
		none(t, "kind 0", sealed(0, uint64(r.Seq), bodyOf(r)), api.ErrBytes)
		none(t, "a seq above 2^63 - 1", sealed(byte(r.Kind), 1<<63+uint64(r.Seq), bodyOf(r)), api.ErrBytes)
		none(t, "a body above MaxBody", sealed(byte(r.Kind), uint64(r.Seq), make([]byte, 4097)), api.ErrBytes)
		whole := bytesOf(r)
		for i := 13; i < len(whole); i++ {
			for bit := range 8 {
				b := bytes.Clone(whole)
				b[i] ^= 1 << bit
				none(t, "another body or sum", b, api.ErrSum)
			}
		}
	}
	// ErrSum comes first: what may not be is rubbish, too, where the checksum is another.
	b := sealed(9, 1<<60+1, num(1))
	none(t, "a right sum", b, api.ErrBytes)
	b[len(b)-1]++
	none(t, "another sum", b, api.ErrSum)
}

// P14.1: each byte of a record, and of one behind it, changed in each way: Read tells what the chapter's words ask.
func TestReadOfChangedBytes(t *testing.T) {
	rest := bytesOf(done(8, 9))
	for _, r := range few() {
		whole := slices.Concat(bytesOf(r), rest)
		for i := range whole {
			for mask := 1; mask < 256; mask++ {
				b := bytes.Clone(whole)
				b[i] ^= byte(mask)
				is(t, "a changed byte", b, wanted(b))
			}
		}
	}
}

// refused fails the test unless a frame with a right checksum, of this kind, seq and body, is ErrBytes, alone and with more behind it.
func refused(t *testing.T, what string, kind byte, seq uint64, body []byte) {
	t.Helper()
	b := sealed(kind, seq, body)
	none(t, what, b, api.ErrBytes)
	none(t, what+", more behind it", slices.Concat(b, bytesOf(few()[0])), api.ErrBytes)
	none(t, what+", cut off", b[:len(b)-1], api.ErrShort)
}

// P14.1: ErrBytes of a body that is longer or shorter than its kind's, though its checksum is right.
func TestReadOfABodyOfAnotherLength(t *testing.T) {
	for _, r := range append(few(), base(0, 0, 0), done(0, 1)) {
		body := bodyOf(r)
		for n := range body {
			refused(t, "a shorter body", byte(r.Kind), uint64(r.Seq), body[:n])
		}
		for _, n := range []int{1, 2, 7, 8, 9, 16, 456 - len(body), 504 - len(body), 512 - len(body), 513 - len(body), 520 - len(body), 521 - len(body), 4096 - len(body)} {
			refused(t, "a body and noughts", byte(r.Kind), uint64(r.Seq), append(bytes.Clone(body), make([]byte, n)...))
			refused(t, "a body and more", byte(r.Kind), uint64(r.Seq), append(bytes.Clone(body), bytes.Repeat([]byte{7}, n)...))
		}
		refused(t, "noughts and a body", byte(r.Kind), uint64(r.Seq), append(make([]byte, 8), body...))
		refused(t, "a body twice", byte(r.Kind), uint64(r.Seq), slices.Concat(body, body))
		refused(t, "a record in it", byte(r.Kind), uint64(r.Seq), bytesOf(r))
	}
	for n := range 100 {
		b := sealed(1, 2, make([]byte, n))
		want := wanted(b)
		if (want.e == api.OK) != (n == 16) {
			t.Fatalf("a body of %d noughts: wanted error %d", n, want.e)
		}
		is(t, "a RecBase of noughts", b, want)
		refused(t, "a RecPending of noughts", 2, 2, make([]byte, n))
		refused(t, "a RecDone of noughts", 3, 2, make([]byte, n))
	}
}

// P14.1: ErrBytes of another kind, and of one kind's body under another kind.
func TestReadOfAnotherKind(t *testing.T) {
	for _, r := range append(few(), base(0, 0, 0), base(0, 1, 1), done(0, 1), pending(0, 0, ann())) {
		for kind := 1; kind < 256; kind++ {
			if kind != r.Kind {
				refused(t, "another kind", byte(kind), uint64(r.Seq), bodyOf(r))
			}
		}
	}
	for kind := 4; kind < 256; kind++ {
		refused(t, "another kind, no body", byte(kind), 0, nil)
		refused(t, "another kind, noughts", byte(kind), 0, make([]byte, 16))
	}
}

// P14.1: ErrBytes of a Seq, Gen, Count, Tick or Epoch that may not be, whatever it would be in fewer bits.
func TestReadOfNumbersThatMayNotBe(t *testing.T) {
	ticks := []uint64{1<<60 + 1, 1<<60 + 2, 1 << 61, 1 << 62, 1<<63 - 1, 1 << 63, 1<<63 + 1, 1<<63 + 1<<60, 1<<63 + 1<<62, greatest - 1, greatest}
	for _, n := range ticks {
		if n < 1<<63 {
			for _, r := range few() {
				refused(t, "seq", byte(r.Kind), n, bodyOf(r))
			}
		}
		refused(t, "gen", 1, 2, num(n, 3))
		refused(t, "tick", 2, 3, append(num(n), requestOf(ann())...))
	}
	for _, n := range append(ticks, 33, 34, 64, 256, 256+3, 1<<16+3, 1<<31, 1<<31+3, 1<<32, 1<<32+3, 1<<60) {
		refused(t, "count", 1, 2, num(3, n))
	}
	for _, n := range append(ticks, 0, 1<<30+1, 1<<31, 1<<31+3, 1<<32, 1<<32+1, 1<<32+3, 1<<60) {
		refused(t, "epoch", 3, 2, num(n))
	}
	for _, n := range ticks {
		refused(t, "all of them", 1, min(n, 1<<63-1), num(n, n))
	}
}

// P14.1: ErrBytes of a request that may not be, whatever update.Read says of it.
func TestReadOfRequestsThatMayNotBe(t *testing.T) {
	long := strings.Repeat("a", 33)
	for i, b := range [][]byte{
		request("", 1, 5, 0, 8, 9),
		request(long, 1, 5, 0, 8, 9),
		request(strings.Repeat("a", 500), 1, 5, 0, 8, 9),
		request(strings.Repeat("a", 4000), 1, 5, 0, 8, 9),
		request("ann", 0, 5, 0, 8, 9),
		request("ann", 1<<30+1, 5, 0, 8, 9),
		request("ann", 1<<32+1, 5, 0, 8, 9),
		request("ann", 1<<63+1, 5, 0, 8, 9),
		request("ann", greatest, 5, 0, 8, 9),
		request("ann", 1, 0, 0, 8, 9),
		request("ann", 1, 1<<61-1, 0, 8, 9),
		request("ann", 1, 1<<61+5, 0, 8, 9),
		request("ann", 1, greatest, 0, 8, 9),
		request("ann", 1, 5, 2, 8, 9),
		request("ann", 1, 5, 256, 8, 9),
		request("ann", 1, 5, 1<<32, 8, 9),
		request("ann", 1, 5, 1<<32+1, 8, 9),
		request("ann", 1, 5, 1<<63+1, 8, 9),
		request("ann", 1, 5, greatest, 8, 9),
		slices.Concat(num(2), []byte("ann"), num(1, 5, 0, 8, 9)),
		slices.Concat(num(4), []byte("ann"), num(1, 5, 0, 8, 9)),
		slices.Concat(num(32), []byte("ann"), num(1, 5, 0, 8, 9)),
		slices.Concat(num(1<<32+3), []byte("ann"), num(1, 5, 0, 8, 9)),
		slices.Concat(num(1<<63+3), []byte("ann"), num(1, 5, 0, 8, 9)),
		slices.Concat(num(greatest), []byte("ann"), num(1, 5, 0, 8, 9)),
		nil,
	} {
		if _, e := update.Read(b); e == api.OK {
			t.Fatalf("request %d may be", i)
		}
		refused(t, "a request that may not be", 2, 3, append(num(4), b...))
	}
}

// P14.1: each byte of a body changed in each way, each bit of a kind and seq, under a right checksum: Read tells what the chapter's words ask.
func TestReadOfOtherFieldsUnderARightSum(t *testing.T) {
	seen := map[api.Errno]int{}
	held := func(b []byte) {
		t.Helper()
		want := wanted(b)
		seen[want.e]++
		is(t, "another field, a right sum", b, want)
	}
	for _, r := range few() {
		body := bodyOf(r)
		for i := range body {
			for mask := 1; mask < 256; mask++ {
				b := bytes.Clone(body)
				b[i] ^= byte(mask)
				held(sealed(byte(r.Kind), uint64(r.Seq), b))
			}
		}
		for bit := range 63 {
			held(sealed(byte(r.Kind), uint64(r.Seq)^1<<bit, body))
		}
		for kind := 1; kind < 256; kind++ {
			held(sealed(byte(kind), uint64(r.Seq), body))
		}
	}
	for _, e := range []api.Errno{api.OK, api.ErrBytes} {
		if seen[e] < 500 {
			t.Errorf("error %d was asked for %d times only", e, seen[e])
		}
	}
}

// chanceRecord is a record by chance, mostly Right.
func chanceRecord(chance *rand.Rand) api.Record {
	tick := func() int64 { return chance.Int63() >> (3 + chance.Intn(61)) }
	u := ann()
	u.Name = strings.Repeat(string(rune('a'+chance.Intn(26))), chance.Intn(34))
	u.Version = chance.Intn(1<<31) >> chance.Intn(31)
	u.Key = chance.Uint64() >> chance.Intn(64)
	u.Class = chance.Intn(2)
	u.Sig = api.Sig{R: chance.Uint64(), S: chance.Uint64()}
	switch chance.Intn(3) {
	case 0:
		return base(tick(), tick(), chance.Intn(35))
	case 1:
		return pending(tick(), tick(), u)
	}
	return done(tick(), chance.Intn(1<<31)>>chance.Intn(31))
}

// P14.1: Read takes all arguments, and tells of each what the chapter's words ask; it and Put agree with Right.
func TestReadTakesAllBytes(t *testing.T) {
	chance := rand.New(rand.NewSource(14))
	seen := map[api.Errno]int{}
	for range 20000 {
		r := chanceRecord(chance)
		b := bytesOf(r)
		want := wanted(b)
		if whole := (read{r, len(b), api.OK}); journal.Right(r) != (want == whole) {
			t.Errorf("Right(%#v): %v", r, journal.Right(r))
		}
		if _, e := journal.Put(r); (e == api.OK) != (want.e == api.OK) {
			t.Errorf("Put(%#v): error %d", r, e)
		}
		switch chance.Intn(5) {
		case 0:
			b = b[:chance.Intn(len(b)+1)]
		case 1:
			b[chance.Intn(len(b))] ^= 1 << chance.Intn(8)
		case 2:
			body := bodyOf(r)
			b = sealed(byte(chance.Intn(5)), uint64(r.Seq), body[:chance.Intn(len(body)+1)])
		}
		want = wanted(b)
		seen[want.e]++
		is(t, "by chance", b, want)
	}
	for _, e := range []api.Errno{api.OK, api.ErrShort, api.ErrBytes, api.ErrSum} {
		if seen[e] < 500 {
			t.Errorf("error %d was asked for %d times only", e, seen[e])
		}
	}
}

// waiting is n that wait, each unlike the others, with a Seq and a Synced that say nothing of the file.
func waiting(n int) []api.Pending {
	var l []api.Pending
	for i := range n {
		u := goodUpdates()[i%len(goodUpdates())]
		u.Sig.R += uint64(i)
		l = append(l, api.Pending{Update: u, Tick: int64(1000 - 7*i), Seq: int64(5 * i), Synced: i%3 == 0})
	}
	return l
}

// fileOf is Base's file by the chapter's words.
func fileOf(gen, seq int64, l []api.Pending) []byte {
	b := bytesOf(base(seq, gen, len(l)))
	for i, p := range l {
		b = append(b, bytesOf(pending(seq+1+int64(i), p.Tick, p.Update))...)
	}
	return b
}

// P14.2: bytes that were worked out apart from the program, by the chapters' words.
func TestBaseIsThatOfTheChapter(t *testing.T) {
	u := api.Update{Name: "ann", Version: 1, Key: 7, Class: 1, Sig: api.Sig{R: 8, S: 9}}
	v := api.Update{Name: "bob", Version: 258, Key: 5, Sig: api.Sig{R: 10, S: 11}}
	want := "1000000001090000000000000003000000000000000200000000000000a9ed1568f6338175" +
		"3b000000020a0000000000000005000000000000000300000000000000616e6e010000000000000007000000000000000100000000000000080000000000000009000000000000005987fd14648b2299" +
		"3b000000020b0000000000000006000000000000000300000000000000626f620201000000000000050000000000000000000000000000000a000000000000000b000000000000005146ef5bbf2d4cb3"
	for _, l := range [][]api.Pending{
		{{Update: u, Tick: 5}, {Update: v, Tick: 6}},
		{{Update: u, Tick: 5, Seq: 77, Synced: true}, {Update: v, Tick: 6, Seq: -3, Synced: true}},
		{{Update: u, Tick: 5, Seq: math.MaxInt64}, {Update: v, Tick: 6, Seq: math.MinInt64, Synced: true}},
	} {
		if b := journal.Base(3, 9, l); hex.EncodeToString(b) != want {
			t.Errorf("Base(3, 9, %#v): %s", l, short(b))
		}
	}
	none := "10000000010000000000000000" + "01000000000000000000000000000000"
	for _, l := range [][]api.Pending{nil, {}} {
		if b := journal.Base(1, 0, l); len(b) != 37 || hex.EncodeToString(b[:29]) != none || !bytes.Equal(b, bytesOf(base(0, 1, 0))) {
			t.Errorf("Base of none: %s", short(b))
		}
	}
}

// P14.2: a RecBase, then each of those that wait, in their order, each Seq one more; up to Capacity, and up to the last Seq that may be.
func TestBaseTellsAllThatWait(t *testing.T) {
	for n := range 33 {
		l := waiting(n)
		for _, gen := range goodTicks() {
			for _, seq := range []int64{0, 1, 255, 1 << 32, 1<<60 - 32} {
				if b := journal.Base(gen, seq, l); !bytes.Equal(b, fileOf(gen, seq, l)) {
					t.Errorf("Base(%d, %d, %d that wait): %s", gen, seq, n, short(b))
				}
			}
		}
		last := int64(1<<60 - n)
		b := journal.Base(1, last, l)
		if !bytes.Equal(b, fileOf(1, last, l)) {
			t.Errorf("Base(1, %d, %d that wait): %s", last, n, short(b))
		}
		if b := journal.Base(1, last+1, l); len(b) != 0 {
			t.Errorf("Base(1, %d, %d that wait): %s, want nothing", last+1, n, short(b))
		}
	}
}

// P14.2: two that are alike, or of one name and in no order, stand there as they came.
func TestBaseKeepsTheOrder(t *testing.T) {
	a := api.Pending{Update: ann(), Tick: 9}
	b := api.Pending{Update: versioned(1), Tick: 0}
	c := api.Pending{Update: named("aaa"), Tick: 1 << 60}
	for _, l := range [][]api.Pending{{a, a}, {a, b, c}, {c, b, a}, {b, a, b, a, c}} {
		if got := journal.Base(2, 3, l); !bytes.Equal(got, fileOf(2, 3, l)) {
			t.Errorf("Base(2, 3, %#v): %s", l, short(got))
		}
	}
}

// P14.2: nothing, if one of the records isn't Right, wherever it stands: Gen, Seq, a Seq behind it, Count, an Update, a Tick.
func TestBaseOfWhatIsntRight(t *testing.T) {
	nothing := func(what string, gen, seq int64, l []api.Pending) {
		t.Helper()
		if b := journal.Base(gen, seq, l); len(b) != 0 {
			t.Errorf("%s: Base(%d, %d, %d that wait): %s, want nothing", what, gen, seq, len(l), short(b))
		}
	}
	for _, n := range badTicks() {
		for _, k := range []int{0, 1, 2, 32} {
			nothing("gen", n, 1, waiting(k))
			nothing("seq", 1, n, waiting(k))
			nothing("both", n, n, waiting(k))
		}
	}
	for _, k := range []int{33, 34, 64, 256, 288, 1 << 16} {
		nothing("count", 1, 1, make([]api.Pending, k))
		nothing("count", 1, 1, slices.Repeat(waiting(1), k))
	}
	for _, k := range []int{1, 2, 3, 32} {
		for at := range k {
			for _, u := range badUpdates() {
				l := waiting(k)
				l[at].Update = u
				nothing("update", 1, 1, l)
			}
			for _, n := range badTicks() {
				l := waiting(k)
				l[at].Tick = n
				nothing("tick", 1, 1, l)
			}
		}
		for n := range k {
			nothing("a seq behind it", 1, 1<<60-int64(n), waiting(k))
		}
	}
}

// P14.2: what Base writes is read again, one behind another, up to its end.
func TestBaseIsReadBack(t *testing.T) {
	for n := range 33 {
		l := waiting(n)
		b := journal.Base(7, 20, l)
		is(t, "the first one", b, read{base(20, 7, n), 37, api.OK})
		_, at, _ := journal.Read(b)
		for i, p := range l {
			got := readOf(b[at:])
			if got.r != pending(21+int64(i), p.Tick, p.Update) || got.size < 1 || got.e != api.OK {
				t.Fatalf("the one at %d of %d: %#v", i, n, got)
			}
			at += got.size
		}
		none(t, "the end", b[at:], api.ErrShort)
	}
}

// DOC.md's rules 3 and 8: arguments stay as they are and aren't kept, answers are new memory, the same is told again.
func TestArgumentsAndAnswersAreApart(t *testing.T) {
	for _, r := range few() {
		a, _ := journal.Put(r)
		b, _ := journal.Put(r)
		if spoil(a); !bytes.Equal(b, bytesOf(r)) {
			t.Errorf("an answer of Put was changed: another one is %s", short(b))
		}
		if c, _ := journal.Put(r); !bytes.Equal(c, bytesOf(r)) {
			t.Errorf("an answer of Put was changed: the next one is %s", short(c))
		}
		text := slices.Concat(bytesOf(r), []byte("more"))
		whole := spare(text)
		got := readOf(whole)
		if !unchanged(whole, text) {
			t.Errorf("what Read was handed is now %s", short(whole))
		}
		if spoil(whole); got != (read{r, len(text) - 4, api.OK}) {
			t.Errorf("the bytes were changed: what Read answered is %#v", got)
		}
	}
	l := slices.Concat(waiting(3), waiting(5))
	was := slices.Clone(l)
	b := journal.Base(1, 2, l[:3])
	if !slices.Equal(l, was) {
		t.Errorf("what Base was handed is now %#v", l)
	}
	clear(l)
	if !bytes.Equal(b, fileOf(1, 2, was[:3])) {
		t.Errorf("the list was changed: what Base answered is %s", short(b))
	}
	spoil(b)
	if c := journal.Base(1, 2, was[:3]); !bytes.Equal(c, fileOf(1, 2, was[:3])) {
		t.Errorf("an answer of Base was changed: the next one is %s", short(c))
	}
}

// written puts records on a disk, one Append each.
func written(t *testing.T, l ...api.Record) *disk.Disk {
	t.Helper()
	d := disk.New(10000)
	for _, r := range l {
		b, e := journal.Put(r)
		if e != api.OK || d.Append(api.FileA, b) != api.OK {
			t.Fatalf("%#v can't be written", r)
		}
	}
	return d
}

// P14.3: what is written, and sure, ahead of a promise is all that the promise needs, whatever the disk forgets then.
func TestWhatIsWrittenCanBePromised(t *testing.T) {
	const secret = 9
	for _, u := range goodUpdates() {
		for _, tick := range []int64{0, 5, 1 << 32, 1<<60 - 40} {
			was, _ := promise.Make(secret, update.Entry(u), tick)
			first, r := base(0, 1, 0), pending(1, tick, u)
			d := written(t, first, r)
			d.Sync(api.FileA)
			d.Append(api.FileA, bytesOf(done(2, 1)))
			d.Crash(0, 0)
			b := d.Read(api.FileA)
			_, at, _ := journal.Read(b)
			got := readOf(b[at:])
			if p, e := promise.Make(secret, update.Entry(got.r.Update), got.r.Tick); got.r != r || p != was || e != api.OK || !promise.Check(sigs.Public(secret), p) {
				t.Errorf("%#v: what is read is %#v, the promise %#v", r, got, p)
			}
			none(t, "what wasn't sure", b[at+got.size:], api.ErrShort)
		}
	}
}

// P14.3: of what was written, but isn't sure, nothing is told that wasn't written: it is there whole, or not at all.
func TestWhatIsTornIsNotPromised(t *testing.T) {
	first, r := base(0, 1, 0), pending(1, 5, ann())
	size, whole := len(bytesOf(first)), len(bytesOf(r))
	for torn := range whole + 2 {
		for mask := range uint64(4) {
			d := written(t, first, r)
			d.Crash(mask, torn)
			b := d.Read(api.FileA)
			switch {
			case mask == 0 || mask == 1 && torn < size:
				none(t, "nothing, or a part of the first one", b, api.ErrShort)
			case mask == 1:
				is(t, "the first one", b, read{first, size, api.OK})
				none(t, "and no more", b[size:], api.ErrShort)
			case mask == 2:
				none(t, "noughts ahead", b, api.ErrBytes)
			case torn < whole:
				none(t, "a part of the second one", b[size:], api.ErrShort)
			default:
				is(t, "both", b[size:], read{r, whole, api.OK})
			}
		}
	}
}
