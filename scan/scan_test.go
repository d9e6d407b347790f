package scan_test

import (
	"bytes"
	"fmt"
	"math"
	"math/rand"
	"slices"
	"strings"
	"testing"

	"postmark/api"
	"postmark/disk"
	"postmark/frame"
	"postmark/journal"
	"postmark/scan"
)

// ann is an update that is Right, each field unlike the others.
func ann() api.Update {
	return api.Update{Name: "ann", Version: 258, Key: 5, Class: api.Urgent, Sig: api.Sig{R: 8, S: 9}}
}

// updates: some that are Right, each unlike the others.
func updates() []api.Update {
	return []api.Update{
		ann(),
		{Name: "a", Version: 1, Key: 1},
		{Name: "ann", Version: 259, Key: 5, Class: api.Urgent, Sig: api.Sig{R: 8, S: 9}},
		{Name: strings.Repeat("\xff", 32), Version: 1 << 30, Key: 1<<61 - 2, Sig: api.Sig{R: math.MaxUint64, S: 1 << 63}},
		{Name: "\x00", Version: 7, Key: 1 << 40, Class: api.Plain, Sig: api.Sig{S: 1}},
	}
}

func base(seq, gen int64, count int) api.Record {
	return api.Record{Kind: api.RecBase, Seq: seq, Gen: gen, Count: count}
}
func pending(seq, tick int64, u api.Update) api.Record {
	return api.Record{Kind: api.RecPending, Seq: seq, Tick: tick, Update: u}
}
func done(seq int64, epoch int) api.Record {
	return api.Record{Kind: api.RecDone, Seq: seq, Epoch: epoch}
}

// waits is a RecPending unlike those of other seqs.
func waits(seq int64) api.Record {
	l := updates()
	u := l[((seq%5)+5)%5]
	u.Sig.R += uint64(seq)
	return pending(seq, 1000-seq%1000, u)
}

// row is n records of all kinds, in no order but their Seq's, which begins at seq.
func row(seq int64, n int) []api.Record {
	var l []api.Record
	for i := range n {
		at := seq + int64(i)
		l = append(l, []api.Record{waits(at), base(at, at/2, i%33), done(at, 1+i), waits(at), done(at, 1+i%3)}[(i*i+int(seq%7))%5])
	}
	return l
}

// put is the bytes of records, one behind another.
func put(t *testing.T, l ...api.Record) []byte {
	t.Helper()
	var b []byte
	for _, r := range l {
		text, e := journal.Put(r)
		if e != api.OK {
			t.Fatalf("%#v can't be written: error %d", r, e)
		}
		b = append(b, text...)
	}
	return b
}

// framed is a frame that is whole, whatever a journal says of it.
func framed(t *testing.T, kind int, seq int64, body []byte) []byte {
	t.Helper()
	b, e := frame.Put(kind, seq, body)
	if e != api.OK {
		t.Fatalf("frame of kind %d, seq %d: error %d", kind, seq, e)
	}
	return b
}

// ends are where each record of l ends in put's bytes.
func ends(t *testing.T, l []api.Record) []int {
	t.Helper()
	var at []int
	for i := range l {
		at = append(at, len(put(t, l[:i+1]...)))
	}
	return at
}

// short is what v is in a line that can be read.
func short(v any) string {
	s := strings.ToValidUTF8(fmt.Sprintf("%+v", v), "?")
	if len(s) > 300 {
		return s[:300] + ".."
	}
	return s
}

// says fails the test unless Records tells l of b, and that they have size bytes.
func says(t *testing.T, what string, b []byte, l []api.Record, size int) {
	t.Helper()
	got, n := scan.Records(b)
	if !slices.Equal(got, l) || n != size {
		t.Errorf("%s: Records of %d bytes: %d of %d records, %d bytes, want %d: %s, want %s", what, len(b), len(got), len(l), n, size, short(got), short(l))
	}
}

// still fails the test unless Records tells just l of l's bytes and what stands behind them.
func still(t *testing.T, what string, l []api.Record, behind ...[]byte) {
	t.Helper()
	b := put(t, l...)
	says(t, what, slices.Concat(append([][]byte{b}, behind...)...), l, len(b))
}

// whole is all that Whole tells.
type whole struct {
	gen     int64
	waiting []api.Pending
	ok      bool
}

func wholeOf(l []api.Record) whole {
	gen, waiting, ok := scan.Whole(l)
	return whole{gen, waiting, ok}
}

func (w whole) like(v whole) bool {
	return w.gen == v.gen && w.ok == v.ok && slices.Equal(w.waiting, v.waiting)
}

// pendings is what a list of RecPendings is to tell.
func pendings(l ...api.Record) []api.Pending {
	var out []api.Pending
	for _, r := range l {
		out = append(out, api.Pending{Update: r.Update, Tick: r.Tick, Seq: r.Seq, Synced: true})
	}
	return out
}

// holds fails the test unless l is whole, with that Gen and the Pendings of those records.
func holds(t *testing.T, what string, l []api.Record, gen int64, waiting ...api.Record) {
	t.Helper()
	want := whole{gen, pendings(waiting...), true}
	if got := wholeOf(l); !got.like(want) {
		t.Errorf("%s: Whole(%s): %s, want %s", what, short(l), short(got), short(want))
	}
}

// lacks fails the test unless l isn't whole.
func lacks(t *testing.T, what string, l []api.Record) {
	t.Helper()
	if got := wholeOf(l); !got.like(whole{}) {
		t.Errorf("%s: Whole(%s): %s, want nothing", what, short(l), short(got))
	}
}

// chosen fails the test unless Choose tells n and ok of a and b.
func chosen(t *testing.T, what string, a, b []byte, n int, ok bool) {
	t.Helper()
	if got, whole := scan.Choose(a, b); got != n || whole != ok {
		t.Errorf("%s: Choose: %d, %v, want %d, %v", what, got, whole, n, ok)
	}
}

// flawed is r's bytes in ways in which they aren't r's, but the frame's length is whole.
func flawed(t *testing.T, r api.Record) [][]byte {
	t.Helper()
	var l [][]byte
	b := put(t, r)
	for i := range b {
		other := bytes.Clone(b)
		other[i] ^= 1
		l = append(l, other)
	}
	_, _, body, _, _ := frame.Read(b)
	for _, kind := range []int{4, 5, 127, 128, 255} {
		l = append(l, framed(t, kind, r.Seq, body))
	}
	return append(l, framed(t, r.Kind, r.Seq, nil), framed(t, r.Kind, r.Seq, append(body, 0)), framed(t, r.Kind, r.Seq, body[1:]))
}

// P15.1: all records that stand one behind another, of all kinds, and how many bytes they have; what stands first may be of any kind and Seq.
func TestRecordsTellsAll(t *testing.T) {
	for n := range 40 {
		for _, seq := range []int64{0, 1, 2, 255, 1 << 32, 1<<60 + 1 - int64(n)} {
			l := row(seq, n)
			still(t, "a row", l)
		}
	}
	for _, r := range []api.Record{base(0, 0, 0), base(1<<60, 1<<60, 32), base(7, 3, 5), waits(0), waits(9), waits(1 << 60), done(0, 1), done(8, 3), done(1<<60, 1<<30)} {
		still(t, "the first one", []api.Record{r})
	}
	still(t, "one kind", []api.Record{waits(3), waits(4), waits(5)})
	still(t, "one kind", []api.Record{done(3, 9), done(4, 9), done(5, 9)})
	still(t, "one kind", []api.Record{base(3, 9, 1), base(4, 9, 1), base(5, 8, 1)})
	still(t, "many segments", row(1000, 3000))
}

// P15.1 and the chapter's example (noughts): where no record stands at b's beginning there is none, and no bytes.
func TestRecordsOfNone(t *testing.T) {
	good := put(t, row(0, 5)...)
	for _, b := range [][]byte{nil, {}, {0}, {1}, make([]byte, 12), make([]byte, 13), make([]byte, 30), make([]byte, 5000), bytes.Repeat([]byte{0xff}, 100), []byte("no journal"), good[1:], append(make([]byte, 1), good...), append(make([]byte, 13), good...)} {
		says(t, "none", b, nil, 0)
	}
	for _, b := range flawed(t, base(0, 0, 0)) {
		says(t, "none", b, nil, 0)
		says(t, "none", append(b, put(t, base(1, 0, 0))...), nil, 0)
	}
}

// P15.1: up to the first place where Seq isn't one more, whatever stands behind it.
func TestRecordsEndsWhereSeqDoes(t *testing.T) {
	for _, n := range []int{1, 2, 7} {
		for _, first := range []int64{0, 3, 1 << 32, 1<<60 - 20} {
			l := row(first, n)
			last := first + int64(n) - 1
			for _, seq := range []int64{0, 1, 2, first - 1, first, last - 1, last, last + 2, last + 3, last + 256, last + 257, last + 1 + 1<<32, last + 1 - 1<<32, 1<<60 - 1, 1 << 60} {
				if seq == last+1 || seq < 0 || seq > 1<<60 {
					continue
				}
				for _, r := range []api.Record{base(seq, 2, 0), waits(seq), done(seq, 5)} {
					still(t, "another Seq", l, put(t, r))
					still(t, "another Seq, then the right one", l, put(t, r, waits(last+1), waits(last+2)))
					still(t, "another Seq, and a row of its own", l, put(t, r), put(t, row(min(seq+1, 1<<60-9), 9)...))
				}
			}
			still(t, "the right Seq", append(l, done(last+1, 9)), put(t, done(last+1, 9)))
		}
	}
	still(t, "itself again", row(5, 3), put(t, row(5, 3)...))
	still(t, "behind the last Seq", []api.Record{waits(1 << 60)}, put(t, waits(0)))
	still(t, "behind the last Seq", []api.Record{waits(1 << 60)}, framed(t, api.RecDone, 1<<60+1, []byte{1, 0, 0, 0, 0, 0, 0, 0}))
}

// P15.1: up to the first place where journal.Read has an error of any kind, whatever stands behind it.
func TestRecordsEndsWhereReadHasAnError(t *testing.T) {
	l := row(20, 6)
	for at := range l {
		for _, bad := range flawed(t, l[at]) {
			if _, _, e := journal.Read(bad); e == api.OK {
				t.Fatalf("%q is a record", bad)
			}
			still(t, "a flaw", l[:at], bad)
			still(t, "a flaw", l[:at], bad, put(t, l[at:]...))
			still(t, "a flaw", l[:at], bad, put(t, l[at+1:]...))
		}
	}
	for _, b := range [][]byte{{0}, {9, 9}, make([]byte, 13), make([]byte, 100), bytes.Repeat([]byte{0xff}, 100), []byte("and so on, and so on, and so on"), framed(t, api.RecEpoch, 26, nil), framed(t, 255, 26, []byte("abc")), framed(t, api.RecDone, 26, make([]byte, 8))} {
		still(t, "rubbish", l, b)
		still(t, "rubbish", l, b, put(t, row(26, 3)...))
	}
}

// P15.1 and P15.3: what is cut off anywhere ends there, though the rest of it lies in the room behind.
func TestRecordsOfWhatIsCutOff(t *testing.T) {
	l := row(7, 9)
	b := put(t, l...)
	at := append([]int{0}, ends(t, l)...)
	for n := range len(b) + 1 {
		k := 0
		for k < len(l) && at[k+1] <= n {
			k++
		}
		says(t, "cut off", b[:n], l[:k], at[k])
		says(t, "cut off, and noughts", append(bytes.Clone(b[:n]), make([]byte, 200)...), l[:k], at[k])
	}
}

// reference is Records by the chapter's words: it takes bytes off the front.
func reference(b []byte) ([]api.Record, int) {
	var l []api.Record
	rest := bytes.Clone(b)
	for {
		r, n, e := journal.Read(rest)
		if e != api.OK {
			break
		}
		if k := len(l); k > 0 && r.Seq-l[k-1].Seq != 1 {
			break
		}
		l, rest = append(l, r), bytes.Clone(rest[n:])
	}
	return l, len(b) - len(rest)
}

// wanted is Whole by the chapter's words: it counts those behind the RecBase down.
func wanted(l []api.Record) whole {
	if len(l) == 0 || l[0].Kind != 1 {
		return whole{}
	}
	left := l[0].Count
	for _, r := range l[1:] {
		if left <= 0 {
			break
		}
		if r.Kind != 2 {
			return whole{}
		}
		left--
	}
	if left > 0 {
		return whole{}
	}
	w := whole{gen: l[0].Gen, ok: true}
	for _, r := range l {
		if r.Kind == 2 {
			w.waiting = append(w.waiting, pendings(r)...)
		}
	}
	return w
}

// chanceJournal is a journal by chance, mostly whole, with what may befall it.
func chanceJournal(t *testing.T, chance *rand.Rand) []byte {
	seq, count := int64(chance.Intn(5)), chance.Intn(4)
	l := []api.Record{base(seq, int64(chance.Intn(4)), count)}
	for i := range chance.Intn(7) {
		seq++
		switch {
		case chance.Intn(12) == 0:
			seq += int64(chance.Intn(3) - 1)
		case chance.Intn(12) == 0:
			l = append(l, base(seq, 9, chance.Intn(3)))
			continue
		}
		if i >= count && chance.Intn(2) == 0 {
			l = append(l, done(max(seq, 0), 1+i))
		} else {
			l = append(l, waits(max(seq, 0)))
		}
	}
	if chance.Intn(8) == 0 {
		l = l[1:]
	}
	b := put(t, l...)
	switch n := len(b); {
	case n > 0 && chance.Intn(4) == 0:
		b = b[:chance.Intn(n+1)]
	case n > 0 && chance.Intn(6) == 0:
		b[chance.Intn(n)] ^= 1 << chance.Intn(8)
	case chance.Intn(6) == 0:
		b = append(b, make([]byte, chance.Intn(40))...)
	}
	return b
}

// P15.1 and P15.2: of journals by chance all calls tell what the chapter's words ask.
func TestAllCallsOnJournalsByChance(t *testing.T) {
	chance := rand.New(rand.NewSource(15))
	seen := map[[2]int]int{}
	for range 4000 {
		var w [2]whole
		var b [2][]byte
		for i := range b {
			b[i] = chanceJournal(t, chance)
			l, size := reference(b[i])
			says(t, "by chance", b[i], l, size)
			w[i] = wanted(l)
			if got := wholeOf(l); !got.like(w[i]) {
				t.Errorf("by chance: Whole(%s): %s, want %s", short(l), short(got), short(w[i]))
			}
		}
		n := 0
		if w[1].ok && (!w[0].ok || w[1].gen > w[0].gen) {
			n = 1
		}
		ok := w[0].ok || w[1].ok
		chosen(t, "by chance", b[0], b[1], n, ok)
		if ok {
			seen[[2]int{n, 1}]++
		} else {
			seen[[2]int{n, 0}]++
		}
	}
	for _, k := range [][2]int{{0, 0}, {0, 1}, {1, 1}} {
		if seen[k] < 300 {
			t.Errorf("%v was asked for %d times only", k, seen[k])
		}
	}
}

// P15.2: l begins with a RecBase, and with nothing else.
func TestWholeBeginsWithABase(t *testing.T) {
	lacks(t, "nothing", nil)
	lacks(t, "nothing", []api.Record{})
	lacks(t, "zeros", []api.Record{{}})
	holds(t, "a RecBase", []api.Record{base(1, 7, 0)}, 7)
	for _, first := range []api.Record{{}, waits(4), done(4, 1), {Kind: -1}, {Kind: api.RecEpoch}, {Kind: 257, Gen: 7}, {Kind: math.MaxInt}, {Kind: 1<<32 + 1, Gen: 7}, {Kind: math.MinInt}} {
		lacks(t, "another kind", []api.Record{first})
		lacks(t, "another kind, then a RecBase", []api.Record{first, base(5, 7, 0)})
		lacks(t, "another kind, then a RecBase", []api.Record{first, base(5, 7, 1), waits(6)})
		first.Gen, first.Count = 7, 0
		lacks(t, "another kind with a Gen", []api.Record{first, waits(5)})
	}
}

// P15.2: the Count records behind it are there, all of them RecPending; below 0 it counts as 0.
func TestWholeHasAllThatItCounts(t *testing.T) {
	others := []api.Record{{}, done(0, 1), base(0, 3, 0), {Kind: api.RecEpoch}, {Kind: -2}, {Kind: 258}, {Kind: 1<<32 + 2}}
	for _, there := range []int{0, 1, 2, 3, 31, 32, 33, 40} {
		var l []api.Record
		for i := range there {
			l = append(l, waits(int64(2+i)))
		}
		for _, count := range []int{math.MinInt, math.MinInt + 1, -1 << 32, -there - 1, -there, -2, -1, 0, 1, 2, there - 1, there} {
			if count <= there {
				holds(t, "all there", append([]api.Record{base(1, 7, count)}, l...), 7, l...)
			}
		}
		for _, count := range []int{there + 1, there + 2, there + 256, 1 << 31, 1 << 32, 1<<32 + there, 1 << 62, math.MaxInt - 1, math.MaxInt} {
			lacks(t, "not all there", append([]api.Record{base(1, 7, count)}, l...))
		}
		for at := range there {
			for _, other := range others {
				with := slices.Concat(l[:at], []api.Record{other}, l[at:])
				lacks(t, "another kind among them", append([]api.Record{base(1, 7, there)}, with...))
				lacks(t, "another kind among them", append([]api.Record{base(1, 7, at+1)}, with...))
				lacks(t, "another kind in place of one", slices.Concat([]api.Record{base(1, 7, there)}, l[:at], []api.Record{other}, l[at+1:]))
				holds(t, "another kind behind them", append([]api.Record{base(1, 7, at)}, with...), 7, l...)
			}
		}
	}
	room := []api.Record{base(1, 7, 2), waits(2), waits(3)}
	lacks(t, "one in the room behind", room[:2])
	lacks(t, "all in the room behind", room[:1])
	for _, other := range others {
		for _, count := range []int{-5, -1, 0} {
			holds(t, "none counted", []api.Record{base(1, 7, count), other}, 7)
			holds(t, "none counted", []api.Record{base(1, 7, count), other, waits(3)}, 7, waits(3))
		}
		lacks(t, "as many, but of another kind", []api.Record{base(1, 7, 1), other})
		lacks(t, "as many, but of another kind", []api.Record{base(1, 7, 2), waits(2), other, waits(4)})
	}
}

// P15.2: its own Gen, and not a later one's.
func TestWholeTellsGen(t *testing.T) {
	for _, gen := range []int64{0, 1, 2, 255, 1 << 32, 1 << 60, 1<<60 + 1, math.MaxInt64, -1, -7, math.MinInt64} {
		holds(t, "Gen", []api.Record{base(1, gen, 0)}, gen)
		holds(t, "Gen", []api.Record{base(1, gen, 1), waits(2), done(3, 1)}, gen, waits(2))
		holds(t, "a later Gen", []api.Record{base(1, gen, 1), waits(2), base(3, 9, 5)}, gen, waits(2))
		holds(t, "a later Gen", []api.Record{base(1, 9, 0), base(2, gen, 1)}, 9)
		strange := api.Record{Kind: api.RecBase, Seq: -4, Gen: gen, Update: ann(), Tick: 5, Epoch: 6}
		holds(t, "other fields", []api.Record{strange, waits(2)}, gen, waits(2))
	}
}

// P15.2: of all RecPendings, in l's order, Update, Tick and Seq as they are, and Synced; of the others nothing.
func TestWholeTellsAllThatWait(t *testing.T) {
	a, b, c := waits(9), waits(2), waits(5)
	twice := a
	twice.Seq = 3
	for _, l := range [][]api.Record{{a}, {a, b}, {b, a}, {a, b, c}, {c, b, a}, {a, a}, {a, twice}, {b, a, b, twice, c, c}} {
		for count := range len(l) + 1 {
			holds(t, "their order", append([]api.Record{base(1, 7, count)}, l...), 7, l...)
			mixed := append([]api.Record{base(1, 7, count)}, l[:count]...)
			for _, r := range l[count:] {
				mixed = append(mixed, done(4, 1), r, base(6, 8, 3), api.Record{Kind: 99, Update: ann(), Tick: 3})
			}
			holds(t, "others between them", mixed, 7, l...)
		}
	}
	for _, n := range []int64{0, 1, -1, 1 << 32, 1 << 60, 1<<60 + 1, math.MaxInt64, math.MinInt64} {
		for _, u := range append(updates(), api.Update{}, api.Update{Name: strings.Repeat("x", 100), Version: -1, Key: math.MaxUint64, Class: 9}, api.Update{Version: math.MinInt}) {
			for _, r := range []api.Record{pending(n, 3, u), pending(3, n, u), {Kind: api.RecPending, Seq: 3, Tick: 4, Update: u, Gen: n, Count: 2, Epoch: 5}} {
				holds(t, "counted", []api.Record{base(1, 7, 1), r}, 7, r)
				holds(t, "behind", []api.Record{base(1, 7, 0), done(2, 1), r}, 7, r)
			}
		}
	}
}

// P15.2: what journal.Base writes is whole, up to Capacity, and tells all that was handed to it.
func TestWholeOfABase(t *testing.T) {
	for n := range api.Capacity + 1 {
		var l []api.Pending
		var want []api.Record
		for i := range n {
			r := waits(int64(21 + i))
			l = append(l, api.Pending{Update: r.Update, Tick: r.Tick, Seq: 77})
			want = append(want, r)
		}
		b := journal.Base(3, 20, l)
		records, size := scan.Records(b)
		if len(records) != n+1 || size != len(b) {
			t.Errorf("Base of %d: %d records, %d of %d bytes", n, len(records), size, len(b))
		}
		holds(t, "Base", records, 3, want...)
		chosen(t, "Base", b, nil, 0, true)
		chosen(t, "Base", nil, b, 1, true)
	}
}

// journals: some that are whole, each of that Gen.
func journals(t *testing.T, gen int64) [][]byte {
	t.Helper()
	return [][]byte{
		put(t, base(0, gen, 0)),
		put(t, base(1<<60, gen, 0)),
		put(t, base(5, gen, 1), waits(6)),
		put(t, base(5, gen, 0), done(6, 1), waits(7), base(8, 1<<59, 4)),
		append(put(t, base(5, gen, 2), waits(6), waits(7)), put(t, waits(8))[:40]...),
		append(put(t, base(9, gen, 0), waits(10)), make([]byte, 60)...),
		append(put(t, base(9, gen, 0)), put(t, base(9, 1<<60, 0))...),
	}
}

// broken: some that aren't whole, though each has a RecBase of that Gen somewhere.
func broken(t *testing.T, gen int64) [][]byte {
	t.Helper()
	changed := put(t, base(5, gen, 2), waits(6), waits(7))
	changed[len(changed)-1] ^= 1
	return [][]byte{
		put(t, base(5, gen, 0))[:36],
		put(t, base(5, gen, 1)),
		put(t, base(5, gen, 32), waits(6)),
		put(t, base(5, gen, 1), waits(7)),
		put(t, base(5, gen, 1), done(6, 1)),
		put(t, base(5, gen, 1), done(6, 1), waits(7)),
		put(t, waits(4), base(5, gen, 0)),
		put(t, done(4, 1), base(5, gen, 0)),
		append(make([]byte, 13), put(t, base(5, gen, 0))...),
		put(t, base(5, gen, 1), waits(6))[:60],
		changed,
	}
}

// P15.2: the greater Gen, of like ones the first; how long they are, and their Seqs, say nothing.
func TestChooseTakesTheGreaterGen(t *testing.T) {
	gens := []int64{0, 1, 2, 255, 256, 1 << 31, 1 << 32, 1<<32 + 1, 1<<60 - 1, 1 << 60}
	for i, g := range gens {
		for j, h := range gens {
			for _, a := range journals(t, g) {
				for _, b := range journals(t, h) {
					n := 0
					if j > i {
						n = 1
					}
					chosen(t, "both whole", a, b, n, true)
				}
			}
		}
	}
}

// P15.2: one that isn't whole is not chosen, whatever its Gen; 0, false, if neither is.
func TestChooseTakesWhatIsWhole(t *testing.T) {
	rubbish := [][]byte{nil, {}, {0}, make([]byte, 13), make([]byte, 100), bytes.Repeat([]byte{0xff}, 60), []byte("no journal at all"), put(t, waits(6)), put(t, done(6, 1), done(7, 2))}
	for _, g := range []int64{0, 1, 5, 1 << 60} {
		for _, h := range []int64{0, 1, 5, 1 << 60} {
			bad := append(broken(t, h), rubbish...)
			for i, a := range bad {
				for _, good := range journals(t, g) {
					chosen(t, "the first is whole", good, a, 0, true)
					chosen(t, "the second is whole", a, good, 1, true)
				}
				chosen(t, "neither", a, bad[(i*7+3)%len(bad)], 0, false)
				chosen(t, "neither", a, a, 0, false)
			}
		}
	}
}

// P15.3: whatever an Append leaves that wasn't sure, all that was sure ahead of it is told, and nothing that wasn't written; what stands behind a write that is lost isn't told, for it can't be told what was there.
func TestATornEndIsNoEnd(t *testing.T) {
	sure := []api.Record{base(5, 2, 1), waits(6), waits(7)}
	open := []api.Record{waits(8), done(9, 4), waits(10)}
	sizes := []int{0}
	for _, r := range open {
		sizes = append(sizes, len(put(t, r)))
	}
	for mask := range uint64(8) {
		for torn := range 110 {
			d := disk.New(10000)
			d.Append(api.FileA, put(t, sure...))
			d.Sync(api.FileA)
			for _, r := range open {
				d.Append(api.FileA, put(t, r))
			}
			d.Crash(mask, torn)
			// As many as are kept from the first on, the last one kept only if it isn't torn.
			kept := 0
			for kept < 3 && mask>>kept&1 == 1 && (mask>>(kept+1) != 0 || torn >= sizes[kept+1]) {
				kept++
			}
			l := slices.Concat(sure, open[:kept])
			b := d.Read(api.FileA)
			says(t, "torn", b, l, len(put(t, l...)))
			holds(t, "torn", l, 2, slices.DeleteFunc(slices.Clone(l), func(r api.Record) bool { return r.Kind != api.RecPending })...)
			chosen(t, "torn", b, put(t, base(9, 1, 0)), 0, true)
			chosen(t, "torn", put(t, base(9, 1, 0)), b, 1, true)
		}
	}
}

// P15.3: a journal that was torn while it was written anew isn't taken for the elder one, till all that it begins with is there.
func TestATornBeginningIsNone(t *testing.T) {
	elder := put(t, base(5, 2, 1), waits(6), done(7, 1), waits(8))
	newer := journal.Base(3, 9, pendings(waits(6), waits(8)))
	for torn := range len(newer) + 3 {
		d := disk.New(10000)
		d.Append(api.FileB, elder)
		d.Sync(api.FileB)
		d.Append(api.FileA, newer)
		d.Crash(1, torn)
		n := 1
		if torn >= len(newer) {
			n = 0
		}
		chosen(t, "written anew", d.Read(api.FileA), d.Read(api.FileB), n, true)
		chosen(t, "written anew", d.Read(api.FileB), d.Read(api.FileA), 1-n, true)
	}
}

// spare is b with room behind it that is filled with '#'.
func spare(b []byte) []byte {
	return slices.Concat(b, bytes.Repeat([]byte{'#'}, 64))[:len(b)]
}

// unchanged tells whether b is still spare(was), its room included.
func unchanged(b, was []byte) bool {
	return bytes.Equal(b[:len(was)+64], slices.Concat(was, bytes.Repeat([]byte{'#'}, 64)))
}

// DOC.md's rules 3 and 8: arguments stay as they are and aren't kept, answers are new memory, the same is told again.
func TestArgumentsAndAnswersAreApart(t *testing.T) {
	l := append([]api.Record{base(1, 7, 2)}, waits(2), waits(3), done(4, 1), waits(5))
	text := append(put(t, l...), "more"...)
	b := spare(text)
	got, size := scan.Records(b)
	again, _ := scan.Records(b)
	chosen(t, "as they are", b, b, 0, true)
	if !unchanged(b, text) {
		t.Errorf("what Records and Choose were handed is now %q", b[:cap(b)])
	}
	clear(b[:cap(b)])
	if !slices.Equal(got, l) || size != len(text)-4 {
		t.Errorf("the bytes were changed: what Records answered is %s, %d", short(got), size)
	}
	clear(again[:cap(again)])
	if !slices.Equal(got, l) {
		t.Errorf("another answer was changed: what Records answered is %s", short(got))
	}
	says(t, "again", text, l, len(text)-4)

	room := append(slices.Clone(l), waits(6), waits(7))
	handed := slices.Clone(room)[:len(l)]
	_, waiting, _ := scan.Whole(handed)
	_, other, _ := scan.Whole(handed)
	if !slices.Equal(handed[:len(room)], room) {
		t.Errorf("what Whole was handed is now %s", short(handed[:len(room)]))
	}
	clear(handed[:len(room)])
	clear(other[:cap(other)])
	if want := pendings(l[1], l[2], l[4]); !slices.Equal(waiting, want) {
		t.Errorf("the list and another answer were changed: what Whole answered is %s, want %s", short(waiting), short(want))
	}
	holds(t, "again", l, 7, l[1], l[2], l[4])
}
