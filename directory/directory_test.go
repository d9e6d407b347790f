package directory_test

import (
	"fmt"
	"math"
	"math/rand"
	"slices"
	"sort"
	"strings"
	"testing"

	"postmark/api"
	"postmark/directory"
	"postmark/tree"
)

// known has a key that tells name, version and epoch apart.
func known(name string, version, epoch int) api.Known {
	key := uint64(1 + 1000*version + len(name))
	if len(name) > 0 {
		key += uint64(name[0]) << 40
	}
	return api.Known{Entry: api.Entry{Name: name, Version: version, Key: key}, Epoch: epoch}
}

func entry(name string, version int) api.Entry {
	return api.Entry{Name: name, Version: version, Key: uint64(7 + version)}
}

// some is a list that is Right: names that begin alike, epochs that fall from a name to the next, gaps of epochs.
func some() []api.Known {
	return []api.Known{
		known("\x00", 1, 7),
		known("A", 1, 1), known("A", 2, 2),
		known("a", 1, 3), known("a", 2, 5), known("a", 3, 9),
		known("a\x00", 1, 9),
		known("ab", 1, 2), known("ab", 2, 9),
		known("b", 1, 4),
		known("\xc3\xa4", 1, 6), known("\xc3\xa4", 2, 8),
		known("\xff", 1, 1),
	}
}

// short is what v is in a line that can be read.
func short(v any) string {
	s := strings.ToValidUTF8(fmt.Sprintf("%+v", v), "?")
	if len(s) > 300 {
		return s[:300] + ".."
	}
	return s
}

// right fails the test unless Right tells want of l.
func right(t *testing.T, what string, want bool, l ...api.Known) {
	t.Helper()
	if got := directory.Right(l); got != want {
		t.Errorf("%s: Right is %v, want %v: %s", what, got, want, short(l))
	}
}

// with is l with x at place i.
func with(l []api.Known, i int, x api.Known) []api.Known {
	out := slices.Clone(l)
	out[i] = x
	return out
}

// P16.1: Right takes lists by Name, then Version, with each name's Versions from 1 on.
func TestRightOrder(t *testing.T) {
	right(t, "nothing", true)
	right(t, "an empty list", true, []api.Known{}...)
	right(t, "one", true, known("a", 1, 1))
	right(t, "some", true, some()...)
	for i := range some() {
		right(t, "the first of some", true, some()[:i]...)
	}
	right(t, "one that begins with 2", false, known("a", 2, 1))
	right(t, "one of version 0", false, known("a", 0, 1))
	right(t, "one of version -1", false, known("a", -1, 1))
	right(t, "versions 0 and 1", false, known("a", 0, 1), known("a", 1, 2))
	right(t, "the same one twice", false, known("a", 1, 1), known("a", 1, 1))
	right(t, "one version twice", false, known("a", 1, 1), known("a", 1, 2))
	right(t, "a version that is missing", false, known("a", 1, 1), known("a", 3, 2))
	right(t, "versions that fall", false, known("a", 2, 2), known("a", 1, 1))
	right(t, "the next name with the next version", false, known("a", 1, 1), known("b", 2, 2))
	right(t, "a later name that begins with 2", false, known("a", 1, 1), known("b", 2, 1), known("b", 3, 2))
	right(t, "names that fall", false, known("b", 1, 1), known("a", 1, 2))
	right(t, "a name that comes again with its next version", false, known("a", 1, 1), known("b", 1, 1), known("a", 2, 2))
	right(t, "a name that comes again from 1 on", false, known("a", 1, 1), known("b", 1, 1), known("a", 1, 2))
	right(t, "a longer name ahead of its beginning", false, known("ab", 1, 1), known("a", 1, 1))
	right(t, "names in order of letters, not of bytes", false, known("a", 1, 1), known("B", 1, 1))
	right(t, "names in order of numbers, not of bytes", false, known("9", 1, 1), known("10", 1, 1))
	right(t, "names by their first bytes' size", true, known("\x7f", 1, 1), known("\x80", 1, 1), known("\xef\xbf\xbf", 1, 1), known("\xf0\x90\x80\x80", 1, 1))
	for i := range some()[1:] {
		l := some()
		l[i], l[i+1] = l[i+1], l[i]
		right(t, fmt.Sprint("some, of which two changed places at ", i), false, l...)
	}
	for i := range some() {
		right(t, fmt.Sprint("some, of which one is there twice at ", i), false, slices.Insert(some(), i, some()[i])...)
	}
}

// P16.1: each Entry is as one that a Right update may have.
func TestRightEntry(t *testing.T) {
	right(t, "a name of no bytes", false, known("", 1, 1))
	right(t, "a name of no bytes ahead of others", false, known("", 1, 1), known("a", 1, 1))
	right(t, "a name of no bytes behind others", false, known("a", 1, 1), known("", 1, 2))
	right(t, "a name of 32 bytes", true, known(strings.Repeat("n", 32), 1, 1))
	right(t, "a name of 33 bytes", false, known(strings.Repeat("n", 33), 1, 1))
	right(t, "a name of 32 bytes, fewer runes", true, known(strings.Repeat("\xc3\xa4", 16), 1, 1))
	right(t, "a name of 34 bytes, 17 runes", false, known(strings.Repeat("\xc3\xa4", 17), 1, 1))
	for key, want := range map[uint64]bool{0: false, 1: true, 1<<61 - 3: true, 1<<61 - 2: true, 1<<61 - 1: false, 1 << 61: false, math.MaxUint64: false} {
		for i, x := range some() {
			x.Entry.Key = key
			right(t, fmt.Sprintf("some, with key %d at %d", key, i), want, with(some(), i, x)...)
		}
	}
	for i, x := range some() {
		for _, version := range []int{0, -x.Entry.Version, x.Entry.Version - 1, x.Entry.Version + 1, 1<<30 + 1, math.MaxInt, math.MinInt} {
			y := x
			y.Entry.Version = version
			right(t, fmt.Sprintf("some, with version %d at %d", version, i), false, with(some(), i, y)...)
		}
	}
}

// P16.1: Right asks for Epochs that rise within a name, from 1 on.
func TestRightEpochs(t *testing.T) {
	for epoch, want := range map[int]bool{math.MinInt: false, -1: false, 0: false, 1: true, 2: true, 1 << 40: true, math.MaxInt: true} {
		right(t, fmt.Sprint("epoch ", epoch), want, known("a", 1, epoch))
		right(t, fmt.Sprint("another name at epoch ", epoch), want, known("a", 1, 5), known("b", 1, epoch))
		right(t, fmt.Sprint("the next version at epoch ", epoch), epoch > 1, known("a", 1, 1), known("a", 2, epoch))
		right(t, fmt.Sprint("the third version at epoch ", epoch), epoch > 2, known("a", 1, 1), known("a", 2, 2), known("a", 3, epoch))
	}
	right(t, "epochs that are alike", false, known("a", 1, 2), known("a", 2, 2))
	right(t, "epochs that fall", false, known("a", 1, 2), known("a", 2, 1))
	right(t, "epochs that fall later", false, known("a", 1, 1), known("a", 2, 4), known("a", 3, 3))
	right(t, "alike epochs of other names", true, known("a", 1, 2), known("b", 1, 2))
	right(t, "epochs that fall from a name to the next", true, known("a", 1, 9), known("b", 1, 1), known("b", 2, 2))
	right(t, "a first epoch that isn't 1, and gaps", true, known("a", 1, 3), known("a", 2, 100))
}

// mayBe is P16.1's and P5.1's words of an entry.
func mayBe(e api.Entry) bool {
	return len(e.Name) >= 1 && len(e.Name) <= 32 && e.Version >= 1 && e.Version <= 1<<30 && e.Key >= 1 && e.Key <= 1<<61-2
}

// rightWords asks P16.1's words of Right one after another: the order, the entries, each name's Versions and Epochs.
func rightWords(l []api.Known) bool {
	sorted := sort.SliceIsSorted(l, func(i, j int) bool {
		a, b := l[i].Entry, l[j].Entry
		return a.Name < b.Name || a.Name == b.Name && a.Version < b.Version
	})
	if !sorted {
		return false
	}
	of := map[string][]api.Known{}
	for _, x := range l {
		if !mayBe(x.Entry) {
			return false
		}
		of[x.Entry.Name] = append(of[x.Entry.Name], x)
	}
	for _, row := range of {
		for i, x := range row {
			if x.Entry.Version != i+1 || x.Epoch < 1 || i > 0 && x.Epoch <= row[i-1].Epoch {
				return false
			}
		}
	}
	return true
}

var names = []string{"a", "b", "ab", "a\x00", "A", "\xff", "\xc3\xa4", "ba", strings.Repeat("x", 32), "0"}

// chance is a list that is Right, of some of the names, and the greatest epoch in it.
func chance(r *rand.Rand) []api.Known {
	var l []api.Known
	for _, name := range names {
		epoch := 0
		for version := 1; version <= r.Intn(5); version++ {
			epoch += 1 + r.Intn(4)
			l = append(l, api.Known{Entry: api.Entry{Name: name, Version: version, Key: 1 + uint64(r.Int63n(1<<61-2))}, Epoch: epoch})
		}
	}
	sort.SliceStable(l, func(i, j int) bool { return l[i].Entry.Name < l[j].Entry.Name })
	return l
}

// bent is l with one thing of it changed, that may be none.
func bent(r *rand.Rand, l []api.Known) []api.Known {
	l = slices.Clone(l)
	if len(l) == 0 {
		return []api.Known{known("a", r.Intn(3), r.Intn(3))}
	}
	i, j := r.Intn(len(l)), r.Intn(len(l))
	switch r.Intn(8) {
	case 0:
		l[i], l[j] = l[j], l[i]
	case 1:
		l[i].Epoch += r.Intn(7) - 3
	case 2:
		l[i].Entry.Version += r.Intn(3) - 1
	case 3:
		l[i].Entry.Name = append(names, "", strings.Repeat("x", 33))[r.Intn(len(names)+2)]
	case 4:
		l[i].Entry.Key = []uint64{0, 1, 1<<61 - 2, 1<<61 - 1}[r.Intn(4)]
	case 5:
		l = slices.Delete(l, i, i+1)
	case 6:
		l = slices.Insert(l, i, l[j])
	}
	return l
}

// P16.1: Right by chance, against the chapter's words.
func TestRightByChance(t *testing.T) {
	r := rand.New(rand.NewSource(161))
	seen := map[bool]int{}
	for range 20000 {
		l := chance(r)
		right(t, "a list that is built right", true, l...)
		for range 1 + r.Intn(3) {
			l = bent(r, l)
		}
		want := rightWords(l)
		right(t, "a list that was bent", want, l...)
		seen[want]++
	}
	if seen[true] < 3000 || seen[false] < 3000 {
		t.Errorf("seen: %v", seen)
	}
}

// latest fails the test unless Latest tells x of name in l (its zero: none).
func latest(t *testing.T, l []api.Known, name string, x api.Known) {
	t.Helper()
	got, is := directory.Latest(l, name)
	if got != x || is != (x != api.Known{}) {
		t.Errorf("Latest of %q: %s, %v, want %s; of %s", name, short(got), is, short(x), short(l))
	}
}

// find fails the test unless Find tells x of name and version in l (its zero: none).
func find(t *testing.T, l []api.Known, name string, version int, x api.Known) {
	t.Helper()
	got, is := directory.Find(l, name, version)
	if got != x || is != (x != api.Known{}) {
		t.Errorf("Find of %q, %d: %s, %v, want %s; of %s", name, version, short(got), is, short(x), short(l))
	}
}

// P16.1: Latest tells the one of that name with the greatest Version; false of none.
func TestLatest(t *testing.T) {
	l := some()
	for name, i := range map[string]int{"\x00": 0, "A": 2, "a": 5, "a\x00": 6, "ab": 8, "b": 9, "\xc3\xa4": 11, "\xff": 12} {
		latest(t, l, name, l[i])
		latest(t, l[:i], name, ahead(l[:i], name))
		latest(t, nil, name, api.Known{})
	}
	for _, name := range []string{"", "\x00\x00", "\x01", "B", "aa", "a\x00\x00", "a\x01", "abc", "c", "\xc3", "\xc3\xa4a", "\xe4", "\xff\xff", strings.Repeat("a", 100)} {
		latest(t, l, name, api.Known{})
		latest(t, nil, name, api.Known{})
		latest(t, []api.Known{}, name, api.Known{})
	}
}

// ahead is the last of l that has name, if any.
func ahead(l []api.Known, name string) (last api.Known) {
	for _, x := range l {
		if x.Entry.Name == name {
			last = x
		}
	}
	return
}

// P16.1: Find tells the one of that name and Version; false of none.
func TestFind(t *testing.T) {
	l := some()
	for _, x := range l {
		find(t, l, x.Entry.Name, x.Entry.Version, x)
		find(t, nil, x.Entry.Name, x.Entry.Version, api.Known{})
		last, _ := directory.Latest(l, x.Entry.Name)
		for _, version := range []int{0, -1, -x.Entry.Version, last.Entry.Version + 1, 1 << 30, 1<<32 + x.Entry.Version, math.MaxInt, math.MinInt} {
			find(t, l, x.Entry.Name, version, api.Known{})
		}
	}
	for _, name := range []string{"", "\x00\x00", "B", "aa", "a\x00\x00", "abc", "c", "\xc3", "\xff\xff"} {
		for version := -1; version < 4; version++ {
			find(t, l, name, version, api.Known{})
		}
	}
}

// P16.1: Latest and Find by chance, against a look at each of the list.
func TestFindByChance(t *testing.T) {
	r := rand.New(rand.NewSource(162))
	seen := map[bool]int{}
	for range 2000 {
		l := chance(r)
		for _, name := range append(names, "", "aa", "z") {
			latest(t, l, name, ahead(l, name))
			for version := 0; version < 6; version++ {
				i := slices.IndexFunc(l, func(x api.Known) bool { return x.Entry.Name == name && x.Entry.Version == version })
				if i < 0 {
					find(t, l, name, version, api.Known{})
				} else {
					find(t, l, name, version, l[i])
				}
				seen[i < 0]++
			}
		}
	}
	if seen[true] < 10000 || seen[false] < 10000 {
		t.Errorf("seen: %v", seen)
	}
}

// adds fails the test unless Add tells want, true.
func adds(t *testing.T, what string, l []api.Known, epoch int, batch []api.Entry, want []api.Known) {
	t.Helper()
	got, ok := directory.Add(l, epoch, batch)
	if !ok || !slices.Equal(got, want) {
		t.Errorf("%s: Add of epoch %d, %s: %v, %s, want %s", what, epoch, short(batch), ok, short(got), short(want))
	}
}

// refuses fails the test unless Add tells l, false.
func refuses(t *testing.T, what string, l []api.Known, epoch int, batch ...api.Entry) {
	t.Helper()
	got, ok := directory.Add(l, epoch, batch)
	if ok || !slices.Equal(got, l) {
		t.Errorf("%s: Add of epoch %d, %s: %v, %s, want just %s", what, epoch, short(batch), ok, short(got), short(l))
	}
}

// P16.1: Add puts each entry of batch, of that epoch, where it belongs.
func TestAdd(t *testing.T) {
	l := some()
	adds(t, "nothing to nothing", nil, 1, nil, nil)
	adds(t, "an empty batch to nothing", []api.Known{}, 1, []api.Entry{}, nil)
	adds(t, "nothing", l, 10, nil, l)
	adds(t, "one to nothing", nil, 1, []api.Entry{entry("a", 1)}, []api.Known{{Entry: entry("a", 1), Epoch: 1}})
	adds(t, "three, in no order, to nothing", nil, 5, []api.Entry{entry("b", 1), entry("ab", 1), entry("a", 1)},
		[]api.Known{{Entry: entry("a", 1), Epoch: 5}, {Entry: entry("ab", 1), Epoch: 5}, {Entry: entry("b", 1), Epoch: 5}})
	for _, x := range []struct {
		name    string
		version int
		at      int
	}{{"\x00", 2, 1}, {"A", 3, 3}, {"a", 4, 6}, {"a\x00", 2, 7}, {"ab", 3, 9}, {"b", 2, 10}, {"\xc3\xa4", 3, 12}, {"\xff", 2, 13},
		{"\x00\x00", 1, 1}, {"\x01", 1, 1}, {"B", 1, 3}, {"a\x00\x00", 1, 7}, {"aa", 1, 7}, {"b\x00", 1, 10}, {"\xfe", 1, 12}, {"\xff\x00", 1, 13}, {strings.Repeat("z", 32), 1, 10}} {
		e := entry(x.name, x.version)
		adds(t, "one", l, 10, []api.Entry{e}, slices.Insert(slices.Clone(l), x.at, api.Known{Entry: e, Epoch: 10}))
		adds(t, "one, much later", l, math.MaxInt, []api.Entry{e}, slices.Insert(slices.Clone(l), x.at, api.Known{Entry: e, Epoch: math.MaxInt}))
	}
	all := []api.Entry{entry("\xff", 2), entry("a", 4), entry("c", 1), entry("\x00", 2), entry("\x00\x00", 1), entry("a\x00", 2), entry("A", 3), entry("b", 2), entry("ab", 3), entry("\xc3\xa4", 3), entry("ac", 1), entry("\xff\xff", 1)}
	want := slices.Clone(l)
	for _, e := range all {
		want = append(want, api.Known{Entry: e, Epoch: 10})
	}
	sort.SliceStable(want, func(i, j int) bool { return want[i].Entry.Name < want[j].Entry.Name })
	adds(t, "one of each name, and more", l, 10, all, want)
	slices.Reverse(all)
	adds(t, "these the other way round", l, 10, all, want)
}

// P16.1: Add refuses an epoch that isn't above all of l's, or is below 1.
func TestAddEpoch(t *testing.T) {
	for i := range some() {
		l := some()[:i+1]
		top := 0
		for _, x := range l {
			top = max(top, x.Epoch)
		}
		for _, epoch := range []int{math.MinInt, -1, 0, 1, top - 1, top} {
			if epoch <= top {
				refuses(t, "an epoch that isn't above", l, epoch)
				refuses(t, "an epoch that isn't above", l, epoch, entry("n", 1))
			}
		}
		adds(t, "the epoch above", l, top+1, nil, l)
	}
	for _, epoch := range []int{0, -1, math.MinInt} {
		refuses(t, "an epoch below 1", nil, epoch)
		refuses(t, "an epoch below 1", nil, epoch, entry("a", 1))
	}
	// The greatest epoch stands with another name, and not at the end.
	refuses(t, "an epoch above the name's own", []api.Known{known("a", 1, 9), known("b", 1, 2)}, 5, entry("b", 2))
	refuses(t, "the greatest epoch of all", []api.Known{known("a", 1, math.MaxInt)}, math.MaxInt, entry("b", 1))
}

// P16.1: Add refuses a batch of which two have one name, or one isn't its name's next, or may not be: all of it.
func TestAddBatch(t *testing.T) {
	l := some()
	long := strings.Repeat("n", 33)
	good := []api.Entry{entry("a", 4), entry("n", 1), entry("\xff", 2)}
	for what, wrong := range map[string][]api.Entry{
		"version 2 of a new name":         {entry("c", 2)},
		"version 0 of a new name":         {entry("c", 0)},
		"version -1 of a new name":        {entry("c", -1)},
		"a name that is known, from 1 on": {entry("b", 1)},
		"the version that is there":       {entry("ab", 2)},
		"one that is there, just so":      {l[8].Entry},
		"an elder version":                {entry("ab", 1)},
		"a version that is missing":       {entry("ab", 4)},
		"the greatest version":            {entry("ab", 1<<30)},
		"the greatest number":             {entry("ab", math.MaxInt)},
		"the least number":                {entry("ab", math.MinInt)},
		"a new name, twice":               {entry("c", 1), entry("c", 1)},
		"a new name, two versions":        {entry("c", 1), entry("c", 2)},
		"two versions the other way":      {entry("c", 2), entry("c", 1)},
		"a known name, twice":             {entry("ab", 3), entry("ab", 3)},
		"a known name, two versions":      {entry("ab", 3), entry("ab", 4)},
		"a name, twice, with others":      {entry("c", 1), entry("d", 1), entry("e", 1), entry("c", 1)},
		"no name":                         {entry("", 1)},
		"a name of 33 bytes":              {entry(long, 1)},
		"no key":                          {{Name: "c", Version: 1}},
		"the prime as a key":              {{Name: "c", Version: 1, Key: 1<<61 - 1}},
		"the greatest key":                {{Name: "c", Version: 1, Key: math.MaxUint64}},
		"a known name without a key":      {{Name: "ab", Version: 3}},
		"nothing at all":                  {{}},
	} {
		refuses(t, what, l, 10, wrong...)
		refuses(t, what+", behind good ones", l, 10, slices.Concat(good, wrong)...)
		refuses(t, what+", ahead of good ones", l, 10, slices.Concat(wrong, good)...)
	}
	refuses(t, "version 2 of a new name, of nothing", nil, 1, entry("a", 2))
	adds(t, "the least and the greatest key", nil, 1, []api.Entry{{Name: "a", Version: 1, Key: 1}, {Name: "b", Version: 1, Key: 1<<61 - 2}},
		[]api.Known{{Entry: api.Entry{Name: "a", Version: 1, Key: 1}, Epoch: 1}, {Entry: api.Entry{Name: "b", Version: 1, Key: 1<<61 - 2}, Epoch: 1}})
	adds(t, "a name of 32 bytes", nil, 1, []api.Entry{entry(long[:32], 1)}, []api.Known{{Entry: entry(long[:32], 1), Epoch: 1}})
	adds(t, "the same key again", []api.Known{known("a", 1, 1)}, 2, []api.Entry{{Name: "a", Version: 2, Key: known("a", 1, 1).Entry.Key}},
		[]api.Known{known("a", 1, 1), {Entry: api.Entry{Name: "a", Version: 2, Key: known("a", 1, 1).Entry.Key}, Epoch: 2}})
}

// addWords is P16.1's words of Add.
func addWords(l []api.Known, epoch int, batch []api.Entry) ([]api.Known, bool) {
	out := slices.Clone(l)
	of := map[string]int{}
	for _, x := range l {
		of[x.Entry.Name]++
		if epoch <= x.Epoch {
			return l, false
		}
	}
	named := map[string]int{}
	for _, e := range batch {
		named[e.Name]++
		if named[e.Name] > 1 || e.Version != of[e.Name]+1 || !mayBe(e) {
			return l, false
		}
		out = append(out, api.Known{Entry: e, Epoch: epoch})
	}
	if epoch < 1 {
		return l, false
	}
	sort.SliceStable(out, func(i, j int) bool { return out[i].Entry.Name < out[j].Entry.Name })
	return out, true
}

// someBatch is a batch that may mostly be added to l.
func someBatch(r *rand.Rand, l []api.Known) []api.Entry {
	var batch []api.Entry
	for _, i := range r.Perm(len(names))[:r.Intn(len(names))] {
		last := ahead(l, names[i])
		batch = append(batch, api.Entry{Name: names[i], Version: last.Entry.Version + 1, Key: 1 + uint64(r.Int63n(1<<61-2))})
	}
	if len(batch) == 0 || r.Intn(2) == 0 {
		return batch
	}
	i, j := r.Intn(len(batch)), r.Intn(len(batch))
	switch r.Intn(5) {
	case 0:
		batch[i].Version += r.Intn(3) - 1
	case 1:
		batch[i].Name = batch[j].Name
	case 2:
		batch[i].Key = []uint64{0, 1, 1<<61 - 2, 1<<61 - 1}[r.Intn(4)]
	case 3:
		batch = append(batch, batch[i])
	case 4:
		batch[i].Name = []string{"", "new", strings.Repeat("x", 33), "c"}[r.Intn(4)]
	}
	return batch
}

// P16.1: Add by chance, against the chapter's words; what it tells is Right.
func TestAddByChance(t *testing.T) {
	r := rand.New(rand.NewSource(163))
	seen := map[bool]int{}
	for range 20000 {
		l := chance(r)
		epoch, batch := 6+r.Intn(12), someBatch(r, l)
		want, ok := addWords(l, epoch, batch)
		if ok {
			adds(t, "by chance", l, epoch, batch, want)
		} else {
			refuses(t, "by chance", l, epoch, batch...)
		}
		got, _ := directory.Add(l, epoch, batch)
		right(t, "what Add told", true, got...)
		seen[ok]++
	}
	if seen[true] < 3000 || seen[false] < 3000 {
		t.Errorf("seen: %v", seen)
	}
}

// itemsAre fails the test unless Items tells those of l's places, as tree.Set orders them.
func itemsAre(t *testing.T, l []api.Known, epoch int, places ...int) {
	t.Helper()
	var want []api.Item
	for _, i := range places {
		want = append(want, tree.Item(l[i].Entry))
	}
	want = tree.Set(want, nil)
	if got := directory.Items(l, epoch); !slices.Equal(got, want) {
		t.Errorf("Items of epoch %d: %d of them, %s, want %d, %s", epoch, len(got), short(got), len(want), short(want))
	}
}

// P16.1: Items tells each name's entry with the greatest Version whose Epoch is at most epoch.
func TestItems(t *testing.T) {
	l := some()
	for _, epoch := range []int{math.MinInt, -1, 0} {
		itemsAre(t, l, epoch)
		itemsAre(t, nil, epoch)
	}
	itemsAre(t, l, 1, 1, 12)
	itemsAre(t, l, 2, 2, 7, 12)
	itemsAre(t, l, 3, 2, 3, 7, 12)
	itemsAre(t, l, 4, 2, 3, 7, 9, 12)
	itemsAre(t, l, 5, 2, 4, 7, 9, 12)
	itemsAre(t, l, 6, 2, 4, 7, 9, 10, 12)
	itemsAre(t, l, 7, 0, 2, 4, 7, 9, 10, 12)
	itemsAre(t, l, 8, 0, 2, 4, 7, 9, 11, 12)
	for _, epoch := range []int{9, 10, 1 << 40, math.MaxInt} {
		itemsAre(t, l, epoch, 0, 2, 5, 6, 8, 9, 11, 12)
		itemsAre(t, nil, epoch)
		itemsAre(t, []api.Known{}, epoch)
	}
	itemsAre(t, []api.Known{known("a", 1, math.MaxInt)}, math.MaxInt-1)
	itemsAre(t, []api.Known{known("a", 1, math.MaxInt)}, math.MaxInt, 0)
}

// P16.1: Items stand by Index, rising, and not by name.
func TestItemsOrder(t *testing.T) {
	items := directory.Items(some(), 9)
	rises := func(a, b api.Item) int { return strings.Compare(string(a.Index[:]), string(b.Index[:])) }
	if len(items) != 8 || !slices.IsSortedFunc(items, rises) {
		t.Errorf("Items in another order: %s", short(items))
	}
	for _, name := range []string{"\x00", "A", "a", "a\x00", "ab", "b", "\xc3\xa4", "\xff"} {
		last := ahead(some(), name).Entry
		want := api.Item{Index: tree.Index(name), Value: tree.Value(last.Version, last.Key)}
		if !slices.Contains(items, want) {
			t.Errorf("Items hasn't %q, version %d", name, last.Version)
		}
	}
}

// P16.1: Items by chance, against the chapter's words.
func TestItemsByChance(t *testing.T) {
	r := rand.New(rand.NewSource(164))
	for range 300 {
		l := chance(r)
		for epoch := -1; epoch < 18; epoch++ {
			of := map[string]int{}
			for i, x := range l {
				if x.Epoch <= epoch {
					of[x.Entry.Name] = i
				}
			}
			var places []int
			for _, i := range of {
				places = append(places, i)
			}
			itemsAre(t, l, epoch, places...)
		}
	}
}

// P16.2: of whatever is added, each name's entries stay as they are, in one row of versions, each of a later epoch.
func TestChain(t *testing.T) {
	r := rand.New(rand.NewSource(165))
	for range 100 {
		var l []api.Known
		var rows = map[string][]api.Known{}
		then := map[int][]api.Item{}
		for epoch := 1; epoch < 30; epoch++ {
			batch := someBatch(r, l)
			more, ok := directory.Add(l, epoch, batch)
			l = more
			for _, e := range batch {
				if ok {
					rows[e.Name] = append(rows[e.Name], api.Known{Entry: e, Epoch: epoch})
				}
			}
			then[epoch] = directory.Items(l, epoch)
		}
		right(t, "what was added", true, l...)
		n := 0
		for name, row := range rows {
			for i, x := range row {
				find(t, l, name, i+1, x)
			}
			latest(t, l, name, row[len(row)-1])
			find(t, l, name, len(row)+1, api.Known{})
			n += len(row)
		}
		if n != len(l) {
			t.Errorf("%d are known, %d were added", len(l), n)
		}
		for epoch, items := range then {
			if !slices.Equal(directory.Items(l, epoch), items) {
				t.Errorf("Items of epoch %d are others than they were then", epoch)
			}
		}
	}
}

// roomy is l with spare room behind it, that isn't zero.
func roomy[T any](l []T, mark T) []T {
	out := append(slices.Clone(l), mark, mark, mark)
	return out[:len(l)]
}

// P16.1 (what is handed in is neither changed nor kept, what is answered is new memory).
func TestNewMemory(t *testing.T) {
	mark, sign := known("mark", 77, 77), entry("sign", 99)
	batches := [][]api.Entry{nil, {entry("n", 1), entry("b", 2), entry("a", 4)}, {entry("n", 2), entry("b", 2)}, {entry("b", 2), entry("a", 4), entry("a", 4)}}
	for _, epoch := range []int{9, 10} {
		for i, b := range batches {
			l, batch := roomy(some(), mark), roomy(b, sign)
			got, ok := directory.Add(l, epoch, batch)
			want := slices.Clone(got)
			for j := range got[:cap(got)] {
				got[:cap(got)][j] = api.Known{}
			}
			if !slices.Equal(l, some()) || !slices.Equal(l[:len(l)+3][len(l):], []api.Known{mark, mark, mark}) {
				t.Errorf("Add %d of epoch %d changed its list, or shares memory with it: %s", i, epoch, short(l[:len(l)+3]))
			}
			if !slices.Equal(batch, b) || !slices.Equal(batch[:len(b)+3][len(b):], []api.Entry{sign, sign, sign}) {
				t.Errorf("Add %d of epoch %d changed its batch: %s", i, epoch, short(batch[:len(b)+3]))
			}
			got, is := directory.Add(l, epoch, batch)
			for j := range l {
				l[j] = api.Known{}
			}
			for j := range batch {
				batch[j] = api.Entry{}
			}
			if is != ok || !slices.Equal(got, want) {
				t.Errorf("Add %d of epoch %d hangs on what was handed in: %s, want %s", i, epoch, short(got), short(want))
			}
		}
	}
	l := roomy(some(), mark)
	items := directory.Items(l, 9)
	for i := range items[:cap(items)] {
		items[:cap(items)][i] = api.Item{}
	}
	itemsAre(t, l, 9, 0, 2, 5, 6, 8, 9, 11, 12)
	directory.Right(l)
	directory.Latest(l, "\xff")
	directory.Find(l, "\xff", 2)
	if !slices.Equal(l, some()) || !slices.Equal(l[:len(l)+3][len(l):], []api.Known{mark, mark, mark}) {
		t.Errorf("a call changed its list: %s", short(l[:len(l)+3]))
	}
}

// P16.1: of a list that Right refuses all calls end, and none panics.
func TestWrongLists(t *testing.T) {
	r := rand.New(rand.NewSource(166))
	for range 5000 {
		l := chance(r)
		for range r.Intn(20) {
			l = bent(r, l)
		}
		if r.Intn(4) == 0 {
			r.Shuffle(len(l), func(i, j int) { l[i], l[j] = l[j], l[i] })
		}
		was := slices.Clone(l)
		batch := someBatch(r, l)
		directory.Right(l)
		for _, name := range append(names, "") {
			directory.Latest(l, name)
			directory.Find(l, name, r.Intn(4))
		}
		directory.Add(l, r.Intn(30), batch)
		directory.Add(l, math.MaxInt, batch)
		if r.Intn(10) == 0 {
			directory.Items(l, r.Intn(10))
		}
		if !slices.Equal(l, was) {
			t.Fatalf("a call changed its list: %s", short(l))
		}
	}
	ends := []api.Known{known("a", math.MaxInt, math.MaxInt), known("a", math.MinInt, math.MinInt)}
	directory.Right(ends)
	directory.Add(ends, math.MaxInt, []api.Entry{entry("a", math.MinInt), entry("b", 1)})
	directory.Items(ends, math.MinInt)
}

// P16.1: long lists are taken, too.
func TestLong(t *testing.T) {
	const n = 50000
	var l []api.Known
	var batch []api.Entry
	for i := range n {
		name := fmt.Sprintf("n%06d", i)
		l = append(l, known(name, 1, 1+i%7), known(name, 2, 8))
		batch = append(batch, entry(name, 3), entry(name+"x", 1))
	}
	slices.Reverse(batch)
	got, ok := directory.Add(l, 9, batch)
	if !ok || len(got) != 4*n || !directory.Right(got) {
		t.Errorf("Add of %d entries: %v, %d", len(batch), ok, len(got))
	}
	for i := range n {
		if t.Failed() {
			break // what is told of a list so long takes its time
		}
		name := fmt.Sprintf("n%06d", i)
		find(t, got, name, 2, known(name, 2, 8))
		latest(t, got, name, api.Known{Entry: entry(name, 3), Epoch: 9})
		latest(t, got, name+"x", api.Known{Entry: entry(name+"x", 1), Epoch: 9})
	}
}
