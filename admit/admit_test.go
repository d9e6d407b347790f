package admit_test

import (
	"fmt"
	"math"
	"math/rand"
	"slices"
	"sort"
	"strings"
	"testing"

	"postmark/admit"
	"postmark/api"
	"postmark/directory"
	"postmark/sigs"
	"postmark/update"
)

// secret tells a secret of the key that name has from version on; pick tells several of them apart.
func secret(name string, version, pick int) uint64 {
	s := uint64(1000003*version + 17*pick + 5)
	for i := range len(name) {
		s = s*257 + uint64(name[i])
	}
	return 1 + s%(1<<61-2)
}

func entry(name string, version, pick int) api.Entry {
	return api.Entry{Name: name, Version: version, Key: sigs.Public(secret(name, version, pick))}
}

func known(name string, version int) api.Known {
	return api.Known{Entry: entry(name, version, 0), Epoch: version}
}

// asks is a request for that entry that by signs.
func asks(e api.Entry, by uint64) api.Update {
	return update.Sign(by, api.Update{Name: e.Name, Version: e.Version, Key: e.Key})
}

// request is what who has the name asks for: signed by the key of the version ahead, of version 1 by its own.
func request(name string, version int) api.Update {
	return asks(entry(name, version, 0), secret(name, max(version-1, 1), 0))
}

// pending is one that waits, with all that a Pending has.
func pending(u api.Update) api.Pending {
	return api.Pending{Update: u, Tick: int64(3 * u.Version), Seq: int64(u.Version), Synced: u.Version%2 == 0}
}

func waits(name string, version int) api.Pending {
	return pending(request(name, version))
}

// some is a list that is Right: names that begin alike.
func some() []api.Known {
	return []api.Known{
		known("A", 1), known("A", 2),
		known("a", 1), known("a", 2), known("a", 3),
		known("a\x00", 1),
		known("ab", 1), known("ab", 2),
		known("\xff", 1),
	}
}

// more wait behind some, in no order.
func more() []api.Pending {
	return []api.Pending{waits("a", 5), waits("n", 1), waits("a", 4), waits("\xff", 2), waits("n", 2), waits("a\x00\x00", 1), waits("n", 3)}
}

// short is what v is in a line that can be read.
func short(v any) string {
	s := strings.ToValidUTF8(fmt.Sprintf("%+v", v), "?")
	if len(s) > 300 {
		return s[:300] + ".."
	}
	return s
}

// decides fails the test unless Decide tells kind and e.
func decides(t *testing.T, what string, kind int, e api.Errno, l []api.Known, wait []api.Pending, u api.Update) {
	t.Helper()
	if got, err := admit.Decide(l, wait, u); got != kind || err != e {
		t.Errorf("%s: Decide of %s: %d, %d, want %d, %d; of %s and %s", what, short(u), got, err, kind, e, short(l), short(wait))
	}
}

// takes fails the test unless Decide tells kind, with no error.
func takes(t *testing.T, what string, kind int, l []api.Known, wait []api.Pending, u api.Update) {
	t.Helper()
	decides(t, what, kind, api.OK, l, wait, u)
}

// refuses fails the test unless Decide tells e, and nothing beside it.
func refuses(t *testing.T, what string, e api.Errno, l []api.Known, wait []api.Pending, u api.Update) {
	t.Helper()
	decides(t, what, 0, e, l, wait, u)
}

// next fails the test unless Next tells version and key.
func next(t *testing.T, what string, l []api.Known, wait []api.Pending, name string, version int, key uint64) {
	t.Helper()
	if v, k := admit.Next(l, wait, name); v != version || k != key {
		t.Errorf("%s: Next of %q: %d, %d, want %d, %d; of %s and %s", what, name, v, k, version, key, short(l), short(wait))
	}
}

// key is that of the name's own version.
func key(name string, version int) uint64 {
	return entry(name, version, 0).Key
}

// P17.1: the numbers of the kinds and of the errors.
func TestNames(t *testing.T) {
	if admit.Fresh != 0 || admit.Waits != 1 || admit.Done != 2 {
		t.Errorf("kinds: %d, %d, %d", admit.Fresh, admit.Waits, admit.Done)
	}
	if api.ErrForm != 23 || api.ErrConflict != 26 || api.ErrGap != 27 || api.ErrSig != 25 {
		t.Errorf("errors: %d, %d, %d, %d", api.ErrForm, api.ErrConflict, api.ErrGap, api.ErrSig)
	}
}

// P17.1: Next tells the version behind the greatest one of that name in l and wait, and its key; 1 and 0 of none.
func TestNext(t *testing.T) {
	l, wait := some(), more()
	for _, x := range []struct {
		name       string
		both, l, w int // the greatest versions in both, in l and in wait
	}{{"A", 2, 2, 0}, {"a", 5, 3, 5}, {"a\x00", 1, 1, 0}, {"ab", 2, 2, 0}, {"\xff", 2, 1, 2}, {"n", 3, 0, 3}, {"a\x00\x00", 1, 0, 1},
		{"", 0, 0, 0}, {"b", 0, 0, 0}, {"aa", 0, 0, 0}, {"a\x00\x00\x00", 0, 0, 0}, {"N", 0, 0, 0}, {"\xff\xff", 0, 0, 0}, {strings.Repeat("a", 100), 0, 0, 0}} {
		keyOf := func(version int) uint64 {
			if version == 0 {
				return 0
			}
			return key(x.name, version)
		}
		next(t, "both", l, wait, x.name, x.both+1, keyOf(x.both))
		next(t, "what is known", l, nil, x.name, x.l+1, keyOf(x.l))
		next(t, "what waits", nil, wait, x.name, x.w+1, keyOf(x.w))
		next(t, "nothing", nil, nil, x.name, 1, 0)
		next(t, "empty lists", []api.Known{}, []api.Pending{}, x.name, 1, 0)
		slices.Reverse(wait)
		next(t, "what waits the other way round", l, wait, x.name, x.both+1, keyOf(x.both))
		slices.Reverse(wait)
	}
}

// P17.1: of like versions Next tells the key of that in l; the greatest one counts, wherever it stands, and whatever stands below it.
func TestNextAlike(t *testing.T) {
	l := []api.Known{known("a", 1), known("a", 2), known("b", 1)}
	other := func(name string, version int) api.Pending { return pending(asks(entry(name, version, 7), 1)) }
	k := entry("a", 3, 7).Key
	next(t, "alike", l, []api.Pending{other("a", 2)}, "a", 3, key("a", 2))
	next(t, "alike, and an elder one", l, []api.Pending{other("a", 1), other("a", 2)}, "a", 3, key("a", 2))
	next(t, "elder ones", l, []api.Pending{other("a", 1)}, "a", 3, key("a", 2))
	next(t, "a newer one", l, []api.Pending{other("a", 3)}, "a", 4, k)
	next(t, "a newer one, and one alike", l, []api.Pending{other("a", 2), other("a", 3)}, "a", 4, k)
	next(t, "a newer one, and one alike behind it", l, []api.Pending{other("a", 3), other("a", 2)}, "a", 4, k)
	next(t, "one far ahead", l, []api.Pending{other("a", 9)}, "a", 10, entry("a", 9, 7).Key)
	next(t, "one far ahead, and newer ones", l, []api.Pending{other("a", 3), other("a", 9), other("a", 4)}, "a", 10, entry("a", 9, 7).Key)
	next(t, "one far ahead of nothing", nil, []api.Pending{other("c", 7)}, "c", 8, entry("c", 7, 7).Key)
	next(t, "another name's", l, []api.Pending{other("b", 5), other("", 6), other("aa", 7)}, "a", 3, key("a", 2))
}

// P17.1: Next takes any lists: in no order, of any versions, keys and names.
func TestNextWild(t *testing.T) {
	of := func(name string, version int, key uint64) api.Known {
		return api.Known{Entry: api.Entry{Name: name, Version: version, Key: key}}
	}
	as := func(name string, version int, key uint64) api.Pending {
		return api.Pending{Update: api.Update{Name: name, Version: version, Key: key, Class: 9}}
	}
	l := []api.Known{of("z", 4, 1), of("b", 1, 2), of("z", 6, 3), of("", 2, 4), of("b", 3, 5), of("a", 1, 6), of("z", 5, 7), of("c", 0, 8), of("d", -4, 9), of("e", 2, 0), of("f", 3, math.MaxUint64)}
	for name, x := range map[string]struct {
		version int
		key     uint64
	}{"z": {7, 3}, "b": {4, 5}, "": {3, 4}, "a": {2, 6}, "c": {1, 8}, "d": {-3, 9}, "e": {3, 0}, "f": {4, math.MaxUint64}, "g": {1, 0}} {
		next(t, "known in no order", l, nil, name, x.version, x.key)
		var wait []api.Pending
		for _, y := range l {
			wait = append(wait, as(y.Entry.Name, y.Entry.Version, y.Entry.Key))
		}
		next(t, "waiting in no order", nil, wait, name, x.version, x.key)
		next(t, "both in no order", l, wait, name, x.version, x.key)
		for i := range wait {
			wait[i].Update.Key += 10
		}
		next(t, "both in no order, with unlike keys", l, wait, name, x.version, x.key)
	}
	next(t, "a version below 0 that waits", nil, []api.Pending{as("d", -4, 9)}, "d", -3, 9)
	next(t, "a lesser version that waits", []api.Known{of("d", -4, 9)}, []api.Pending{as("d", -5, 8)}, "d", -3, 9)
	next(t, "a version below 0 that is greater", []api.Known{of("d", -4, 9)}, []api.Pending{as("d", -3, 8)}, "d", -2, 8)
	next(t, "the greatest version", []api.Known{of("d", 1<<30, 9)}, nil, "d", 1<<30+1, 9)
	next(t, "the greatest version that waits", nil, []api.Pending{as("d", 1<<30, 9)}, "d", 1<<30+1, 9)
	next(t, "version 2^40", []api.Known{of("d", 1, 8)}, []api.Pending{as("d", 1<<40, 9)}, "d", 1<<40+1, 9)
	next(t, "the least version", []api.Known{of("d", math.MinInt, 9)}, nil, "d", math.MinInt+1, 9)
	next(t, "a name of 33 bytes", []api.Known{of(strings.Repeat("n", 33), 1, 9)}, nil, strings.Repeat("n", 33), 2, 9)
	admit.Next([]api.Known{of("d", math.MaxInt, 9)}, nil, "d")
	admit.Next(nil, []api.Pending{as("d", math.MaxInt, 9)}, "d")
}

// P17.1: ErrForm of whatever update.Right refuses, ahead of all else.
func TestForm(t *testing.T) {
	long := strings.Repeat("n", 33)
	for what, change := range map[string]func(u *api.Update){
		"no name":              func(u *api.Update) { u.Name = "" },
		"a name of 33 bytes":   func(u *api.Update) { u.Name = long },
		"version 0":            func(u *api.Update) { u.Version = 0 },
		"version -1":           func(u *api.Update) { u.Version = -1 },
		"version 2^30 + 1":     func(u *api.Update) { u.Version = 1<<30 + 1 },
		"the greatest version": func(u *api.Update) { u.Version = math.MaxInt },
		"the least version":    func(u *api.Update) { u.Version = math.MinInt },
		"key 0":                func(u *api.Update) { u.Key = 0 },
		"the prime as a key":   func(u *api.Update) { u.Key = 1<<61 - 1 },
		"the greatest key":     func(u *api.Update) { u.Key = math.MaxUint64 },
		"class 2":              func(u *api.Update) { u.Class = 2 },
		"class -1":             func(u *api.Update) { u.Class = -1 },
	} {
		for _, good := range []api.Update{request("a", 6), request("a", 2), request("a", 5), request("a", 9), request("new", 1), asks(entry("a", 2, 1), 1), asks(entry("a", 5, 1), 1), asks(entry("a", 6, 0), 1)} {
			u := good
			change(&u)
			u = update.Sign(secret("a", 5, 0), u)
			refuses(t, what, api.ErrForm, some(), more(), u)
			refuses(t, what+", of nothing", api.ErrForm, nil, nil, u)
			// Also what is known or waits just so: lists may have what no request may.
			e := update.Entry(u)
			refuses(t, what+", that is known", api.ErrForm, []api.Known{{Entry: e, Epoch: 1}}, nil, u)
			refuses(t, what+", that waits", api.ErrForm, nil, []api.Pending{pending(u)}, u)
			e.Version--
			refuses(t, what+", whose version ahead is known", api.ErrForm, []api.Known{{Entry: e, Epoch: 1}}, nil, u)
		}
	}
	refuses(t, "nothing at all", api.ErrForm, some(), more(), api.Update{})
	refuses(t, "nothing at all, of nothing", api.ErrForm, nil, nil, api.Update{})
}

// P17.1: what is at an edge, but may be, is taken.
func TestFormEdges(t *testing.T) {
	for _, name := range []string{"a", "\x00", "\xff", strings.Repeat("n", 31), strings.Repeat("n", 32), strings.Repeat("\xc3\xa4", 16)} {
		takes(t, "a name at an edge", admit.Fresh, nil, nil, request(name, 1))
	}
	top := []api.Known{{Entry: entry("t", 1<<30-1, 0), Epoch: 1}}
	takes(t, "version 2^30", admit.Fresh, top, nil, request("t", 1<<30))
	takes(t, "version 2^30 behind one that waits", admit.Fresh, nil, []api.Pending{waits("t", 1<<30-1)}, request("t", 1<<30))
	takes(t, "version 2^30 again", admit.Waits, top, []api.Pending{waits("t", 1<<30)}, request("t", 1<<30))
	refuses(t, "the version behind 2^30", api.ErrForm, top, []api.Pending{waits("t", 1<<30)}, request("t", 1<<30+1))
	for _, class := range []int{api.Plain, api.Urgent} {
		u := request("b", 1)
		u.Class = class // it isn't signed
		takes(t, "a class", admit.Fresh, some(), more(), u)
	}
	for _, k := range []uint64{1, 1<<61 - 2} {
		// Their versions ahead are others', so that any key may be asked for.
		e := api.Entry{Name: "A", Version: 3, Key: k}
		takes(t, "a key at an edge", admit.Fresh, some(), more(), asks(e, secret("A", 2, 0)))
	}
}

// P17.1: what l has: Done with that key, ErrConflict with another, whoever signs, and whatever waits.
func TestDone(t *testing.T) {
	for _, x := range some() {
		e := x.Entry
		same, other := asks(e, 0), asks(entry(e.Name, e.Version, 3), secret(e.Name, e.Version-1, 0))
		for _, wait := range [][]api.Pending{nil, more(), {pending(same)}, {pending(other)}, {pending(other), pending(same)}} {
			takes(t, "the same again", admit.Done, some(), wait, request(e.Name, e.Version))
			takes(t, "the same, signed by another", admit.Done, some(), wait, same)
			takes(t, "the same, not signed", admit.Done, some(), wait, api.Update{Name: e.Name, Version: e.Version, Key: e.Key})
			takes(t, "the same, urgent", admit.Done, some(), wait, api.Update{Name: e.Name, Version: e.Version, Key: e.Key, Class: api.Urgent})
			refuses(t, "another key", api.ErrConflict, some(), wait, other)
			refuses(t, "another key, not signed", api.ErrConflict, some(), wait, api.Update{Name: e.Name, Version: e.Version, Key: e.Key%(1<<61-2) + 1})
			refuses(t, "another key, signed by its own", api.ErrConflict, some(), wait, asks(entry(e.Name, e.Version, 3), secret(e.Name, e.Version, 3)))
		}
	}
	// The key of another version, or of another name, isn't this one's.
	refuses(t, "the next version's key", api.ErrConflict, some(), nil, asks(api.Entry{Name: "a", Version: 1, Key: key("a", 2)}, secret("a", 1, 0)))
	refuses(t, "the version ahead's key", api.ErrConflict, some(), nil, asks(api.Entry{Name: "a", Version: 2, Key: key("a", 1)}, secret("a", 1, 0)))
	refuses(t, "another name's key", api.ErrConflict, some(), nil, asks(api.Entry{Name: "a", Version: 1, Key: key("A", 1)}, secret("a", 1, 0)))
}

// P17.1: what wait has: Waits with that key, ErrConflict with another, whoever signs.
func TestWaits(t *testing.T) {
	for _, x := range more() {
		e := update.Entry(x.Update)
		for _, l := range [][]api.Known{nil, some()} {
			for range 2 {
				wait := more()
				slices.Reverse(wait)
				takes(t, "the same again", admit.Waits, l, wait, x.Update)
				takes(t, "the same, signed by another", admit.Waits, l, wait, asks(e, 0))
				takes(t, "the same, not signed", admit.Waits, l, wait, api.Update{Name: e.Name, Version: e.Version, Key: e.Key})
				takes(t, "the same, urgent", admit.Waits, l, wait, api.Update{Name: e.Name, Version: e.Version, Key: e.Key, Class: api.Urgent})
				refuses(t, "another key", api.ErrConflict, l, wait, asks(entry(e.Name, e.Version, 3), secret(e.Name, max(e.Version-1, 1), 0)))
				refuses(t, "another key, signed by its own", api.ErrConflict, l, wait, asks(entry(e.Name, e.Version, 3), secret(e.Name, e.Version, 3)))
				refuses(t, "another key, not signed", api.ErrConflict, l, wait, api.Update{Name: e.Name, Version: e.Version, Key: e.Key%(1<<61-2) + 1})
			}
		}
	}
	refuses(t, "another version's key", api.ErrConflict, nil, more(), asks(api.Entry{Name: "n", Version: 2, Key: key("n", 1)}, secret("n", 1, 0)))
}

// P17.1: where a list has a version twice, it has it with each of these keys.
func TestTwice(t *testing.T) {
	first, second, third := entry("a", 1, 0), entry("a", 1, 1), entry("a", 1, 2)
	l := []api.Known{{Entry: first, Epoch: 1}, {Entry: second, Epoch: 1}}
	wait := []api.Pending{pending(asks(first, 1)), pending(asks(second, 1))}
	for _, e := range []api.Entry{first, second} {
		takes(t, "one of two that are known", admit.Done, l, nil, asks(e, 1))
		takes(t, "one of two that wait", admit.Waits, nil, wait, asks(e, 1))
	}
	refuses(t, "none of two that are known", api.ErrConflict, l, nil, asks(third, secret("a", 1, 2)))
	refuses(t, "none of two that wait", api.ErrConflict, nil, wait, asks(third, secret("a", 1, 2)))
}

// P17.1: what is known in no order is known, too.
func TestDoneWild(t *testing.T) {
	l := some()
	r := rand.New(rand.NewSource(171))
	for range 20 {
		r.Shuffle(len(l), func(i, j int) { l[i], l[j] = l[j], l[i] })
		for _, x := range some() {
			takes(t, "one of no order", admit.Done, l, nil, asks(x.Entry, 0))
			refuses(t, "one of no order, another key", api.ErrConflict, l, nil, asks(entry(x.Entry.Name, x.Entry.Version, 3), 1))
		}
		takes(t, "behind one of no order", admit.Fresh, l, nil, request("a", 4))
	}
}

// P17.1: ErrGap of each version that is neither there nor the next one.
func TestGap(t *testing.T) {
	for name, want := range map[string]int{"A": 3, "a": 6, "a\x00": 2, "ab": 3, "\xff": 3, "n": 4, "a\x00\x00": 2, "b": 1, "aa": 1, "N": 1} {
		takes(t, "the next one", admit.Fresh, some(), more(), request(name, want))
		for _, version := range []int{want + 1, want + 2, want + 100, 1<<30 - 1, 1 << 30} {
			refuses(t, "a version too far", api.ErrGap, some(), more(), request(name, version))
			refuses(t, "a version too far, signed by the last key", api.ErrGap, some(), more(), asks(entry(name, version, 0), secret(name, want-1, 0)))
			refuses(t, "a version too far, signed by its own", api.ErrGap, some(), more(), asks(entry(name, version, 0), secret(name, version, 0)))
			refuses(t, "a version too far, not signed", api.ErrGap, some(), more(), api.Update{Name: name, Version: version, Key: 5})
		}
	}
	for version := 2; version < 6; version++ {
		refuses(t, "a new name that doesn't begin with 1", api.ErrGap, nil, nil, request("a", version))
	}
	// What is missing in l or in wait may not be brought in later.
	refuses(t, "one that is missing below", api.ErrGap, nil, []api.Pending{waits("a", 7)}, request("a", 6))
	refuses(t, "the first that is missing", api.ErrGap, nil, []api.Pending{waits("a", 7)}, request("a", 1))
	refuses(t, "one missing in l", api.ErrGap, []api.Known{known("a", 1), known("a", 3)}, nil, request("a", 2))
	takes(t, "the next of these", admit.Fresh, []api.Known{known("a", 1), known("a", 3)}, nil, request("a", 4))
	takes(t, "the first, behind a version 0", admit.Fresh, []api.Known{known("a", 0)}, nil, request("a", 1))
	refuses(t, "the first, behind a version -1", api.ErrGap, []api.Known{known("a", -1)}, nil, request("a", 1))
}

// P17.1: ErrSig, unless it is signed by the key of the version ahead; of version 1 by its own.
func TestSig(t *testing.T) {
	for name, version := range map[string]int{"A": 3, "a": 6, "a\x00": 2, "ab": 3, "\xff": 3, "n": 4, "a\x00\x00": 2, "b": 1, "aa": 1} {
		good := request(name, version)
		takes(t, "the key ahead", admit.Fresh, some(), more(), good)
		own := max(version-1, 1)
		for v := range version + 3 {
			if v != own {
				refuses(t, "another version's key", api.ErrSig, some(), more(), asks(entry(name, version, 0), secret(name, v, 0)))
			}
		}
		for _, by := range []uint64{0, 1, secret("other", 1, 0), secret(name, own, 3), secret(name, own, 0) + 1} {
			refuses(t, "another key", api.ErrSig, some(), more(), asks(entry(name, version, 0), by))
		}
		for what, change := range map[string]func(u *api.Update){
			"no signature":             func(u *api.Update) { u.Sig = api.Sig{} },
			"another R":                func(u *api.Update) { u.Sig.R++ },
			"another S":                func(u *api.Update) { u.Sig.S++ },
			"R and S the other way":    func(u *api.Update) { u.Sig.R, u.Sig.S = u.Sig.S, u.Sig.R },
			"a signature of a key":     func(u *api.Update) { u.Sig = asks(entry(name, version, 3), secret(name, own, 0)).Sig },
			"a signature of a version": func(u *api.Update) { u.Sig = asks(entry(name, version+1, 0), secret(name, own, 0)).Sig },
			"a signature of a name":    func(u *api.Update) { u.Sig = sign(name+"x", u, secret(name, own, 0)) },
			"a key that isn't signed":  func(u *api.Update) { u.Key = u.Key%(1<<61-2) + 1 },
		} {
			u := good
			change(&u)
			refuses(t, what, api.ErrSig, some(), more(), u)
		}
		good.Class = api.Urgent
		takes(t, "a class, that isn't signed", admit.Fresh, some(), more(), good)
	}
}

// sign is the signature of u under another name.
func sign(name string, u *api.Update, by uint64) api.Sig {
	e := update.Entry(*u)
	e.Name = name
	return asks(e, by).Sig
}

// P17.1: of version 1 it is its own key that counts, whatever Next tells.
func TestSigFirst(t *testing.T) {
	for _, l := range [][]api.Known{nil, {known("a", 0)}} {
		for _, wait := range [][]api.Pending{nil, {pending(asks(entry("a", 0, 0), 1))}} {
			takes(t, "its own key", admit.Fresh, l, wait, request("a", 1))
			refuses(t, "version 0's key", api.ErrSig, l, wait, asks(entry("a", 1, 0), secret("a", 0, 0)))
		}
	}
	refuses(t, "its own key, of version 2", api.ErrSig, []api.Known{known("a", 1)}, nil, asks(entry("a", 2, 0), secret("a", 2, 0)))
	refuses(t, "its own key, of a version 2 that waits", api.ErrSig, nil, []api.Pending{waits("a", 1)}, asks(entry("a", 2, 0), secret("a", 2, 0)))
	// Of keys that no secret has, nobody may give the next one.
	for _, k := range []uint64{0, 1<<61 - 1, math.MaxUint64} {
		l := []api.Known{{Entry: api.Entry{Name: "a", Version: 1, Key: k}, Epoch: 1}}
		for _, sig := range []api.Sig{{}, {R: 1}, {S: 1}, {R: k, S: k}, {R: 1, S: 1}} {
			refuses(t, "behind a key that none is", api.ErrSig, l, nil, api.Update{Name: "a", Version: 2, Key: 5, Sig: sig})
		}
	}
}

// P17.1: where what waits has the version that l has with another key, it is l's key that gives the next one.
func TestSigAlike(t *testing.T) {
	l := []api.Known{known("a", 1)}
	wait := []api.Pending{pending(asks(entry("a", 1, 7), secret("a", 1, 7)))}
	takes(t, "l's key", admit.Fresh, l, wait, request("a", 2))
	refuses(t, "the key of what waits", api.ErrSig, l, wait, asks(entry("a", 2, 0), secret("a", 1, 7)))
	takes(t, "l's version 1", admit.Done, l, wait, request("a", 1))
	refuses(t, "the version 1 that waits", api.ErrConflict, l, wait, wait[0].Update)
}

// mayBe is P5.1's words of Right.
func mayBe(u api.Update) bool {
	return len(u.Name) >= 1 && len(u.Name) <= 32 && u.Version >= 1 && u.Version <= 1<<30 && u.Key >= 1 && u.Key <= 1<<61-2 && (u.Class == 0 || u.Class == 1)
}

// nextWords is P17.1's words of Next.
func nextWords(l []api.Known, wait []api.Pending, name string) (int, uint64) {
	var of []api.Entry
	for _, x := range l {
		of = append(of, x.Entry)
	}
	for _, x := range wait {
		of = append(of, api.Entry{Name: x.Update.Name, Version: x.Update.Version, Key: x.Update.Key})
	}
	of = slices.DeleteFunc(of, func(e api.Entry) bool { return e.Name != name })
	sort.SliceStable(of, func(i, j int) bool { return of[i].Version > of[j].Version })
	if len(of) == 0 {
		return 1, 0
	}
	return of[0].Version + 1, of[0].Key
}

// decideWords is P17.1's words of Decide, of lists that have no version of a name twice.
func decideWords(l []api.Known, wait []api.Pending, u api.Update) (int, api.Errno) {
	if !mayBe(u) {
		return 0, api.ErrForm
	}
	for _, x := range l {
		if x.Entry.Name == u.Name && x.Entry.Version == u.Version && x.Entry.Key == u.Key {
			return admit.Done, api.OK
		}
		if x.Entry.Name == u.Name && x.Entry.Version == u.Version {
			return 0, api.ErrConflict
		}
	}
	for _, x := range wait {
		if x.Update.Name == u.Name && x.Update.Version == u.Version && x.Update.Key == u.Key {
			return admit.Waits, api.OK
		}
		if x.Update.Name == u.Name && x.Update.Version == u.Version {
			return 0, api.ErrConflict
		}
	}
	version, key := nextWords(l, wait, u.Name)
	if u.Version != version {
		return 0, api.ErrGap
	}
	if u.Version == 1 {
		key = u.Key
	}
	if !sigs.Check(key, update.Message(api.Entry{Name: u.Name, Version: u.Version, Key: u.Key}), u.Sig) {
		return 0, api.ErrSig
	}
	return admit.Fresh, api.OK
}

var names = []string{"a", "b", "ab", "a\x00", "A", "\xff", "\xc3\xa4", strings.Repeat("x", 32)}

// chance is a list that is Right, and what waits behind it, with now and then one that is missing, or that l has with another key.
func chance(r *rand.Rand) (l []api.Known, wait []api.Pending) {
	for _, name := range names {
		version := 1
		for n := r.Intn(4); version <= n; version++ {
			l = append(l, known(name, version))
		}
		for n := r.Intn(3); n > 0; n-- {
			wait = append(wait, pending(asks(entry(name, version, 0), uint64(r.Intn(5)))))
			version += 1 + r.Intn(8)/7
		}
		if version > 1 && r.Intn(5) == 0 && len(l) > 0 && l[len(l)-1].Entry.Name == name {
			wait = append(wait, pending(asks(entry(name, l[len(l)-1].Entry.Version, 7), 1)))
		}
	}
	sort.SliceStable(l, func(i, j int) bool { return l[i].Entry.Name < l[j].Entry.Name })
	r.Shuffle(len(wait), func(i, j int) { wait[i], wait[j] = wait[j], wait[i] })
	return l, wait
}

// someRequest is one that mostly may be the next of its name.
func someRequest(r *rand.Rand, l []api.Known, wait []api.Pending) api.Update {
	name := names[r.Intn(len(names))]
	version, _ := nextWords(l, wait, name)
	version += []int{0, 0, 0, -1, -1, -2, -3, 1, 2}[r.Intn(9)]
	by := secret(name, max(version-1, 1)+r.Intn(4)/3, 0)
	u := asks(entry(name, version, r.Intn(5)/4), by)
	switch r.Intn(20) {
	case 0:
		u.Sig.R ^= 1 << r.Intn(64)
	case 1:
		u.Sig.S ^= 1 << r.Intn(64)
	case 2:
		u.Class = r.Intn(4) - 1
	case 3:
		u.Key = []uint64{0, 1, 1<<61 - 2, 1<<61 - 1}[r.Intn(4)]
	}
	return u
}

// P17.1: Decide and Next by chance, against the chapter's words.
func TestByChance(t *testing.T) {
	r := rand.New(rand.NewSource(172))
	seen := map[string]int{}
	for range 1500 {
		l, wait := chance(r)
		if r.Intn(10) == 0 {
			r.Shuffle(len(l), func(i, j int) { l[i], l[j] = l[j], l[i] })
		}
		for range 10 {
			u := someRequest(r, l, wait)
			kind, e := decideWords(l, wait, u)
			decides(t, "by chance", kind, e, l, wait, u)
			seen[fmt.Sprint(kind, e)]++
		}
		for _, name := range append(names, "", "none") {
			version, key := nextWords(l, wait, name)
			next(t, "by chance", l, wait, name, version, key)
		}
	}
	for _, x := range []struct {
		kind int
		e    api.Errno
	}{{admit.Fresh, api.OK}, {admit.Waits, api.OK}, {admit.Done, api.OK}, {0, api.ErrForm}, {0, api.ErrConflict}, {0, api.ErrGap}, {0, api.ErrSig}} {
		if n := seen[fmt.Sprint(x.kind, x.e)]; n < 500 {
			t.Errorf("%d, %d was seen %d times only: %v", x.kind, x.e, n, seen)
		}
	}
}

// publish adds the first that waits of each name to l, at that epoch, and leaves the others.
func publish(t *testing.T, l []api.Known, epoch int, wait []api.Pending) ([]api.Known, []api.Pending) {
	t.Helper()
	var batch []api.Entry
	var left []api.Pending
	for _, x := range wait {
		if slices.ContainsFunc(batch, func(e api.Entry) bool { return e.Name == x.Update.Name }) {
			left = append(left, x)
		} else {
			batch = append(batch, update.Entry(x.Update))
		}
	}
	out, ok := directory.Add(l, epoch, batch)
	if !ok {
		t.Errorf("what Decide took may not be added: %s to %s", short(batch), short(l))
	}
	return out, left
}

// P17.2: whoever asks, it is who has the key ahead that gives the next one.
func TestChain(t *testing.T) {
	r := rand.New(rand.NewSource(173))
	for range 30 {
		var l []api.Known
		var wait []api.Pending
		owner := map[string]int{}        // of each name: who has its newest key
		rows := map[string][]api.Known{} // what each name came to
		taken := map[bool]int{}
		for step := range 300 {
			name, who, heir := names[r.Intn(3)], r.Intn(3), r.Intn(3)
			row := rows[name]
			by := secret(name, len(row), who)
			if len(row) == 0 {
				by = secret(name, 1, who)
			}
			u := asks(entry(name, len(row)+1, heir), by)
			mine := len(row) == 0 && who == heir || len(row) > 0 && who == owner[name]
			kind, e := admit.Decide(l, wait, u)
			if taken[mine]++; mine != (e == api.OK) || kind != admit.Fresh || !mine && e != api.ErrSig {
				t.Fatalf("%d asks for %q, version %d, of %d: %d, %d", who, name, len(row)+1, owner[name], kind, e)
			}
			if mine {
				wait, owner[name] = append(wait, pending(u)), heir
				rows[name] = append(row, api.Known{Entry: update.Entry(u)})
			}
			if step%7 == 6 {
				l, wait = publish(t, l, step, wait)
			}
		}
		for epoch := 300; len(wait) > 0; epoch++ {
			l, wait = publish(t, l, epoch, wait)
		}
		chained(t, l, rows)
		if taken[true] < 50 || taken[false] < 50 {
			t.Errorf("taken: %v", taken)
		}
	}
}

// chained fails the test unless l is Right and has just these rows.
func chained(t *testing.T, l []api.Known, rows map[string][]api.Known) {
	t.Helper()
	n := 0
	for name, row := range rows {
		for i, x := range row {
			got, is := directory.Find(l, name, i+1)
			if !is || got.Entry != x.Entry {
				t.Errorf("%q, version %d: %s, want %s", name, i+1, short(got), short(x))
			}
			again := api.Update{Name: name, Version: i + 1, Key: x.Entry.Key}
			takes(t, "what is published, again", admit.Done, l, nil, again)
		}
		n += len(row)
	}
	if n != len(l) || !directory.Right(l) {
		t.Errorf("%d were taken, %d are known, Right is %v", n, len(l), directory.Right(l))
	}
}

// P17.2: one who had a key gives no more, once another has it; who has the key of one that waits gives the one behind it.
func TestHandedOn(t *testing.T) {
	ann, bob, eve := uint64(71), uint64(72), uint64(73)
	of := func(version int, key, by uint64) api.Update {
		return asks(api.Entry{Name: "x", Version: version, Key: sigs.Public(key)}, by)
	}
	var l []api.Known
	var wait []api.Pending
	give := func(u api.Update) {
		t.Helper()
		takes(t, "who has the key", admit.Fresh, l, wait, u)
		wait = append(wait, pending(u))
		takes(t, "the same request again", admit.Waits, l, wait, u)
	}
	refuses(t, "ann's key, by eve", api.ErrSig, l, wait, of(1, ann, eve))
	give(of(1, ann, ann))
	refuses(t, "eve's key, too late", api.ErrConflict, l, wait, of(1, eve, eve))
	refuses(t, "eve takes it", api.ErrSig, l, wait, of(2, eve, eve))
	refuses(t, "bob takes it", api.ErrSig, l, wait, of(2, bob, bob))
	give(of(2, bob, ann))
	refuses(t, "ann takes it back", api.ErrSig, l, wait, of(3, ann, ann))
	give(of(3, bob, bob))
	l, wait = publish(t, l, 1, wait)
	takes(t, "what is published", admit.Done, l, wait, of(1, ann, ann))
	takes(t, "what waits", admit.Waits, l, wait, of(2, bob, ann))
	refuses(t, "ann gives it to another", api.ErrConflict, l, wait, of(2, eve, ann))
	give(of(4, ann, bob))
	refuses(t, "bob, who gave it", api.ErrSig, l, wait, of(5, bob, bob))
	for epoch := 2; len(wait) > 0; epoch++ {
		l, wait = publish(t, l, epoch, wait)
	}
	refuses(t, "bob, still", api.ErrSig, l, wait, of(5, bob, bob))
	give(of(5, ann, ann))
}

// roomy is l with spare room behind it, that isn't zero.
func roomy[T any](l []T, mark T) []T {
	out := append(slices.Clone(l), mark, mark, mark)
	return out[:len(l)]
}

// P17.1 (what is handed in is neither changed nor kept, and no call hangs on another one).
func TestNothingKept(t *testing.T) {
	mark, sign := known("mark", 77), waits("sign", 99)
	l, wait := roomy(some(), mark), roomy(more(), sign)
	asked := []api.Update{request("a", 6), request("a", 5), request("a", 1), request("n", 9), request("b", 1), asks(entry("a", 6, 0), 1), asks(entry("a", 2, 1), 1), {}}
	for range 3 {
		for _, u := range asked {
			kind, e := decideWords(some(), more(), u)
			decides(t, "once more", kind, e, l, wait, u)
		}
		next(t, "once more", l, wait, "a", 6, key("a", 5))
		next(t, "spare room isn't known", l, wait, "mark", 1, 0)
		next(t, "spare room doesn't wait", l, wait, "sign", 1, 0)
	}
	if !slices.Equal(l, some()) || !slices.Equal(l[:len(l)+3][len(l):], []api.Known{mark, mark, mark}) {
		t.Errorf("a call changed what is known: %s", short(l[:len(l)+3]))
	}
	if !slices.Equal(wait, more()) || !slices.Equal(wait[:len(wait)+3][len(wait):], []api.Pending{sign, sign, sign}) {
		t.Errorf("a call changed what waits: %s", short(wait[:len(wait)+3]))
	}
	for i := range l {
		l[i] = mark
	}
	for i := range wait {
		wait[i] = sign
	}
	next(t, "what was known isn't kept", l, wait, "a", 1, 0)
	takes(t, "what was known isn't kept", admit.Fresh, l, wait, request("a", 1))
	takes(t, "what is known is", admit.Done, l, wait, request("mark", 77))
}

// P17.1: only name, version and key of what waits count, and of what is known not its epoch.
func TestOtherFields(t *testing.T) {
	u := request("a", 2)
	for _, x := range []api.Pending{{Update: u}, {Update: u, Tick: -1, Seq: math.MinInt64, Synced: true}, {Update: api.Update{Name: "a", Version: 2, Key: u.Key, Class: 99, Sig: api.Sig{R: 5}}, Tick: math.MaxInt64}} {
		for _, epoch := range []int{math.MinInt, -1, 0, 1, math.MaxInt} {
			l := []api.Known{{Entry: entry("a", 1, 0), Epoch: epoch}, {Entry: entry("b", 1, 0), Epoch: epoch}}
			takes(t, "known", admit.Done, l, []api.Pending{x}, request("a", 1))
			takes(t, "waiting", admit.Waits, l, []api.Pending{x, {Update: request("b", 2)}}, u)
			takes(t, "the next", admit.Fresh, l, []api.Pending{x}, request("a", 3))
			next(t, "the next", l, []api.Pending{x}, "a", 3, u.Key)
		}
	}
}

// P17.1: all calls end, and none panics, at wild lists and requests.
func TestWild(t *testing.T) {
	r := rand.New(rand.NewSource(174))
	ints := []int{math.MinInt, -1, 0, 1, 2, 3, 1 << 30, 1<<30 + 1, math.MaxInt - 1, math.MaxInt}
	keys := []uint64{0, 1, 7, 1<<61 - 2, 1<<61 - 1, 1 << 61, math.MaxUint64}
	texts := []string{"", "a", "b", strings.Repeat("x", 33), "\xff\xfe", strings.Repeat("y", 10000)}
	wild := func() api.Update {
		return api.Update{Name: texts[r.Intn(len(texts))], Version: ints[r.Intn(len(ints))], Key: keys[r.Intn(len(keys))], Class: ints[r.Intn(len(ints))], Sig: api.Sig{R: keys[r.Intn(len(keys))], S: keys[r.Intn(len(keys))]}}
	}
	for range 5000 {
		var l []api.Known
		var wait []api.Pending
		for range r.Intn(8) {
			l = append(l, api.Known{Entry: update.Entry(wild()), Epoch: ints[r.Intn(len(ints))]})
			wait = append(wait, api.Pending{Update: wild(), Tick: int64(ints[r.Intn(len(ints))]), Seq: int64(ints[r.Intn(len(ints))])})
		}
		u := wild()
		u.Class = r.Intn(2)
		admit.Next(l, wait, u.Name)
		if kind, e := admit.Decide(l, wait, u); e != api.OK && kind != 0 || kind < 0 || kind > admit.Done {
			t.Errorf("Decide of %s: %d, %d", short(u), kind, e)
		}
	}
}

// P17.1: long lists are taken, too.
func TestLong(t *testing.T) {
	const n = 100000
	var l []api.Known
	var wait []api.Pending
	for i := range n {
		name := fmt.Sprintf("n%06d", i)
		l = append(l, api.Known{Entry: api.Entry{Name: name, Version: 1, Key: uint64(1 + i)}, Epoch: 1})
		wait = append(wait, api.Pending{Update: api.Update{Name: name, Version: 2, Key: uint64(2 + i)}})
	}
	for i := 0; i < n && !t.Failed(); i += n / 20 {
		name := fmt.Sprintf("n%06d", i)
		next(t, "a long list", l, wait, name, 3, uint64(2+i))
		takes(t, "a long list", admit.Done, l, wait, api.Update{Name: name, Version: 1, Key: uint64(1 + i)})
		takes(t, "a long list", admit.Waits, l, wait, api.Update{Name: name, Version: 2, Key: uint64(2 + i)})
		refuses(t, "a long list", api.ErrGap, l, wait, api.Update{Name: name, Version: 4, Key: 9})
		refuses(t, "a long list", api.ErrSig, l, wait, api.Update{Name: name, Version: 3, Key: 9})
	}
	takes(t, "a long list", admit.Fresh, l, wait, request("new", 1))
}
