package update_test

import (
	"bytes"
	"math"
	"strings"
	"testing"

	"postmark/api"
	"postmark/sigs"
	"postmark/update"
)

const greatest = math.MaxUint64

// good is an update that is Right, each field unlike the others.
func good() api.Update {
	return api.Update{Name: "ann", Version: 258, Key: 5, Class: api.Urgent, Sig: api.Sig{R: 8, S: 9}}
}

// with is good with one change.
func with(change func(u *api.Update)) api.Update {
	u := good()
	change(&u)
	return u
}

func named(s string) api.Update     { return with(func(u *api.Update) { u.Name = s }) }
func versioned(n int) api.Update    { return with(func(u *api.Update) { u.Version = n }) }
func keyed(n uint64) api.Update     { return with(func(u *api.Update) { u.Key = n }) }
func classed(n int) api.Update      { return with(func(u *api.Update) { u.Class = n }) }
func signedBy(s api.Sig) api.Update { return with(func(u *api.Update) { u.Sig = s }) }
func entry(s string, n int, k uint64) api.Entry {
	return api.Entry{Name: s, Version: n, Key: k}
}

// rights: updates that are Right, at the edges of each field.
func rights() []api.Update {
	l := []api.Update{good(), {Name: "a", Version: 1, Key: 1}}
	for _, s := range []string{"a", "\x00", "\xff", "Ann", "ann ", "élève", strings.Repeat("é", 16), strings.Repeat("a", 31), strings.Repeat("\xff", api.MaxName), strings.Repeat("\x00", api.MaxName)} {
		l = append(l, named(s))
	}
	for _, n := range []int{1, 2, 255, 256, 1 << 16, api.MaxVer - 1, api.MaxVer} {
		l = append(l, versioned(n))
	}
	for _, n := range []uint64{1, 2, 256, 1 << 32, 1 << 60, api.Order - 1, api.Prime - 1} {
		l = append(l, keyed(n))
	}
	for _, n := range []int{api.Plain, api.Urgent} {
		l = append(l, classed(n))
	}
	for _, s := range []api.Sig{{}, {R: 1}, {S: 1}, {R: api.Prime, S: api.Order}, {R: 1 << 63, S: 1<<63 - 1}, {R: greatest, S: greatest}} {
		l = append(l, signedBy(s))
	}
	return l
}

// wrongs: updates that aren't Right, each by one field, and some by several.
func wrongs() []api.Update {
	l := []api.Update{{}, {Name: "ann"}, {Version: 1, Key: 1}, {Name: strings.Repeat("a", 33), Version: -1, Class: 9}}
	for _, s := range []string{"", strings.Repeat("a", api.MaxName+1), strings.Repeat("é", 17), strings.Repeat("\x00", 33), strings.Repeat("a", 256+3), strings.Repeat("a", 5000)} {
		l = append(l, named(s))
	}
	for _, n := range []int{0, -1, math.MinInt, math.MinInt32, api.MaxVer + 1, math.MaxInt32, math.MaxInt, 1<<32 + 1, -(1 << 32) + 1} {
		l = append(l, versioned(n))
	}
	for _, n := range []uint64{0, api.Prime, api.Prime + 1, 2*api.Prime + 5, 1 << 63, 1<<63 + 5, greatest} {
		l = append(l, keyed(n))
	}
	for _, n := range []int{-1, 2, 3, 256, 257, 1 << 32, 1<<32 + 1, math.MaxInt, math.MinInt} {
		l = append(l, classed(n))
	}
	return l
}

// num is eight bytes, the lowest first, of each of l.
func num(l ...uint64) string {
	out := ""
	for _, n := range l {
		for i := range 8 {
			out += string([]byte{byte(n >> (8 * i))})
		}
	}
	return out
}

// lump is a length and the text.
func lump(s string) string {
	return num(uint64(len(s))) + s
}

// request is the bytes of a request with these fields.
func request(name string, version, key, class, r, s uint64) string {
	return lump(name) + num(version, key, class, r, s)
}

// spare is text with room behind it that is filled with '#'.
func spare(text string) []byte {
	b := append([]byte(text), "################"...)
	return b[:len(text)]
}

// unchanged tells whether b is still spare(text), its room included.
func unchanged(b []byte, text string) bool {
	return string(b[:len(text)+16]) == text+"################"
}

// spoil overwrites an answer and the room behind it, as a caller may.
func spoil(b []byte) {
	copy(b[:cap(b)], bytes.Repeat([]byte{'z'}, cap(b)))
}

// refuse fails the test unless Read refuses b with e and tells nothing else.
func refuse(t *testing.T, what, b string, e api.Errno) {
	t.Helper()
	if u, got := update.Read([]byte(b)); got != e || u != (api.Update{}) {
		t.Errorf("Read of %s: %#v, error %d; want error %d", what, u, got, e)
	}
}

// P5.1: each field within its bounds, whatever the signature is.
func TestRight(t *testing.T) {
	for _, u := range rights() {
		if !update.Right(u) {
			t.Errorf("Right(%#v): false", u)
		}
	}
	for _, u := range wrongs() {
		if update.Right(u) {
			t.Errorf("Right(%#v): true", u)
		}
	}
}

// P5.1: 'U', the name as a lump, the version and the key, of any entry.
func TestMessageIsTheEntrysBytes(t *testing.T) {
	long := strings.Repeat("x", 300)
	for want, e := range map[string]api.Entry{
		"U\x03\x00\x00\x00\x00\x00\x00\x00ann\x02\x01\x00\x00\x00\x00\x00\x00\x05\x00\x00\x00\x00\x00\x00\x00": entry("ann", 258, 5),
		"U" + num(0, 0, 0):                        entry("", 0, 0),
		"U" + lump("a\x00") + num(greatest, 1):    entry("a\x00", -1, 1),
		"U" + lump("\xff") + num(1<<63, greatest): entry("\xff", math.MinInt, greatest),
		"U" + lump("élève") + num(1<<30, 1<<61-2): entry("élève", api.MaxVer, api.Prime-1),
		"U" + lump(long) + num(1<<63-1, 1<<63):    entry(long, math.MaxInt, 1<<63),
	} {
		if got := update.Message(e); string(got) != want {
			t.Errorf("Message(%#v): %q, want %q", e, got, want)
		}
	}
	spoil(update.Message(entry("ann", 1, 2)))
	if got := update.Message(entry("ann", 1, 2)); string(got) != "U"+lump("ann")+num(1, 2) {
		t.Errorf("Message when an earlier answer was changed: %q", got)
	}
}

// P5.1: two entries have one message only if they are one.
func TestMessagesOfUnlikeEntriesAreUnlike(t *testing.T) {
	seen := map[string]api.Entry{}
	for _, s := range []string{"", "a", "b", "ab", "a\x00", num(1), num(1, 1), "a" + num(1)} {
		for _, n := range []int{0, 1, 2, -1, 256, 1 << 32} {
			for _, k := range []uint64{0, 1, 2, 256, 1 << 32, greatest} {
				m := string(update.Message(entry(s, n, k)))
				if other, ok := seen[m]; ok {
					t.Errorf("Message of %#v and of %#v: %q", entry(s, n, k), other, m)
				}
				seen[m] = entry(s, n, k)
			}
		}
	}
}

// P5.1: name, version and key as they are, Right or not.
func TestEntryIsNameVersionAndKey(t *testing.T) {
	for _, u := range append(rights(), wrongs()...) {
		if got := update.Entry(u); got != entry(u.Name, u.Version, u.Key) {
			t.Errorf("Entry(%#v): %#v", u, got)
		}
	}
}

// P5.1: signatures that were worked out apart from the program, by the chapters' words alone.
func TestSignOfFixedValues(t *testing.T) {
	for _, c := range []struct {
		secret uint64
		e      api.Entry
		key    uint64
		s      api.Sig
	}{
		{9, entry("ann", 2, 5), 40353607, api.Sig{R: 491574766252244286, S: 79945343660766027}},
		{9, entry("ann", 1, 40353607), 40353607, api.Sig{R: 952426090063838561, S: 2050168252095355074}},
		{12345678901, entry(strings.Repeat("\xff", 32), 1<<30, api.Prime-1), 583582025232090233, api.Sig{R: 1731630497826331291, S: 580767576365575741}},
		{0, entry("", 0, 0), 1, api.Sig{R: 147713893477263714, S: 137408933763315633}},
		{api.Order + 3, entry("a\x00", -1, greatest), 343, api.Sig{R: 425555694684205745, S: 1901583722741068697}},
		{258, entry("élève", 3, 7), 990151269393257929, api.Sig{R: 1691059070573188178, S: 986557861676581206}},
	} {
		for _, class := range []int{api.Plain, api.Urgent, -7} {
			u := api.Update{Name: c.e.Name, Version: c.e.Version, Key: c.e.Key, Class: class}
			want := u
			want.Sig = c.s
			if got := update.Sign(c.secret, u); got != want {
				t.Errorf("Sign(%d, %#v): %#v, want %#v", c.secret, u, got, want)
			}
			if !update.Check(want, c.key) {
				t.Errorf("Check(%#v, %d): false", want, c.key)
			}
		}
	}
}

// P5.1: all else of an update stays, the signature it had doesn't matter, and an update that isn't Right is signed, too.
func TestSignIsOfTheMessage(t *testing.T) {
	for _, u := range append(rights(), wrongs()...) {
		for _, secret := range []uint64{0, 1, 258, api.Order - 1, greatest} {
			want := u
			want.Sig = sigs.Sign(secret, update.Message(entry(u.Name, u.Version, u.Key)))
			got := update.Sign(secret, u)
			if got != want {
				t.Errorf("Sign(%d, %#v): %#v, want %#v", secret, u, got, want)
			}
			if !update.Check(got, sigs.Public(secret)) {
				t.Errorf("Check of Sign(%d, %#v): false", secret, u)
			}
		}
	}
}

// P5.1: the key is the one that is handed in, not the update's, and no other one.
func TestCheckAsksTheKeyHandedIn(t *testing.T) {
	u := update.Sign(9, keyed(sigs.Public(7)))
	if !update.Check(u, sigs.Public(9)) {
		t.Error("Check by the key that signed: false")
	}
	for _, key := range []uint64{u.Key, 0, 1, sigs.Public(8), sigs.Public(9) + 1, sigs.Public(9) + api.Prime, api.Prime, greatest} {
		if update.Check(u, key) {
			t.Errorf("Check by %d: true", key)
		}
	}
}

// P5.1: name, version, key and signature are each held against it; the class isn't in the message.
func TestCheckOfChangedUpdates(t *testing.T) {
	key := sigs.Public(9)
	right := update.Sign(9, good())
	for i, change := range []func(u *api.Update){
		func(u *api.Update) { u.Name = "amn" },
		func(u *api.Update) { u.Name = "Ann" },
		func(u *api.Update) { u.Name = "ann\x00" },
		func(u *api.Update) { u.Name = "" },
		func(u *api.Update) { u.Version++ },
		func(u *api.Update) { u.Version += 1 << 32 },
		func(u *api.Update) { u.Version = -u.Version },
		func(u *api.Update) { u.Key++ },
		func(u *api.Update) { u.Key += api.Prime },
		func(u *api.Update) { u.Sig.R++ },
		func(u *api.Update) { u.Sig.R += api.Prime },
		func(u *api.Update) { u.Sig.S++ },
		func(u *api.Update) { u.Sig.S += api.Order },
		func(u *api.Update) { u.Sig.R, u.Sig.S = u.Sig.S, u.Sig.R },
		func(u *api.Update) { u.Sig = api.Sig{} },
		func(u *api.Update) { u.Sig = sigs.Sign(9, []byte(lump(u.Name)+num(258, 5))) },
	} {
		u := right
		if change(&u); update.Check(u, key) {
			t.Errorf("Check of change %d: true", i)
		}
	}
	for _, class := range []int{api.Plain, api.Urgent, 2, -1, math.MinInt} {
		u := right
		if u.Class = class; !update.Check(u, key) {
			t.Errorf("Check of class %d: false", class)
		}
	}
}

// P5.2: the fields, one behind another.
func TestPutIsTheFieldsInOrder(t *testing.T) {
	want := "\x03\x00\x00\x00\x00\x00\x00\x00ann" + "\x02\x01\x00\x00\x00\x00\x00\x00" + "\x05\x00\x00\x00\x00\x00\x00\x00" + "\x01\x00\x00\x00\x00\x00\x00\x00" + "\x08\x00\x00\x00\x00\x00\x00\x00" + "\x09\x00\x00\x00\x00\x00\x00\x00"
	if got, e := update.Put(good()); string(got) != want || e != api.OK {
		t.Errorf("Put(%#v): %q, error %d", good(), got, e)
	}
	for _, u := range rights() {
		want := request(u.Name, uint64(u.Version), u.Key, uint64(u.Class), u.Sig.R, u.Sig.S)
		got, e := update.Put(u)
		if string(got) != want || e != api.OK {
			t.Errorf("Put(%#v): %q, error %d", u, got, e)
		}
		spoil(got)
		if again, _ := update.Put(u); string(again) != want {
			t.Errorf("Put(%#v) when an earlier answer was changed: %q", u, again)
		}
	}
}

// P5.2: what isn't Right has no bytes.
func TestPutRefusesWhatIsntRight(t *testing.T) {
	for _, u := range wrongs() {
		if b, e := update.Put(u); len(b) != 0 || e != api.ErrForm {
			t.Errorf("Put(%#v): %q, error %d", u, b, e)
		}
	}
}

// P5.2: what Put wrote is read, and nothing of it is missing.
func TestReadOfWhatPutWrote(t *testing.T) {
	want := api.Update{Name: "ab", Version: 3, Key: 7, Class: api.Urgent, Sig: api.Sig{R: 8, S: 9}}
	if u, e := update.Read([]byte("\x02\x00\x00\x00\x00\x00\x00\x00ab" + num(3, 7, 1, 8, 9))); u != want || e != api.OK {
		t.Errorf("Read: %#v, error %d; want %#v", u, e, want)
	}
	for _, u := range rights() {
		b, _ := update.Put(u)
		if got, e := update.Read(b); got != u || e != api.OK {
			t.Errorf("Read of Put(%#v): %#v, error %d", u, got, e)
		}
	}
}

// P5.2: ErrShort wherever it breaks off, ErrBytes of anything behind it.
func TestReadOfTooFewAndTooMany(t *testing.T) {
	refuse(t, "nil", "", api.ErrShort)
	for _, u := range rights() {
		b, _ := update.Put(u)
		for n := range b {
			refuse(t, "a part", string(b[:n]), api.ErrShort)
		}
		for _, more := range []int{1, 8, api.MaxText - len(b)} {
			refuse(t, "more", string(b)+strings.Repeat("\x00", more), api.ErrBytes)
		}
		refuse(t, "two", string(b)+string(b), api.ErrBytes)
		refuse(t, "far more", string(b)+strings.Repeat("\x00", api.MaxText+1-len(b)), api.ErrLong)
	}
}

// P5.2: too many bytes and too long a name are both ErrLong, whatever else is wrong.
func TestReadOfTooLong(t *testing.T) {
	for _, n := range []int{api.MaxText + 1, api.MaxText + 8, 70000} {
		refuse(t, "many noughts", strings.Repeat("\x00", n), api.ErrLong)
		refuse(t, "many bytes", strings.Repeat("\xff", n), api.ErrLong)
	}
	refuse(t, "MaxText noughts", strings.Repeat("\x00", api.MaxText), api.ErrBytes)
	for _, n := range []uint64{33, 34, 256, 512, 1 << 32, 1<<32 + 3, 1<<63 - 1, 1 << 63, greatest} {
		refuse(t, "a great length alone", num(n), api.ErrLong)
		refuse(t, "a great length ahead of the rest", num(n)+"ann"+num(1, 5, 0, 8, 9), api.ErrLong)
	}
	refuse(t, "a name above MaxName", request(strings.Repeat("a", 33), 1, 5, 0, 8, 9), api.ErrLong)
	refuse(t, "such a one, wrong fields, more", request(strings.Repeat("a", 33), 0, 0, 2, 8, 9)+"x", api.ErrLong)
	refuse(t, "such a one, cut off", request(strings.Repeat("a", 33), 1, 5, 0, 8, 9)[:30], api.ErrLong)
	refuse(t, "MaxName's length alone", num(api.MaxName), api.ErrShort)
}

// P5.2: ErrForm unless Right, but only where just all the bytes are there.
func TestReadOfWrongFields(t *testing.T) {
	for i, b := range []string{
		request("", 1, 5, 0, 8, 9),
		request("ann", 0, 5, 0, 8, 9),
		request("ann", api.MaxVer+1, 5, 0, 8, 9),
		request("ann", 1<<32+1, 5, 0, 8, 9),
		request("ann", 1<<63-1, 5, 0, 8, 9),
		request("ann", 1<<63, 5, 0, 8, 9),
		request("ann", 1<<63+1, 5, 0, 8, 9),
		request("ann", greatest, 5, 0, 8, 9),
		request("ann", 1, 0, 0, 8, 9),
		request("ann", 1, api.Prime, 0, 8, 9),
		request("ann", 1, api.Prime+5, 0, 8, 9),
		request("ann", 1, 1<<63+5, 0, 8, 9),
		request("ann", 1, greatest, 0, 8, 9),
		request("ann", 1, 5, 2, 8, 9),
		request("ann", 1, 5, 256, 8, 9),
		request("ann", 1, 5, 1<<32, 8, 9),
		request("ann", 1, 5, 1<<32+1, 8, 9),
		request("ann", 1, 5, 1<<63, 8, 9),
		request("ann", 1, 5, 1<<63+1, 8, 9),
		request("ann", 1, 5, greatest, 8, 9),
		request("", 0, 0, 2, greatest, greatest),
	} {
		if u, e := update.Read([]byte(b)); u != (api.Update{}) || e != api.ErrForm {
			t.Errorf("Read of wrong fields %d: %#v, error %d", i, u, e)
		}
		for n := range len(b) {
			refuse(t, "wrong fields, cut off", b[:n], api.ErrShort)
		}
		refuse(t, "wrong fields and more", b+"\x00", api.ErrBytes)
	}
}

// P5.2: a signature's numbers may be any, those above 2^63 - 1 too.
func TestReadTakesEachSignature(t *testing.T) {
	for _, s := range []api.Sig{{}, {R: 1<<63 - 1, S: 1 << 63}, {R: 1 << 63, S: greatest}, {R: greatest, S: greatest}} {
		u, e := update.Read([]byte(request("ann", 258, 5, 1, s.R, s.S)))
		if u != signedBy(s) || e != api.OK {
			t.Errorf("Read of signature %#v: %#v, error %d", s, u, e)
		}
	}
}

// P5.2 and DOC.md's rule 3: what is handed in is neither changed nor kept, and what is behind it isn't read.
func TestReadLeavesItsBytes(t *testing.T) {
	text := request("ann", 258, 5, 1, 8, 9)
	b := spare(text)
	u, e := update.Read(b)
	if !unchanged(b, text) {
		t.Errorf("what was handed in is now %q", b)
	}
	clear(b)
	if u != good() || e != api.OK {
		t.Errorf("Read of bytes with room behind them: %#v, error %d", u, e)
	}
	if _, e := update.Read(spare(text)[:len(text)-1]); e != api.ErrShort {
		t.Errorf("the room behind what is handed in is read: error %d", e)
	}
}

// P5.3: a name has a key: what was signed and written is read and believed by its key; whoever turns a bit over of it gets another class at most.
func TestANameHasAKey(t *testing.T) {
	first, second := sigs.Public(11), sigs.Public(12)
	for _, u := range []api.Update{
		update.Sign(11, api.Update{Name: "ann", Version: 1, Key: first}),
		update.Sign(11, api.Update{Name: "ann", Version: 2, Key: second, Class: api.Urgent}),
		update.Sign(11, api.Update{Name: strings.Repeat("é", 16), Version: api.MaxVer, Key: api.Prime - 1}),
	} {
		b, e := update.Put(u)
		if e != api.OK {
			t.Fatalf("Put(%#v): error %d", u, e)
		}
		if got, e := update.Read(b); e != api.OK || got != u || !update.Check(got, first) || update.Check(got, second) {
			t.Errorf("%#v is read as %#v, error %d, and believed or not", u, got, e)
		}
		for i := range 8 * len(b) {
			b[i/8] ^= 1 << (i % 8)
			got, e := update.Read(b)
			classless := got
			classless.Class = u.Class
			if e == api.OK && (got == u || classless != u && update.Check(got, first)) {
				t.Errorf("%#v with bit %d turned over is taken as %#v", u, i, got)
			}
			b[i/8] ^= 1 << (i % 8)
		}
	}
}
