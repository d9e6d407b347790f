package promise_test

import (
	"bytes"
	"math"
	"strings"
	"testing"

	"postmark/api"
	"postmark/promise"
	"postmark/sigs"
)

const (
	greatest = math.MaxUint64
	last     = api.MaxTick - api.Delay // the tick whose deadline is just at time's end
)

// good is a promise that is Right, each field unlike the others.
func good() api.Promise {
	return api.Promise{Entry: entry("ann", 258, 5), Tick: 7, Deadline: 47, Sig: api.Sig{R: 8, S: 9}}
}

// with is good with one change.
func with(change func(p *api.Promise)) api.Promise {
	p := good()
	change(&p)
	return p
}

func of(e api.Entry) api.Promise     { return with(func(p *api.Promise) { p.Entry = e }) }
func ticked(tick int64) api.Promise  { return dated(tick, tick+40) }
func signedBy(s api.Sig) api.Promise { return with(func(p *api.Promise) { p.Sig = s }) }
func dated(tick, deadline int64) api.Promise {
	return with(func(p *api.Promise) { p.Tick, p.Deadline = tick, deadline })
}
func entry(name string, version int, key uint64) api.Entry {
	return api.Entry{Name: name, Version: version, Key: key}
}

// entries: those that a Right update may have, at the edges of each field.
func entries() []api.Entry {
	l := []api.Entry{good().Entry, entry("a", 1, 1)}
	for _, s := range []string{"a", "\x00", "\xff", "P", "Ann", "ann ", "élève", strings.Repeat("é", 16), strings.Repeat("a", 31), strings.Repeat("\xff", api.MaxName), strings.Repeat("\x00", api.MaxName)} {
		l = append(l, entry(s, 258, 5))
	}
	for _, n := range []int{1, 2, 255, 256, 1 << 16, api.MaxVer - 1, api.MaxVer} {
		l = append(l, entry("ann", n, 5))
	}
	for _, n := range []uint64{1, 2, 256, 1 << 32, 1 << 60, api.Order - 1, api.Order, api.Prime - 1} {
		l = append(l, entry("ann", 258, n))
	}
	return l
}

// strangers: entries that no Right update has, each by one field, and some by several.
func strangers() []api.Entry {
	l := []api.Entry{{}, {Name: "ann"}, {Version: 1, Key: 1}, {Name: strings.Repeat("a", 33), Version: -1}}
	for _, s := range []string{"", strings.Repeat("a", api.MaxName+1), strings.Repeat("é", 17), strings.Repeat("\x00", 33), strings.Repeat("a", 256+3), strings.Repeat("a", 5000)} {
		l = append(l, entry(s, 258, 5))
	}
	for _, n := range []int{0, -1, math.MinInt, math.MinInt32, api.MaxVer + 1, math.MaxInt32, math.MaxInt, 1<<32 + 1, -(1 << 32) + 1} {
		l = append(l, entry("ann", n, 5))
	}
	for _, n := range []uint64{0, api.Prime, api.Prime + 1, 2*api.Prime + 5, 1 << 63, 1<<63 + 5, greatest} {
		l = append(l, entry("ann", 258, n))
	}
	return l
}

// ticks: those at which a promise may be made.
func ticks() []int64 {
	return []int64{0, 1, 39, 40, 255, 256, 1 << 32, 1<<32 + 1, last - 1, last}
}

// lateTicks: those that may be, with a deadline that may not.
func lateTicks() []int64 {
	return []int64{last + 1, last + 2, api.MaxTick - 1, api.MaxTick}
}

// noTicks: those that may not be.
func noTicks() []int64 {
	return []int64{-1, -2, -39, -40, -41, math.MinInt32, math.MinInt64, math.MinInt64 + 40, api.MaxTick + 1, 2 * api.MaxTick, math.MaxInt64 - 40, math.MaxInt64 - 39, math.MaxInt64}
}

// rights: promises that are Right.
func rights() []api.Promise {
	l := []api.Promise{good()}
	for _, e := range entries() {
		l = append(l, of(e))
	}
	for _, n := range ticks() {
		l = append(l, ticked(n))
	}
	for _, s := range []api.Sig{{}, {R: 1}, {S: 1}, {R: api.Prime, S: api.Order}, {R: 1 << 63, S: 1<<63 - 1}, {R: 1<<63 - 1, S: 1 << 63}, {R: greatest, S: greatest}} {
		l = append(l, signedBy(s))
	}
	return l
}

// wrongs: promises that aren't Right, each by one thing, and some by several.
func wrongs() []api.Promise {
	l := []api.Promise{{}, {Tick: 5, Deadline: 45}, {Entry: entry("ann", 258, 5)}, {Entry: entry("", -1, 0), Tick: -1, Deadline: -1}}
	for _, e := range strangers() {
		l = append(l, of(e))
	}
	for _, n := range append(lateTicks(), noTicks()...) {
		l = append(l, ticked(n))
	}
	for _, n := range []int64{0, 1, 7, 46, 48, -33, -47, -1, 47 + 1<<32, 47 - 1<<32, api.MaxTick, api.MaxTick + 1, math.MaxInt64, math.MinInt64} {
		l = append(l, dated(7, n))
	}
	for _, n := range []int64{-40, 0, 6, 8, 47, 7 + 1<<32, api.MaxTick, math.MaxInt64, math.MinInt64} {
		l = append(l, dated(n, 47))
	}
	return append(l, dated(0, 0), dated(last, api.MaxTick-1), dated(last, api.MaxTick+1), dated(last+1, api.MaxTick), dated(40, 0))
}

// num is eight bytes, the lowest first, of each of l.
func num(l ...uint64) string {
	out := ""
	for _, n := range l {
		for i := range 8 {
			out += string([]byte{byte(n >> (8 * i))})
		}
	}
	return out
}

// message is the chapter's Message of a promise with these fields.
func message(name string, version, key, tick, deadline uint64) string {
	return "P" + num(uint64(len(name))) + name + num(version, key, tick, deadline)
}

// messageOf is that of a promise as it is.
func messageOf(p api.Promise) string {
	return message(p.Entry.Name, uint64(p.Entry.Version), p.Entry.Key, uint64(p.Tick), uint64(p.Deadline))
}

// text is the bytes of a promise with these fields, and good's signature.
func text(name string, version, key, tick, deadline uint64) string {
	return message(name, version, key, tick, deadline) + num(8, 9)
}

// signed is p with the signature of its Message, Right or not.
func signed(secret uint64, p api.Promise) api.Promise {
	p.Sig = sigs.Sign(secret, []byte(messageOf(p)))
	return p
}

// spare is text with room behind it that is filled with '#'.
func spare(text string) []byte {
	b := append([]byte(text), "################"...)
	return b[:len(text)]
}

// unchanged tells whether b is still spare(text), its room included.
func unchanged(b []byte, text string) bool {
	return string(b[:len(text)+16]) == text+"################"
}

// spoil overwrites an answer and the room behind it, as a caller may.
func spoil(b []byte) {
	copy(b[:cap(b)], bytes.Repeat([]byte{'z'}, cap(b)))
}

// refuse fails the test unless Read refuses b with e and tells nothing else.
func refuse(t *testing.T, what, b string, e api.Errno) {
	t.Helper()
	if p, got := promise.Read([]byte(b)); got != e || p != (api.Promise{}) {
		t.Errorf("Read of %s: %#v, error %d; want error %d", what, p, got, e)
	}
}

// deny fails the test unless Make says e and tells nothing else.
func deny(t *testing.T, of api.Entry, tick int64, e api.Errno) {
	t.Helper()
	for _, secret := range []uint64{0, 5, greatest} {
		if p, got := promise.Make(secret, of, tick); got != e || p != (api.Promise{}) {
			t.Errorf("Make(%d, %#v, %d): %#v, error %d; want error %d", secret, of, tick, p, got, e)
		}
	}
}

// believe fails the test unless Check says want.
func believe(t *testing.T, want bool, public uint64, p api.Promise) {
	t.Helper()
	if got := promise.Check(public, p); got != want {
		t.Errorf("Check(%d, %#v): %#v, want %#v", public, p, got, want)
	}
}

// P11.1: an Entry that a Right update may have, Tick 0 to MaxTick, Deadline Tick and Delay, at most MaxTick, whatever the signature is.
func TestRight(t *testing.T) {
	for _, p := range rights() {
		if !promise.Right(p) {
			t.Errorf("Right(%#v): false", p)
		}
	}
	for _, p := range wrongs() {
		if promise.Right(p) {
			t.Errorf("Right(%#v): true", p)
		}
	}
}

// P11.1: of all deadlines about a tick just one is Right.
func TestRightOfOneDeadline(t *testing.T) {
	for _, tick := range append(ticks(), lateTicks()...) {
		for d := int64(-100); d <= 100; d++ {
			want := d == 40 && tick <= last
			if got := promise.Right(dated(tick, tick+d)); got != want {
				t.Errorf("Right, from %d to %d ticks more: %#v", tick, d, got)
			}
		}
	}
}

// P11.1: 'P', the name as a lump, version, key, tick and deadline, of any promise, Right or not.
func TestMessageIsTheFieldsInOrder(t *testing.T) {
	want := "P" + "\x03\x00\x00\x00\x00\x00\x00\x00ann" + "\x02\x01\x00\x00\x00\x00\x00\x00" + "\x05\x00\x00\x00\x00\x00\x00\x00" + "\x07\x00\x00\x00\x00\x00\x00\x00" + "\x2f\x00\x00\x00\x00\x00\x00\x00"
	if got := promise.Message(good()); string(got) != want {
		t.Errorf("Message(%#v): %q, want %q", good(), got, want)
	}
	for _, p := range append(rights(), wrongs()...) {
		if got, want := promise.Message(p), messageOf(p); string(got) != want {
			t.Errorf("Message(%#v): %q, want %q", p, got, want)
		}
	}
	for p, want := range map[api.Promise]string{
		{}:                               "P" + strings.Repeat("\x00", 40),
		{Entry: entry("", -1, 0)}:        "P" + num(0) + strings.Repeat("\xff", 8) + num(0, 0, 0),
		{Entry: entry("a", 0, greatest)}: "P" + num(1) + "a" + num(0, greatest, 0, 0),
		{Tick: -2, Deadline: 1}:          "P" + num(0, 0, 0, greatest-1, 1),
		{Deadline: math.MinInt64}:        "P" + num(0, 0, 0, 0, 1<<63),
		of(entry(strings.Repeat("é", 300), math.MinInt, 1<<63)): "P" + num(600) + strings.Repeat("é", 300) + num(1<<63, 1<<63, 7, 47),
	} {
		if got := promise.Message(p); string(got) != want {
			t.Errorf("Message(%#v): %q, want %q", p, got, want)
		}
	}
}

// P11.1: a signature isn't in the Message, all else is: two promises have one Message only if they are alike but for it.
func TestMessagesOfUnlikePromisesAreUnlike(t *testing.T) {
	l := append(rights(), wrongs()...)
	for _, s := range []string{"", "a", "b", "ab", "a\x00", num(1), num(1, 1), "a" + num(1)} {
		for _, n := range []uint64{0, 1, 2, 256, 1 << 32} {
			l = append(l, of(entry(s, int(n), 5)), of(entry(s, 1, n)), dated(int64(n), 5), dated(5, int64(n)))
		}
	}
	seen := map[string]api.Promise{}
	for _, p := range l {
		m := string(promise.Message(p))
		p.Sig = api.Sig{}
		if other, ok := seen[m]; ok && other != p {
			t.Errorf("Message of %#v and of %#v: %q", p, other, m)
		}
		seen[m] = p
	}
	want := string(promise.Message(good()))
	for _, s := range []api.Sig{{}, {R: 1, S: 2}, {R: greatest, S: greatest}} {
		if got := promise.Message(signedBy(s)); string(got) != want {
			t.Errorf("Message with signature %#v: %q, want %q", s, got, want)
		}
	}
}

// P11.1: signatures that were worked out apart from the program, by the chapters' words alone.
func TestMakeOfFixedValues(t *testing.T) {
	for _, c := range []struct {
		secret, key uint64
		e           api.Entry
		tick        int64
		s           api.Sig
	}{
		{9, 40353607, entry("ann", 258, 5), 5, api.Sig{R: 1198736817698411886, S: 1449211005165885474}},
		{1, 7, entry("a", 1, 1), 0, api.Sig{R: 1164604361880375873, S: 122956783100918207}},
		{12345678901, 583582025232090233, entry(strings.Repeat("\xff", 32), 1<<30, api.Prime-1), 1<<60 - 40, api.Sig{R: 766009085315777529, S: 796108020628133063}},
		{api.Order - 1, 1976436865040309101, entry("élève", 3, 7), 258, api.Sig{R: 1382133679120133450, S: 1205338818290445149}},
		{api.Order + 3, 343, entry("\x00", 2, 1<<32), 1<<32 + 1, api.Sig{R: 800589333084459322, S: 2112556676935961698}},
		{0, 1, entry("a\x00", 1<<30-1, api.Prime-2), 1000000, api.Sig{R: 109175120018422827, S: 1844153506605402022}},
		{258, 990151269393257929, entry(strings.Repeat("x", 31), 2, 40353607), 1<<60 - 41, api.Sig{R: 256627250896701001, S: 2299725963368289633}},
	} {
		want := api.Promise{Entry: c.e, Tick: c.tick, Deadline: c.tick + 40, Sig: c.s}
		if got, e := promise.Make(c.secret, c.e, c.tick); got != want || e != api.OK {
			t.Errorf("Make(%d, %#v, %d): %#v, error %d; want %#v", c.secret, c.e, c.tick, got, e, want)
		}
		believe(t, true, c.key, want)
	}
	for key, p := range map[uint64]api.Promise{
		1:      {Sig: api.Sig{R: 257437542041406552, S: 1047344569172706543}},
		823543: {Entry: entry("ann", -1, greatest), Tick: -1, Deadline: -2, Sig: api.Sig{R: 678803895716711177, S: 1573537982873773326}},
	} {
		believe(t, false, key, p)
		if !sigs.Check(key, promise.Message(p), p.Sig) {
			t.Errorf("the signature of %#v, by the chapters' words, doesn't hold of its Message", p)
		}
	}
}

// P11.1: the promise is the entry's, with Delay ticks, the signature that of its Message; and it is Right, and believed.
func TestMakeIsSigned(t *testing.T) {
	for _, secret := range []uint64{0, 1, 258, api.Order - 1, api.Order, greatest} {
		for _, e := range entries() {
			for _, tick := range ticks() {
				want := signed(secret, api.Promise{Entry: e, Tick: tick, Deadline: tick + api.Delay})
				got, err := promise.Make(secret, e, tick)
				if got != want || err != api.OK || !promise.Right(got) {
					t.Errorf("Make(%d, %#v, %d): %#v, error %d; want %#v", secret, e, tick, got, err, want)
				}
			}
			p, _ := promise.Make(secret, e, 7)
			believe(t, true, sigs.Public(secret), p)
		}
	}
}

// P11.1: the chapter's example.
func TestMakeAtFive(t *testing.T) {
	if p, e := promise.Make(1, entry("ann", 1, 7), 5); p.Tick != 5 || p.Deadline != 45 || e != api.OK {
		t.Errorf("Make at 5: %#v, error %d", p, e)
	}
}

// P11.1: ErrForm of an entry or a tick that may not be, also where time would end; ErrClock of a deadline above MaxTick, where all else may be.
func TestMakeRefuses(t *testing.T) {
	for _, e := range strangers() {
		for _, tick := range append(append(ticks(), lateTicks()...), noTicks()...) {
			deny(t, e, tick, api.ErrForm)
		}
	}
	for _, e := range entries() {
		for _, tick := range noTicks() {
			deny(t, e, tick, api.ErrForm)
		}
		for _, tick := range lateTicks() {
			deny(t, e, tick, api.ErrClock)
		}
	}
	for tick := int64(last + 1); tick <= api.MaxTick+api.Delay; tick++ {
		want := api.ErrClock
		if tick > api.MaxTick {
			want = api.ErrForm
		}
		deny(t, entry("ann", 1, 7), tick, want)
	}
}

// P11.1: who promised is believed, whatever the secret; and just where the promise is Right, though the signature of others holds, too.
func TestCheckAsksWhetherItIsRight(t *testing.T) {
	for _, secret := range []uint64{0, 1, 258, 12345678901, api.Order - 1, greatest} {
		key := sigs.Public(secret)
		for _, p := range rights() {
			believe(t, true, key, signed(secret, p))
		}
		for _, p := range wrongs() {
			p = signed(secret, p)
			if !sigs.Check(key, []byte(messageOf(p)), p.Sig) {
				t.Errorf("the signature of %#v doesn't hold", p)
			}
			believe(t, false, key, p)
		}
	}
}

// P11.1: nobody but who signed it is believed: the key is the one that is handed in, not the entry's.
func TestCheckAsksTheKeyHandedIn(t *testing.T) {
	p, _ := promise.Make(9, entry("ann", 1, sigs.Public(7)), 5)
	key := sigs.Public(9)
	believe(t, true, key, p)
	for _, other := range []uint64{p.Entry.Key, 0, 1, 9, sigs.Public(8), sigs.Public(10), key + 1, key - 1, key + api.Prime, api.Prime, greatest} {
		believe(t, false, other, p)
	}
}

// P11.1: each field and the signature are held against the key, also where the promise stays Right.
func TestCheckOfChangedPromises(t *testing.T) {
	key := sigs.Public(9)
	right := signed(9, good())
	for _, change := range []func(p *api.Promise){
		func(p *api.Promise) { p.Entry.Name = "amn" },
		func(p *api.Promise) { p.Entry.Name = "Ann" },
		func(p *api.Promise) { p.Entry.Name = "ann\x00" },
		func(p *api.Promise) { p.Entry.Name = "" },
		func(p *api.Promise) { p.Entry.Version++ },
		func(p *api.Promise) { p.Entry.Version-- },
		func(p *api.Promise) { p.Entry.Version += 1 << 32 },
		func(p *api.Promise) { p.Entry.Key++ },
		func(p *api.Promise) { p.Entry.Key += api.Prime },
		func(p *api.Promise) { p.Entry.Version, p.Entry.Key = int(p.Entry.Key), uint64(p.Entry.Version) },
		func(p *api.Promise) { p.Tick++ },
		func(p *api.Promise) { p.Deadline++ },
		func(p *api.Promise) { p.Deadline-- },
		func(p *api.Promise) { p.Tick, p.Deadline = p.Tick+1, p.Deadline+1 },
		func(p *api.Promise) { p.Tick, p.Deadline = p.Tick-1, p.Deadline-1 },
		func(p *api.Promise) { p.Tick, p.Deadline = p.Tick+1<<32, p.Deadline+1<<32 },
		func(p *api.Promise) { p.Sig = api.Sig{} },
		func(p *api.Promise) { p.Sig.R, p.Sig.S = p.Sig.S, p.Sig.R },
		func(p *api.Promise) { p.Sig.R += api.Prime },
		func(p *api.Promise) { p.Sig.S += api.Order },
		func(p *api.Promise) { p.Sig = sigs.Sign(9, []byte(messageOf(*p)[1:])) },
		func(p *api.Promise) { p.Sig = sigs.Sign(9, []byte(messageOf(*p)+num(p.Sig.R, p.Sig.S))) },
		func(p *api.Promise) { p.Sig = sigs.Sign(9, []byte("U"+messageOf(*p)[1:])) },
		func(p *api.Promise) { p.Sig = sigs.Sign(9, []byte("U"+num(3)+"ann"+num(258, 5))) },
	} {
		p := right
		change(&p)
		believe(t, false, key, p)
	}
	for bit := range 64 {
		p := right
		p.Sig.R ^= 1 << bit
		believe(t, false, key, p)
		p = right
		p.Sig.S ^= 1 << bit
		believe(t, false, key, p)
	}
}

// P11.1: Message, then R and S, whatever these are.
func TestPutIsMessageAndSignature(t *testing.T) {
	want := text("ann", 258, 5, 7, 47)
	if got, e := promise.Put(good()); string(got) != want || e != api.OK {
		t.Errorf("Put(%#v): %q, error %d; want %q", good(), got, e, want)
	}
	for _, p := range rights() {
		want := messageOf(p) + num(p.Sig.R, p.Sig.S)
		if got, e := promise.Put(p); string(got) != want || e != api.OK {
			t.Errorf("Put(%#v): %q, error %d; want %q", p, got, e, want)
		}
	}
}

// P11.1: what isn't Right has no bytes, signed or not.
func TestPutRefusesWhatIsntRight(t *testing.T) {
	for _, p := range wrongs() {
		for _, x := range []api.Promise{p, signed(5, p)} {
			if b, e := promise.Put(x); len(b) != 0 || e != api.ErrForm {
				t.Errorf("Put(%#v): %q, error %d", x, b, e)
			}
		}
	}
}

// P11.1 and DOC.md's rule 3: what Message and Put answer is new memory each time.
func TestAnswersAreNew(t *testing.T) {
	p := good()
	a, b := promise.Message(p), promise.Message(p)
	c, _ := promise.Put(p)
	d, _ := promise.Put(p)
	spoil(a)
	spoil(c)
	if string(b) != messageOf(good()) || string(d) != text("ann", 258, 5, 7, 47) || p != good() {
		t.Errorf("when another answer was changed: %q, %q, %#v", b, d, p)
	}
}

// P11.1: what Put wrote is read, and nothing of it is missing.
func TestReadOfWhatPutWrote(t *testing.T) {
	if p, e := promise.Read([]byte(text("ann", 258, 5, 7, 47))); p != good() || e != api.OK {
		t.Errorf("Read: %#v, error %d; want %#v", p, e, good())
	}
	for _, p := range rights() {
		b, _ := promise.Put(p)
		if got, e := promise.Read(b); got != p || e != api.OK {
			t.Errorf("Read of Put(%#v): %#v, error %d", p, got, e)
		}
	}
}

// P11.1: ErrShort of none and wherever it breaks off, ErrBytes of anything behind it, up to MaxText.
func TestReadOfTooFewAndTooMany(t *testing.T) {
	refuse(t, "nil", "", api.ErrShort)
	if p, e := promise.Read(nil); p != (api.Promise{}) || e != api.ErrShort {
		t.Errorf("Read of nil: %#v, error %d", p, e)
	}
	for _, p := range rights() {
		b, _ := promise.Put(p)
		for n := range b {
			refuse(t, "a part", string(b[:n]), api.ErrShort)
		}
		for n := len(b) + 1; n <= api.MaxText; n++ {
			refuse(t, "more", string(b)+strings.Repeat("\x00", n-len(b)), api.ErrBytes)
		}
		refuse(t, "two", string(b)+string(b), api.ErrBytes)
		refuse(t, "one behind a byte", "P"+string(b), api.ErrLong) // the first P is taken for the name's length
	}
}

// P11.1: ErrLong of more than MaxText bytes, whatever they are.
func TestReadOfFarTooMany(t *testing.T) {
	for _, n := range []int{api.MaxText + 1, api.MaxText + 8, 1024, 70000} {
		refuse(t, "noughts", strings.Repeat("\x00", n), api.ErrLong)
		refuse(t, "Ps", strings.Repeat("P", n), api.ErrLong)
		for _, b := range []string{text("ann", 258, 5, 7, 47), text("ann", 0, 0, 7, 7), "h" + text("ann", 258, 5, 7, 47)[1:]} {
			refuse(t, "a promise and far more", b+strings.Repeat("\x00", n-len(b)), api.ErrLong)
		}
	}
}

// P11.1: ErrBytes of all that doesn't begin with 'P', however long up to MaxText, and whatever else is wrong.
func TestReadOfAnotherBeginning(t *testing.T) {
	for c := range 256 {
		if c == 'P' {
			continue
		}
		first := string([]byte{byte(c)})
		refuse(t, "another byte alone", first, api.ErrBytes)
		for _, b := range []string{text("ann", 258, 5, 7, 47), text("", 0, 0, greatest, greatest), text(strings.Repeat("a", 33), 258, 5, 7, 47)} {
			refuse(t, "another beginning", first+b[1:], api.ErrBytes)
			refuse(t, "another beginning, cut off", first+b[1:30], api.ErrBytes)
			refuse(t, "another beginning and more", first+b[1:]+"x", api.ErrBytes)
		}
		refuse(t, "another beginning and noughts", first+strings.Repeat("\x00", api.MaxText-1), api.ErrBytes)
	}
}

// P11.1: a name above MaxName is ErrLong, wherever the bytes end behind its length, and whatever else is wrong.
func TestReadOfALongName(t *testing.T) {
	for _, n := range []uint64{33, 34, 256, 512, 1 << 32, 1<<32 + 3, 1<<63 - 1, 1 << 63, 1<<63 + 3, greatest} {
		refuse(t, "a great length alone", "P"+num(n), api.ErrLong)
		refuse(t, "a great length ahead of the rest", "P"+num(n)+"ann"+num(258, 5, 7, 47, 8, 9), api.ErrLong)
		refuse(t, "a great length, cut off", ("P" + num(n))[:8], api.ErrShort)
	}
	long := strings.Repeat("a", api.MaxName+1)
	refuse(t, "a name above MaxName", text(long, 258, 5, 7, 47), api.ErrLong)
	refuse(t, "such a one, wrong fields, more", text(long, 0, 0, 7, 7)+"x", api.ErrLong)
	refuse(t, "such a one, cut off", text(long, 258, 5, 7, 47)[:30], api.ErrLong)
	refuse(t, "MaxName's length alone", "P"+num(api.MaxName), api.ErrShort)
	refuse(t, "as long as may be, and a byte too few", text(long[1:], 258, 5, 7, 47)[:88], api.ErrShort)
	if p, e := promise.Read([]byte(text(long[1:], 258, 5, 7, 47))); p != of(entry(long[1:], 258, 5)) || e != api.OK {
		t.Errorf("Read of a name of MaxName bytes: %#v, error %d", p, e)
	}
}

// P11.1: ErrForm unless Right; numbers above 2^63 - 1 aren't, whatever is left of them when they are cut off or turned over.
func TestReadOfWrongFields(t *testing.T) {
	l := []string{text("", 258, 5, 7, 47), text("", 0, 0, greatest, greatest), "P" + strings.Repeat("\x00", 56)}
	for _, n := range []uint64{0, api.MaxVer + 1, 1<<31 + 1, 1 << 32, 1<<32 + 1, 1<<63 - 1, 1 << 63, 1<<63 + 1, 1<<63 + 258, greatest, greatest - 257} {
		l = append(l, text("ann", n, 5, 7, 47))
	}
	for _, n := range []uint64{0, api.Prime, api.Prime + 5, 1<<63 - 1, 1 << 63, 1<<63 + 5, greatest} {
		l = append(l, text("ann", 258, n, 7, 47))
	}
	for _, n := range []uint64{0, 6, 8, 47, 1<<32 + 7, api.MaxTick, 1<<63 - 1, 1 << 63, 1<<63 + 7, greatest, greatest - 6} {
		l = append(l, text("ann", 258, 5, n, 47))
	}
	for _, n := range []uint64{0, 7, 46, 48, 1<<32 + 47, api.MaxTick, 1<<63 - 1, 1 << 63, 1<<63 + 47, greatest, greatest - 46} {
		l = append(l, text("ann", 258, 5, 7, n))
	}
	for _, n := range append(lateTicks(), noTicks()...) {
		l = append(l, text("ann", 258, 5, uint64(n), uint64(n)+40))
	}
	for _, n := range []uint64{1 << 63, 1<<63 + 7, 1<<63 - 41, 1<<63 - 40, 1<<63 - 39, greatest - 39, greatest - 40} {
		l = append(l, text("ann", 258, 5, n, n+40))
	}
	for i, b := range l {
		if p, e := promise.Read([]byte(b)); p != (api.Promise{}) || e != api.ErrForm {
			t.Errorf("Read of wrong fields %d: %#v, error %d", i, p, e)
		}
		for n := range len(b) {
			refuse(t, "wrong fields, cut off", b[:n], api.ErrShort)
		}
		refuse(t, "wrong fields and more", b+"\x00", api.ErrBytes)
	}
	for _, p := range wrongs() {
		if len(p.Entry.Name) <= api.MaxName {
			p = signed(5, p)
			refuse(t, "a promise that isn't Right, signed", messageOf(p)+num(p.Sig.R, p.Sig.S), api.ErrForm)
		}
	}
}

// P11.1: a signature's numbers may be any, those above 2^63 - 1 too: Read doesn't ask whether it holds.
func TestReadTakesEachSignature(t *testing.T) {
	for _, s := range []api.Sig{{}, {R: 1<<63 - 1, S: 1 << 63}, {R: 1 << 63, S: greatest}, {R: greatest, S: greatest}, {R: api.Prime, S: api.Order}} {
		b := message("ann", 258, 5, 7, 47) + num(s.R, s.S)
		if p, e := promise.Read([]byte(b)); p != signedBy(s) || e != api.OK {
			t.Errorf("Read of signature %#v: %#v, error %d", s, p, e)
		}
	}
}

// P11.1 and DOC.md's rule 3: what is handed in is neither changed nor kept, and what is behind it isn't read.
func TestReadLeavesItsBytes(t *testing.T) {
	right := text("ann", 258, 5, 7, 47)
	b := spare(right)
	p, e := promise.Read(b)
	if !unchanged(b, right) {
		t.Errorf("what was handed in is now %q", b)
	}
	clear(b)
	if p != good() || e != api.OK {
		t.Errorf("Read of bytes with room behind them: %#v, error %d", p, e)
	}
	if _, e := promise.Read(spare(right)[:len(right)-1]); e != api.ErrShort {
		t.Errorf("the room behind what is handed in is read: error %d", e)
	}
	if _, e := promise.Read(spare(right)[:0]); e != api.ErrShort {
		t.Errorf("the room behind no bytes is read: error %d", e)
	}
}

// P11.2: a promise has a date: Delay ticks from the one it is made at, in its bytes, and believed with no other one.
func TestAPromiseHasADate(t *testing.T) {
	key := sigs.Public(11)
	for _, tick := range ticks() {
		p, e := promise.Make(11, entry("ann", 2, 7), tick)
		if e != api.OK || p.Deadline-p.Tick != api.Delay || p.Tick != tick {
			t.Fatalf("Make at %d: %#v, error %d", tick, p, e)
		}
		b, e := promise.Put(p)
		got, err := promise.Read(b)
		if e != api.OK || err != api.OK || got != p {
			t.Errorf("%#v is read as %#v, errors %d and %d", p, got, e, err)
		}
		believe(t, true, key, got)
		for _, other := range ticks() {
			if other != tick {
				x := p
				x.Tick, x.Deadline = other, other+api.Delay
				believe(t, false, key, x)
				x.Tick = tick
				believe(t, false, key, x)
			}
		}
	}
}

// P11.2: no other bytes are read as the same promise, and none with a bit turned over are believed.
func TestAPromiseStays(t *testing.T) {
	key := sigs.Public(11)
	taken := 0
	for _, e := range []api.Entry{entry("ann", 2, 7), entry("a", 1, 1), entry(strings.Repeat("\xff", 32), api.MaxVer, api.Prime-1)} {
		p, _ := promise.Make(11, e, 258)
		b, _ := promise.Put(p)
		for i := range 8 * len(b) {
			b[i/8] ^= 1 << (i % 8)
			got, e := promise.Read(b)
			if e == api.OK {
				taken++
				if again, e := promise.Put(got); !bytes.Equal(again, b) || e != api.OK || got == p {
					t.Errorf("%q is read as %#v, that is %q, error %d", b, got, again, e)
				}
			} else if got != (api.Promise{}) {
				t.Errorf("%q: %#v beside error %d", b, got, e)
			}
			believe(t, false, key, got)
			b[i/8] ^= 1 << (i % 8)
		}
	}
	if least := (3+1+32)*8 + 3*16*8; taken < least {
		t.Errorf("of all bytes with a bit turned over %d were read: each bit of the names and the signatures may be", taken)
	}
}
