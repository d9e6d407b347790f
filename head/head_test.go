package head_test

import (
	"bytes"
	"math"
	"strings"
	"testing"

	"postmark/api"
	"postmark/head"
	"postmark/sigs"
)

const (
	greatest = math.MaxUint64
	size     = 105 // of a head's bytes
)

// up is 0, 1, 2 .., down is 255, 254 ..: no two bytes of them are alike.
func up() api.Hash   { return made(func(i int) byte { return byte(i) }) }
func down() api.Hash { return made(func(i int) byte { return byte(255 - i) }) }
func ones() api.Hash { return made(func(int) byte { return 255 }) }

func made(at func(i int) byte) api.Hash {
	var h api.Hash
	for i := range h {
		h[i] = at(i)
	}
	return h
}

// good is a head that is Right, each field unlike the others.
func good() api.Head {
	return api.Head{Epoch: 3, Tick: 258, Count: 8, Root: up(), Log: down(), Sig: api.Sig{R: 6, S: 9}}
}

// with is good with one change.
func with(change func(h *api.Head)) api.Head {
	h := good()
	change(&h)
	return h
}

func numbered(n int) api.Head       { return with(func(h *api.Head) { h.Epoch = n }) }
func ticked(n int64) api.Head       { return with(func(h *api.Head) { h.Tick = n }) }
func counted(n int) api.Head        { return with(func(h *api.Head) { h.Count = n }) }
func signedBy(s api.Sig) api.Head   { return with(func(h *api.Head) { h.Sig = s }) }
func rooted(r, l api.Hash) api.Head { return with(func(h *api.Head) { h.Root, h.Log = r, l }) }

// rights: heads that are Right, at the edges of each field, whatever hashes and signature they have.
func rights() []api.Head {
	l := []api.Head{good(), {Epoch: 1, Count: 1}, {Epoch: api.MaxVer, Tick: api.MaxTick, Count: api.Batch, Root: ones(), Log: ones()}}
	for _, n := range []int{1, 2, 255, 256, 1 << 16, api.MaxVer - 1, api.MaxVer} {
		l = append(l, numbered(n))
	}
	for _, n := range []int64{0, 1, 255, 256, 1 << 32, 1<<32 + 1, api.MaxTick - 1, api.MaxTick} {
		l = append(l, ticked(n))
	}
	for n := 1; n <= api.Batch; n++ {
		l = append(l, counted(n))
	}
	for _, s := range []api.Sig{{}, {R: 1}, {S: 1}, {R: api.Prime, S: api.Order}, {R: 1 << 63, S: 1<<63 - 1}, {R: 1<<63 - 1, S: 1 << 63}, {R: greatest, S: greatest}} {
		l = append(l, signedBy(s))
	}
	for _, r := range []api.Hash{{}, up(), down(), ones()} {
		l = append(l, rooted(r, api.Hash{}), rooted(r, up()), rooted(r, ones()))
	}
	return l
}

// wrongs: heads that aren't Right, each by one field, and some by several.
func wrongs() []api.Head {
	l := []api.Head{{}, {Epoch: 1}, {Count: 1}, {Tick: 5}, {Epoch: -1, Tick: -1, Count: -1}, {Epoch: api.MaxVer + 1, Tick: api.MaxTick + 1, Count: api.Batch + 1, Root: up(), Log: down()}}
	for _, n := range []int{0, -1, -2, math.MinInt, math.MinInt32, api.MaxVer + 1, math.MaxInt32, math.MaxInt, 1<<32 + 1, -(1 << 32) + 1} {
		l = append(l, numbered(n))
	}
	for _, n := range []int64{-1, -2, math.MinInt64, math.MinInt32, api.MaxTick + 1, 2 * api.MaxTick, math.MaxInt64} {
		l = append(l, ticked(n))
	}
	for _, n := range []int{0, -1, -8, math.MinInt, math.MinInt32, api.Batch + 1, api.Batch + 256, math.MaxInt32, math.MaxInt, 1<<32 + 1, -(1 << 32) + 1} {
		l = append(l, counted(n))
	}
	return l
}

// num is eight bytes, the lowest first, of each of l.
func num(l ...uint64) string {
	out := ""
	for _, n := range l {
		for i := range 8 {
			out += string([]byte{byte(n >> (8 * i))})
		}
	}
	return out
}

// message is the chapter's Message of a head with these fields.
func message(epoch, tick, count uint64, root, log api.Hash) string {
	return "H" + num(epoch, tick, count) + string(root[:]) + string(log[:])
}

// messageOf is that of a head as it is.
func messageOf(h api.Head) string {
	return message(uint64(h.Epoch), uint64(h.Tick), uint64(h.Count), h.Root, h.Log)
}

// text is the bytes of a head with these numbers, and good's other fields.
func text(epoch, tick, count uint64) string {
	return message(epoch, tick, count, up(), down()) + num(6, 9)
}

// spare is text with room behind it that is filled with '#'.
func spare(text string) []byte {
	b := append([]byte(text), "################"...)
	return b[:len(text)]
}

// unchanged tells whether b is still spare(text), its room included.
func unchanged(b []byte, text string) bool {
	return string(b[:len(text)+16]) == text+"################"
}

// spoil overwrites an answer and the room behind it, as a caller may.
func spoil(b []byte) {
	copy(b[:cap(b)], bytes.Repeat([]byte{'z'}, cap(b)))
}

// refuse fails the test unless Read refuses b with e and tells nothing else.
func refuse(t *testing.T, what, b string, e api.Errno) {
	t.Helper()
	if h, got := head.Read([]byte(b)); got != e || h != (api.Head{}) {
		t.Errorf("Read of %s: %v, error %d; want error %d", what, h, got, e)
	}
}

// believe fails the test unless Check says want.
func believe(t *testing.T, want bool, public uint64, h api.Head) {
	t.Helper()
	if got := head.Check(public, h); got != want {
		t.Errorf("Check(%d, %v): %v, want %v", public, h, got, want)
	}
}

// P10.1: Epoch 1 to MaxVer, Tick 0 to MaxTick, Count 1 to Batch, whatever the rest is.
func TestRight(t *testing.T) {
	for _, h := range rights() {
		if !head.Right(h) {
			t.Errorf("Right(%v): false", h)
		}
	}
	for _, h := range wrongs() {
		if head.Right(h) {
			t.Errorf("Right(%v): true", h)
		}
	}
}

// P10.1: 'H', the three numbers, both hashes, of any head, Right or not.
func TestMessageIsTheFieldsInOrder(t *testing.T) {
	want := "H" + "\x03\x00\x00\x00\x00\x00\x00\x00" + "\x02\x01\x00\x00\x00\x00\x00\x00" + "\x08\x00\x00\x00\x00\x00\x00\x00" +
		"\x00\x01\x02\x03\x04\x05\x06\x07\x08\x09\x0a\x0b\x0c\x0d\x0e\x0f\x10\x11\x12\x13\x14\x15\x16\x17\x18\x19\x1a\x1b\x1c\x1d\x1e\x1f" +
		"\xff\xfe\xfd\xfc\xfb\xfa\xf9\xf8\xf7\xf6\xf5\xf4\xf3\xf2\xf1\xf0\xef\xee\xed\xec\xeb\xea\xe9\xe8\xe7\xe6\xe5\xe4\xe3\xe2\xe1\xe0"
	if got := head.Message(good()); string(got) != want {
		t.Errorf("Message(%v): %q, want %q", good(), got, want)
	}
	for _, h := range append(rights(), wrongs()...) {
		if got, want := head.Message(h), messageOf(h); string(got) != want {
			t.Errorf("Message(%v): %q, want %q", h, got, want)
		}
	}
	for h, want := range map[api.Head]string{
		{}:          "H" + strings.Repeat("\x00", 88),
		{Epoch: -1}: "H" + strings.Repeat("\xff", 8) + strings.Repeat("\x00", 80),
		{Tick: -2}:  "H" + strings.Repeat("\x00", 8) + "\xfe" + strings.Repeat("\xff", 7) + strings.Repeat("\x00", 72),
		{Count: math.MinInt, Sig: api.Sig{R: 5, S: 6}}: "H" + strings.Repeat("\x00", 23) + "\x80" + strings.Repeat("\x00", 64),
	} {
		if got := head.Message(h); string(got) != want {
			t.Errorf("Message(%v): %q, want %q", h, got, want)
		}
	}
}

// P10.1: a signature isn't in the Message, all else is: two heads have one Message only if they are alike but for it.
func TestMessagesOfUnlikeHeadsAreUnlike(t *testing.T) {
	seen := map[string]api.Head{}
	for _, h := range append(rights(), wrongs()...) {
		m := string(head.Message(h))
		h.Sig = api.Sig{}
		if other, ok := seen[m]; ok && other != h {
			t.Errorf("Message of %v and of %v: %q", h, other, m)
		}
		seen[m] = h
	}
	want := string(head.Message(good()))
	for _, s := range []api.Sig{{}, {R: 1, S: 2}, {R: greatest, S: greatest}} {
		if got := head.Message(signedBy(s)); string(got) != want {
			t.Errorf("Message with signature %v: %q, want %q", s, got, want)
		}
	}
}

// P10.1: signatures that were worked out apart from the program, by the chapters' words alone.
func TestSignOfFixedValues(t *testing.T) {
	var none api.Hash
	for _, c := range []struct {
		secret, key uint64
		h           api.Head
		s           api.Sig
	}{
		{9, 40353607, api.Head{Epoch: 3, Tick: 258, Count: 8, Root: up(), Log: down()}, api.Sig{R: 601314734107207095, S: 1046746380690479961}},
		{1, 7, api.Head{Epoch: 1, Tick: 0, Count: 1}, api.Sig{R: 348110726888087932, S: 1715768242944843255}},
		{12345678901, 583582025232090233, api.Head{Epoch: 1 << 30, Tick: 1 << 60, Count: 8, Root: ones(), Log: ones()}, api.Sig{R: 1741692073399902430, S: 349842062775056815}},
		{api.Order - 1, 1976436865040309101, api.Head{Epoch: 258, Tick: 1<<32 + 1, Count: 2, Root: down(), Log: up()}, api.Sig{R: 363341879821261536, S: 45580700250454995}},
		{api.Order + 3, 343, api.Head{Epoch: 7, Tick: 45, Count: 5, Root: up(), Log: none}, api.Sig{R: 2114549909697273055, S: 937638374925337386}},
		{0, 1, api.Head{}, api.Sig{R: 177744913174401494, S: 2112532263470290170}},
		{258, 990151269393257929, api.Head{Epoch: -1, Tick: -1, Count: -1, Root: up(), Log: down()}, api.Sig{R: 879951208861983243, S: 655342759630736839}},
		{2, 49, api.Head{Epoch: math.MinInt, Tick: math.MaxInt64, Count: 1 << 32, Root: none, Log: ones()}, api.Sig{R: 2069710222090453422, S: 269493251398538133}},
	} {
		want := c.h
		want.Sig = c.s
		if got := head.Sign(c.secret, c.h); got != want {
			t.Errorf("Sign(%d, %v): %v, want %v", c.secret, c.h, got, want)
		}
		believe(t, head.Right(c.h), c.key, want)
	}
}

// P10.1: the Sig is that of Message, all else stays, and the signature it had doesn't matter; a head that isn't Right is signed, too.
func TestSignIsOfTheMessage(t *testing.T) {
	for _, h := range append(rights(), wrongs()...) {
		for _, secret := range []uint64{0, 1, 258, api.Order - 1, greatest} {
			want := h
			want.Sig = sigs.Sign(secret, []byte(messageOf(h)))
			if got := head.Sign(secret, h); got != want {
				t.Errorf("Sign(%d, %v): %v, want %v", secret, h, got, want)
			}
		}
	}
}

// P10.1: who signed a head that is Right is believed, whatever the secret.
func TestCheckOfWhatSignSigned(t *testing.T) {
	for _, secret := range []uint64{0, 1, 2, 258, 12345678901, api.Order - 1, api.Order, greatest} {
		for _, h := range rights() {
			believe(t, true, sigs.Public(secret), head.Sign(secret, h))
		}
	}
}

// P10.1: a head that isn't Right isn't believed, though its signature holds.
func TestCheckAsksWhetherItIsRight(t *testing.T) {
	for _, secret := range []uint64{0, 5} {
		for _, h := range wrongs() {
			h = head.Sign(secret, h)
			if !sigs.Check(sigs.Public(secret), []byte(messageOf(h)), h.Sig) {
				t.Errorf("the signature of %v doesn't hold", h)
			}
			believe(t, false, sigs.Public(secret), h)
		}
	}
}

// P10.1: nobody but who signed it is believed.
func TestCheckAsksTheKeyHandedIn(t *testing.T) {
	h := head.Sign(9, good())
	key := sigs.Public(9)
	believe(t, true, key, h)
	for _, other := range []uint64{0, 1, 9, sigs.Public(8), sigs.Public(10), key + 1, key - 1, key + api.Prime, api.Prime, greatest} {
		believe(t, false, other, h)
	}
}

// P10.1: each field and the signature are held against the key.
func TestCheckOfChangedHeads(t *testing.T) {
	key := sigs.Public(9)
	right := head.Sign(9, good())
	for _, change := range []func(h *api.Head){
		func(h *api.Head) { h.Epoch++ },
		func(h *api.Head) { h.Epoch-- },
		func(h *api.Head) { h.Epoch += 1 << 32 },
		func(h *api.Head) { h.Tick++ },
		func(h *api.Head) { h.Tick-- },
		func(h *api.Head) { h.Tick += 1 << 32 },
		func(h *api.Head) { h.Count-- },
		func(h *api.Head) { h.Count = 1 },
		func(h *api.Head) { h.Epoch, h.Count = h.Count, h.Epoch },
		func(h *api.Head) { h.Root, h.Log = h.Log, h.Root },
		func(h *api.Head) { h.Root = api.Hash{} },
		func(h *api.Head) { h.Log = api.Hash{} },
		func(h *api.Head) { h.Sig = api.Sig{} },
		func(h *api.Head) { h.Sig.R, h.Sig.S = h.Sig.S, h.Sig.R },
		func(h *api.Head) { h.Sig.R += api.Prime },
		func(h *api.Head) { h.Sig.S += api.Order },
		func(h *api.Head) { h.Sig = sigs.Sign(9, []byte(messageOf(*h)[1:])) },
		func(h *api.Head) { h.Sig = sigs.Sign(9, []byte(messageOf(*h)+num(h.Sig.R, h.Sig.S))) },
		func(h *api.Head) { h.Sig = sigs.Sign(9, []byte("P"+messageOf(*h)[1:])) },
	} {
		h := right
		change(&h)
		believe(t, false, key, h)
	}
	for i := range 8 * len(right.Root) {
		h := right
		h.Root[i/8] ^= 1 << (i % 8)
		believe(t, false, key, h)
		h = right
		h.Log[i/8] ^= 1 << (i % 8)
		believe(t, false, key, h)
	}
	for bit := range 64 {
		h := right
		h.Sig.R ^= 1 << bit
		believe(t, false, key, h)
		h = right
		h.Sig.S ^= 1 << bit
		believe(t, false, key, h)
	}
}

// P10.1: Message, then R and S, whatever these are.
func TestPutIsMessageAndSignature(t *testing.T) {
	want := text(3, 258, 8)
	if got, e := head.Put(good()); string(got) != want || e != api.OK || len(got) != size {
		t.Errorf("Put(%v): %q, error %d; want %q", good(), got, e, want)
	}
	for _, h := range rights() {
		want := messageOf(h) + num(h.Sig.R, h.Sig.S)
		if got, e := head.Put(h); string(got) != want || e != api.OK || len(got) != size {
			t.Errorf("Put(%v): %q, error %d; want %q", h, got, e, want)
		}
	}
}

// P10.1: what isn't Right has no bytes, signed or not.
func TestPutRefusesWhatIsntRight(t *testing.T) {
	for _, h := range wrongs() {
		for _, x := range []api.Head{h, head.Sign(5, h)} {
			if b, e := head.Put(x); len(b) != 0 || e != api.ErrForm {
				t.Errorf("Put(%v): %q, error %d", x, b, e)
			}
		}
	}
}

// P10.1 and DOC.md's rule 3: what Message and Put answer is new memory each time.
func TestAnswersAreNew(t *testing.T) {
	h := good()
	a, b := head.Message(h), head.Message(h)
	c, _ := head.Put(h)
	d, _ := head.Put(h)
	spoil(a)
	spoil(c)
	if string(b) != messageOf(good()) || string(d) != text(3, 258, 8) || h != good() {
		t.Errorf("when another answer was changed: %q, %q, %v", b, d, h)
	}
}

// P10.1: what Put wrote is read, and nothing of it is missing.
func TestReadOfWhatPutWrote(t *testing.T) {
	if h, e := head.Read([]byte(text(3, 258, 8))); h != good() || e != api.OK {
		t.Errorf("Read: %v, error %d; want %v", h, e, good())
	}
	for _, h := range rights() {
		b, _ := head.Put(h)
		if got, e := head.Read(b); got != h || e != api.OK {
			t.Errorf("Read of Put(%v): %v, error %d", h, got, e)
		}
	}
}

// P10.1: ErrShort wherever it breaks off, whatever else is wrong with it.
func TestReadOfTooFew(t *testing.T) {
	refuse(t, "nil", "", api.ErrShort)
	for _, h := range rights() {
		b, _ := head.Put(h)
		for n := range b {
			refuse(t, "a part", string(b[:n]), api.ErrShort)
		}
	}
	for n := range size {
		refuse(t, "a part without its beginning", text(3, 258, 8)[size-n:], api.ErrShort)
		refuse(t, "few noughts", strings.Repeat("\x00", n), api.ErrShort)
		refuse(t, "a part of wrong fields", text(0, greatest, 9)[:n], api.ErrShort)
	}
}

// P10.1: ErrBytes of more, up to MaxText, and ErrLong from there on, whatever else is wrong with it.
func TestReadOfTooMany(t *testing.T) {
	for _, b := range []string{text(3, 258, 8), text(0, greatest, 9), strings.Repeat("\x00", size), "h" + text(3, 258, 8)[1:]} {
		for n := size + 1; n <= api.MaxText; n++ {
			refuse(t, "more", b+strings.Repeat("\x00", n-size), api.ErrBytes)
		}
		for _, n := range []int{api.MaxText + 1, api.MaxText + 2, api.MaxText + size, 1024, 70000} {
			refuse(t, "far more", b+strings.Repeat("\x00", n-size), api.ErrLong)
		}
	}
	refuse(t, "two", text(3, 258, 8)+text(3, 258, 8), api.ErrBytes)
	refuse(t, "one behind a byte", "H"+text(3, 258, 8), api.ErrBytes)
}

// P10.1: ErrBytes of all that doesn't begin with 'H', its fields Right or not.
func TestReadOfAnotherBeginning(t *testing.T) {
	for c := range 256 {
		if c != 'H' {
			first := string([]byte{byte(c)})
			refuse(t, "another beginning", first+text(3, 258, 8)[1:], api.ErrBytes)
			refuse(t, "another beginning and wrong fields", first+text(0, 258, 8)[1:], api.ErrBytes)
		}
	}
	refuse(t, "noughts", strings.Repeat("\x00", size), api.ErrBytes)
}

// P10.1: ErrForm unless Right; numbers above 2^63 - 1 aren't, whatever is left of them when they are cut off or turned over.
func TestReadOfWrongFields(t *testing.T) {
	for _, n := range []uint64{0, api.MaxVer + 1, 1<<31 + 1, 1 << 32, 1<<32 + 1, 1<<63 - 1, 1 << 63, 1<<63 + 1, 1<<63 + api.MaxVer, greatest, greatest - 2} {
		refuse(t, "another epoch", text(n, 258, 8), api.ErrForm)
	}
	for _, n := range []uint64{api.MaxTick + 1, 1 << 61, 1 << 62, 1<<63 - 1, 1 << 63, 1<<63 + 1, 1<<63 + api.MaxTick, greatest, greatest - 257} {
		refuse(t, "another tick", text(3, n, 8), api.ErrForm)
	}
	for _, n := range []uint64{0, api.Batch + 1, 255, 256, 257, 1<<16 + 1, 1 << 32, 1<<32 + 1, 1<<63 - 1, 1 << 63, 1<<63 + 1, 1<<63 + api.Batch, greatest, greatest - 7} {
		refuse(t, "another count", text(3, 258, n), api.ErrForm)
	}
	refuse(t, "wrong fields", text(0, greatest, 9), api.ErrForm)
	refuse(t, "an H and noughts", "H"+strings.Repeat("\x00", size-1), api.ErrForm)
	for _, h := range wrongs() {
		refuse(t, "a head that isn't Right", messageOf(h)+num(6, 9), api.ErrForm)
		h = head.Sign(5, h)
		refuse(t, "such a one, signed", messageOf(h)+num(h.Sig.R, h.Sig.S), api.ErrForm)
	}
}

// P10.1: the numbers that may be are read to the last one, at the edges of each field.
func TestReadAtTheEdges(t *testing.T) {
	for i, want := range []api.Head{numbered(1), numbered(api.MaxVer), ticked(0), ticked(api.MaxTick), counted(1), counted(api.Batch)} {
		b := text(uint64(want.Epoch), uint64(want.Tick), uint64(want.Count))
		if h, e := head.Read([]byte(b)); h != want || e != api.OK {
			t.Errorf("Read at edge %d: %v, error %d", i, h, e)
		}
	}
}

// P10.1: a signature's numbers may be any, those above 2^63 - 1 too: Read doesn't ask whether it holds.
func TestReadTakesEachSignature(t *testing.T) {
	for _, s := range []api.Sig{{}, {R: 1<<63 - 1, S: 1 << 63}, {R: 1 << 63, S: greatest}, {R: greatest, S: greatest}, {R: api.Prime, S: api.Order}} {
		b := message(3, 258, 8, up(), down()) + num(s.R, s.S)
		if h, e := head.Read([]byte(b)); h != signedBy(s) || e != api.OK {
			t.Errorf("Read of signature %v: %v, error %d", s, h, e)
		}
	}
}

// P10.1 and DOC.md's rule 3: what is handed in is neither changed nor kept, and what is behind it isn't read.
func TestReadLeavesItsBytes(t *testing.T) {
	b := spare(text(3, 258, 8))
	h, e := head.Read(b)
	if !unchanged(b, text(3, 258, 8)) {
		t.Errorf("what was handed in is now %q", b)
	}
	clear(b)
	if h != good() || e != api.OK {
		t.Errorf("Read of bytes with room behind them: %v, error %d", h, e)
	}
	if _, e := head.Read(spare(text(3, 258, 8))[:size-1]); e != api.ErrShort {
		t.Errorf("the room behind what is handed in is read: error %d", e)
	}
}

// P10.2: what is said of an epoch is read as just that, and believed of who signed it alone.
func TestAnEpochIsRead(t *testing.T) {
	key := sigs.Public(11)
	for _, h := range rights() {
		h = head.Sign(11, h)
		b, e := head.Put(h)
		if e != api.OK {
			t.Fatalf("Put(%v): error %d", h, e)
		}
		got, e := head.Read(b)
		if got != h || e != api.OK {
			t.Errorf("%v is read as %v, error %d", h, got, e)
		}
		believe(t, true, key, got)
		believe(t, false, sigs.Public(12), got)
	}
}

// P10.2: an epoch is one: no other bytes are read as the same head, and none with a bit turned over are believed.
func TestAnEpochIsOne(t *testing.T) {
	key := sigs.Public(11)
	taken := 0
	for _, h := range []api.Head{head.Sign(11, good()), head.Sign(11, api.Head{Epoch: 1, Count: 1}), head.Sign(11, api.Head{Epoch: api.MaxVer, Tick: api.MaxTick, Count: api.Batch, Root: ones(), Log: ones()})} {
		b, _ := head.Put(h)
		for i := range 8 * len(b) {
			b[i/8] ^= 1 << (i % 8)
			got, e := head.Read(b)
			if e == api.OK {
				taken++
				if again, e := head.Put(got); !bytes.Equal(again, b) || e != api.OK || got == h {
					t.Errorf("%q is read as %v, that is %q, error %d", b, got, again, e)
				}
			} else if got != (api.Head{}) {
				t.Errorf("%q: %v beside error %d", b, got, e)
			}
			believe(t, false, key, got)
			b[i/8] ^= 1 << (i % 8)
		}
	}
	if taken < 3*(64+16)*8 {
		t.Errorf("of all bytes with a bit turned over %d were read: each bit of the hashes and the signature may be", taken)
	}
}
