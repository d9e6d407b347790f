package sigs_test

import (
	"bytes"
	"math"
	"math/big"
	"testing"

	"postmark/api"
	"postmark/bin"
	"postmark/sigs"
	"postmark/sponge"
)

// secrets: the edges of Order, of its multiples and of a word, and numbers of all kinds.
func secrets() []uint64 {
	l := []uint64{0, 1, 2, 3, 258, 12345678901, 1 << 32, api.Order / 2, 1 << 63, math.MaxUint64}
	for times := range uint64(8) {
		l = append(l, (times+1)*api.Order-1, (times+1)*api.Order, (times+1)*api.Order+1)
	}
	n := uint64(1)
	for range 10 {
		n = n*6364136223846793005 + 1442695040888963407
		l = append(l, n)
	}
	return l
}

// messages: nothing, each length about the end of eight bytes, and long ones.
func messages() []string {
	l := []string{"\x00", "b", "\xff\xff"}
	for _, n := range []int{0, 1, 7, 8, 9, 63, 64, 65, 512, 4097} {
		l = append(l, string(bytes.Repeat([]byte("a"), n)))
	}
	return l
}

// great is n as a number without end.
func great(n uint64) *big.Int {
	return new(big.Int).SetUint64(n)
}

// power is a, n times with itself, modulo Prime.
func power(a, n uint64) uint64 {
	return new(big.Int).Exp(great(a), great(n), great(api.Prime)).Uint64()
}

// times is the product modulo m.
func times(a, b, m uint64) uint64 {
	n := new(big.Int).Mul(great(a), great(b))
	return n.Mod(n, great(m)).Uint64()
}

// sum is k and x times e, modulo Order.
func sum(k, x, e uint64) uint64 {
	n := new(big.Int).Mul(great(x), great(e))
	n.Add(n, great(k))
	return n.Mod(n, great(api.Order)).Uint64()
}

// number is that of a hash.
func number(h api.Hash) uint64 {
	b := bytes.Clone(h[:8])
	for i := range 4 {
		b[i], b[7-i] = b[7-i], b[i]
	}
	n := new(big.Int).SetBytes(b)
	return n.Mod(n, great(api.Order)).Uint64()
}

// challenge is the chapter's e.
func challenge(r, y uint64, msg string) uint64 {
	return number(sponge.Tag('e', bin.Num(r), bin.Num(y), []byte(msg)))
}

// signed is a signature that starts from k, whatever k is.
func signed(x, k uint64, msg string) api.Sig {
	r := power(api.Base, k)
	return api.Sig{R: r, S: sum(k, x, challenge(r, power(api.Base, x), msg))}
}

// spare is text with room behind it that is filled with '#'.
func spare(text string) []byte {
	b := append([]byte(text), "################"...)
	return b[:len(text)]
}

// unchanged tells whether b is still spare(text), its room included.
func unchanged(b []byte, text string) bool {
	return string(b[:len(text)+16]) == text+"################"
}

// believe fails the test unless Check says want.
func believe(t *testing.T, want bool, y uint64, msg string, s api.Sig) {
	t.Helper()
	if got := sigs.Check(y, []byte(msg), s); got != want {
		t.Errorf("Check(%d, %.20q, %v): %v, want %v", y, msg, s, got, want)
	}
}

// P4.1: values that were worked out apart from the program, by the chapters' words alone.
func TestSignOfFixedValues(t *testing.T) {
	long := string(bytes.Repeat([]byte("\x00\xff"), 40))
	for _, c := range []struct {
		x, y uint64
		msg  string
		r, s uint64
	}{
		{0, 1, "", 365350309792105253, 257026792046302370},
		{0, 1, "a", 601393006416348769, 928999979765300133},
		{0, 1, long, 1129019710391982511, 407336098526186610},
		{1, 7, "", 1757215899599904396, 1597463660035015794},
		{1, 7, "a", 1883077812712377292, 399570720644533645},
		{1, 7, long, 1054255245887059108, 1962404003805319709},
		{2, 49, "", 2262653609283978297, 1963847820820063600},
		{2, 49, "a", 1963265696576252041, 189206310939787006},
		{2, 49, long, 160773238824568367, 446826816992724663},
		{258, 990151269393257929, "", 2098970264408805854, 745839807875720378},
		{258, 990151269393257929, "a", 1757673685024132263, 566353309448295131},
		{12345678901, 583582025232090233, "", 1597402584508718431, 587914567604311651},
		{12345678901, 583582025232090233, long, 871235595657452708, 756673521349007694},
		{api.Order / 2, api.Prime - 1, "", 1999312340351836021, 1086509410592003393},
		{api.Order / 2, api.Prime - 1, "a", 691026909602338804, 782660342193106092},
		{api.Order - 1, 1976436865040309101, "", 512346006612687728, 727113488131440777},
		{api.Order - 1, 1976436865040309101, long, 1710023466805311407, 1498403435926035682},
	} {
		if y := sigs.Public(c.x); y != c.y {
			t.Errorf("Public(%d): %d, want %d", c.x, y, c.y)
		}
		want := api.Sig{R: c.r, S: c.s}
		if s := sigs.Sign(c.x, []byte(c.msg)); s != want {
			t.Errorf("Sign(%d, %.20q): %v, want %v", c.x, c.msg, s, want)
		}
		believe(t, true, c.y, c.msg, want)
	}
}

// P4.1: Base, x times with itself, modulo Prime; x counts modulo Order.
func TestPublicIsBaseTimesItself(t *testing.T) {
	for _, x := range secrets() {
		if got, want := sigs.Public(x), power(api.Base, x%api.Order); got != want {
			t.Errorf("Public(%d): %d, want %d", x, got, want)
		}
	}
	want := uint64(1)
	for x := range uint64(50) {
		for _, same := range []uint64{x, x + api.Order, x + 7*api.Order} {
			if got := sigs.Public(same); got != want {
				t.Errorf("Public(%d): %d, want %d", same, got, want)
			}
		}
		want = times(want, api.Base, api.Prime)
	}
}

// P4.1: k from the secret and the message, R from k, e from all that is known, S from all of it.
func TestSignIsTheChaptersWords(t *testing.T) {
	for _, secret := range secrets() {
		x := secret % api.Order
		for _, msg := range messages() {
			k := number(sponge.Tag('k', bin.Num(x), []byte(msg)))
			want := signed(x, k, msg)
			if got := sigs.Sign(secret, []byte(msg)); got != want {
				t.Errorf("Sign(%d, %.20q): %v, want %v", secret, msg, got, want)
			}
			if want.R < 1 || want.R >= api.Prime || want.S >= api.Order {
				t.Errorf("Sign(%d, %.20q): %v isn't within its bounds", secret, msg, want)
			}
		}
	}
}

// P4.1: a secret signs as any other that counts as the same one does.
func TestSecretsCountModuloOrder(t *testing.T) {
	for _, x := range []uint64{0, 1, 3, 12345678901, api.Order - 1} {
		want := sigs.Sign(x, []byte("a"))
		for same := x; ; same += api.Order {
			if got := sigs.Sign(same, []byte("a")); got != want {
				t.Errorf("Sign(%d, ..): %v, Sign(%d, ..): %v", x, want, same, got)
			}
			if same > math.MaxUint64-api.Order {
				break
			}
		}
	}
}

// P4.1: nothing is signed as no bytes are, whichever kind of nothing it is.
func TestNothingIsNoBytes(t *testing.T) {
	s := sigs.Sign(5, nil)
	if s != sigs.Sign(5, []byte{}) || !sigs.Check(sigs.Public(5), nil, s) || !sigs.Check(sigs.Public(5), []byte{}, s) {
		t.Error("nil isn't the same message as no bytes")
	}
}

// P4.2: whatever R starts from, what the equation holds of is believed.
func TestCheckTakesEachR(t *testing.T) {
	for _, secret := range secrets() {
		x := secret % api.Order
		y := power(api.Base, x)
		for _, k := range []uint64{0, 1, 2, 1 << 40, api.Order / 2, api.Order - 1} {
			for _, msg := range []string{"", "a", "another message"} {
				s := signed(x, k, msg)
				believe(t, true, y, msg, s)
				believe(t, false, y, msg, api.Sig{R: s.R, S: (s.S + 1) % api.Order})
			}
		}
	}
}

// P4.2: the ends of what y, R and S may be.
func TestCheckAtItsEdges(t *testing.T) {
	for _, msg := range []string{"", "a", "b", "c", "d", "e", "f", "g", "h", "i"} {
		believe(t, true, 1, msg, api.Sig{R: 1, S: 0})
		believe(t, true, 1, msg, api.Sig{R: api.Prime - 1, S: api.Order / 2})
		believe(t, true, 1, msg, api.Sig{R: power(api.Base, api.Order-1), S: api.Order - 1})
		// The key Prime - 1 is that of Order/2: S of 0 fits one of R's two ends by whether e is odd.
		for _, r := range []uint64{1, api.Prime - 1} {
			even := challenge(r, api.Prime-1, msg)%2 == 0
			believe(t, even == (r == 1), api.Prime-1, msg, api.Sig{R: r, S: 0})
			believe(t, even != (r == 1), api.Prime-1, msg, api.Sig{R: r, S: api.Order / 2})
		}
	}
}

// P4.2: S from Order on isn't taken, though the equation holds of it.
func TestCheckRefusesGreatS(t *testing.T) {
	for _, s := range []uint64{0, 1, api.Order - 1} {
		right := api.Sig{R: power(api.Base, s), S: s}
		believe(t, true, 1, "a", right)
		for n := uint64(1); n <= 8 && s <= math.MaxUint64-n*api.Order; n++ {
			believe(t, false, 1, "a", api.Sig{R: right.R, S: s + n*api.Order})
		}
	}
	s := sigs.Sign(12345, []byte("a"))
	for n := uint64(1); n < 8; n++ {
		believe(t, false, sigs.Public(12345), "a", api.Sig{R: s.R, S: s.S + n*api.Order})
	}
	believe(t, false, sigs.Public(12345), "a", api.Sig{R: s.R, S: math.MaxUint64})
}

// P4.2: R and y of 0 and from Prime on aren't taken, though the equation holds of those that are greater.
func TestCheckRefusesOtherNumbersThatCountAsTheSame(t *testing.T) {
	for _, x := range []uint64{0, 1, 12345, api.Order / 2} {
		y := power(api.Base, x)
		for k := range uint64(4) {
			r := power(api.Base, k)
			for n := uint64(1); n < 8; n++ {
				above := r + n*api.Prime
				believe(t, false, y, "a", api.Sig{R: above, S: sum(k, x, challenge(above, y, "a"))})
				above = y + n*api.Prime
				believe(t, false, above, "a", api.Sig{R: r, S: sum(k, x, challenge(r, above, "a"))})
			}
		}
		s := sigs.Sign(x, []byte("a"))
		for n := range uint64(9) {
			believe(t, false, n*api.Prime, "a", s)
			believe(t, false, y, "a", api.Sig{R: n * api.Prime, S: s.S})
			believe(t, false, n*api.Prime, "a", api.Sig{R: n * api.Prime})
		}
		believe(t, false, math.MaxUint64, "a", s)
		believe(t, false, y, "a", api.Sig{R: math.MaxUint64, S: s.S})
	}
	believe(t, false, 0, "", api.Sig{})
}

// P4.2: nothing but the equation is asked: a y that is no secret's Public is taken, too, where it holds.
func TestCheckOfAKeyWithoutSecret(t *testing.T) {
	// Its eleventh power is 1, so that e is needed modulo 11 alone, and may be guessed; each power of Base is 1 at Order/3355, and it isn't.
	y := power(37, api.Order/11)
	if power(y, 11) != 1 || power(y, api.Order/3355) == 1 || power(api.Base, api.Order/3355) != 1 {
		t.Fatalf("%d isn't of the kind that the test needs", y)
	}
	held := 0
	for s := range uint64(50) {
		for guess := range uint64(11) {
			r := times(power(api.Base, s), power(y, 11-guess), api.Prime)
			holds := challenge(r, y, "a")%11 == guess
			believe(t, holds, y, "a", api.Sig{R: r, S: s})
			if holds {
				held++
			}
		}
	}
	if held == 0 || held == 550 {
		t.Errorf("the equation holds of %d of 550", held)
	}
}

// P4.2: Num of R, then of S, of any numbers.
func TestPutIsBothNumbers(t *testing.T) {
	for want, s := range map[string]api.Sig{
		"\x00\x00\x00\x00\x00\x00\x00\x00\x00\x00\x00\x00\x00\x00\x00\x00": {},
		"\x02\x01\x00\x00\x00\x00\x00\x00\x01\x00\x00\x00\x00\x00\x00\x00": {R: 258, S: 1},
		"\xff\xff\xff\xff\xff\xff\xff\xff\x00\x00\x00\x00\x00\x00\x00\x80": {R: math.MaxUint64, S: 1 << 63},
		"\xff\xff\xff\xff\xff\xff\xff\x1f\xfe\xff\xff\xff\xff\xff\xff\x1f": {R: api.Prime, S: api.Order},
		"\x08\x07\x06\x05\x04\x03\x02\x01\x18\x17\x16\x15\x14\x13\x12\x11": {R: 0x0102030405060708, S: 0x1112131415161718},
	} {
		if got := sigs.Put(s); string(got) != want {
			t.Errorf("Put(%v): %x, want %x", s, got, want)
		}
	}
	a := sigs.Put(api.Sig{R: 1, S: 2})
	clear(a[:cap(a)])
	if b := sigs.Put(api.Sig{R: 1, S: 2}); b[0] != 1 || b[8] != 2 {
		t.Errorf("Put when an earlier answer was changed: %x", b)
	}
}

// P4.1, P4.2 and DOC.md's rule 3: neither the message nor the room behind it is changed, or read beyond its end.
func TestMessagesAreLeft(t *testing.T) {
	for _, msg := range messages() {
		b := spare(msg)
		s := sigs.Sign(77, b)
		ok := sigs.Check(sigs.Public(77), b, s)
		if !unchanged(b, msg) {
			t.Errorf("a message of %d bytes is changed", len(msg))
		}
		if !ok || s != sigs.Sign(77, []byte(msg)) {
			t.Errorf("a message of %d bytes with room behind it: %v, %v", len(msg), s, ok)
		}
	}
}

// P4.3: who signs is believed, whatever the secret and the message.
func TestWhoSignsIsBelieved(t *testing.T) {
	for _, x := range secrets() {
		for _, msg := range messages() {
			believe(t, true, sigs.Public(x), msg, sigs.Sign(x, []byte(msg)))
		}
	}
}

// P4.3: nobody else is: another key's, another message's and another signature isn't taken for it.
func TestNobodyElseIsBelieved(t *testing.T) {
	for _, x := range []uint64{1, 2, 258, 12345678901, api.Order - 1} {
		y := sigs.Public(x)
		for _, msg := range messages() {
			s := sigs.Sign(x, []byte(msg))
			believe(t, false, y, msg+"x", s)
			believe(t, false, y, msg+"\x00", s)
			believe(t, false, y, "x"+msg, s)
			for _, other := range []uint64{1, x + 1, x + 7, api.Order - x - 1} {
				if z := sigs.Public(other); z != y {
					believe(t, false, z, msg, s)
				}
			}
			for bit := range 64 {
				believe(t, false, y, msg, api.Sig{R: s.R ^ 1<<bit, S: s.S})
				believe(t, false, y, msg, api.Sig{R: s.R, S: s.S ^ 1<<bit})
				believe(t, false, y^1<<bit, msg, s)
			}
			believe(t, false, y, msg, api.Sig{R: s.S, S: s.R})
			believe(t, false, y, msg, api.Sig{})
		}
	}
}
