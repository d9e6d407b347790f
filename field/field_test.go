package field_test

import (
	"math"
	"math/big"
	"testing"

	"postmark/api"
	"postmark/field"
)

// moduli: the two that count as themselves, and others, which count as Prime.
func moduli() []uint64 {
	return []uint64{api.Prime, api.Order, 0, 1, 2, 7, api.Order - 1, api.Prime + 1, 2 * api.Prime, 1 << 63, math.MaxUint64}
}

// counts is the modulus that m counts as.
func counts(m uint64) uint64 {
	if m == api.Order {
		return m
	}
	return api.Prime
}

// numbers: the edges of the moduli, of their multiples and of a word, each bit alone, and numbers of all kinds.
func numbers() []uint64 {
	l := []uint64{0, 1, 2, 3, 5, 6, 7, math.MaxUint64, math.MaxUint64 - 1, 0x0123456789abcdef, 0xfedcba9876543210}
	for times := range uint64(8) {
		l = append(l, (times+1)*api.Prime-1, (times+1)*api.Prime, (times+1)*api.Prime+1, (times+1)*api.Order-1, (times+1)*api.Order, (times+1)*api.Order+1)
	}
	for bit := range 64 {
		l = append(l, 1<<bit, 1<<bit-1)
	}
	n := uint64(1)
	for range 20 {
		n = n*6364136223846793005 + 1442695040888963407
		l = append(l, n)
	}
	return l
}

// great is n as a number without end.
func great(n uint64) *big.Int {
	return new(big.Int).SetUint64(n)
}

// round is n modulo m.
func round(n *big.Int, m uint64) uint64 {
	return new(big.Int).Mod(n, great(m)).Uint64()
}

// P3.1: the sum modulo m, of numbers below m and of greater ones.
func TestAddIsTheSum(t *testing.T) {
	for _, m := range moduli() {
		for _, a := range numbers() {
			for _, b := range numbers() {
				want := round(new(big.Int).Add(great(a), great(b)), counts(m))
				if got := field.Add(a, b, m); got != want {
					t.Fatalf("Add(%d, %d, %d): %d, want %d", a, b, m, got, want)
				}
			}
		}
	}
}

// P3.1: the product modulo m, though it doesn't fit a word.
func TestMulIsTheProduct(t *testing.T) {
	for _, m := range moduli() {
		for _, a := range numbers() {
			for _, b := range numbers() {
				want := round(new(big.Int).Mul(great(a), great(b)), counts(m))
				if got := field.Mul(a, b, m); got != want {
					t.Fatalf("Mul(%d, %d, %d): %d, want %d", a, b, m, got, want)
				}
			}
		}
	}
}

// P3.1: a, n times with itself, n as it is.
func TestPowIsNTimes(t *testing.T) {
	l := numbers()
	for _, m := range moduli() {
		for i, a := range l {
			// Every fifth n, each time from another one on: all of them would take long.
			for j := i % 5; j < len(l); j += 5 {
				n := l[j]
				want := new(big.Int).Exp(great(a), great(n), great(counts(m))).Uint64()
				if got := field.Pow(a, n, m); got != want {
					t.Fatalf("Pow(%d, %d, %d): %d, want %d", a, n, m, got, want)
				}
			}
		}
	}
}

// P3.1: one product a time, from none on.
func TestPowIsMulAgainAndAgain(t *testing.T) {
	for _, m := range moduli() {
		for _, a := range numbers() {
			want := uint64(1)
			for n := range uint64(40) {
				if got := field.Pow(a, n, m); got != want {
					t.Fatalf("Pow(%d, %d, %d): %d, want %d", a, n, m, got, want)
				}
				want = field.Mul(want, a, m)
			}
		}
	}
}

// P3.1: no times is 1, of nothing too; any other number of times nothing stays nothing.
func TestPowOfNothing(t *testing.T) {
	for _, m := range moduli() {
		for _, a := range []uint64{0, counts(m), 4 * counts(m)} {
			if got := field.Pow(a, 0, m); got != 1 {
				t.Errorf("Pow(%d, 0, %d): %d", a, m, got)
			}
			for _, n := range []uint64{1, 2, api.Order, api.Prime, math.MaxUint64} {
				if got := field.Pow(a, n, m); got != 0 {
					t.Errorf("Pow(%d, %d, %d): %d", a, n, m, got)
				}
			}
		}
	}
}

// P3.1: n isn't taken modulo m: these would be other ones if it were.
func TestPowTakesNAsItIs(t *testing.T) {
	for _, c := range []struct{ a, n, m, want uint64 }{
		{3, api.Order, api.Prime, 1},
		{3, api.Prime, api.Prime, 3},
		{3, api.Prime + 1, api.Prime, 9},
		{3, 2*api.Order + 1, api.Prime, 3},
		{0, api.Prime, api.Prime, 0},
		{0, api.Order, api.Order, 0},
		{2, 61, api.Prime, 1},
		{2, 61, api.Order, 2},
	} {
		if got := field.Pow(c.a, c.n, c.m); got != c.want {
			t.Errorf("Pow(%d, %d, %d): %d, want %d", c.a, c.n, c.m, got, c.want)
		}
	}
}

// P3.1: below Prime, and 1 with a; of what counts as 0: 0.
func TestInvIsTheOtherFactor(t *testing.T) {
	for _, a := range numbers() {
		b := field.Inv(a)
		if b >= api.Prime {
			t.Errorf("Inv(%d): %d", a, b)
		}
		if a%api.Prime == 0 {
			if b != 0 {
				t.Errorf("Inv(%d): %d, want 0", a, b)
			}
			continue
		}
		if want := new(big.Int).ModInverse(great(a), great(api.Prime)).Uint64(); b != want {
			t.Errorf("Inv(%d): %d, want %d", a, b, want)
		}
	}
	for a, want := range map[uint64]uint64{0: 0, api.Prime: 0, 8 * api.Prime: 0, 1: 1, 2: 1 << 60, api.Prime - 1: api.Prime - 1, api.Prime + 2: 1 << 60} {
		if got := field.Inv(a); got != want {
			t.Errorf("Inv(%d): %d, want %d", a, got, want)
		}
	}
}

// P3.1: the chapter's example, and another modulus than the two.
func TestOtherModuliCountAsPrime(t *testing.T) {
	for _, m := range moduli() {
		if m == api.Order {
			continue
		}
		if field.Mul(2, 1<<60, m) != 1 || field.Add(api.Prime-1, 2, m) != 1 || field.Pow(2, 62, m) != 2 {
			t.Errorf("modulus %d doesn't count as Prime", m)
		}
	}
	if field.Mul(2, 1<<60, api.Order) != 2 || field.Add(api.Prime-1, 2, api.Order) != 2 || field.Pow(2, 62, api.Order) != 4 {
		t.Error("Order counts as Prime")
	}
}

// P3.2: what is added is taken away by what is missing to m, what is multiplied by Inv, a power by the power that n's other factor is.
func TestWhatIsDoneMayBeUndone(t *testing.T) {
	l := numbers()
	for i, a := range l {
		b := l[(i+7)%len(l)]
		for _, m := range []uint64{api.Prime, api.Order} {
			if got := field.Add(field.Add(a, b, m), m-b%m, m); got != a%m {
				t.Errorf("%d and %d, less %d, modulo %d: %d", a, b, b, m, got)
			}
		}
		if b%api.Prime != 0 {
			if got := field.Mul(field.Mul(a, b, api.Prime), field.Inv(b), api.Prime); got != a%api.Prime {
				t.Errorf("%d times %d, times Inv(%d): %d", a, b, b, got)
			}
		}
		if got := field.Inv(field.Inv(a)); got != a%api.Prime {
			t.Errorf("Inv of Inv of %d: %d", a, got)
		}
		n := new(big.Int).ModInverse(great(17), great(api.Order)).Uint64()
		if got := field.Pow(field.Pow(a, 17, api.Prime), n, api.Prime); got != a%api.Prime {
			t.Errorf("%d, 17 times and back: %d", a, got)
		}
	}
}
