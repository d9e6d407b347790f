/- Signatures (chapter 4) as plain mathematics: program-independent. Who signs is believed. -/
import Derived.Test.YtbckjkfdkgomiaaNum3
import Derived.Test.YtbckjkfdkgomiaaSpec2
namespace Go.Pm

/-- Another multiple of the order in the power of what is not 0. -/
theorem powm_order (x n : Nat) (hx : x % prime61 ≠ 0) : powm prime61 x (n % order61) = powm prime61 x n := by
  conv => rhs; rw [← Nat.div_add_mod n order61, powm_add, ← powm_pow, fermat61 x hx, powm_one']
  have := powm_lt prime61 x (n % order61) (by decide)
  rw [Nat.mod_eq_of_lt (show 1 < prime61 by decide), Nat.one_mul, Nat.mod_eq_of_lt this]
theorem powm_ne (x n : Nat) (hx : x % prime61 ≠ 0) : powm prime61 x n % prime61 ≠ 0 := by
  rw [← one_iff, powm_pow, Nat.mul_comm, ← powm_pow, fermat61 x hx, powm_one']
  decide

/-- The number of a hash. -/
def numB (h : List UInt8) : Nat := (leV h).toNat % order61
theorem numB_lt (h : List UInt8) : numB h < order61 := Nat.mod_lt _ (by decide)
theorem leV_nat (h : List UInt8) : (((leV h).toNat : Nat) : Int) = leV h := Int.toNat_of_nonneg (leV_ge h)
/-- Public. -/
def pubN (x : Nat) : Nat := powm prime61 7 (x % order61)
theorem seven : 7 % prime61 ≠ 0 := by decide
theorem pubN_lt (x : Nat) : pubN x < prime61 := powm_lt _ _ _ (by decide)
theorem pow7_pos (n : Nat) : 1 ≤ powm prime61 7 n := by
  have h := powm_ne 7 n seven
  have := powm_lt prime61 7 n (by decide)
  rw [Nat.mod_eq_of_lt this] at h
  omega
theorem pubN_pos (x : Nat) : 1 ≤ pubN x := pow7_pos _
theorem pubN_mod (x : Nat) : pubN (x % order61) = pubN x := by unfold pubN; rw [Nat.mod_mod]
theorem pubN_more (x : Nat) : pubN (x + order61) = pubN x := by unfold pubN; rw [Nat.add_mod_right]
theorem pubN_add (x y : Nat) : pubN ((x + y) % order61) = pubN x * pubN y % prime61 := by
  rw [pubN_mod]
  unfold pubN
  rw [powm_order _ _ seven, powm_order _ _ seven, powm_order _ _ seven, powm_add]

/-- k. -/
def keyN (x : Nat) (m : List UInt8) : Nat := numB (sumB (textB 107 [leB x, m]))
/-- e. -/
def chN (r y : Nat) (m : List UInt8) : Nat := numB (sumB (textB 101 [leB r, leB y, m]))
theorem keyN_lt (x : Nat) (m : List UInt8) : keyN x m < order61 := numB_lt _
theorem chN_lt (r y : Nat) (m : List UInt8) : chN r y m < order61 := numB_lt _
/-- A signature's R. -/
def sigR (x : Nat) (m : List UInt8) : Nat := powm prime61 7 (keyN (x % order61) m)
/-- A signature's S. -/
def sigS (x : Nat) (m : List UInt8) : Nat := (keyN (x % order61) m + (x % order61) * chN (sigR x m) (pubN x) m % order61) % order61
theorem sigR_lt (x : Nat) (m : List UInt8) : sigR x m < prime61 := powm_lt _ _ _ (by decide)
theorem sigR_pos (x : Nat) (m : List UInt8) : 1 ≤ sigR x m := pow7_pos _
theorem sigS_lt (x : Nat) (m : List UInt8) : sigS x m < order61 := Nat.mod_lt _ (by decide)
theorem sigR_mod (x : Nat) (m : List UInt8) : sigR (x % order61) m = sigR x m := by unfold sigR; rw [Nat.mod_mod]
theorem sigS_mod (x : Nat) (m : List UInt8) : sigS (x % order61) m = sigS x m := by unfold sigS; rw [Nat.mod_mod, sigR_mod, pubN_mod]
theorem sigR_more (x : Nat) (m : List UInt8) : sigR (x + order61) m = sigR x m := by unfold sigR; rw [Nat.add_mod_right]
theorem sigS_more (x : Nat) (m : List UInt8) : sigS (x + order61) m = sigS x m := by unfold sigS; rw [Nat.add_mod_right, sigR_more, pubN_more]

/-- What is within the bounds. -/
def fitsN (n : Nat) : Bool := decide (1 ≤ n) && decide (n < prime61)
/-- The equation. -/
def holdsN (y : Nat) (m : List UInt8) (r s : Nat) : Bool := powm prime61 7 s == r * powm prime61 y (chN r y m) % prime61
/-- Check. -/
def checkN (y : Nat) (m : List UInt8) (r s : Nat) : Bool := (fitsN y && fitsN r && decide (s < order61)) && holdsN y m r s

/-- Who signs is believed. -/
theorem check_sign (x : Nat) (m : List UInt8) : checkN (pubN x) m (sigR x m) (sigS x m) = true := by
  have h : holdsN (pubN x) m (sigR x m) (sigS x m) = true := by
    unfold holdsN sigS
    generalize he : chN (sigR x m) (pubN x) m = e
    unfold sigR pubN
    generalize keyN (x % order61) m = k
    rw [powm_order _ _ seven, powm_add, powm_order _ _ seven, powm_pow]
    exact beq_self_eq_true _
  unfold checkN fitsN
  simp [h, pubN_pos, pubN_lt, sigR_pos, sigR_lt, sigS_lt]
theorem check_y {y : Nat} (m : List UInt8) (r s : Nat) (h : fitsN y = false) : checkN y m r s = false := by unfold checkN; rw [h]; rfl
theorem check_r (y : Nat) (m : List UInt8) {r : Nat} (s : Nat) (h : fitsN r = false) : checkN y m r s = false := by unfold checkN; rw [h]; simp
theorem check_s (y : Nat) (m : List UInt8) (r : Nat) {s : Nat} (h : order61 ≤ s) : checkN y m r s = false := by unfold checkN; simp; intro _ _ h2; omega
theorem fits_none : fitsN 0 = false := by decide
theorem fits_great {n : Nat} (h : prime61 ≤ n) : fitsN n = false := by unfold fitsN; simp; omega

/-! ### What is known: the key 9, 'm' and 'n' -/
/-- powm, reckoned. -/
theorem powm_sq (m a n : Nat) (h : n < 2 ^ 61) : powm m a n = powSq m 61 a n 1 % m := by rw [powm_is, powSq_is m 61 a n 1 h, Nat.one_mul]
theorem pub9 : pubN 9 = 40353607 := by unfold pubN; rw [powm_sq _ _ _ (by decide)]; decide +kernel
theorem pub0 : pubN 0 = 1 := by unfold pubN; rw [powm_sq _ _ _ (by decide)]; decide +kernel
theorem pub1 : pubN 1 = 7 := by unfold pubN; rw [powm_sq _ _ _ (by decide)]; decide +kernel
theorem key9 : keyN 9 [109] = 1255322646153914929 := by decide +kernel
theorem sigR9 : sigR 9 [109] = 1300817579545318276 := by
  unfold sigR
  rw [show 9 % order61 = 9 by decide, key9, powm_sq _ _ _ (by decide)]
  decide +kernel
theorem ch9 : chN 1300817579545318276 40353607 [109] = 626251909614015781 := by decide +kernel
theorem ch9n : chN 1300817579545318276 40353607 [110] = 1376759600133736344 := by decide +kernel
theorem sigS_of {x x' k R y e : Nat} {m : List UInt8} (hx : x % order61 = x') (hk : keyN x' m = k) (hR : sigR x m = R) (hy : pubN x = y) (he : chN R y m = e) : sigS x m = (k + x' * e % order61) % order61 := by
  unfold sigS
  rw [hx, hk, hR, hy, he]
theorem sigS9 : sigS 9 [109] = 2279903814252669058 := (sigS_of (by decide) key9 sigR9 pub9 ch9).trans (by decide +kernel)
/-- Another message isn't believed. -/
theorem check9n : checkN (pubN 9) [110] (sigR 9 [109]) (sigS 9 [109]) = false := by
  rw [sigR9, sigS9, pub9]
  have h : holdsN 40353607 [110] 1300817579545318276 2279903814252669058 = false := by
    unfold holdsN
    rw [ch9n, powm_sq _ _ _ (by decide), powm_sq _ _ _ (by decide)]
    decide +kernel
  unfold checkN
  rw [h, Bool.and_false]
end Go.Pm
