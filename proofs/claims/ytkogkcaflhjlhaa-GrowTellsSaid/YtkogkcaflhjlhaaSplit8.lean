/- math/bits.Len64, Len; Split of packages logtree and postmarkref8: by contract. -/
import Derived.Test.YtkogkcaflhjlhaaLog8
import Derived.Test.YtkogkcaflhjlhaaHk8
import Derived.Lib.Strings
import Derived.Lib.Slices
import Derived.Lib.Small
import Derived.Lib.Walk
import Derived.Lib.BitFns
namespace Go.Pm
open Go Go.RowKit
/-- How many bits a number has. -/
def lenN (x : Nat) : Nat := if x = 0 then 0 else x.log2 + 1
theorem lenN_half (x s : Nat) (h : 0 < x / 2 ^ s) : lenN x = s + lenN (x / 2 ^ s) := by
  have hp := Nat.two_pow_pos s
  have hx : x ≠ 0 := by
    intro h0
    rw [h0, Nat.zero_div] at h
    omega
  unfold lenN
  rw [if_neg hx, if_neg (by omega)]
  have h1 := Nat.log2_self_le (n := x / 2 ^ s) (by omega)
  have h2 := Nat.lt_log2_self (n := x / 2 ^ s)
  have h3 : x.log2 = (x / 2 ^ s).log2 + s := by
    refine (Nat.log2_eq_iff hx).2 ⟨?_, ?_⟩
    · rw [Nat.pow_add]
      exact Nat.le_trans (Nat.mul_le_mul_right _ h1) (Nat.div_mul_le_self _ _)
    · rw [show (x / 2 ^ s).log2 + s + 1 = (x / 2 ^ s).log2 + 1 + s by omega, Nat.pow_add]
      exact (Nat.div_lt_iff_lt_mul hp).1 h2
  omega
theorem lenN_le (x s : Nat) (h : x < 2 ^ s) : lenN x ≤ s := by
  unfold lenN
  split
  · exact Nat.zero_le _
  · rename_i h0
    exact Nat.succ_le_of_lt ((Nat.log2_lt h0).2 h)
theorem shl_one {q : Nat} (h : q < 63) : wrap64 (2 ^ min q 64) = ((2 ^ q : Nat) : Int) := by
  have h1 : min q 64 = q := by omega
  have h2 : 2 ^ q ≤ 2 ^ 62 := Nat.pow_le_pow_right (by decide) (by omega)
  have h3 : ((2 : Int) ^ q) = ((2 ^ q : Nat) : Int) := by rw [Int.natCast_pow]; rfl
  rw [h1, h3]
  obtain ⟨p, hp⟩ : ∃ p, p = 2 ^ q := ⟨_, rfl⟩
  rw [← hp] at h2 ⊢
  clear h1 h3 hp
  unfold wrap64
  omega
end Go.Pm
namespace Go.Proofs.Ytkogkcaflhjlhaa
open Go.RowKit Go.Pm
namespace Bt8
set_option maxRecDepth 100000 in
theorem tab_size : Lib.len8tab.size = 256 := by decide +kernel
theorem tab_fin : ∀ i : Fin 256, (Lib.len8tab[i.val]?.getD 0).toNat = lenN i.val := by decide +kernel
theorem tab (i : Nat) (h : i < Lib.len8tab.size) : (Lib.len8tab[i]'h).toNat = lenN i := by
  have h2 := tab_fin ⟨i, by rw [tab_size] at h; exact h⟩
  rwa [getElem?_pos Lib.len8tab i h, Option.getD_some] at h2
theorem fin (k : Nat) (x e : Int) (hk : k ≤ 56) (h0 : 0 ≤ x) (he : e = x / ((2 ^ k : Nat) : Int)) (h1 : 0 < e) (h2 : e < 256) (h : e.toNat < Lib.len8tab.size) : wrap64 ((k : Int) + wrap64 ((Lib.len8tab[e.toNat]'h).toNat : Int)) = (lenN x.toNat : Int) := by
  rw [tab]
  obtain ⟨n, rfl⟩ := Int.eq_ofNat_of_zero_le h0
  have he' : e = ((n / 2 ^ k : Nat) : Int) := by rw [he]; rfl
  have e1 : e.toNat = n / 2 ^ k := by omega
  rw [e1]
  have h3 := lenN_half n k (by omega)
  have h4 := lenN_le (n / 2 ^ k) 8 (by omega)
  rw [Int.toNat_natCast, h3]
  unfold wrap64
  omega
theorem fin0 (x : Int) (h0 : 0 ≤ x) (h2 : x < 256) (h : x.toNat < Lib.len8tab.size) : wrap64 ((Lib.len8tab[x.toNat]'h).toNat : Int) = (lenN x.toNat : Int) := by
  rw [tab]
  have h4 := lenN_le x.toNat 8 (by omega)
  unfold wrap64
  omega
theorem fin1 (x : Int) (h0 : 0 ≤ x) (h2 : x < 256) (h : x.toNat < Lib.len8tab.size) : wrap64 (wrap64 ((Lib.len8tab[x.toNat]'h).toNat : Int)) = (lenN x.toNat : Int) := by
  rw [fin0 x h0 h2]
  have h4 := lenN_le x.toNat 8 (by omega)
  unfold wrap64
  omega
theorem size_int : (Lib.len8tab.size : Int) = 256 := by rw [tab_size]; rfl
set_option maxHeartbeats 4000000 in
set_option maxRecDepth 100000 in
theorem len64 (x : Int) (w : World) (h0 : 0 ≤ x) (h1 : x ≤ 18446744073709551615) : Calls Try.prog 116 #[.int .u64 x] w fun e w' => e = .returned (.int .i64 (lenN x.toNat)) ∧ w = w' := by
  go_enter Try.func116, Try.ntmps116
  go_wp2
  all_goals first
    | (go_ret; refine ⟨congrArg Ending.returned (congrArg (Value.int IntKind.i64) ?_), rfl⟩)
    | (exfalso; have hs := size_int; omega)
  all_goals first
    | exact fin 56 x _ (by decide) h0 (by omega) (by omega) (by omega) _
    | exact fin 48 x _ (by decide) h0 (by omega) (by omega) (by omega) _
    | exact fin 40 x _ (by decide) h0 (by omega) (by omega) (by omega) _
    | exact fin 32 x _ (by decide) h0 (by omega) (by omega) (by omega) _
    | exact fin 24 x _ (by decide) h0 (by omega) (by omega) (by omega) _
    | exact fin 16 x _ (by decide) h0 (by omega) (by omega) (by omega) _
    | exact fin 8 x _ (by decide) h0 (by omega) (by omega) (by omega) _
    | exact fin0 x h0 (by omega) _
    | exact fin1 x h0 (by omega) _
set_option maxRecDepth 100000 in
theorem len (x : Int) (w : World) (h0 : 0 ≤ x) (h1 : x ≤ 18446744073709551615) : Calls Try.prog 100 #[.int .u64 x] w fun e w' => e = .returned (.int .i64 (lenN x.toNat)) ∧ w = w' := by
  have H := hid (len64 x w h0 h1)
  go_enter Try.func100, Try.ntmps100
  go_wp2_with fail
  refine H.out.mono ?_
  rintro e w1 ⟨rfl, rfl⟩
  go_wp2
  go_ret
  exact ⟨rfl, rfl⟩
end Bt8
namespace Lg
set_option maxRecDepth 100000 in
set_option maxHeartbeats 1000000 in
/-- Split, of a number below 2. -/
theorem split_few (n : Int) (w : World) (h : n < 2) : Calls Try.prog 76 #[.int .i64 n] w fun e w' => e = .returned (.int .i64 0) ∧ w = w' := by
  go_enter Try.func76, Try.ntmps76
  go_wp2
  go_ret
  exact ⟨rfl, rfl⟩
set_option maxRecDepth 100000 in
set_option maxHeartbeats 1000000 in
theorem split (n : Nat) (w : World) (h2 : 2 ≤ n) (hn : n < 9223372036854775808) : Calls Try.prog 76 #[.int .i64 n] w fun e w' => e = .returned (.int .i64 (splitN n)) ∧ w = w' := by
  have hz : ¬ (n : Int) < 2 := by omega
  obtain ⟨m, hm⟩ : ∃ m : Nat, m = n - 1 := ⟨_, rfl⟩
  obtain ⟨q, hq⟩ : ∃ q : Nat, q = m.log2 := ⟨_, rfl⟩
  have hl : lenN m = q + 1 := by unfold lenN; rw [if_neg (by omega), hq]
  have hlen := Bt8.len (m : Int) w (by omega) (by omega)
  have hs : splitN n = 2 ^ q := by rw [splitN_is h2, ← hm, hq]
  have hq63 : q < 63 := by rw [hq]; exact (Nat.log2_lt (by omega)).2 (by omega)
  rw [Int.toNat_natCast, hl] at hlen
  rw [hs]
  have e1 : (n : Int) - 1 = (m : Int) := by omega
  have e2 : wrap64 (m : Int) = (m : Int) := by unfold wrap64; omega
  have e3 : IntKind.u64.wrap (m : Int) = (m : Int) := by rw [IntKind.wrap_u64]; omega
  have e4 : ((q + 1 : Nat) : Int) - 1 = (q : Int) := by omega
  have e5 : wrap64 (q : Int) = (q : Int) := by unfold wrap64; omega
  have H := hid hlen
  have HQ := hid hq63
  clear hn hm hq hl hlen hs hq63
  go_enter Try.func76, Try.ntmps76
  go_wp2_with fail
  refine H.out.mono ?_
  rintro e w1 ⟨rfl, rfl⟩
  have e6 : wrap64 (2 ^ min q 64) = ((2 ^ q : Nat) : Int) := shl_one HQ.out
  have H6 := hid e6
  clear e6
  go_wp2
  go_ret
  exact ⟨by rw [← H6.out]; rfl, rfl⟩
end Lg
namespace RLg
set_option maxRecDepth 100000 in
set_option maxHeartbeats 1000000 in
/-- Split, of a number below 2. -/
theorem split_few (n : Int) (w : World) (h : n < 2) : Calls Try.prog 42 #[.int .i64 n] w fun e w' => e = .returned (.int .i64 0) ∧ w = w' := by
  go_enter Try.func42, Try.ntmps42
  go_wp2
  go_ret
  exact ⟨rfl, rfl⟩
set_option maxRecDepth 100000 in
set_option maxHeartbeats 1000000 in
theorem split (n : Nat) (w : World) (h2 : 2 ≤ n) (hn : n < 9223372036854775808) : Calls Try.prog 42 #[.int .i64 n] w fun e w' => e = .returned (.int .i64 (splitN n)) ∧ w = w' := by
  have hz : ¬ (n : Int) < 2 := by omega
  have HN := hid hn
  clear hn
  go_enter Try.func42, Try.ntmps42
  go_wp2
  go_loopg [3] n (fun kx s3 wr => ∃ k : Nat, s3 = .int .i64 k ∧ k < n ∧ n - k ≤ kx ∧ Hid (w = wr) ∧ Hid (∃ e, k = 2 ^ e))
  case atStart => exact ⟨1, rfl, by omega, by omega, rfl, 0, rfl⟩
  case round =>
    obtain ⟨k, rfl, hk, hkx, HK, HE⟩ := hrel
    obtain ⟨x, hx⟩ : ∃ x : Nat, x = n - k := ⟨_, rfl⟩
    have e1 : IntKind.i64.wrap ((n : Int) - (k : Int)) = (x : Int) := by rw [IntKind.wrap_i64]; have := HN.out; omega
    by_cases hlt : k < x
    · have hlz : (k : Int) < (x : Int) := by omega
      have e2 : IntKind.i64.wrap ((k : Int) + (k : Int)) = ((k + k : Nat) : Int) := by rw [IntKind.wrap_i64]; have := HN.out; omega
      have H0 : 0 < k := by obtain ⟨e, he⟩ := HE.out; rw [he]; exact Nat.two_pow_pos e
      have HX := hid (And.intro hx H0)
      clear hx H0
      go_wp2
      go_roundg (n - (k + k))
      case measure => have := HX.out; omega
      case rel => exact ⟨k + k, rfl, by have := HX.out; omega, Nat.le_refl _, HK, by obtain ⟨e, he⟩ := HE.out; exact ⟨e + 1, by rw [Nat.pow_succ]; omega⟩⟩
    · have hlz : ¬ (k : Int) < (x : Int) := by omega
      have hs : splitN n = k := by
        obtain ⟨e, he⟩ := HE.out
        rw [he]
        exact splitN_only (by rw [← he]; exact hk) (by rw [← he]; omega)
      have HS := hid hs
      clear hs
      go_wp2
      go_ret
      exact ⟨by rw [HS.out]; rfl, HK.out⟩
end RLg
end Go.Proofs.Ytkogkcaflhjlhaa
