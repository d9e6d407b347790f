/- postmarkref8.Split: by contract. -/
import Derived.Test.YtibkijloibnkfaaLog8
import Derived.Test.YtibkijloibnkfaaHk8
import Derived.Lib.Walk
namespace Go.Proofs.Ytibkijloibnkfaa
open Go.RowKit Go.Pm
namespace RLg
set_option maxRecDepth 100000 in
set_option maxHeartbeats 1000000 in
/-- Split, of a number below 2. -/
theorem split_few (n : Int) (w : World) (h : n < 2) : Calls Try.prog 104 #[.int .i64 n] w fun e w' => e = .returned (.int .i64 0) ∧ w = w' := by
  go_enter Try.func104, Try.ntmps104
  go_wp2
  go_ret
  exact ⟨rfl, rfl⟩
set_option maxRecDepth 100000 in
set_option maxHeartbeats 1000000 in
theorem split (n : Nat) (w : World) (h2 : 2 ≤ n) (hn : n < 9223372036854775808) : Calls Try.prog 104 #[.int .i64 n] w fun e w' => e = .returned (.int .i64 (splitN n)) ∧ w = w' := by
  have hz : ¬ (n : Int) < 2 := by omega
  have HN := hid hn
  clear hn
  go_enter Try.func104, Try.ntmps104
  go_wp2
  go_loopg [3] n (fun kx s3 wr => ∃ k : Nat, s3 = .int .i64 k ∧ k < n ∧ n - k ≤ kx ∧ Hid (w = wr) ∧ Hid (∃ e, k = 2 ^ e))
  case atStart => exact ⟨1, rfl, by omega, by omega, rfl, 0, rfl⟩
  case round =>
    obtain ⟨k, rfl, hk, hkx, HK, HE⟩ := hrel
    obtain ⟨x, hx⟩ : ∃ x : Nat, x = n - k := ⟨_, rfl⟩
    have e1 : IntKind.i64.wrap ((n : Int) - (k : Int)) = (x : Int) := by rw [IntKind.wrap_i64]; have := HN.out; omega
    by_cases hlt : k < x
    · have hlz : (k : Int) < (x : Int) := by omega
      have e2 : IntKind.i64.wrap ((k : Int) + (k : Int)) = ((k + k : Nat) : Int) := by rw [IntKind.wrap_i64]; have := HN.out; omega
      have H0 : 0 < k := by obtain ⟨e, he⟩ := HE.out; rw [he]; exact Nat.two_pow_pos e
      have HX := hid (And.intro hx H0)
      clear hx H0
      go_wp2
      go_roundg (n - (k + k))
      case measure => have := HX.out; omega
      case rel => exact ⟨k + k, rfl, by have := HX.out; omega, Nat.le_refl _, HK, by obtain ⟨e, he⟩ := HE.out; exact ⟨e + 1, by rw [Nat.pow_succ]; omega⟩⟩
    · have hlz : ¬ (k : Int) < (x : Int) := by omega
      have hs : splitN n = k := by
        obtain ⟨e, he⟩ := HE.out
        rw [he]
        exact splitN_only (by rw [← he]; exact hk) (by rw [← he]; omega)
      have HS := hid hs
      clear hs
      go_wp2
      go_ret
      exact ⟨by rw [HS.out]; rfl, HK.out⟩
end RLg
end Go.Proofs.Ytibkijloibnkfaa
