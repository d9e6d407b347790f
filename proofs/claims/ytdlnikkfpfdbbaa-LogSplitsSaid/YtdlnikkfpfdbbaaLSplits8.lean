/- postmarklaw8.LogSplits: true. -/
import Derived.Test.YtdlnikkfpfdbbaaKnownL8
namespace Go.Pm
open Go Go.RowKit
theorem and_pow : ∀ q : Fin 62, bits .and .i64 ((2 ^ q.1 : Nat) : Int) (((2 ^ q.1 : Nat) : Int) - 1) = 0 := by decide +kernel
theorem and_split (n k : Nat) (h2 : 2 ≤ n) (hn : n < 4294967296) (hk : k = splitN n) : bits .and .i64 (k : Int) ((k : Int) - 1) = 0 := by
  rw [hk, splitN_is h2]
  exact and_pow ⟨(n - 1).log2, Nat.lt_of_lt_of_le ((Nat.log2_lt (k := 32) (by omega)).2 (by omega)) (by decide)⟩
end Go.Pm
namespace Go.Proofs.Ytdlnikkfpfdbbaa
open Go.RowKit Go.Pm
namespace L8
set_option maxRecDepth 100000 in
set_option maxHeartbeats 1000000 in
theorem splits (n : Nat) (w : World) (hn : n < 4294967296) : Calls Try.prog 5 #[.int .u32 n] w fun e w' => e = .returned (.bool true) ∧ Kept None w w' := by
  have e1 : wrap64 (n : Int) = (n : Int) := by unfold wrap64; omega
  have HK := hid (known w)
  by_cases h2 : n < 2
  · have h2z : (n : Int) < 2 := by omega
    have HS := hid (fun w => Lg.split_few (n : Int) w h2z)
    clear hn h2
    go_enter Try.func5, Try.ntmps5
    go_wp2_with fail
    refine HK.out.mono ?_
    rintro e w1 ⟨rfl, k1⟩
    have K1 := hid k1
    clear k1
    go_wp2_with fail
    refine (HS.out w1).mono ?_
    rintro e w2 ⟨rfl, e2⟩
    subst e2
    go_wp2
    go_ret
    exact ⟨rfl, K1.out⟩
  · have h2' : 2 ≤ n := by omega
    have h2z : ¬ (n : Int) < 2 := by omega
    have hS := fun w => Lg.split n w h2' (by omega)
    have hk := splitN_lt h2'
    have hp := splitN_pos h2'
    have ht := splitN_twice h2'
    obtain ⟨k, hkk⟩ : ∃ k, k = splitN n := ⟨_, rfl⟩
    have hand := and_split n k h2' hn hkk
    rw [← hkk] at hS hk hp ht
    obtain ⟨m, hm⟩ : ∃ m : Nat, m = k - 1 := ⟨_, rfl⟩
    have e3 : (k : Int) - 1 = (m : Int) := by omega
    rw [e3] at hand
    have e4 : wrap64 (m : Int) = (m : Int) := by unfold wrap64; omega
    have e5 : wrap64 (2 * (k : Int)) = 2 * (k : Int) := by unfold wrap64; omega
    have hkz : (k : Int) < (n : Int) := by omega
    have hpz : (0 : Int) < (k : Int) := by omega
    have htz : (n : Int) ≤ 2 * (k : Int) := by omega
    have HS := hid hS
    clear hn h2 h2' hk hp ht hkk hm hS
    go_enter Try.func5, Try.ntmps5
    go_wp2_with fail
    refine HK.out.mono ?_
    rintro e w1 ⟨rfl, k1⟩
    have K1 := hid k1
    clear k1
    go_wp2_with fail
    refine (HS.out w1).mono ?_
    rintro e w2 ⟨rfl, e2⟩
    subst e2
    go_wp2
    go_ret
    exact ⟨rfl, K1.out⟩
end L8
end Go.Proofs.Ytdlnikkfpfdbbaa
