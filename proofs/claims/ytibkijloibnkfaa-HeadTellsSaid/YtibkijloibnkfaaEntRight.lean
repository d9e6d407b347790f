/- postmarkref5.EntryRight: by contract. -/
import Derived.Test.YtibkijloibnkfaaEntA
namespace Go.Proofs.Ytibkijloibnkfaa
open Go.RowKit Go.Pm
namespace RUp
theorem prime_lt (s : Nat) (b : Bool) (h : decide (s < prime61) = b) : ∀ z, z = s → decide ((z : Int) < (2305843009213693951 : Int)) = b := by
  rintro z rfl
  rw [← h, decide_eq_decide]
  unfold prime61
  omega
theorem entR_no {m : Nat} {v : Int} {k : Nat} (h : ¬ (1 ≤ m ∧ m ≤ 32 ∧ 1 ≤ v ∧ v ≤ 1073741824 ∧ 1 ≤ k ∧ k < prime61)) : entR m v k = false := by
  cases hb : entR m v k with
  | false => rfl
  | true =>
    unfold entR at hb
    simp only [Bool.and_eq_true, decide_eq_true_eq, and_assoc] at hb
    exact absurd hb h
theorem entR_yes {m : Nat} {v : Int} {k : Nat} (h : 1 ≤ m ∧ m ≤ 32 ∧ 1 ≤ v ∧ v ≤ 1073741824 ∧ 1 ≤ k ∧ k < prime61) : entR m v k = true := by
  unfold entR
  simp only [Bool.and_eq_true, decide_eq_true_eq, and_assoc]
  exact h

set_option maxRecDepth 100000 in
set_option maxHeartbeats 1000000 in
/-- postmarkref5.EntryRight. -/
theorem entryRight (n : ByteArray) (v : Int) (k : Nat) (w : World) : Calls Try.prog 45 #[entV n v k] w fun e w' => e = .returned (.bool (entR n.size v k)) ∧ Kept None w w' := by
  have k0 : Kept None w (w.alloc (.cells #[.string n, .int .i64 v, .int .u64 (k : Int)] 53)) := (Kept.refl _ _).alloc _
  by_cases h1 : n.size < 1
  · rw [entR_no (by omega)]
    go_enter Try.func45, Try.ntmps45
    go_wp2
    go_ret
    exact ⟨rfl, k0⟩
  by_cases h2 : 32 < n.size
  · rw [entR_no (by omega)]
    go_enter Try.func45, Try.ntmps45
    go_wp2
    go_ret
    exact ⟨rfl, k0⟩
  by_cases h3 : v < 1
  · rw [entR_no (by omega)]
    go_enter Try.func45, Try.ntmps45
    go_wp2
    go_ret
    exact ⟨rfl, k0⟩
  by_cases h4 : 1073741824 < v
  · rw [entR_no (by omega)]
    go_enter Try.func45, Try.ntmps45
    go_wp2
    go_ret
    exact ⟨rfl, k0⟩
  by_cases h5 : k < 1
  · rw [entR_no (by omega)]
    go_enter Try.func45, Try.ntmps45
    go_wp2
    go_ret
    exact ⟨rfl, k0⟩
  by_cases h6 : k < prime61
  · rw [entR_yes (by omega)]
    have hb := prime_lt k true (decide_eq_true h6)
    clear h6
    go_enter Try.func45, Try.ntmps45
    go_wp2
    go_ret
    exact ⟨rfl, k0⟩
  · rw [entR_no (by omega)]
    have hb := prime_lt k false (decide_eq_false h6)
    clear h6
    go_enter Try.func45, Try.ntmps45
    go_wp2
    go_ret
    exact ⟨rfl, k0⟩
end RUp
end Go.Proofs.Ytibkijloibnkfaa
