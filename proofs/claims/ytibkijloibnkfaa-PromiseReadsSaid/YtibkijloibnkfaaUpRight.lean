/- update.Right: by contract. -/
import Derived.Test.YtibkijloibnkfaaEntA
namespace Go.Proofs.Ytibkijloibnkfaa
open Go.RowKit Go.Pm
namespace Up
theorem aUpd : AggTy Try.prog 120 6 := Sg.AggTy.of (by kernel_rfl) (by kernel_rfl)
theorem upd_all (n : ByteArray) (v c : Int) (k r s : Nat) : (#[.string n, .int .i64 v, .int .u64 (k : Int), .int .i64 c, .int .u64 (r : Int), .int .u64 (s : Int)] : Array Value).all (·.oneCell') = true := by simp [Value.oneCell']

theorem prime_ge (s : Nat) (b : Bool) (h : decide (prime61 ≤ s) = b) : ∀ z, z = s → decide ((2305843009213693951 : Int) ≤ (z : Int)) = b := by
  rintro z rfl
  rw [← h, decide_eq_decide]
  unfold prime61
  omega

set_option maxRecDepth 100000 in
set_option maxHeartbeats 1000000 in
/-- update.Right. -/
theorem right (n : ByteArray) (v c : Int) (k r s : Nat) (w : World) : Calls Try.prog 82 #[updV n v k c r s] w fun e w' => e = .returned (.bool (rightB n.size v k c)) ∧ Kept None w w' := by
  have k0 : Kept None w (w.alloc (.cells #[.string n, .int .i64 v, .int .u64 (k : Int), .int .i64 c, .int .u64 (r : Int), .int .u64 (s : Int)] 120)) := (Kept.refl _ _).alloc _
  by_cases h1 : n.size < 1
  · rw [rightB_no (by omega)]
    go_enter Try.func82, Try.ntmps82
    go_wp2
    go_ret
    exact ⟨rfl, k0⟩
  by_cases h2 : 32 < n.size
  · rw [rightB_no (by omega)]
    go_enter Try.func82, Try.ntmps82
    go_wp2
    go_ret
    exact ⟨rfl, k0⟩
  by_cases h3 : v < 1
  · rw [rightB_no (by omega)]
    go_enter Try.func82, Try.ntmps82
    go_wp2
    go_ret
    exact ⟨rfl, k0⟩
  by_cases h4 : 1073741824 < v
  · rw [rightB_no (by omega)]
    go_enter Try.func82, Try.ntmps82
    go_wp2
    go_ret
    exact ⟨rfl, k0⟩
  by_cases h5 : k < 1
  · rw [rightB_no (by omega)]
    go_enter Try.func82, Try.ntmps82
    go_wp2
    go_ret
    exact ⟨rfl, k0⟩
  by_cases h6 : prime61 ≤ k
  · rw [rightB_no (by omega)]
    have hb := prime_ge k true (decide_eq_true h6)
    clear h6
    go_enter Try.func82, Try.ntmps82
    go_wp2
    go_ret
    exact ⟨rfl, k0⟩
  have hb := prime_ge k false (decide_eq_false h6)
  have e1 : rightB n.size v k c = (c == 0 || c == 1) := by
    rw [Bool.eq_iff_iff, rightB_iff]
    simp only [Bool.or_eq_true, beq_iff_eq]
    omega
  rw [e1]
  clear h6 e1 k0
  go_enter Try.func82, Try.ntmps82
  go_wp2
  all_goals
    go_ret
    exact ⟨rfl, (Kept.refl _ _).alloc _⟩
end Up
end Go.Proofs.Ytibkijloibnkfaa
