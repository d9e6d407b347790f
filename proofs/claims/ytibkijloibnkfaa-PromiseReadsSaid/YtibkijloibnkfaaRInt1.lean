/- (*postmarkref1.Reader).Int: by contract. -/
import Derived.Test.YtibkijloibnkfaaLowRd
namespace Go.Pm
open Go Go.RowKit
theorem intI_le' {n : Int} (h : ¬ 9223372036854775807 < n) : intI n = n := by unfold intI; rw [if_neg h]
theorem intI_gt' {n : Int} (h : 9223372036854775807 < n) : intI n = -1 := by unfold intI; rw [if_pos h]
end Go.Pm
namespace Go.Proofs.Ytibkijloibnkfaa
open Go.RowKit Go.Pm
namespace Ref
set_option maxRecDepth 100000 in
set_option maxHeartbeats 400000 in
theorem rint (r : Nat) (lo hi : Nat) (s : St) (w : World) (hr : Ref.Rd w lo hi r s) (hlo : hi ≤ r) :
    Calls Try.prog 53 #[.pointer (some ⟨r, 0, none⟩)] w fun en w' => en = .returned (.int .i64 (intI s.num)) ∧ Kept (Just r) w w' ∧ Ref.Rd w' lo hi r s.numS := by
  have j := fun w h => Ref.rnum r lo hi s w h hlo
  have n0 := St.num_ge s
  have n1 := St.num_lt s
  obtain ⟨x, hx⟩ : ∃ x, x = s.num := ⟨_, rfl⟩
  rw [← hx] at j n0 n1 ⊢
  obtain ⟨s', hs'⟩ : ∃ s', s' = s.numS := ⟨_, rfl⟩
  rw [← hs'] at j ⊢
  have J := hid j
  clear j hx hs'
  by_cases h : 9223372036854775807 < x
  · rw [intI_gt' h]
    go_enter Try.func53, Try.ntmps53
    go_wp2_with fail
    refine (J.out _ hr).mono ?_
    rintro e w1 ⟨rfl, k1, r1⟩
    go_wp2
    go_ret
    exact ⟨rfl, k1, r1⟩
  · rw [intI_le' h]
    go_enter Try.func53, Try.ntmps53
    go_wp2_with fail
    refine (J.out _ hr).mono ?_
    rintro e w1 ⟨rfl, k1, r1⟩
    go_wp2
    go_ret
    exact ⟨rfl, k1, r1⟩
end Ref
end Go.Proofs.Ytibkijloibnkfaa
