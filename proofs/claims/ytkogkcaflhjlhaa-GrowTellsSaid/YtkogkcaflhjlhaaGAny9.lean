/- Prove of packages grow and postmarkref8, of any length: by contract. -/
import Derived.Test.YtkogkcaflhjlhaaSub9
namespace Go.Pm
open Go Go.RowKit
def proveZ (l : List (List UInt8)) (c : Int) : List (List UInt8) := if 1 ≤ c ∧ c ≤ l.length then subL l c.toNat true else []
def inG (l : List (List UInt8)) (c : Int) : Bool := decide (1 ≤ c ∧ c ≤ l.length)
theorem proveZ_len (l : List (List UInt8)) (c : Int) : (proveZ l c).length ≤ l.length := by
  unfold proveZ
  by_cases h : 1 ≤ c ∧ c ≤ l.length
  · rw [if_pos h]
    exact subL_len l.length _ true (Nat.le_refl _) (by omega) (by omega)
  · rw [if_neg h]
    exact Nat.zero_le _
end Go.Pm
namespace Go.Proofs.Ytkogkcaflhjlhaa
open Go.RowKit Go.Pm
namespace Gr
/-- Prove, of any length. -/
theorem proveAny (l : List (List UInt8)) (i : Int) (v : Value) (w : World) (hv : Rh 0 w v l) (hl : l.length ≤ 549755813888) : Calls Try.prog 12 #[v, .int .i64 i] w fun e w' => ∃ u, e = .returned (.tuple #[u, .bool (inG l i)]) ∧ Kept None w w' ∧ Ho 25 w' w.heap.size u (proveZ l i) := by
  unfold inG proveZ
  by_cases h : 1 ≤ i ∧ i ≤ l.length
  · rw [if_pos h, decide_eq_true h]
    have h2 := prove l i.toNat v w hv hl (by omega) (by omega)
    rwa [Int.toNat_of_nonneg (by omega)] at h2
  · rw [if_neg h, decide_eq_false h]
    exact (prove_out l i v w hv (by omega)).mono fun e w' ⟨h1, h2⟩ => ⟨_, h1, h2 ▸ Kept.refl _ _, Ho.nil _ _ _⟩
end Gr
namespace RGr
/-- Prove, of any length. -/
theorem proveAny (l : List (List UInt8)) (i : Int) (v : Value) (w : World) (hv : Rh 0 w v l) (hl : l.length ≤ 549755813888) : Calls Try.prog 13 #[v, .int .i64 i] w fun e w' => ∃ u, e = .returned (.tuple #[u, .bool (inG l i)]) ∧ Kept None w w' ∧ Ho 25 w' w.heap.size u (proveZ l i) := by
  unfold inG proveZ
  by_cases h : 1 ≤ i ∧ i ≤ l.length
  · rw [if_pos h, decide_eq_true h]
    have h2 := prove l i.toNat v w hv hl (by omega) (by omega)
    rwa [Int.toNat_of_nonneg (by omega)] at h2
  · rw [if_neg h, decide_eq_false h]
    exact (prove_out l i v w hv (by omega)).mono fun e w' ⟨h1, h2⟩ => ⟨_, h1, h2 ▸ Kept.refl _ _, Ho.nil _ _ _⟩
end RGr
end Go.Proofs.Ytkogkcaflhjlhaa
