/- Frames one behind another (postmarklaw13.FrameChain), as plain functions: program-independent. -/
import Derived.Test.YtkjidligfcihgaaFrame13
namespace Go.Pm
open Go Go.RowKit
/-- The i-th frame of a chain. -/
def frOf (ks : List UInt8) (bs : List (List UInt8)) (i : Nat) : List UInt8 := putF (bAt ks i % 255 + 1) i (bs.getD i [])
/-- m frames, from the i-th on. -/
def frsOn (ks : List UInt8) (bs : List (List UInt8)) : Nat → Nat → List UInt8
  | _, 0 => []
  | i, m + 1 => frOf ks bs i ++ frsOn ks bs (i + 1) m
theorem frsOn_last (ks : List UInt8) (bs : List (List UInt8)) : ∀ (m i : Nat), frsOn ks bs i (m + 1) = frsOn ks bs i m ++ frOf ks bs (i + m)
  | 0, i => by simp [frsOn]
  | m + 1, i => by
    rw [frsOn, frsOn_last ks bs m (i + 1), frsOn, List.append_assoc, show i + 1 + m = i + (m + 1) by omega]
theorem frOf_len (ks : List UInt8) (bs : List (List UInt8)) (i : Nat) : (frOf ks bs i).length = 21 + (bs.getD i []).length := putF_len _ _ _
theorem frsOn_len (ks : List UInt8) (bs : List (List UInt8)) : ∀ (m i : Nat), (∀ j, j < i + m → (bs.getD j []).length ≤ 40) → (frsOn ks bs i m).length ≤ 61 * m
  | 0, i, _ => by simp [frsOn]
  | m + 1, i, h => by
    rw [frsOn, List.length_append, frOf_len]
    have h1 := frsOn_len ks bs m (i + 1) (fun j hj => h j (by omega))
    have h2 := h i (by omega)
    omega
/-- A byte's kind. -/
theorem frKind (ks : List UInt8) (i : Nat) : 1 ≤ bAt ks i % 255 + 1 ∧ bAt ks i % 255 + 1 ≤ 255 := by
  have h0 := bAt_ge ks i
  omega
theorem frsOn_read (ks : List UInt8) (bs : List (List UInt8)) (i m : Nat) (hi : i ≤ 100) (hb : (bs.getD i []).length ≤ 40) : readF (frsOn ks bs i (m + 1)) = ⟨bAt ks i % 255 + 1, i, bs.getD i [], 21 + (bs.getD i []).length, 0⟩ := by
  obtain ⟨k0, k1⟩ := frKind ks i
  rw [frsOn]
  exact read_putF _ _ _ _ k0 k1 (by omega) (by omega) (by omega)
theorem frsOn_drop (ks : List UInt8) (bs : List (List UInt8)) (i m : Nat) : (frsOn ks bs i (m + 1)).drop (21 + (bs.getD i []).length) = frsOn ks bs (i + 1) m := by
  rw [frsOn]
  exact List.drop_left' (frOf_len ks bs i)
theorem readF_nil : readF [] = ⟨0, 0, [], 0, 21⟩ := rfl
end Go.Pm
