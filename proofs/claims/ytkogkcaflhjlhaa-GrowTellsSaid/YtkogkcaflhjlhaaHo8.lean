/- Slices of hashes that the call owns, in drawn regions; what stays as it was. -/
import Derived.Test.YtkogkcaflhjlhaaLogRoot8
namespace Go.Pm
open Go Go.RowKit
/-- A slice of hashes that the call owns. -/
abbrev Fct.ho (k : Nat) (e : TypeId) (base : Nat) (hs : List (List UInt8)) (uses : List Nat := []) : Fct := { k := k, uses := uses, pure := fun u => ∃ a c, u = .slice a hs.length c, fact := fun u W => Ho e W base u hs }
theorem Steady.ho {l : List Fct} {k base : Nat} {e : TypeId} {us : List Nat} {hs : List (List UInt8)} (h : Steady l) : Steady (.ho k e base hs us :: l) := .cons ⟨_, none, 0, rfl⟩ (fun _ _ _ hk hb => Ho.kept hb hk (fun _ _ h => h)) h
theorem range_keptS {S : Nat → Prop} {w w' : World} {b o : Nat} {cs : List Value} (h : w.rangeAt b o cs) (hk : Kept S w w') (hb : ¬ S b) : w'.rangeAt b o cs := fun j v hv => by
  have h1 := h j v hv
  rw [hk.cell (block_lt_of_cell h1) hb]
  exact h1
end Go.Pm
