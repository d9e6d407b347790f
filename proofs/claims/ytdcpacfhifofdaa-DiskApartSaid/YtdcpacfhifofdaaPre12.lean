/- What DiskKeeps and DiskCuts know of the file that they append to. -/
import Derived.Test.YtdcpacfhifofdaaKnown12
namespace Go.Proofs.Ytdcpacfhifofdaa
open Go.RowKit Go.Pm
namespace K12
open Dk
/-- What a law has appended: what is sure, and the first k of the others. -/
def allL (sure : List UInt8) (l : List (List UInt8)) (k : Nat) : List UInt8 := sure ++ (l.take k).flatten
theorem allL_zero (sure : List UInt8) (l : List (List UInt8)) : allL sure l 0 = sure := by simp [allL]
theorem allL_next (sure : List UInt8) (l : List (List UInt8)) (k : Nat) (h : k < l.length) : allL sure l (k + 1) = allL sure l k ++ l[k] := by
  unfold allL
  rw [flatten_take l k h, List.append_assoc]
/-- The file that it is in. -/
structure Gf (F : Fl) (sure A : List UInt8) (k : Nat) : Prop where
  t : F.t = A
  s : F.sure = sure.length
  ok : F.Ok
  b : F.b.length ≤ k
theorem Fl.sure_add (F : Fl) (x : List UInt8) : (F.add x).sure = F.sure := by
  unfold Fl.sure
  by_cases h : 0 < F.b.length
  · rw [Fl.beg_at _ (show 0 < (F.add x).b.length by simp [Fl.add]), Fl.beg_at _ h]
    simp [Fl.add, List.getElem_append_left h]
  · have hb : F.b = [] := List.eq_nil_of_length_eq_zero (by omega)
    rw [F.beg_end (by omega), Fl.beg_at _ (show 0 < (F.add x).b.length by simp [Fl.add])]
    simp [Fl.add, hb]
theorem Gf.add {F : Fl} {sure A : List UInt8} {k : Nat} (h : Gf F sure A k) (x : List UInt8) : Gf (F.add x) sure (A ++ x) (k + 1) :=
  ⟨by simp [Fl.add, h.t], by rw [Fl.sure_add]; exact h.s, Fl.ok_add h.ok x, by have := h.b; simp [Fl.add]; omega⟩
theorem Gf.start (sure : List UInt8) : Gf (Fl.settle (Fl.add ⟨[], []⟩ sure)) sure sure 0 := ⟨rfl, rfl, Fl.ok_nil _, Nat.le_refl _⟩
theorem Gf.dok {F : Fl} {sure A : List UInt8} {k : Nat} (h : Gf F sure A k) {j : Nat} (hA : A.length ≤ 1000) (hk : k ≤ 1000) : (d1 j F 1048576 (-1)).Ok :=
  d1_ok h.ok (by rw [h.t]; omega) (by have := h.b; omega) (by decide) (by decide)
theorem flat_le {l : List (List UInt8)} (h : ∀ x ∈ l, x.length ≤ 20) : l.flatten.length ≤ 20 * l.length := by
  induction l with
  | nil => simp
  | cons x l ih =>
    have h1 := h x (List.mem_cons_self ..)
    have h2 := ih (fun y hy => h y (List.mem_cons_of_mem _ hy))
    simp only [List.flatten_cons, List.length_append, List.length_cons]
    omega
end K12
end Go.Proofs.Ytdcpacfhifofdaa
