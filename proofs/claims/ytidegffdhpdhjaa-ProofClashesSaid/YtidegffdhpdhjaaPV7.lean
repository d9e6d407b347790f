/- A proof as the cells of a value: the contracts of package proof once more. -/
import Derived.Test.YtidegffdhpdhjaaRead7
import Derived.Test.YtidegffdhpdhjaaSame7
import Derived.Test.YtidegffdhpdhjaaItems6
namespace Go.Pm
open Go Go.RowKit
/-- The cells A are those of the proof m. -/
def PV (m : Pf) (w : World) (A : Array Value) : Prop := m.Ok ∧ ∃ u, A = (pfC u m).toArray ∧ Rh 0 w u m.path
theorem PV.kept {m : Pf} {w w' : World} {A : Array Value} (h : PV m w A) (hk : Kept None w w') : PV m w' A := by
  obtain ⟨h0, u, h1, h2⟩ := h
  exact ⟨h0, u, h1, h2.kept hk⟩
theorem PV.size {m : Pf} {w : World} {A : Array Value} (h : PV m w A) : A.size = 66 := by
  obtain ⟨h0, u, rfl, _⟩ := h
  simpa using pfC_len u h0
theorem PV.all {m : Pf} {w : World} {A : Array Value} (h : PV m w A) : A.all (·.oneCell') = true := by
  obtain ⟨h0, u, rfl, h2⟩ := h
  exact pfC_one h2
theorem PV.at1 {m : Pf} {w : World} {A : Array Value} (h : PV m w A) : A[1]? = some (.int .i64 m.e) := by
  obtain ⟨h0, u, rfl, h2⟩ := h
  rfl
theorem PV.at0 {m : Pf} {w : World} {A : Array Value} (h : PV m w A) : ∃ a c, A[0]? = some (.slice a m.path.length c) := by
  obtain ⟨h0, u, rfl, h2⟩ := h
  obtain ⟨a, c, rfl⟩ := h2.form
  exact ⟨a, c, rfl⟩
/-- What is made of a root of its own is taken. -/
theorem check_make (l : List It) (hl : Len l) (i : List UInt8) : checkV (rootOf l) i (makeP l i) = saysV (makeP l i) ∧ checkH (rootOf l) i (makeP l i) = saysH (makeP l i) ∧ okP (rootOf l) i (makeP l i) = true := by
  have h : okP (rootOf l) i (makeP l i) = true := by
    unfold okP
    rw [right_make l hl i, root_make l hl i]
    simp
  unfold checkV checkH
  rw [h]
  exact ⟨rfl, rfl, rfl⟩
theorem len_one {x : It} (h : x.i.length = 32 ∧ x.v.length = 32) : Len [x] := fun y hy => by simp at hy; subst hy; exact h
theorem len_nil : Len [] := fun y hy => by simp at hy
/-- It tells a proof. -/
abbrev Fct.pv (k : Nat) (m : Pf) (uses : List Nat := []) : Fct := { k := k, uses := uses, pure := fun u => ∃ A, u = .agg A, fact := fun u W => ∃ A, u = .agg A ∧ PV m W A }
theorem Steady.pv {l : List Fct} {k : Nat} {us : List Nat} {m : Pf} (h : Steady l) : Steady (.pv k m us :: l) := .cons ⟨_, #[], rfl⟩ (fun _ _ _ hk ⟨A, h1, h2⟩ => ⟨A, h1, h2.kept hk⟩) h
theorem insI_le (x : It) : ∀ l : List It, (insI x l).length ≤ l.length + 1
  | [] => Nat.le_refl _
  | y :: l => by
    unfold insI
    split
    · have := insI_le x l; simp only [List.length_cons]; omega
    · split <;> simp
theorem foldI_le : ∀ (l o : List It), (l.foldl (fun out x => insI x out) o).length ≤ o.length + l.length
  | [], o => by simp
  | x :: l, o => by
    have h1 := foldI_le l (insI x o)
    have h2 := insI_le x o
    simp only [List.foldl_cons, List.length_cons]
    omega
theorem setI_le (l : List It) : (setI l).length ≤ l.length := by
  have := foldI_le l []
  simpa [setI] using this
end Go.Pm
namespace Go.Proofs.Ytidegffdhpdhjaa
open Go.RowKit Go.Pm
namespace Pr
theorem PV.agg {m : Pf} {w : World} {A : Array Value} (h : PV m w A) : AggTy Try.prog 63 A.size := by rw [h.size]; exact aP66
/-- Make. -/
theorem make (l : List It) (i : List UInt8) (v : Value) (lo hi : Nat) (w : World) (hv : Its w lo hi v l) (hl : l.length ≤ 549755813888) (hi32 : i.length = 32) :
    Calls Try.prog 57 #[v, hashV i] w fun e w' => ∃ A, e = .returned (.agg A) ∧ Kept None w w' ∧ PV (makeP l i) w' A := by
  have hok := ok_make l hv.1 i
  suffices h : Calls Try.prog 57 #[v, hashV i] w fun e w' => ∃ u, e = .returned (pfV u (makeP l i)) ∧ Kept None w w' ∧ Rh w.heap.size w' u (makeP l i).path by
    refine h.mono ?_
    rintro e w' ⟨u, rfl, k, r⟩
    exact ⟨_, rfl, k, hok, u, rfl, r.mono (Nat.zero_le _)⟩
  have hfew := downI_few_left 256 (setI l) i 0 (srt_setI l) (fun x hx => hv.1 x (find_some ((mem_setI x l).1 hx)).1) (fun _ _ _ _ k hk => by omega) (by omega)
  obtain ⟨d, hd⟩ : ∃ d, d = downI 256 (setI l) i 0 := ⟨_, rfl⟩
  rw [← hd] at hfew
  unfold makeP
  rw [← hd]
  obtain ⟨ps, R⟩ := d
  match R, hd, hfew with
  | [], hd, _ => exact make_nil l i ps v lo hi w hv hl hi32 hd.symm
  | [x], hd, _ =>
    unfold endI
    dsimp only
    by_cases hx : x.i = i
    · rw [if_pos hx]
      exact make_here l x i ps v lo hi w hv hl hi32 hd.symm hx
    · rw [if_neg hx]
      exact make_other l x i ps v lo hi w hv hl hi32 hd.symm hx
theorem checkA (root i : List UInt8) (m : Pf) (A : Array Value) (w : World) (hr : root.length = 32) (hi : i.length = 32) (h : PV m w A) :
    Calls Try.prog 58 #[hashV root, hashV i, .agg A] w fun e w' => e = .returned (.tuple #[hashV (checkV root i m), .bool (checkH root i m), .bool (okP root i m)]) ∧ Kept None w w' := by
  obtain ⟨h0, u, rfl, h2⟩ := h
  exact check root i u m w hr hi h0 h2
theorem rightA (i : List UInt8) (m : Pf) (A : Array Value) (w : World) (hi : i.length = 32) (h : PV m w A) :
    Calls Try.prog 61 #[hashV i, .agg A] w fun e w' => e = .returned (.bool (rightP i m)) ∧ Kept None w w' := by
  obtain ⟨h0, u, rfl, h2⟩ := h
  exact right i u m w hi h0 h2
theorem putA (m : Pf) (A : Array Value) (w : World) (h : PV m w A) (hl : m.path.length ≤ 1000000) :
    Calls Try.prog 33 #[.agg A] w fun e w' => ∃ v, e = .returned v ∧ Kept None w w' ∧ Rb w.heap.size w' v (putP m) := by
  obtain ⟨h0, u, rfl, h2⟩ := h
  exact put u m w h0 h2 hl
theorem readA (v : Value) (lo hi : Nat) (l : List UInt8) (w : World) (hv : Bs w lo hi v l) (hl : l.length ≤ 1099511627776) :
    Calls Try.prog 36 #[v] w fun e w' => ∃ A, e = .returned (.tuple #[.agg A, .int .i64 (readEP l)]) ∧ Kept None w w' ∧ PV (readQP l) w' A := by
  refine (read v lo hi l w hv hl).mono ?_
  rintro e w' ⟨s, rfl, k, r⟩
  exact ⟨_, rfl, k, readQP_ok l, s, rfl, r.mono (Nat.zero_le _)⟩
theorem sameA (m n : Pf) (A B : Array Value) (w : World) (h : PV m w A) (h' : PV n w B) :
    Calls Try.prog 38 #[.agg A, .agg B] w fun e w' => e = .returned (.bool (decide (m = n))) ∧ Kept None w w' := by
  obtain ⟨h0, u, rfl, h2⟩ := h
  obtain ⟨g0, v, rfl, g2⟩ := h'
  exact same u v m n w h0 g0 h2 g2
end Pr
end Go.Proofs.Ytidegffdhpdhjaa
