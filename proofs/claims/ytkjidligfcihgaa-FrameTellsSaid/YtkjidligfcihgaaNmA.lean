/- A world under a name; loads of known ranges. Program-independent. -/
import Derived.Test.YtkjidligfcihgaaLow
import Derived.Deep.MidRow
import Derived.BigQuiet
namespace Go.Pm
open Go Go.RowKit
theorem rangeAt_kept {w w' : World} {b o : Nat} {cs : List Value} (h : w.rangeAt b o cs) (hk : Kept None w w') : w'.rangeAt b o cs := fun j v hv => by
  have h1 := h j v hv
  rw [hk.cell (block_lt_of_cell h1) (fun h => h)]
  exact h1
/-- A load, of a known range. -/
theorem exec_load_at {P : Program} {o : Oper} {ev : Operand → Value} {W : World} {ty : TypeId} {x : Operand} {b off : Nat} {cs : List Value} (ho : o.op = .load ty x) (hx : ev x = .pointer (some ⟨b, off, none⟩)) (hc : W.rangeAt b off cs) (hT : AggTy P ty cs.length) : (execOp ev o).run P W = .ok (.value (.agg cs.toArray)) W := by
  obtain ⟨d, hu, hd⟩ := hT.ag
  unfold execOp
  simp only [ho, hx, Instr.loadAt, Instr.sureAddr, Sem.run_bind, Sem.run_pure, Result.andThen_ok, run_loadVar_mid W b off ty cs d hc hu (by cases d <;> first | rfl | exact hd) hT.size]
theorem Calls.nm {P : Program} {f : FuncId} {args : Array Value} {w : World} {K : Ending → World → Prop} (h : ∀ w1, w1 = w → Calls P f args w1 K) : Calls P f args w K := h w rfl
theorem wp_nm {P : Program} {c : Code} {Q : Exit → Act → World → Prop} {a : Act} {w : World} (h : ∀ w1, w1 = w → c.wp P Q a w1) : c.wp P Q a w := h w rfl
theorem wpList_nm {P : Program} {ops : Array Oper} {l : List Oper} {Q : Exit → Act → World → Prop} {a : Act} {w : World} (h : ∀ w1, w1 = w → wpList P ops Q l a w1) : wpList P ops Q l a w := h w rfl
theorem u8v_all' (l : List UInt8) : (l.map u8v).toArray.all (·.oneCell') = true := by
  rw [Array.all_eq_true']
  intro x hx
  exact u8v_one l x (by simpa using hx)
/-- A store to a new block touches nothing that was there. -/
theorem Kept.fresh {w w' : World} {o : Obj} (k : Kept (Just w.heap.size) (w.alloc o) w') : Kept None w w' := ((Kept.refl None w).alloc o).then k (fun i hi h => by have h : i = w.heap.size := h; omega)
/-- A new block, its size alone. -/
theorem Blk.any {w : World} {g n : Nat} {cs : Array Value} {t : TypeId} (h : Blk w g cs t) (hs : cs.size = n) : ∃ z : Array Value, z.size = n ∧ Blk w g z t := ⟨cs, hs, h⟩
/-- Cells in the midst of a row, loaded, guarded or not. -/
theorem wpList_load_wr {P : Program} {ops : Array Oper} {rest : List Oper} {o : Oper} {a : Act} {w : World} {Q : Exit → Act → World → Prop} (hw : Region.wanted o (yielded ops a.tmps) = true) {ty : TypeId} {x : Operand} (ho : o.op = .load ty x)
    {b off : Nat} (hx : a.eval x = .pointer (some ⟨b, off, none⟩)) {cs : List Value} (hc : w.rangeAt b off cs) (hT : AggTy P ty cs.length)
    (h : wpList P ops Q rest (a.put o.dst (.agg cs.toArray)) w) : wpList P ops Q (o :: rest) a w :=
  BigFrame.wpList_want hw fun K hK => by
    unfold Oper.wp
    rw [exec_load_at ho hx hc hT]
    exact hK _ _ h
theorem wpList_load_bw {P : Program} {ops : Array Oper} {rest : List Oper} {o : Oper} {a : Act} {w : World} {Q : Exit → Act → World → Prop} (hw : Region.wanted o (yielded ops a.tmps) = true) {ty : TypeId} {x : Operand} (ho : o.op = .load ty x)
    {g : Nat} (hx : a.eval x = .pointer (some ⟨g, 0, none⟩)) {t : TypeId} {cs : Array Value} (hb : Blk w g cs t) (hT : AggTy P ty cs.size)
    (h : wpList P ops Q rest (a.put o.dst (.agg cs)) w) : wpList P ops Q (o :: rest) a w :=
  BigFrame.wpList_want hw fun K hK => by
    unfold Oper.wp
    rw [exec_load_blk ty x ho hx hb hT]
    exact hK _ _ h
theorem Blk.rg {w : World} {g : Nat} {cs : Array Value} {t : TypeId} (h : Blk w g cs t) : w.rangeAt g 0 cs.toList := fun j c hj => by rw [Nat.zero_add, h.cell]; simpa using hj
/-- It makes a block of so many noughts. -/
abbrev Fct.room (k : Nat) (lo n : Nat) (t : TypeId) (uses : List Nat := []) : Fct := { k := k, uses := uses, pure := fun u => ∃ g, u = .pointer (some ⟨g, 0, none⟩), fact := fun u W => ∃ g z, u = .pointer (some ⟨g, 0, none⟩) ∧ lo ≤ g ∧ z.size = n ∧ Blk W g z t }
theorem Steady.room {l : List Fct} {k : Nat} {us : List Nat} {lo n : Nat} {t : TypeId} (h : Steady l) : Steady (.room k lo n t us :: l) := .cons ⟨_, 0, rfl⟩ (fun _ _ _ hk ⟨g, z, h1, h2, h3, h4⟩ => ⟨g, z, h1, h2, h3, h4.kept hk (fun h => h)⟩) h
end Go.Pm
