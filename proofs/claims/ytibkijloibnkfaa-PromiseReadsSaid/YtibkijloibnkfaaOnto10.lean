/- 'append' onto what has no room, conversions, '^' of bytes. -/
import Derived.Test.YtibkijloibnkfaaLow
namespace Go.Pm
open Go Go.RowKit
/-- 'append(v, u..)' where v has no room: new memory, or v itself. -/
theorem run_append_onto {P : Program} {w : World} {t ty e : TypeId} (hT : RowTy P t e (.int .u8 0) 1) {lo hi lo' hi' : Nat} {ad : Addr} {u : Value} {l m : List UInt8} {n : Nat} (hn : l.length = n) (hv : Bs w lo hi (.slice (some ad) n n) l) (h0 : 0 < n) (hu : Bs w lo' hi' u m) (h63 : l.length + m.length ≤ 140737488355328) :
    ∃ a c w', (Builtin.append_ #[t, t] ty #[.slice (some ad) n n, u]).run P w = .ok (.slice a (l ++ m).length c) w' ∧ Bs w' 0 w'.heap.size (.slice a (l ++ m).length c) (l ++ m) ∧ Kept None w w' := by
  subst hn
  by_cases hm : m.length = 0
  · obtain rfl : m = [] := List.eq_nil_of_length_eq_zero hm
    obtain ⟨i, hi, hz, hs, hb⟩ := hT.info
    obtain ⟨au, c, rfl, g1, g2, g3⟩ := hu.shape
    refine ⟨some ad, l.length, w, ?_, by rw [List.append_nil]; exact hv.all, Kept.refl _ _⟩
    cases au with
    | none => simp [Builtin.append_, run_underlying hT.sl, sizeOf, typeInfo, hi, Builtin.lenOf, Builtin.firstCells, storeCells]
    | some au => simp [Builtin.append_, run_underlying hT.sl, sizeOf, typeInfo, hi, Builtin.lenOf, Builtin.firstCells, storeCells, loadCells, loadCellsFrom]
  · obtain ⟨c, w', hr, hb, h1, h2, hk⟩ := run_append_new (ty := ty) hT hv hu (by omega) (by omega) h63
    exact ⟨_, c, w', hr, (rowB_bs hb h1 h2).all, hk⟩
theorem wpList_convert_run {P : Program} {ops : Array Oper} {rest : List Oper} {o : Oper} {a : Act} {w : World} {Q : Exit → Act → World → Prop} (hgd : o.guard = none) (src dst : TypeId) (x : Operand) (ho : o.op = .convert src dst x)
    {u : Value} (hx : a.eval x = u) {r : Value} {w' : World} (hr : (convert src dst u).run P w = .ok r w') (h : wpList P ops Q rest (a.put o.dst r) w') : wpList P ops Q (o :: rest) a w := by
  refine wpList_plain hgd fun K hK' => ?_
  unfold Oper.wp
  simp only [execOp, ho, Sem.run_bind, Sem.run_pure, Result.andThen_ok, hx, hr]
  exact hK' _ _ h
theorem byte_xor (a b : Int) : 0 ≤ bits .xor .u8 a b ∧ bits .xor .u8 a b < 256 := by
  have h : bits .xor .u8 a b = IntKind.u8.wrap ((BitVec.ofInt 8 a ^^^ BitVec.ofInt 8 b).toNat : Int) := rfl
  rw [h]
  constructor <;> simp [IntKind.wrap, IntKind.bits, IntKind.signed] <;> omega
end Go.Pm
