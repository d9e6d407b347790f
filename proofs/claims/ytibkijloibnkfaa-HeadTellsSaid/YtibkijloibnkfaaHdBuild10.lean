/- Heads, put together out of their parts. -/
import Derived.Test.YtibkijloibnkfaaHdEq10
import Derived.Test.YtibkijloibnkfaaHdRead10
import Derived.Test.YtibkijloibnkfaaStCut10
namespace Go.Pm
open Go Go.RowKit
def hdPl (i : Nat) : Option (Nat × Nat) := #[(0, 1), (1, 1), (2, 1), (3, 32), (35, 32), (67, 2)][i]?
theorem fill_e (h : Hd) (x : Int) (rest : List (Nat × Value)) : Instr.fill hdPl (hdC h).toArray ((0, .int .i64 x) :: rest) = Instr.fill hdPl (hdC { h with e := x }).toArray rest := by
  rw [fill_cons (v := .int .i64 x) (off := 0) (size := 1) rfl rfl (by simp [Value.cells, hdC]), ← hd_set_e]
  rfl
theorem fill_t (h : Hd) (x : Int) (rest : List (Nat × Value)) : Instr.fill hdPl (hdC h).toArray ((1, .int .i64 x) :: rest) = Instr.fill hdPl (hdC { h with t := x }).toArray rest := by
  rw [fill_cons (v := .int .i64 x) (off := 1) (size := 1) rfl rfl (by simp [Value.cells, hdC]), ← hd_set_t]
  rfl
theorem fill_c (h : Hd) (x : Int) (rest : List (Nat × Value)) : Instr.fill hdPl (hdC h).toArray ((2, .int .i64 x) :: rest) = Instr.fill hdPl (hdC { h with c := x }).toArray rest := by
  rw [fill_cons (v := .int .i64 x) (off := 2) (size := 1) rfl rfl (by simp [Value.cells, hdC]), ← hd_set_c]
  rfl
theorem fill_root {h : Hd} (hk : h.Ok) {x : List UInt8} (hx : x.length = 32) (rest : List (Nat × Value)) : Instr.fill hdPl (hdC h).toArray ((3, hashV x) :: rest) = Instr.fill hdPl (hdC { h with root := x }).toArray rest := by
  have hl := hdC_len hk
  rw [fill_cons (v := hashV x) (off := 3) (size := 32) rfl (show (x.map u8v).toArray.size = 32 by simpa using hx) (show 3 + (x.map u8v).toArray.size ≤ _ by simp [hx, hl])]
  congr 1
  rw [show (hashV x).cells = (x.map u8v).toArray from rfl, ← Array.foldl_toList, Array.toList_zipIdx]
  refine (fold_put 3 (x.map u8v) 0 _ (by simp [hx, hl])).trans ?_
  rw [← hd_cut_root hk x]
  simp [hx]
theorem fill_log {h : Hd} (hk : h.Ok) {x : List UInt8} (hx : x.length = 32) (rest : List (Nat × Value)) : Instr.fill hdPl (hdC h).toArray ((4, hashV x) :: rest) = Instr.fill hdPl (hdC { h with log := x }).toArray rest := by
  have hl := hdC_len hk
  rw [fill_cons (v := hashV x) (off := 35) (size := 32) rfl (show (x.map u8v).toArray.size = 32 by simpa using hx) (show 35 + (x.map u8v).toArray.size ≤ _ by simp [hx, hl])]
  congr 1
  rw [show (hashV x).cells = (x.map u8v).toArray from rfl, ← Array.foldl_toList, Array.toList_zipIdx]
  refine (fold_put 35 (x.map u8v) 0 _ (by simp [hx, hl])).trans ?_
  rw [← hd_cut_log hk x]
  simp [hx]
theorem wpList_build_four {P : Program} {ops : Array Oper} {rest : List Oper} {o : Oper} {a : Act} {w : World} {Q : Exit → Act → World → Prop} (hgd : o.guard = none) {t : TypeId} {x0 x1 x2 x3 : Operand} {u0 u1 u2 u3 v : Value} (ho : o.op = .build t #[(0, x0), (1, x1), (2, x2), (3, x3)])
    (h0 : a.eval x0 = u0) (h1 : a.eval x1 = u1) (h2 : a.eval x2 = u2) (h3 : a.eval x3 = u3) (hr : (Instr.build t #[(0, u0), (1, u1), (2, u2), (3, u3)]).run P w = .ok v w) (h : wpList P ops Q rest (a.put o.dst v) w) : wpList P ops Q (o :: rest) a w :=
  wpList_plain hgd fun _ hK => by
    have hb : (execOp a.eval o).run P w = .ok (.value v) w := run_execOp_build ho (by subst h0 h1 h2 h3; simpa using hr)
    unfold Oper.wp
    rw [hb]
    exact hK _ _ h
theorem wpList_build_five {P : Program} {ops : Array Oper} {rest : List Oper} {o : Oper} {a : Act} {w : World} {Q : Exit → Act → World → Prop} (hgd : o.guard = none) {t : TypeId} {x0 x1 x2 x3 x4 : Operand} {u0 u1 u2 u3 u4 v : Value} (ho : o.op = .build t #[(0, x0), (1, x1), (2, x2), (3, x3), (4, x4)])
    (h0 : a.eval x0 = u0) (h1 : a.eval x1 = u1) (h2 : a.eval x2 = u2) (h3 : a.eval x3 = u3) (h4 : a.eval x4 = u4) (hr : (Instr.build t #[(0, u0), (1, u1), (2, u2), (3, u3), (4, u4)]).run P w = .ok v w) (h : wpList P ops Q rest (a.put o.dst v) w) : wpList P ops Q (o :: rest) a w :=
  wpList_plain hgd fun _ hK => by
    have hb : (execOp a.eval o).run P w = .ok (.value v) w := run_execOp_build ho (by subst h0 h1 h2 h3 h4; simpa using hr)
    unfold Oper.wp
    rw [hb]
    exact hK _ _ h
/-- The known head, unsigned. -/
def hd123 : Hd := ⟨1, 3, 2, zero32, zero32, 0, 0⟩
def msg123 : List UInt8 := [72, 1, 0, 0, 0, 0, 0, 0, 0, 3, 0, 0, 0, 0, 0, 0, 0, 2] ++ List.replicate 71 0
theorem msg123_is : msgHd hd123 = msg123 := by decide +kernel
theorem pub5 : pubN 5 = 16807 := by unfold pubN; rw [powm_sq _ _ _ (by decide)]; decide +kernel
theorem pub6 : pubN 6 = 117649 := by unfold pubN; rw [powm_sq _ _ _ (by decide)]; decide +kernel
theorem key5h : keyN 5 msg123 = 2256388873466879314 := by decide +kernel
theorem sigR5h : sigR 5 msg123 = 2252218261899658469 := by
  unfold sigR
  rw [show 5 % order61 = 5 by decide, key5h, powm_sq _ _ _ (by decide)]
  decide +kernel
theorem ch5h : chN 2252218261899658469 16807 msg123 = 1462272069247183120 := by decide +kernel
theorem ch6h : chN 2252218261899658469 117649 msg123 = 2261443362600740819 := by decide +kernel
theorem sigS5h : sigS 5 msg123 = 344377182848019114 := (sigS_of (by decide) key5h sigR5h pub5 ch5h).trans (by decide +kernel)
/-- Another key doesn't believe it. -/
theorem taken123 : takenHd (pubN 6) (signHd 5 hd123) = false := by
  unfold signHd
  rw [takenHd_sig, msg123_is, sigR5h, sigS5h, pub6]
  have h : holdsN 117649 msg123 2252218261899658469 344377182848019114 = false := by
    unfold holdsN
    rw [ch6h, powm_sq _ _ _ (by decide), powm_sq _ _ _ (by decide)]
    decide +kernel
  unfold checkN
  rw [h, Bool.and_false, Bool.and_false]
theorem right123 : rightHd hd123 = true := by decide
theorem ok123 : hd123.Ok := ⟨rfl, rfl, by decide, by decide⟩
end Go.Pm
namespace Go.Proofs.Ytibkijloibnkfaa
open Go.RowKit Go.Pm
namespace Hp
theorem built_head (parts : List (Nat × Value)) : Try.prog.built 28 parts = Instr.fill hdPl (hdC zeroHd).toArray parts := by kernel_rfl
theorem build4 (w : World) (e t c : Int) (r : List UInt8) (hr : r.length = 32) : (Instr.build 28 #[(0, .int .i64 e), (1, .int .i64 t), (2, .int .i64 c), (3, hashV r)]).run Try.prog w = .ok (hdV ⟨e, t, c, r, zero32, 0, 0⟩) w := by
  refine run_build w _ _ _ ?_
  rw [built_head]
  exact (fill_e zeroHd e _).trans ((fill_t ⟨e, 0, 0, zero32, zero32, 0, 0⟩ t _).trans ((fill_c ⟨e, t, 0, zero32, zero32, 0, 0⟩ c _).trans ((fill_root (h := ⟨e, t, c, zero32, zero32, 0, 0⟩) ⟨rfl, rfl, zeroHd_ok.2.2⟩ hr _).trans rfl)))
theorem build5 (w : World) (e t c : Int) (r l : List UInt8) (hr : r.length = 32) (hl : l.length = 32) : (Instr.build 28 #[(0, .int .i64 e), (1, .int .i64 t), (2, .int .i64 c), (3, hashV r), (4, hashV l)]).run Try.prog w = .ok (hdV ⟨e, t, c, r, l, 0, 0⟩) w := by
  refine run_build w _ _ _ ?_
  rw [built_head]
  exact (fill_e zeroHd e _).trans ((fill_t ⟨e, 0, 0, zero32, zero32, 0, 0⟩ t _).trans ((fill_c ⟨e, t, 0, zero32, zero32, 0, 0⟩ c _).trans ((fill_root (h := ⟨e, t, c, zero32, zero32, 0, 0⟩) ⟨rfl, rfl, zeroHd_ok.2.2⟩ hr _).trans ((fill_log (h := ⟨e, t, c, r, zero32, 0, 0⟩) ⟨hr, rfl, zeroHd_ok.2.2⟩ hl _).trans rfl))))
end Hp
end Go.Proofs.Ytibkijloibnkfaa
