/- Two heads, held against one another. -/
import Derived.Test.YtibkijloibnkfaaHdA10
namespace Go.Pm
open Go Go.RowKit
theorem eqF_nil {P : Program} {w : World} {xs ys : Array Value} {d : Nat} {fs : List Field} (h : fs.map (fun f => (f.name == "_", f.type, f.offset)) = []) : (Op.eqFields d xs ys fs).run P w = .ok true w := by
  obtain rfl := List.map_eq_nil_iff.1 h
  simp [Op.eqFields]
theorem eqF_step {P : Program} {w : World} {xs ys : Array Value} {d : Nat} {fs : List Field} {t : TypeId} {o : Nat} {rest : List (Bool × TypeId × Nat)} (h : fs.map (fun f => (f.name == "_", f.type, f.offset)) = (false, t, o) :: rest)
    {a b : Value} {r c : Bool} (pa : (part t xs o).run P w = .ok a w) (pb : (part t ys o).run P w = .ok b w) (he : (Op.equalIn d t a b).run P w = .ok r w)
    (hc : ∀ gs : List Field, gs.map (fun f => (f.name == "_", f.type, f.offset)) = rest → (Op.eqFields d xs ys gs).run P w = .ok c w) : (Op.eqFields d xs ys fs).run P w = .ok (r && c) w := by
  match fs, h with
  | f :: gs, h =>
    simp only [List.map_cons, List.cons.injEq, Prod.mk.injEq, beq_eq_false_iff_ne] at h
    obtain ⟨⟨f1, f2, f3⟩, g⟩ := h
    cases r <;> simp only [Op.eqFields, f1, ne_eq, not_false_eq_true, if_true, f2, f3, Sem.run_bind, pa, pb, he, Result.andThen_ok, Sem.run_pure, Bool.not_true, Bool.not_false, Bool.false_eq_true, if_false, hc gs g, Bool.true_and, Bool.false_and]
theorem part_agg {P : Program} {w : World} {xs : Array Value} {t : TypeId} {o n : Nat} (ha : ∀ w, (isAgg t).run P w = .ok true w) (hs : ∀ w, (sizeOf t).run P w = .ok n w) : (part t xs o).run P w = .ok (.agg (xs.extract o (o + n))) w := by
  simp only [part, Sem.run_bind, ha, hs, Result.andThen_ok, if_true, Sem.run_pure]
theorem part_one {P : Program} {w : World} {xs : Array Value} {t : TypeId} {o : Nat} {v : Value} (ha : ∀ w, (isAgg t).run P w = .ok false w) (h : xs[o]? = some v) : (part t xs o).run P w = .ok v w := by
  simp only [part, Sem.run_bind, ha, Result.andThen_ok, Bool.false_eq_true, if_false, h, Sem.run_pure]
theorem hd_x0 (h : Hd) : (hdC h).toArray[0]? = some (.int .i64 h.e) := rfl
theorem hd_x1 (h : Hd) : (hdC h).toArray[1]? = some (.int .i64 h.t) := rfl
theorem hd_x2 (h : Hd) : (hdC h).toArray[2]? = some (.int .i64 h.c) := rfl
theorem hd_xr {h : Hd} (hk : h.Ok) : (hdC h).toArray.extract 3 (3 + 32) = (h.root.map u8v).toArray := by
  rw [List.extract_toArray, List.extract_eq_take_drop]
  have hi : (h.root.map u8v).length = 32 := by simp [hk.1]
  unfold hdC
  simp only [List.drop_succ_cons, List.drop_zero, show 3 + 32 - 3 = 32 from rfl]
  rw [List.take_left' hi]
theorem hd_xl {h : Hd} (hk : h.Ok) : (hdC h).toArray.extract 35 (35 + 32) = (h.log.map u8v).toArray := by
  rw [List.extract_toArray, List.extract_eq_take_drop]
  have hi : (h.root.map u8v).length = 32 := by simp [hk.1]
  have hl : (h.log.map u8v).length = 32 := by simp [hk.2.1]
  unfold hdC
  simp only [List.drop_succ_cons, show 35 = 32 + 1 + 1 + 1 from rfl]
  rw [List.drop_left' hi, show 32 + 1 + 1 + 1 + 32 - (32 + 1 + 1 + 1) = 32 from rfl, List.take_left' hl]
theorem hd_xs {h : Hd} (hk : h.Ok) : (hdC h).toArray.extract 67 (67 + 2) = #[.int .u64 (h.r : Int), .int .u64 (h.s : Int)] := by
  rw [List.extract_toArray, List.extract_eq_take_drop]
  have hi : (h.root.map u8v ++ h.log.map u8v).length = 64 := by simp [hk.1, hk.2.1]
  unfold hdC
  simp only [List.drop_succ_cons, show 67 = 64 + 1 + 1 + 1 from rfl]
  rw [← List.append_assoc, List.drop_left' hi]
  rfl
/-- Are two heads the same? -/
def hdEq (p q : Hd) : Bool := (p.e == q.e) && ((p.t == q.t) && ((p.c == q.c) && ((p.root == q.root) && ((p.log == q.log) && ((((p.r : Int) == (q.r : Int)) && (((p.s : Int) == (q.s : Int)) && true)) && true)))))
theorem hdEq_is (p q : Hd) : hdEq p q = decide (p = q) := by
  cases p
  cases q
  unfold hdEq
  rw [Bool.eq_iff_iff]
  simp only [Bool.and_eq_true, beq_iff_eq, decide_eq_true_eq, Hd.mk.injEq, and_true, Int.natCast_inj]
end Go.Pm
namespace Go.Proofs.Ytibkijloibnkfaa
open Go.RowKit Go.Pm
namespace Hp
theorem uHead : Try.prog.underlying 28 = some (.struct (Try.prog.fieldsOf 28)) := by kernel_rfl
theorem uSig : Try.prog.underlying 26 = some (.struct (Try.prog.fieldsOf 26)) := by kernel_rfl
theorem fHead : (Try.prog.fieldsOf 28).toList.map (fun f => (f.name == "_", f.type, f.offset)) = [(false, 3, 0), (false, 2, 1), (false, 3, 2), (false, 23, 3), (false, 23, 35), (false, 26, 67)] := by kernel_rfl
theorem fSig : (Try.prog.fieldsOf 26).toList.map (fun f => (f.name == "_", f.type, f.offset)) = [(false, 24, 0), (false, 24, 1)] := by kernel_rfl
theorem hHead : Try.prog.stoodInHeld 28 = false := by kernel_rfl
theorem hSig : Try.prog.stoodInHeld 26 = false := by kernel_rfl
theorem gInt : ∀ w, (isAgg 3).run Try.prog w = .ok false w := fun _ => by kernel_rfl
theorem gInt64 : ∀ w, (isAgg 2).run Try.prog w = .ok false w := fun _ => by kernel_rfl
theorem gU64 : ∀ w, (isAgg 24).run Try.prog w = .ok false w := fun _ => by kernel_rfl
theorem gHash : ∀ w, (isAgg 23).run Try.prog w = .ok true w := fun _ => by kernel_rfl
theorem gSig : ∀ w, (isAgg 26).run Try.prog w = .ok true w := fun _ => by kernel_rfl
theorem sHash : ∀ w, (sizeOf 23).run Try.prog w = .ok 32 w := fun _ => by kernel_rfl
theorem sSig : ∀ w, (sizeOf 26).run Try.prog w = .ok 2 w := fun _ => by kernel_rfl
theorem nInt : Try.prog.underlying 3 = some (.int .i64) := by kernel_rfl
theorem nInt64 : Try.prog.underlying 2 = some (.int .i64) := by kernel_rfl
theorem nU64 : Try.prog.underlying 24 = some (.int .u64) := by kernel_rfl
theorem equalIn_head (p q : Hd) (hp : p.Ok) (hq : q.Ok) (w : World) : (Op.equalIn 10000 28 (.agg (hdC p).toArray) (.agg (hdC q).toArray)).run Try.prog w = .ok (hdEq p q) w := by
  rw [run_equalIn_struct w 9999 28 _ _ uHead hHead]
  refine eqF_step fHead (part_one gInt (hd_x0 p)) (part_one gInt (hd_x0 q)) (run_equalIn_int w 9998 _ _ _ _ _ nInt) fun gs h1 => ?_
  refine eqF_step h1 (part_one gInt64 (hd_x1 p)) (part_one gInt64 (hd_x1 q)) (run_equalIn_int w 9998 _ _ _ _ _ nInt64) fun gs h2 => ?_
  refine eqF_step h2 (part_one gInt (hd_x2 p)) (part_one gInt (hd_x2 q)) (run_equalIn_int w 9998 _ _ _ _ _ nInt) fun gs h3 => ?_
  refine eqF_step h3 (part_agg gHash sHash) (part_agg gHash sHash) (by rw [hd_xr hp, hd_xr hq]; exact run_equalIn_bytes (P := Try.prog) w 9997 23 5 32 Hk.uHash Hk.uByte Hk.zByte p.root q.root hp.1 hq.1) fun gs h4 => ?_
  refine eqF_step h4 (part_agg gHash sHash) (part_agg gHash sHash) (by rw [hd_xl hp, hd_xl hq]; exact run_equalIn_bytes (P := Try.prog) w 9997 23 5 32 Hk.uHash Hk.uByte Hk.zByte p.log q.log hp.2.1 hq.2.1) fun gs h5 => ?_
  refine eqF_step h5 (part_agg gSig sSig) (part_agg gSig sSig) ?_ fun gs h6 => eqF_nil h6
  rw [hd_xs hp, hd_xs hq, run_equalIn_struct w 9998 26 _ _ uSig hSig]
  refine eqF_step fSig (part_one gU64 rfl) (part_one gU64 rfl) (run_equalIn_int w 9997 _ _ _ _ _ nU64) fun gs h1 => ?_
  exact eqF_step h1 (part_one gU64 rfl) (part_one gU64 rfl) (run_equalIn_int w 9997 _ _ _ _ _ nU64) fun gs h2 => eqF_nil h2
theorem eqHead (p q : Hd) (hp : p.Ok) (hq : q.Ok) (w : World) : (binOp .eql 28 (.agg (hdC p).toArray) (.agg (hdC q).toArray)).run Try.prog w = .ok (.bool (decide (p = q))) w := by
  rw [run_eql_struct, equalIn_head p q hp hq, hdEq_is]; rfl
theorem neqHead (p q : Hd) (hp : p.Ok) (hq : q.Ok) (w : World) : (binOp .neq 28 (.agg (hdC p).toArray) (.agg (hdC q).toArray)).run Try.prog w = .ok (.bool (!(decide (p = q)))) w := by
  rw [run_neq_struct, equalIn_head p q hp hq, hdEq_is]; rfl
end Hp
end Go.Proofs.Ytibkijloibnkfaa
