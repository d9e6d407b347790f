/- Arguments that are heads, opened. -/
import Derived.Test.YtibkijloibnkfaaRow6
import Derived.Test.YtibkijloibnkfaaHead10
namespace Go.Pm
open Go Go.RowKit Go.ChangeShapes Go.WideShapes Go.ChangeAt
section
variable {H : Type} {enc : TypeId × Value → H} {P : Program}
/-- An api.Head argument. -/
theorem openHead {W : World} {t h b sg : TypeId} {f0 f1 f2 f3 f4 f5 g0 g1 : Field} {v : Value} {d : DataW H} {p : List MemPlace} {base : Nat} (ht : P.underlying t = some (.struct #[f0, f1, f2, f3, f4, f5])) (hC : P.cellsOf t = 69)
    (o0 : f0.offset = 0) (o1 : f1.offset = 1) (o2 : f2.offset = 2) (o3 : (f3.offset, f3.type) = (3, h)) (o4 : (f4.offset, f4.type) = (35, h)) (o5 : (f5.offset, f5.type) = (67, sg))
    (hu0 : P.underlying f0.type = some (.int .i64)) (c0 : P.cellsOf f0.type = 1) (hu1 : P.underlying f1.type = some (.int .i64)) (c1 : P.cellsOf f1.type = 1) (hu2 : P.underlying f2.type = some (.int .i64)) (c2 : P.cellsOf f2.type = 1)
    (hh : P.underlying h = some (.array 32 b)) (hb : P.underlying b = some (.int .u8)) (cb : P.cellsOf b = 1) (ch : P.cellsOf h = 32)
    (hsg : P.underlying sg = some (.struct #[g0, g1])) (csg : P.cellsOf sg = 2) (q0 : g0.offset = 0) (q1 : g1.offset = 1) (hg0 : P.underlying g0.type = some (.int .u64)) (hg1 : P.underlying g1.type = some (.int .u64)) (d0 : P.cellsOf g0.type = 1) (d1 : P.cellsOf g1.type = 1)
    (hok : Value.okWide P W .any base t v) (hT : DataW.Trod enc P W 0 (fun _ => true) true t v d p) : ∃ m : Hd, v = hdV m ∧ m.Ok := by
  simp only [Value.okWide, ht] at hok
  obtain ⟨cs, rfl, h2, _⟩ := hok
  rw [hC] at h2
  obtain ⟨fuel, hf⟩ := hT
  obtain ⟨xs, n', _, _, _, hlen, hx⟩ := DataW.trod_struct ht hf
  obtain ⟨l⟩ := cs
  simp only [Prod.mk.injEq] at o3 o4 o5
  obtain ⟨u0, u1, u2, rest, rfl, hr⟩ : ∃ u0 u1 u2 rest, l = u0 :: u1 :: u2 :: rest ∧ rest.length = 66 := by
    match l, h2 with
    | u0 :: u1 :: u2 :: rest, h2 => exact ⟨u0, u1, u2, rest, rfl, by simpa using h2⟩
  obtain ⟨a5, a6, hab⟩ : ∃ a c, rest.drop 64 = [a, c] := by
    have hl : (rest.drop 64).length = 2 := by simp [hr]
    match rest.drop 64, hl with
    | [a, c], _ => exact ⟨a, c, rfl⟩
  match xs, hlen with
  | [y0, y1, y2, y3, y4, y5], _ =>
    have e0 := hx 0 f0 rfl
    have e1 := hx 1 f1 rfl
    have e2 := hx 2 f2 rfl
    have e3 := hx 3 f3 rfl
    have e4 := hx 4 f4 rfl
    have e5 := hx 5 f5 rfl
    rw [o0, c0] at e0
    rw [o1, c1] at e1
    rw [o2, c2] at e2
    rw [o3.1, o3.2, ch] at e3
    rw [o4.1, o4.2, ch] at e4
    rw [o5.1, o5.2, csg] at e5
    obtain ⟨k0, r0, _, _⟩ := DataW.trod_int hu0 e0
    obtain ⟨k1, r1, _, _⟩ := DataW.trod_int hu1 e1
    obtain ⟨k2, r2, _, _⟩ := DataW.trod_int hu2 e2
    have t3 : ((Value.agg (u0 :: u1 :: u2 :: rest).toArray).cells.toList.drop 3).take 32 = rest.take 32 := rfl
    have t4 : ((Value.agg (u0 :: u1 :: u2 :: rest).toArray).cells.toList.drop 35).take 32 = (rest.drop 32).take 32 := rfl
    have t5 : ((Value.agg (u0 :: u1 :: u2 :: rest).toArray).cells.toList.drop 67).take 2 = [a5, a6] := by
      show (rest.drop 64).take 2 = [a5, a6]
      rw [hab]
      rfl
    rw [t3] at e3
    rw [t4] at e4
    rw [t5] at e5
    obtain ⟨l0, w0, s0⟩ := hashCells hh hb cb (by simp [hr]) e3
    obtain ⟨l1, w1, s1⟩ := hashCells hh hb cb (by simp [hr]) e4
    obtain ⟨z0, z1, n4, _, _, m0, m1⟩ := trod_struct2 hsg e5
    rw [q0, d0] at m0
    rw [q1, d1] at m1
    obtain ⟨k5, r5, _, w5⟩ := DataW.trod_int hg0 m0
    obtain ⟨k6, r6, _, w6⟩ := DataW.trod_int hg1 m1
    simp [Value.cells] at r0 r1 r2 r5 r6
    simp [Lit.wf, IntKind.min, IntKind.max, IntKind.signed, IntKind.bits] at w5 w6
    have hrest : rest = l0.map u8v ++ (l1.map u8v ++ [.int .u64 k5, .int .u64 k6]) := by
      rw [← w0, ← w1, ← r5, ← r6, ← hab, show rest.drop 64 = (rest.drop 32).drop 32 by rw [List.drop_drop], List.take_append_drop, List.take_append_drop]
    refine ⟨⟨k0, k1, k2, l0, l1, k5.toNat, k6.toNat⟩, ?_, s0, s1, by show k5.toNat < _; omega, by show k6.toNat < _; omega⟩
    unfold hdV hdC
    rw [r0, r1, r2, hrest]
    show _ = Value.agg (_ :: _ :: _ :: (_ ++ (_ ++ [.int .u64 ((k5.toNat : Nat) : Int), .int .u64 ((k6.toNat : Nat) : Int)]))).toArray
    rw [Int.toNat_of_nonneg (by omega), Int.toNat_of_nonneg (by omega)]
end
end Go.Pm
