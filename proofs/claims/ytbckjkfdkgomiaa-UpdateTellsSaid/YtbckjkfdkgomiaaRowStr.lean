/- Arguments that are strings, uint16s, requests, opened; laws of up to ten arguments. Program-independent. -/
import Derived.Test.YtbckjkfdkgomiaaRowNum
namespace Go.Pm
open Go Go.RowKit Go.ChangeShapes Go.WideShapes Go.ChangeAt

section
variable {H : Type} {enc : TypeId × Value → H} {P : Program}
theorem openStr {W : World} {t : TypeId} {v : Value} {d : DataW H} {p : List MemPlace} {base : Nat} (ht : P.underlying t = some .string) (hok : Value.okWide P W .any base t v) (h : DataW.Trod enc P W 0 (fun _ => true) true t v d p) :
    ∃ s : ByteArray, v = .string s ∧ s.size ≤ 9223372036854775807 := by
  obtain ⟨s, rfl⟩ := okWide_string ht hok
  obtain ⟨fuel, hf⟩ := h
  obtain ⟨s', h, hx, hs⟩ := DataW.trod_string ht hf
  simp [Value.cells] at h
  subst h
  unfold maxLen at hs
  exact ⟨s, rfl, by omega⟩
theorem openNat_u16 {W : World} {t : TypeId} {v : Value} {d : DataW H} {p : List MemPlace} {base : Nat} (ht : P.underlying t = some (.int .u16)) (hok : Value.okWide P W .any base t v) (h : DataW.Trod enc P W 0 (fun _ => true) true t v d p) :
    ∃ n : Nat, v = .int .u16 (n : Int) ∧ n < 65536 := by
  obtain ⟨n, rfl, _, _, w0⟩ := open_int ht hok h
  simp [Lit.wf, IntKind.min, IntKind.max, IntKind.signed, IntKind.bits] at w0
  exact ⟨n.toNat, by rw [Int.toNat_of_nonneg (by omega)], by omega⟩

/-- A request (a struct of a string, an int, a number, an int, a struct of two numbers). -/
theorem openUpd {W : World} {t : TypeId} {f0 f1 f2 f3 f4 g0 g1 : Field} {v : Value} {d : DataW H} {p : List MemPlace} {base : Nat} (ht : P.underlying t = some (.struct #[f0, f1, f2, f3, f4])) (hC : P.cellsOf t = 6)
    (o0 : f0.offset = 0) (o1 : f1.offset = 1) (o2 : f2.offset = 2) (o3 : f3.offset = 3) (o4 : f4.offset = 4) (hu0 : P.underlying f0.type = some .string) (hu1 : P.underlying f1.type = some (.int .i64)) (hu2 : P.underlying f2.type = some (.int .u64)) (hu3 : P.underlying f3.type = some (.int .i64))
    (hu4 : P.underlying f4.type = some (.struct #[g0, g1])) (q0 : g0.offset = 0) (q1 : g1.offset = 1) (hg0 : P.underlying g0.type = some (.int .u64)) (hg1 : P.underlying g1.type = some (.int .u64))
    (hc0 : P.cellsOf f0.type = 1) (hc1 : P.cellsOf f1.type = 1) (hc2 : P.cellsOf f2.type = 1) (hc3 : P.cellsOf f3.type = 1) (hc4 : P.cellsOf f4.type = 2) (hd0 : P.cellsOf g0.type = 1) (hd1 : P.cellsOf g1.type = 1)
    (hok : Value.okWide P W .any base t v) (h : DataW.Trod enc P W 0 (fun _ => true) true t v d p) :
    ∃ (n : ByteArray) (a c : Int) (k r s : Nat), v = .agg #[.string n, .int .i64 a, .int .u64 (k : Int), .int .i64 c, .int .u64 (r : Int), .int .u64 (s : Int)] ∧ k < 18446744073709551616 ∧ r < 18446744073709551616 ∧ s < 18446744073709551616 := by
  simp only [Value.okWide, ht] at hok
  obtain ⟨cs, rfl, h2, _⟩ := hok
  rw [hC] at h2
  obtain ⟨fuel, hf⟩ := h
  obtain ⟨xs, n', _, _, _, hlen, hx⟩ := DataW.trod_struct ht hf
  obtain ⟨l⟩ := cs
  match l, h2 with
  | [c0, c1, c2, c3, c4, c5], _ =>
    match xs, hlen with
    | [y0, y1, y2, y3, y4], _ =>
      have e0 := hx 0 f0 rfl
      have e1 := hx 1 f1 rfl
      have e2 := hx 2 f2 rfl
      have e3 := hx 3 f3 rfl
      have e4 := hx 4 f4 rfl
      rw [o0, hc0] at e0
      rw [o1, hc1] at e1
      rw [o2, hc2] at e2
      rw [o3, hc3] at e3
      rw [o4, hc4] at e4
      obtain ⟨s0, r0, _, _⟩ := DataW.trod_string hu0 e0
      obtain ⟨k1, r1, _, _⟩ := DataW.trod_int hu1 e1
      obtain ⟨k2, r2, _, w2⟩ := DataW.trod_int hu2 e2
      obtain ⟨k3, r3, _, _⟩ := DataW.trod_int hu3 e3
      obtain ⟨z0, z1, n4, _, _, m0, m1⟩ := trod_struct2 hu4 e4
      rw [q0, hd0] at m0
      rw [q1, hd1] at m1
      obtain ⟨k4, r4, _, w4⟩ := DataW.trod_int hg0 m0
      obtain ⟨k5, r5, _, w5⟩ := DataW.trod_int hg1 m1
      simp [Value.cells] at r0 r1 r2 r3 r4 r5
      simp [Lit.wf, IntKind.min, IntKind.max, IntKind.signed, IntKind.bits] at w2 w4 w5
      subst r0 r1 r2 r3 r4 r5
      exact ⟨s0, k1, k3, k2.toNat, k4.toNat, k5.toNat, by rw [Int.toNat_of_nonneg (by omega), Int.toNat_of_nonneg (by omega), Int.toNat_of_nonneg (by omega)], by omega, by omega, by omega⟩

theorem trodAll_seven {w : World} {base : Nat} {spare : Nat → Bool} {held : Bool} {t0 t1 t2 t3 t4 t5 t6 : TypeId} {args : Array Value} {ds : List (DataW H)} {ps : List MemPlace} (h : DataW.TrodAll enc P w base spare held [t0, t1, t2, t3, t4, t5, t6] args.toList ds ps) :
    ∃ v0 v1 v2 v3 v4 v5 v6 d0 d1 d2 d3 d4 d5 d6 p0 p1 p2 p3 p4 p5 p6, args = #[v0, v1, v2, v3, v4, v5, v6] ∧ ds = [d0, d1, d2, d3, d4, d5, d6] ∧ ps = p0 ++ (p1 ++ (p2 ++ (p3 ++ (p4 ++ (p5 ++ p6))))) ∧ DataW.Trod enc P w base spare held t0 v0 d0 p0 ∧ DataW.Trod enc P w base spare held t1 v1 d1 p1 ∧
      DataW.Trod enc P w base spare held t2 v2 d2 p2 ∧ DataW.Trod enc P w base spare held t3 v3 d3 p3 ∧ DataW.Trod enc P w base spare held t4 v4 d4 p4 ∧ DataW.Trod enc P w base spare held t5 v5 d5 p5 ∧ DataW.Trod enc P w base spare held t6 v6 d6 p6 := by
  obtain ⟨v0, l0, d0, e0, p0, q0, ha, rfl, rfl, h0, h⟩ := trodAll_cons h
  obtain ⟨v1, v2, v3, v4, v5, v6, d1, d2, d3, d4, d5, d6, p1, p2, p3, p4, p5, p6, hb, rfl, rfl, h1, h2, h3, h4, h5, h6⟩ := trodAll_six (args := l0.toArray) (by simpa using h)
  refine ⟨v0, v1, v2, v3, v4, v5, v6, d0, d1, d2, d3, d4, d5, d6, p0, p1, p2, p3, p4, p5, p6, ?_, rfl, by simp, h0, h1, h2, h3, h4, h5, h6⟩
  apply Array.ext'
  rw [ha]
  have := congrArg Array.toList hb
  simpa using this
theorem trodAll_ten {w : World} {base : Nat} {spare : Nat → Bool} {held : Bool} {t0 t1 t2 t3 t4 t5 t6 t7 t8 t9 : TypeId} {args : Array Value} {ds : List (DataW H)} {ps : List MemPlace} (h : DataW.TrodAll enc P w base spare held [t0, t1, t2, t3, t4, t5, t6, t7, t8, t9] args.toList ds ps) :
    ∃ v0 v1 v2 v3 v4 v5 v6 v7 v8 v9 d0 d1 d2 d3 d4 d5 d6 d7 d8 d9 p0 p1 p2 p3 p4 p5 p6 p7 p8 p9, args = #[v0, v1, v2, v3, v4, v5, v6, v7, v8, v9] ∧ ds = [d0, d1, d2, d3, d4, d5, d6, d7, d8, d9] ∧ ps = p0 ++ (p1 ++ (p2 ++ (p3 ++ (p4 ++ (p5 ++ (p6 ++ (p7 ++ (p8 ++ p9)))))))) ∧
      DataW.Trod enc P w base spare held t0 v0 d0 p0 ∧ DataW.Trod enc P w base spare held t1 v1 d1 p1 ∧ DataW.Trod enc P w base spare held t2 v2 d2 p2 ∧ DataW.Trod enc P w base spare held t3 v3 d3 p3 ∧ DataW.Trod enc P w base spare held t4 v4 d4 p4 ∧
      DataW.Trod enc P w base spare held t5 v5 d5 p5 ∧ DataW.Trod enc P w base spare held t6 v6 d6 p6 ∧ DataW.Trod enc P w base spare held t7 v7 d7 p7 ∧ DataW.Trod enc P w base spare held t8 v8 d8 p8 ∧ DataW.Trod enc P w base spare held t9 v9 d9 p9 := by
  obtain ⟨v0, l0, d0, e0, p0, q0, ha, rfl, rfl, h0, h⟩ := trodAll_cons h
  obtain ⟨v1, l1, d1, e1, p1, q1, rfl, rfl, rfl, h1, h⟩ := trodAll_cons h
  obtain ⟨v2, l2, d2, e2, p2, q2, rfl, rfl, rfl, h2, h⟩ := trodAll_cons h
  obtain ⟨v3, v4, v5, v6, v7, v8, v9, d3, d4, d5, d6, d7, d8, d9, p3, p4, p5, p6, p7, p8, p9, hb, rfl, rfl, h3, h4, h5, h6, h7, h8, h9⟩ := trodAll_seven (args := l2.toArray) (by simpa using h)
  refine ⟨v0, v1, v2, v3, v4, v5, v6, v7, v8, v9, d0, d1, d2, d3, d4, d5, d6, d7, d8, d9, p0, p1, p2, p3, p4, p5, p6, p7, p8, p9, ?_, rfl, by simp, h0, h1, h2, h3, h4, h5, h6, h7, h8, h9⟩
  apply Array.ext'
  rw [ha]
  have := congrArg Array.toList hb
  simp at this
  simp [this]
end
end Go.Pm
