/- Arrays held against one another. Program-independent. -/
import Derived.Test.YtffmblafpkdhlaaArr
import Derived.Test.YtffmblafpkdhlaaSpec2
import Derived.Stop.BytesEq
namespace Go.Pm
open Go Go.RowKit

theorem cell_u8v : Extern.Stop.cell = u8v := rfl
section
variable {P : Program} {t e : TypeId} (he : P.underlying e = some (.int .u8)) (hsz : ∀ w, (sizeOf e).run P w = .ok 1 w)
include he hsz
/-- Two arrays of bytes. -/
theorem run_eql_hash {n : Nat} (ht : P.underlying t = some (.array n e)) (xs ys : List UInt8) (hx : xs.length = n) (hy : ys.length = n) (w : World) : (binOp .eql t (.agg (xs.map u8v).toArray) (.agg (ys.map u8v).toArray)).run P w = .ok (.bool (xs == ys)) w :=
  run_eql_bytes w t e n ht he hsz xs ys hx hy
theorem run_neq_hash {n : Nat} (ht : P.underlying t = some (.array n e)) (xs ys : List UInt8) (hx : xs.length = n) (hy : ys.length = n) (w : World) : (binOp .neq t (.agg (xs.map u8v).toArray) (.agg (ys.map u8v).toArray)).run P w = .ok (.bool (!(xs == ys))) w := by
  rw [run_neq_struct]
  have := run_equalIn_bytes (P := P) w 9998 t e n ht he hsz xs ys hx hy
  rw [cell_u8v] at this
  rw [this]
  rfl
end

theorem all_range_int : ∀ (xs ys : List Int), xs.length = ys.length → ((List.range xs.length).all fun i => xs.getD i 0 == ys.getD i 0) = (xs == ys)
  | [], [], _ => rfl
  | x :: xs, y :: ys, h => by
    have ih := all_range_int xs ys (by simpa using h)
    rw [List.length_cons, List.range_succ_eq_map, List.all_cons, List.all_map]
    simp only [List.getD_cons_zero, Function.comp_def, List.getD_cons_succ, ih]
    simp [List.cons_beq_cons]
  | [], _ :: _, h => by simp at h
  | _ :: _, [], h => by simp at h
theorem run_equalIn_ints {P : Program} (w : World) (d : Nat) (t e : TypeId) (kd : IntKind) (n : Nat) (ht : P.underlying t = some (.array n e)) (he : P.underlying e = some (.int kd)) (hsz : ∀ w, (sizeOf e).run P w = .ok 1 w)
    (xs ys : List Int) (hx : xs.length = n) (hy : ys.length = n) :
    (Op.equalIn (d + 2) t (.agg (xs.map (Value.int kd)).toArray) (.agg (ys.map (Value.int kd)).toArray)).run P w = .ok (xs == ys) w := by
  rw [← all_range_int xs ys (hx.trans hy.symm), hx, List.range_eq_range', Op.equalIn]
  simp only [Sem.run_bind, run_underlying ht, Result.andThen_ok, hsz, Std.Legacy.Range.forIn_eq_forIn_range', Std.Legacy.Range.size, Nat.sub_zero, Nat.add_sub_cancel, Nat.div_one]
  have hl : ∀ i ∈ List.range' 0 n 1, i < n := fun i hi => by simpa using (List.mem_range'_1.1 hi).2
  generalize List.range' 0 n 1 = l at hl ⊢
  induction l with
  | nil => simp
  | cons i l ih =>
    have hi : i < n := hl i (by simp)
    have px : (part e (xs.map (Value.int kd)).toArray (i * 1)).run P w = .ok (.int kd (xs.getD i 0)) w := by
      simp [part, isAgg, run_underlying he, List.getD, List.getElem?_eq_getElem (show i < xs.length by omega)]
    have py : (part e (ys.map (Value.int kd)).toArray (i * 1)).run P w = .ok (.int kd (ys.getD i 0)) w := by
      simp [part, isAgg, run_underlying he, List.getD, List.getElem?_eq_getElem (show i < ys.length by omega)]
    have pe := run_equalIn_int (P := P) w d e kd kd (xs.getD i 0) (ys.getD i 0) he
    simp only [List.forIn_cons, Sem.run_bind, px, py, pe, Result.andThen_ok, List.all_cons]
    cases hb : (xs.getD i 0 == ys.getD i 0)
    · simp
    · simp only [Bool.not_true, Bool.false_eq_true, if_false, Sem.run_pure, Result.andThen_ok, Bool.true_and]
      exact ih fun j hj => hl j (by simp [hj])

/-- A state's words. -/
def wordsOf (s : S5) : List Int := [U s.a, U s.b, U s.c, U s.d, U s.e]
theorem wordsOf_beq (s t : S5) : (wordsOf s == wordsOf t) = decide (s = t) := by
  rw [Bool.eq_iff_iff]
  obtain ⟨a, b, c, d, e⟩ := s
  obtain ⟨a', b', c', d', e'⟩ := t
  simp [wordsOf, U_eq]
section
variable {P : Program} {t e : TypeId} (he : P.underlying e = some (.int .u64)) (hsz : ∀ w, (sizeOf e).run P w = .ok 1 w) (ht : P.underlying t = some (.array 5 e))
include he hsz ht
/-- Two states. -/
theorem run_eql_state (s s' : S5) (w : World) : (binOp .eql t (.agg #[.int .u64 (U s.a), .int .u64 (U s.b), .int .u64 (U s.c), .int .u64 (U s.d), .int .u64 (U s.e)]) (.agg #[.int .u64 (U s'.a), .int .u64 (U s'.b), .int .u64 (U s'.c), .int .u64 (U s'.d), .int .u64 (U s'.e)])).run P w = .ok (.bool (decide (s = s'))) w := by
  rw [run_eql_struct, ← wordsOf_beq]
  have := run_equalIn_ints (P := P) w 9998 t e .u64 5 ht he hsz (wordsOf s) (wordsOf s') rfl rfl
  simp only [wordsOf, List.map_cons, List.map_nil] at this
  rw [this]
  rfl
theorem run_neq_state (s s' : S5) (w : World) : (binOp .neq t (.agg #[.int .u64 (U s.a), .int .u64 (U s.b), .int .u64 (U s.c), .int .u64 (U s.d), .int .u64 (U s.e)]) (.agg #[.int .u64 (U s'.a), .int .u64 (U s'.b), .int .u64 (U s'.c), .int .u64 (U s'.d), .int .u64 (U s'.e)])).run P w = .ok (.bool (!decide (s = s'))) w := by
  rw [run_neq_struct, ← wordsOf_beq]
  have := run_equalIn_ints (P := P) w 9998 t e .u64 5 ht he hsz (wordsOf s) (wordsOf s') rfl rfl
  simp only [wordsOf, List.map_cons, List.map_nil] at this
  rw [this]
  rfl
end
end Go.Pm
