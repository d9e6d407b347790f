/- Rows of two hashes; the leaves of numbers. -/
import Derived.Test.YtkogkcaflhjlhaaHo8
namespace Go.Pm
open Go Go.RowKit
theorem fill_two_row (z A B : Array Value) (hz : z.size = 64) (hA : A.size = 32) (hB : B.size = 32) : Instr.fill (fun i => some (i * 32, 32)) z [(0, .agg A), (1, .agg B)] = some (A ++ B) := by
  have h := fill_two z A B hz hA hB
  have ha := fold_put 0 A.toList 0 z (by simp; omega)
  have hb := fold_put 32 B.toList 0 (A ++ (z.toList.drop 32).toArray) (by simp; omega)
  have e1 : A.zipIdx.foldl (fun cs (c, j) => cs.setIfInBounds (0 + j) c) z = A ++ (z.toList.drop 32).toArray := by
    rw [← Array.foldl_toList, Array.toList_zipIdx]
    refine ha.trans ?_
    apply Array.ext'
    simp [hA]
  have e2 : B.zipIdx.foldl (fun cs (c, j) => cs.setIfInBounds (32 + j) c) (A ++ (z.toList.drop 32).toArray) = A ++ B := by
    rw [← Array.foldl_toList, Array.toList_zipIdx]
    refine hb.trans ?_
    apply Array.ext'
    have h1 : (A.toList ++ z.toList.drop 32).take 32 = A.toList := List.take_left' (by simpa using hA)
    have h2 : (A.toList ++ z.toList.drop 32).drop 64 = [] := List.drop_eq_nil_of_le (by simp; omega)
    simp [hB, h1, h2]
  rw [fill_cons (v := .agg A) (off := 0) (size := 32) (by simp) (show (Value.agg A).cells.size = 32 from hA) (by show 0 + A.size ≤ z.size; omega)]
  rw [show (Value.agg A).cells = A from rfl, e1]
  rw [fill_cons (v := .agg B) (off := 32) (size := 32) (by simp) (show (Value.agg B).cells.size = 32 from hB) (by show 32 + B.size ≤ _; simp; omega)]
  rw [show (Value.agg B).cells = B from rfl, e2]
  rfl
/-- A new row of two hashes, for the walk. -/
theorem wpList_two_hash {P : Program} {ops : Array Oper} {rest : List Oper} {o : Oper} {a : Act} {w : World} {Q : Exit → Act → World → Prop} (hg : o.guard = none) (t : TypeId) (x y : Operand) (ho : o.op = .buildSlice t 2 #[(0, x), (1, y)])
    {e : TypeId} {z : Value} {bytes : Nat} (hT : RowTyK P t e z 32 bytes) {A B : Array Value} (hx : a.eval x = .agg A) (hy : a.eval y = .agg B) (hA : A.size = 32) (hB : B.size = 32)
    (h : wpList P ops Q rest (a.put o.dst (.slice (some ⟨w.heap.size, 0, none⟩) 2 2)) (w.alloc (.cells (A ++ B) e))) : wpList P ops Q (o :: rest) a w := by
  obtain ⟨i, hi, hz, hs, hb⟩ := hT.info
  have hp := hT.pos
  refine wpList_buildSlice hg t e 2 #[(0, x), (1, y)] ho (A ++ B) i z hT.sl hi hz (by omega) (by omega) ?_ h
  rw [hs, show ((#[(0, x), (1, y)] : Array (Nat × Operand)).map fun (i, x) => (i, a.eval x)).toList = [(0, .agg A), (1, .agg B)] by simp [hx, hy]]
  exact fill_two_row _ A B (by simp) hA hB
theorem Hs.two {w : World} {g : Nat} {p q : List UInt8} {e : TypeId} (hb : Blk w g ((p.map u8v).toArray ++ (q.map u8v).toArray) e) (hp : p.length = 32) (hq : q.length = 32) : Hs w g (g + 1) (.slice (some ⟨g, 0, none⟩) 2 2) [p, q] := by
  have h2 : H32 [p, q] := H32.cons hp (H32.one hq)
  refine ⟨h2, hsC_each h2, ?_⟩
  exact Fs.ofBlk hb (by simp [hsC, hp, hq]) (Nat.le_refl _) (by decide) (fun i x hx => by simpa [hsC] using hx)
/-- A row of bytes. -/
theorem Bs.two (w : World) (t : TypeId) (b : UInt8) (x : Int) (h0 : 0 ≤ x) (h1 : x < 256) : Bs (w.alloc (.cells #[.int .u8 (b.toNat : Int), .int .u8 x] t)) w.heap.size (w.heap.size + 1) (.slice (some ⟨w.heap.size, 0, none⟩) 2 2) [b, byteOf x] := by
  have h := Vs.new w #[.int .u8 (b.toNat : Int), .int .u8 x] t 2 (by simp) (by decide)
  unfold Bs
  rw [List.map_cons, List.map_cons, List.map_nil, u8v_byteOf' h0 h1]
  exact h
theorem Bs.byte8 (w : World) (t : TypeId) (x : Int) (h0 : 0 ≤ x) (h1 : x < 256) : Bs (w.alloc (.cells #[.int .u8 x] t)) w.heap.size (w.heap.size + 1) (.slice (some ⟨w.heap.size, 0, none⟩) 1 1) [byteOf x] := by
  have h := Vs.new w #[.int .u8 x] t 1 (by simp) (by decide)
  unfold Bs
  rw [List.map_cons, List.map_nil, u8v_byteOf' h0 h1]
  exact h
/-- The leaves of numbers. -/
def leafAt (l : List UInt8) (i : Nat) : List UInt8 := leafL [l.getD i 0, byteOf (i : Int)]
def leavesK (l : List UInt8) (k : Nat) : List (List UInt8) := (List.range k).map (leafAt l)
def leavesL (l : List UInt8) : List (List UInt8) := leavesK l l.length
theorem leavesK_succ (l : List UInt8) (k : Nat) : leavesK l (k + 1) = leavesK l k ++ [leafAt l k] := by
  unfold leavesK
  rw [List.range_succ, List.map_append]
  rfl
theorem leavesK_len (l : List UInt8) (k : Nat) : (leavesK l k).length = k := by simp [leavesK]
theorem leavesL_len (l : List UInt8) : (leavesL l).length = l.length := leavesK_len _ _
theorem leavesK_h32 (l : List UInt8) (k : Nat) : H32 (leavesK l k) := fun h hh => by
  obtain ⟨i, _, rfl⟩ := List.mem_map.1 hh
  exact leafL_len _
end Go.Pm
