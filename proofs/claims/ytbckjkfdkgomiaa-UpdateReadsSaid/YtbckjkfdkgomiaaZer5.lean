/- 'append(s, make([]byte, k)...)' of bytes that the call owns, and a store to one of them. Program-independent. -/
import Derived.Test.YtbckjkfdkgomiaaStr5
import Derived.Lib.AppendZerosOnto
namespace Go.Pm
open Go Go.RowKit

/-- So many zerosB. -/
def zerosB (k : Nat) : List UInt8 := List.replicate k 0
theorem zero_cells (k : Nat) : (Builtin.zeroCells (Value.cells (.int .u8 0)) k) = ((zerosB k).map u8v).toArray := by
  have h1 : (Value.cells (.int .u8 0)) = #[.int .u8 0] := rfl
  rw [h1]
  apply Array.ext (by simp [Builtin.zeroCells, zerosB])
  intro j h1 h2
  simp [Builtin.zeroCells, zerosB, u8v, Nat.mod_one]
theorem run_append_room_zeros {P : Program} {w : World} {t tn ty e : TypeId} {i : TypeInfo} {kq kn : IntKind} (ht : P.underlying t = some (.slice e)) (htn : P.underlying tn = some (.int kn)) (hi : P.info? e = some i) (hz : i.zero = some (.int .u8 0)) (hs : i.size = 1) (hb : i.bytes = 1)
    (g sLen sCap : Nat) (cur : Array Value) (hg : w.heap[g]? = some (.cells cur e (0, 0))) (k : Nat) (h0 : 0 < k) (h63 : sLen + k ≤ 140737488355328) (hroom : sLen + k ≤ sCap) (hfit : sLen + k ≤ cur.size) :
    (Builtin.append_ #[t, tn] ty #[.slice (some ⟨g, 0, none⟩) sLen sCap, .int kq k]).run P w =
      .ok (.slice (some ⟨g, 0, none⟩) (sLen + k) sCap) (w.setRow g (cur.toList.take sLen ++ (zerosB k).map u8v ++ cur.toList.drop (sLen + k)).toArray) := by
  have hst := run_storeCells_at P g sLen e ((zerosB k).map u8v) 0 cur w hg (by simpa [zerosB] using hfit) (u8v_one _)
  simp only [Nat.add_zero] at hst
  have hk : k ≠ 0 := by omega
  have hw : IntKind.i64.wrap (k : Int) = k := by rw [IntKind.wrap_i64]; omega
  have h48i : ¬ (281474976710656 < (k : Int)) := by omega
  have hneg : ¬ ((k : Int) < 0) := by omega
  have hl : (zerosB k).length = k := by simp [zerosB]
  simp [Builtin.append_, run_underlying ht, run_underlying htn, sizeOf, typeInfo, zeroValue, hi, hz, hs, hb, asInt, asIntOf, hw, hneg, hk, h48i, hroom, Addr.add_lit, zero_cells, hst, hl]
/-- 'append(s, make([]byte, k)...)'. -/
theorem run_append_zeros_bo {P : Program} {w : World} {t tn ty e : TypeId} {kq kn : IntKind} (hT : RowTy P t e (.int .u8 0) 1) (htn : P.underlying tn = some (.int kn)) {base : Nat} {v : Value} {l : List UInt8} (hown : Bo e w base v l) (hl : 0 < l.length)
    (k : Nat) (h0 : 0 < k) (h63 : l.length + k ≤ 140737488355328) (hbase : base ≤ w.heap.size) :
    ∃ a' n' c' w', (Builtin.append_ #[t, tn] ty #[v, .int kq k]).run P w = .ok (.slice a' n' c') w' ∧ Bo e w' base (.slice a' n' c') (l ++ zerosB k) ∧ Kept (Of v) w w' := by
  obtain ⟨i, hi, hz, hs, hb⟩ := hT.info
  have hlen : (l ++ zerosB k).length = l.length + k := by simp [zerosB]
  have hlm : ((l ++ zerosB k).map u8v).length = (l.length + k) * 1 := by rw [List.length_map, hlen, Nat.mul_one]
  rcases hown.2 with ⟨rfl, h0'⟩ | ⟨g, cap, cur, rfl, hbg, hg, hnc, hcm, hcs, htake⟩
  · omega
  · by_cases hroom : l.length + k ≤ cap
    · have hr := run_append_room_zeros (P := P) (ty := ty) (kq := kq) hT.sl htn hi hz hs hb g l.length cap cur hg k h0 h63 hroom (by omega)
      refine ⟨_, _, _, _, hr, ?_, ⟨rfl, rfl, rfl, by simp, fun j _ hj => setRow_other w g j _ (fun e => hj (by simp [Of, Value.ownBlock, e]))⟩⟩
      unfold Bo
      rw [hlen]
      refine ⟨hlm, .inr ⟨g, cap, _, rfl, hbg, setRow_heap w g cur _ e _ hg, hroom, hcm, ?_, ?_⟩⟩
      · simp only [List.size_toArray, List.length_append, List.length_take, List.length_drop, Array.length_toList, List.length_map]
        simp [zerosB]
        omega
      · rw [Nat.mul_one] at htake ⊢
        rw [htake, ← List.map_append]
        rw [← hlen, ← List.length_map (f := u8v)]
        exact List.take_left
    · have holds : ∀ j u, (l.map u8v)[j]? = some u → w.cell? ((⟨g, 0, none⟩ : Addr).add j) = some u := World.ownsRow.cells (g := g) hown rfl
      have hf := run_firstCells_some (P := P) w.drew i.size l.length ⟨g, 0, none⟩ l.length cap (l.map u8v) (by rw [List.length_map, hs, Nat.mul_one]) (by simpa using holds)
      have hr := Lib.run_append_grow_zeros (P := P) w t tn ty e i (.int .u8 0) kq kn hT.sl htn hi hz (some ⟨g, 0, none⟩) l.length cap (l.map u8v) hf k h0 (by omega) (by omega) (by omega) (by rw [hb]; omega) (by rw [hb]; exact growslice_fits (by omega) (by omega))
      refine ⟨_, _, _, _, hr, ?_, ((Kept.refl _ w).drew).alloc _⟩
      unfold Bo
      rw [hlen]
      refine ⟨hlm, .inr ⟨w.heap.size, _, _, rfl, hbase, heap_alloc_new w.drew _, grownCap_ge _ _ _ _, grownCap_le_maxLen _ _ _ _ (by unfold maxLen; omega), ?_, ?_⟩⟩
      · have hge := grownCap_ge w (l.length + k) cap e
        simp only [Array.size_append, List.size_toArray, size_zeroCells, List.length_map]
        simp [Value.cells]
        omega
      · rw [zero_cells k]
        simp only [Array.toList_append, Nat.mul_one]
        rw [← List.map_append, ← hlen, ← List.length_map (f := u8v)]
        exact List.take_left
/-- In a walk. -/
theorem wpList_append_zeros {P : Program} {ops : Array Oper} {rest : List Oper} {o : Oper} {a : Act} {w : World} {Q : Exit → Act → World → Prop} (hgd : o.guard = none) (s x : Operand) (t tn : TypeId)
    (ho : o.op = .call { callee := .builtin .append, args := #[s, x], argTypes := #[t, tn] }) {e : TypeId} {kq kn : IntKind} (hT : RowTy P t e (.int .u8 0) 1) (htn : P.underlying tn = some (.int kn))
    {v : Value} (hs : a.eval s = v) {base : Nat} {l : List UInt8} (hown : Bo e w base v l) (hl : 0 < l.length) (k : Nat) (hx : a.eval x = .int kq k) (h0 : 0 < k) (h63 : l.length + k ≤ 140737488355328) (hbase : base ≤ w.heap.size)
    (h : ∀ a' n' cap' w', Bo e w' base (.slice a' n' cap') (l ++ zerosB k) → Kept (Of v) w w' → wpList P ops Q rest (a.put o.dst (.slice a' n' cap')) w') : wpList P ops Q (o :: rest) a w := by
  obtain ⟨a', n', c', w', hr, h1, h2⟩ := run_append_zeros_bo (P := P) (ty := o.type) (kq := kq) hT htn hown hl k h0 h63 hbase
  exact Lib.wpList_append_run w hgd s x t tn ho v _ hs hx _ w' hr (h _ _ _ _ h1 h2)

/-- A byte of a row of one's own, written over. -/
theorem Bo.set {e : TypeId} {w : World} {base : Nat} {g n cap : Nat} {l : List UInt8} (h : Bo e w base (.slice (some ⟨g, 0, none⟩) n cap) l) (i : Nat) (b : Int) (h0 : 0 ≤ b) (h1 : b < 256) :
    Bo e (w.setCell ⟨g, i, none⟩ (.int .u8 b)) base (.slice (some ⟨g, 0, none⟩) n cap) (l.set i (Go.Pm.byteOf b)) := by
  rcases h.2 with ⟨hn, _⟩ | ⟨g', cap', cur, hv, hbg, hg, hnc, hcm, hcs, htake⟩
  · cases hn
  · injection hv with e1 e2 e3
    injection e1 with e1
    injection e1 with e1
    subst e1 e3
    have hB : Blk w g cur e := hg
    unfold Bo
    rw [List.length_set]
    refine ⟨by simp, .inr ⟨g, cap, _, by rw [e2], hbg, hB.set i _, hnc, hcm, by simpa using hcs, ?_⟩⟩
    rw [Array.toList_setIfInBounds, List.take_set, htake, List.map_set, u8v_byteOf' h0 h1]
end Go.Pm
