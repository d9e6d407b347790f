/- A copy of bytes into a hash of noughts. -/
import Derived.Test.YtibkijloibnkfaaStAt7
import Derived.Test.YtibkijloibnkfaaLowRd
import Derived.Test.YtibkijloibnkfaaNm7
import Derived.Laws.IdiomCopy
namespace Go.Pm
open Go Go.RowKit
/-- What a copy of bytes into a hash of noughts leaves. -/
def padO (l : List UInt8) : List UInt8 := if l.length = 32 then l else zero32
theorem padO_len (l : List UInt8) : (padO l).length = 32 := by unfold padO; split; assumption; rfl
theorem raw32 (s : St) : (s.raw 32).length = 32 ∨ (s.raw 32).length = 0 := by
  unfold St.raw
  split
  · left; rw [List.length_take]; omega
  · right; rfl
theorem padO_raw (s : St) : padO (s.raw 32) = hashO s := by
  unfold padO hashO St.raw
  by_cases h : s.e = 0 ∧ 32 ≤ s.l.length
  · have h2 : s.e = 0 ∧ (32 : Int) ≤ s.l.length := ⟨h.1, by omega⟩
    rw [if_pos h, if_pos h2, if_pos (by rw [List.length_take]; omega)]
    rfl
  · have h2 : ¬ (s.e = 0 ∧ (32 : Int) ≤ s.l.length) := fun q => h ⟨q.1, by omega⟩
    rw [if_neg h, if_neg h2]
    rfl
theorem wpList_copy_pad {P : Program} {ops : Array Oper} {rest : List Oper} {o : Oper} {a : Act} {w : World} {Q : Exit → Act → World → Prop} (hgd : o.guard = none) (d s : Operand) (dT sT : TypeId)
    (ho : o.op = .call { callee := .builtin .copy, args := #[d, s], argTypes := #[dT, sT] }) (elem : TypeId) (hu : P.underlying dT = some (.slice elem)) (hsz : (P.info? elem).map (·.size) = some 1)
    {g : Nat} {u : Value} (hd : a.eval d = .slice (some ⟨g, 0, none⟩) 32 32) (hs : a.eval s = u) {lo hi : Nat} {l : List UInt8} (hv : Bs w lo hi u l) (hl : l.length = 32 ∨ l.length = 0)
    {t : TypeId} (hb : Blk w g (zero32.map u8v).toArray t)
    (h : ∀ x w', Blk w' g ((padO l).map u8v).toArray t → Kept (Just g) w w' → wpList P ops Q rest (a.put o.dst (.int .i64 x)) w') : wpList P ops Q (o :: rest) a w := by
  refine wpList_plain hgd fun K hK' => ?_
  obtain ⟨sp, sc, rfl, g1, g2, g3⟩ := hv.shape
  obtain ⟨a', cap', e, _, _, h3, h4⟩ := hv
  injection e with e1 e2 e3
  subst e1 e3
  unfold Oper.wp
  rcases hl with h32 | h0
  · cases sp with
    | none => have := h3 rfl; omega
    | some ad =>
      have hrun := run_copy_row (P := P) w dT sT o.type elem g 0 32 32 ad l.length sc (zero32.map u8v).toArray t (l.map u8v) hu hsz hb (by rw [List.length_map, h32]; rfl) (fun j v hj => (h4 ad rfl j v hj).2.2) (by simp [h32, zero32]) (u8v_one l)
      simp only [execOp, ho, resolve, invoke, builtin, Sem.run_bind, Sem.run_pure, Result.andThen_ok, List.map_toArray, List.map_cons, List.map_nil, hd, hs, hrun, List.length_map]
      refine hK' _ _ (h _ _ ?_ (Kept.row _ _ _))
      have := hb.setRow (splice (zero32.map u8v) 0 (l.map u8v)).toArray
      have e : splice (zero32.map u8v) 0 (l.map u8v) = (padO l).map u8v := by
        unfold splice padO
        rw [if_pos h32]
        simp [h32, zero32]
      rw [e] at this
      have e' : ((zero32.map u8v).take 0 ++ l.map u8v ++ (zero32.map u8v).drop (0 + (l.map u8v).length)) = (padO l).map u8v := e
      simpa [splice, padO, h32, zero32] using this
  · have hrun := run_copy_none (P := P) w dT sT o.type elem (some ⟨g, 0, none⟩) sp 32 32 l.length sc hu hsz (by rw [h0]; rfl)
    simp only [execOp, ho, resolve, invoke, builtin, Sem.run_bind, Sem.run_pure, Result.andThen_ok, List.map_toArray, List.map_cons, List.map_nil, hd, hs, hrun]
    refine hK' _ _ (h _ _ ?_ (Kept.refl _ _))
    unfold padO
    rw [if_neg (by omega)]
    exact hb
/-- The same into the midst of a block. -/
theorem wpList_copy_mid {P : Program} {ops : Array Oper} {rest : List Oper} {o : Oper} {a : Act} {w : World} {Q : Exit → Act → World → Prop} (hgd : o.guard = none) (d s : Operand) (dT sT : TypeId)
    (ho : o.op = .call { callee := .builtin .copy, args := #[d, s], argTypes := #[dT, sT] }) (elem : TypeId) (hu : P.underlying dT = some (.slice elem)) (hsz : (P.info? elem).map (·.size) = some 1)
    {g off : Nat} {u : Value} (hd : a.eval d = .slice (some ⟨g, off, none⟩) 32 32) (hs : a.eval s = u) {lo hi : Nat} {l : List UInt8} (hv : Bs w lo hi u l) (hl : l.length = 32 ∨ l.length = 0)
    {t : TypeId} {cur : List Value} (hb : Blk w g cur.toArray t) (hfit : off + 32 ≤ cur.length) (hz : cur.take off ++ zero32.map u8v ++ cur.drop (off + 32) = cur)
    (h : ∀ x w', Blk w' g (cur.take off ++ (padO l).map u8v ++ cur.drop (off + 32)).toArray t → Kept (Just g) w w' → wpList P ops Q rest (a.put o.dst (.int .i64 x)) w') : wpList P ops Q (o :: rest) a w := by
  refine wpList_plain hgd fun K hK' => ?_
  obtain ⟨sp, sc, rfl, g1, g2, g3⟩ := hv.shape
  obtain ⟨a', cap', e, _, _, h3, h4⟩ := hv
  injection e with e1 e2 e3
  subst e1 e3
  unfold Oper.wp
  rcases hl with h32 | h0
  · cases sp with
    | none => have := h3 rfl; omega
    | some ad =>
      have hrun := run_copy_row (P := P) w dT sT o.type elem g off 32 32 ad l.length sc cur.toArray t (l.map u8v) hu hsz hb (by rw [List.length_map, h32]; rfl) (fun j v hj => (h4 ad rfl j v hj).2.2) (by simpa [h32] using hfit) (u8v_one l)
      simp only [execOp, ho, resolve, invoke, builtin, Sem.run_bind, Sem.run_pure, Result.andThen_ok, List.map_toArray, List.map_cons, List.map_nil, hd, hs, hrun, List.length_map]
      refine hK' _ _ (h _ _ ?_ (Kept.row _ _ _))
      have := hb.setRow (splice cur off (l.map u8v)).toArray
      have e : splice cur off (l.map u8v) = cur.take off ++ (padO l).map u8v ++ cur.drop (off + 32) := by
        unfold splice padO
        rw [if_pos h32, List.length_map, h32, List.append_assoc]
      rw [e] at this
      have e' : (cur.take off ++ l.map u8v ++ cur.drop (off + (l.map u8v).length)) = cur.take off ++ (padO l).map u8v ++ cur.drop (off + 32) := by
        rw [List.append_assoc]
        exact e
      simpa [splice, padO, h32] using this
  · have hrun := run_copy_none (P := P) w dT sT o.type elem (some ⟨g, off, none⟩) sp 32 32 l.length sc hu hsz (by rw [h0]; rfl)
    simp only [execOp, ho, resolve, invoke, builtin, Sem.run_bind, Sem.run_pure, Result.andThen_ok, List.map_toArray, List.map_cons, List.map_nil, hd, hs, hrun]
    refine hK' _ _ (h _ _ ?_ (Kept.refl _ _))
    unfold padO
    rw [if_neg (by omega), hz]
    exact hb
end Go.Pm
