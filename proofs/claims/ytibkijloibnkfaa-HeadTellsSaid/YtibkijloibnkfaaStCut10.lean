/- A hash stored into the midst of a block. -/
import Derived.Test.YtibkijloibnkfaaHdB10
namespace Go.Pm
open Go Go.RowKit
/-- A hash, stored into the midst of a block. -/
theorem wpList_store_cut {P : Program} {ops : Array Oper} {rest : List Oper} {o : Oper} {a : Act} {w : World} {Q : Exit → Act → World → Prop} (hgd : o.guard = none) (ty : TypeId) (x y : Operand) (ho : o.op = .store ty x y)
    {g off : Nat} {cur : List Value} {t : TypeId} {h : List UInt8} (hx : a.eval x = .pointer (some ⟨g, off, none⟩)) (hy : a.eval y = hashV h) (hb : Blk w g cur.toArray t) (h32 : h.length = 32) (hT : (P.info? ty).map (·.size) = some 32)
    (hoff : off + 32 ≤ cur.length)
    (hk : ∀ w', Blk w' g (cur.take off ++ h.map u8v ++ cur.drop (off + 32)).toArray t → Kept (Just g) w w' → wpList P ops Q rest (a.put o.dst undef) w') : wpList P ops Q (o :: rest) a w := by
  refine wpList_store_mid hgd ty x y ho g off (h.map u8v).toArray hx hy (fun j hj => ?_) (by simpa [h32] using hT) (u8v_all' h) ?_
  · simp only [List.size_toArray, List.length_map, h32] at hj
    refine ⟨?_, hb.free _⟩
    rw [hb.cell]
    simp [show off + j < cur.length by omega]
  · refine hk _ ?_ (kept_setCells (S := Just g) (fun _ => rfl) _ _ _ (Kept.refl _ _))
    have hs := Blk.setCells (h.map u8v) off w cur.toArray hb (by simp [h32]; omega)
    simpa [h32] using hs
end Go.Pm
