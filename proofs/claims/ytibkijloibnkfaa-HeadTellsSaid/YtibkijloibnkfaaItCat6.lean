/- Items, appended over, made. Program-independent. -/
import Derived.Test.YtibkijloibnkfaaRefSides6
import Derived.Test.YtibkijloibnkfaaSetL6
import Derived.Deep.LoopGhost
namespace Go.Pm
open Go Go.RowKit

/-- The first ones of one's own items. -/
theorem Ito.take {e : TypeId} {w : World} {base g n cap : Nat} {l : List It} (h : Ito e w base (.slice (some ⟨g, 0, none⟩) n cap) l) (k : Nat) (hk : k ≤ l.length) : Ito e w base (.slice (some ⟨g, 0, none⟩) k cap) (l.take k) := by
  have hf : Full (l.take k) := fun x hx => h.1 x (List.mem_of_mem_take hx)
  have hlen : (l.take k).length = k := List.length_take_of_le hk
  rcases h.2.2 with ⟨h3, _⟩ | ⟨g', cap', cur, hvv, hb, hg, hnc, hcm, hcs, htake⟩
  · cases h3
  injection hvv with e1 e2 e3
  obtain rfl : g = g' := by simpa using e1
  subst e3
  refine ⟨hf, by rw [itsC_len hf], .inr ⟨g, cap, cur, by rw [hlen], hb, hg, by rw [hlen]; omega, hcm, hcs, ?_⟩⟩
  rw [hlen, itsC_take h.1, ← htake, List.take_take, Nat.min_eq_left (Nat.mul_le_mul_right _ hk)]
/-- 'append(out, x)' where out is the beginning of a longer row: the next one is written over. -/
theorem run_append_over {P : Program} {w : World} {t ty e : TypeId} {z : Value} (hT : RowTyK P t e z 64 64) {base g n cap : Nat} {l : List It} (hown : Ito e w base (.slice (some ⟨g, 0, none⟩) n cap) l) (k : Nat) (hk : k < l.length)
    {lo hi : Nat} {u : Value} {x : It} (hu : Its w lo hi u [x]) :
    ∃ w', (Builtin.append_ #[t, t] ty #[.slice (some ⟨g, 0, none⟩) k cap, u]).run P w = .ok (.slice (some ⟨g, 0, none⟩) (k + 1) cap) w' ∧ Ito e w' base (.slice (some ⟨g, 0, none⟩) n cap) (l.set k x) ∧ Kept (Just g) w w' := by
  obtain ⟨i, hi, hz, hs, hb⟩ := hT.info
  have hxl := hu.1 x (List.mem_singleton.2 rfl)
  have h64 := itC_len hxl
  obtain ⟨hf, hlen, h2⟩ := hown
  rcases h2 with ⟨h3, _⟩ | ⟨g', cap', cur, hvv, hbb, hg, hnc, hcm, hcs, htake⟩
  · cases h3
  injection hvv with e1 e2 e3
  obtain rfl : g = g' := by simpa using e1
  subst e2 e3
  have hblk : Blk w g cur e := hg
  have hL := itsC_len hf
  obtain ⟨_, hul, a, c, rfl, u1, u2, u3, u4⟩ := hu
  cases a with
  | none => have := u3 rfl; simp at u1; omega
  | some ad =>
    have hfit : k * 64 + 64 ≤ cur.size := by omega
    have hr := run_append_room (P := P) w t ty e i hT.sl hi g k cap cur hg ad 1 c (itC x) (by rw [hs, h64]) (fun j v hv => (u4 ad rfl j v (by simpa [itsC] using hv)).2.2) (fun c hc => itsC_one [x] c (by simpa [itsC] using hc)) (by omega) (by rw [hs, h64]; omega)
    refine ⟨_, hr, ⟨?_, ?_, ?_⟩, Kept.row _ _ _⟩
    · intro z hz
      rcases List.mem_or_eq_of_mem_set hz with h | rfl
      · exact hf z h
      · exact hxl
    · rw [itsC_len (fun z hz => by
        rcases List.mem_or_eq_of_mem_set hz with h | rfl
        · exact hf z h
        · exact hxl)]
    · refine .inr ⟨g, cap, _, by simp, hbb, hblk.setRow _, by simpa using hnc, hcm, ?_, ?_⟩
      · simp only [List.size_toArray, List.length_append, List.length_take, List.length_drop, Array.length_toList, h64, hs]
        omega
      · rw [itsC_set hf x hk hxl, ← htake, List.length_set, hs]
        have q1 : (cur.toList.take (l.length * 64)).take (k * 64) = cur.toList.take (k * 64) := by rw [List.take_take, Nat.min_eq_left (by omega)]
        rw [q1, h64, List.append_assoc, List.take_append, List.append_assoc, List.take_of_length_le (by simp; omega)]
        congr 1
        rw [List.take_append, List.take_of_length_le (by simp [h64]; omega)]
        congr 1
        rw [List.take_drop]
        congr 2
        simp [h64]
        omega
theorem wpList_append_over {P : Program} {ops : Array Oper} {rest : List Oper} {o : Oper} {a : Act} {w : World} {Q : Exit → Act → World → Prop} (hgd : o.guard = none) (s x : Operand) (t : TypeId)
    (ho : o.op = .call { callee := .builtin .append, args := #[s, x], argTypes := #[t, t] }) {e : TypeId} {z : Value} (hT : RowTyK P t e z 64 64)
    {base g n cap : Nat} {l : List It} (hown : Ito e w base (.slice (some ⟨g, 0, none⟩) n cap) l) (k : Nat) (hk : k < l.length) (hs : a.eval s = .slice (some ⟨g, 0, none⟩) k cap) {u : Value} (hx : a.eval x = u) {lo hi : Nat} {y : It} (hu : Its w lo hi u [y])
    (h : ∀ w', Ito e w' base (.slice (some ⟨g, 0, none⟩) n cap) (l.set k y) → Kept (Just g) w w' → wpList P ops Q rest (a.put o.dst (.slice (some ⟨g, 0, none⟩) (k + 1) cap)) w') : wpList P ops Q (o :: rest) a w := by
  obtain ⟨w', hr, h1, h2⟩ := run_append_over (P := P) (ty := o.type) hT hown k hk hu
  exact Lib.wpList_append_run w hgd s x t t ho _ _ hs hx _ w' hr (h w' h1 h2)
/-- 'append(nil, make([]T, k)...)' of items. -/
theorem wpList_make_items {P : Program} {ops : Array Oper} {rest : List Oper} {o : Oper} {a : Act} {w : World} {Q : Exit → Act → World → Prop} (hgd : o.guard = none) (s x : Operand) (t tn : TypeId)
    (ho : o.op = .call { callee := .builtin .append, args := #[s, x], argTypes := #[t, tn] }) {e : TypeId} {z : Value} (hT : RowTyK P t e z 64 64) {kq kn : IntKind} (htn : P.underlying tn = some (.int kn))
    (hs : a.eval s = .slice none 0 0) (k : Nat) (hx : a.eval x = .int kq k) (h0 : 0 < k) (h63 : k ≤ 1099511627776)
    (h : ∀ cap w', Ito e w' w.heap.size (.slice (some ⟨w.heap.size, 0, none⟩) 0 cap) [] → k ≤ cap → cap ≤ maxLen → Kept None w w' → wpList P ops Q rest (a.put o.dst (.slice (some ⟨w.heap.size, 0, none⟩) k cap)) w') : wpList P ops Q (o :: rest) a w := by
  obtain ⟨i, hi, hz, hsz, hb⟩ := hT.info
  have hr := Lib.run_append_nil_zeros (P := P) w t tn o.type e i z kq kn hT.sl htn hi hz k h0 (by omega) (by omega) (by rw [hb]; omega)
  have hge := grownCap_ge w k 0 e
  have hle := grownCap_le_maxLen w k 0 e (by unfold maxLen; omega)
  refine Lib.wpList_append_run w hgd s x t tn ho _ _ hs hx _ _ hr (h _ _ ⟨fun _ h => (by cases h), rfl, .inr ⟨w.heap.size, _, _, rfl, Nat.le_refl _, heap_alloc_new w.drew _, Nat.zero_le _, hle, ?_, by simp [itsC]⟩⟩ hge hle (((Kept.refl _ w).drew).alloc _))
  simp only [Array.size_append, size_zeroCells, hT.cells]
  rw [← Nat.add_mul]
  congr 1
  omega
end Go.Pm
