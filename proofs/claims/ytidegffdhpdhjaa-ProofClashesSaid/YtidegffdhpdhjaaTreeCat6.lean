/- slices.Grow of nothing, slices.Concat of two rows of items: by contract; rows written over themselves. -/
import Derived.Test.YtidegffdhpdhjaaRefSides6
import Derived.Test.YtidegffdhpdhjaaSetL6
import Derived.Deep.LoopGhost
namespace Go.Pm
open Go Go.RowKit

/-- The first ones of one's own items. -/
theorem Ito.take {e : TypeId} {w : World} {base g n cap : Nat} {l : List It} (h : Ito e w base (.slice (some ⟨g, 0, none⟩) n cap) l) (k : Nat) (hk : k ≤ l.length) : Ito e w base (.slice (some ⟨g, 0, none⟩) k cap) (l.take k) := by
  have hf : Full (l.take k) := fun x hx => h.1 x (List.mem_of_mem_take hx)
  have hlen : (l.take k).length = k := List.length_take_of_le hk
  rcases h.2.2 with ⟨h3, _⟩ | ⟨g', cap', cur, hvv, hb, hg, hnc, hcm, hcs, htake⟩
  · cases h3
  injection hvv with e1 e2 e3
  obtain rfl : g = g' := by simpa using e1
  subst e3
  refine ⟨hf, by rw [itsC_len hf], .inr ⟨g, cap, cur, by rw [hlen], hb, hg, by rw [hlen]; omega, hcm, hcs, ?_⟩⟩
  rw [hlen, itsC_take h.1, ← htake, List.take_take, Nat.min_eq_left (Nat.mul_le_mul_right _ hk)]
/-- 'append(out, x)' where out is the beginning of a longer row: the next one is written over. -/
theorem run_append_over {P : Program} {w : World} {t ty e : TypeId} {z : Value} (hT : RowTyK P t e z 64 64) {base g n cap : Nat} {l : List It} (hown : Ito e w base (.slice (some ⟨g, 0, none⟩) n cap) l) (k : Nat) (hk : k < l.length)
    {lo hi : Nat} {u : Value} {x : It} (hu : Its w lo hi u [x]) :
    ∃ w', (Builtin.append_ #[t, t] ty #[.slice (some ⟨g, 0, none⟩) k cap, u]).run P w = .ok (.slice (some ⟨g, 0, none⟩) (k + 1) cap) w' ∧ Ito e w' base (.slice (some ⟨g, 0, none⟩) n cap) (l.set k x) ∧ Kept (Just g) w w' := by
  obtain ⟨i, hi, hz, hs, hb⟩ := hT.info
  have hxl := hu.1 x (List.mem_singleton.2 rfl)
  have h64 := itC_len hxl
  obtain ⟨hf, hlen, h2⟩ := hown
  rcases h2 with ⟨h3, _⟩ | ⟨g', cap', cur, hvv, hbb, hg, hnc, hcm, hcs, htake⟩
  · cases h3
  injection hvv with e1 e2 e3
  obtain rfl : g = g' := by simpa using e1
  subst e2 e3
  have hblk : Blk w g cur e := hg
  have hL := itsC_len hf
  obtain ⟨_, hul, a, c, rfl, u1, u2, u3, u4⟩ := hu
  cases a with
  | none => have := u3 rfl; simp at u1; omega
  | some ad =>
    have hfit : k * 64 + 64 ≤ cur.size := by omega
    have hr := run_append_room (P := P) w t ty e i hT.sl hi g k cap cur hg ad 1 c (itC x) (by rw [hs, h64]) (fun j v hv => (u4 ad rfl j v (by simpa [itsC] using hv)).2.2) (fun c hc => itsC_one [x] c (by simpa [itsC] using hc)) (by omega) (by rw [hs, h64]; omega)
    refine ⟨_, hr, ⟨?_, ?_, ?_⟩, Kept.row _ _ _⟩
    · intro z hz
      rcases List.mem_or_eq_of_mem_set hz with h | rfl
      · exact hf z h
      · exact hxl
    · rw [itsC_len (fun z hz => by
        rcases List.mem_or_eq_of_mem_set hz with h | rfl
        · exact hf z h
        · exact hxl)]
    · refine .inr ⟨g, cap, _, by simp, hbb, hblk.setRow _, by simpa using hnc, hcm, ?_, ?_⟩
      · simp only [List.size_toArray, List.length_append, List.length_take, List.length_drop, Array.length_toList, h64, hs]
        omega
      · rw [itsC_set hf x hk hxl, ← htake, List.length_set, hs]
        have q1 : (cur.toList.take (l.length * 64)).take (k * 64) = cur.toList.take (k * 64) := by rw [List.take_take, Nat.min_eq_left (by omega)]
        rw [q1, h64, List.append_assoc, List.take_append, List.append_assoc, List.take_of_length_le (by simp; omega)]
        congr 1
        rw [List.take_append, List.take_of_length_le (by simp [h64]; omega)]
        congr 1
        rw [List.take_drop]
        congr 2
        simp [h64]
        omega
theorem wpList_append_over {P : Program} {ops : Array Oper} {rest : List Oper} {o : Oper} {a : Act} {w : World} {Q : Exit → Act → World → Prop} (hgd : o.guard = none) (s x : Operand) (t : TypeId)
    (ho : o.op = .call { callee := .builtin .append, args := #[s, x], argTypes := #[t, t] }) {e : TypeId} {z : Value} (hT : RowTyK P t e z 64 64)
    {base g n cap : Nat} {l : List It} (hown : Ito e w base (.slice (some ⟨g, 0, none⟩) n cap) l) (k : Nat) (hk : k < l.length) (hs : a.eval s = .slice (some ⟨g, 0, none⟩) k cap) {u : Value} (hx : a.eval x = u) {lo hi : Nat} {y : It} (hu : Its w lo hi u [y])
    (h : ∀ w', Ito e w' base (.slice (some ⟨g, 0, none⟩) n cap) (l.set k y) → Kept (Just g) w w' → wpList P ops Q rest (a.put o.dst (.slice (some ⟨g, 0, none⟩) (k + 1) cap)) w') : wpList P ops Q (o :: rest) a w := by
  obtain ⟨w', hr, h1, h2⟩ := run_append_over (P := P) (ty := o.type) hT hown k hk hu
  exact Lib.wpList_append_run w hgd s x t t ho _ _ hs hx _ w' hr (h w' h1 h2)
/-- 'append(nil, make([]T, k)...)' of items. -/
theorem wpList_make_items {P : Program} {ops : Array Oper} {rest : List Oper} {o : Oper} {a : Act} {w : World} {Q : Exit → Act → World → Prop} (hgd : o.guard = none) (s x : Operand) (t tn : TypeId)
    (ho : o.op = .call { callee := .builtin .append, args := #[s, x], argTypes := #[t, tn] }) {e : TypeId} {z : Value} (hT : RowTyK P t e z 64 64) {kq kn : IntKind} (htn : P.underlying tn = some (.int kn))
    (hs : a.eval s = .slice none 0 0) (k : Nat) (hx : a.eval x = .int kq k) (h0 : 0 < k) (h63 : k ≤ 1099511627776)
    (h : ∀ cap w', Ito e w' w.heap.size (.slice (some ⟨w.heap.size, 0, none⟩) 0 cap) [] → k ≤ cap → cap ≤ maxLen → Kept None w w' → wpList P ops Q rest (a.put o.dst (.slice (some ⟨w.heap.size, 0, none⟩) k cap)) w') : wpList P ops Q (o :: rest) a w := by
  obtain ⟨i, hi, hz, hsz, hb⟩ := hT.info
  have hr := Lib.run_append_nil_zeros (P := P) w t tn o.type e i z kq kn hT.sl htn hi hz k h0 (by omega) (by omega) (by rw [hb]; omega)
  have hge := grownCap_ge w k 0 e
  have hle := grownCap_le_maxLen w k 0 e (by unfold maxLen; omega)
  refine Lib.wpList_append_run w hgd s x t tn ho _ _ hs hx _ _ hr (h _ _ ⟨fun _ h => (by cases h), rfl, .inr ⟨w.heap.size, _, _, rfl, Nat.le_refl _, heap_alloc_new w.drew _, Nat.zero_le _, hle, ?_, by simp [itsC]⟩⟩ hge hle (((Kept.refl _ w).drew).alloc _))
  simp only [Array.size_append, size_zeroCells, hT.cells]
  rw [← Nat.add_mul]
  congr 1
  omega
end Go.Pm
namespace Go.Proofs.Ytidegffdhpdhjaa
open Go.RowKit Go.Pm

namespace Tr
set_option maxRecDepth 100000 in
set_option maxHeartbeats 4000000 in
/-- slices.Grow(nil, n). -/
theorem grow (n : Nat) (w : World) (hn : n ≤ 1099511627776) : Calls Try.prog 147 #[.slice none 0 0, .int .i64 n] w fun e w' => ∃ v, e = .returned v ∧ Ito 61 w' w.heap.size v [] ∧ Kept None w w' := by
  by_cases h0 : n = 0
  · subst h0
    go_enter Try.func147, Try.ntmps147
    go_wp2
    go_ret
    exact ⟨_, rfl, Ito.nil _ _ _, Kept.refl _ _⟩
  · have hp : 0 < n := by omega
    have hpz : (0 : Int) < (n : Int) := by omega
    clear h0
    go_enter Try.func147, Try.ntmps147
    go_wp2_with (first | (at_builtin; refine wpList_make_items (.refl _) _ _ 64 3 rfl RTr.rtItems Try.underlying3 rfl n rfl hp hn ?_; intro cap w1 hO hcap hmax k1) | fail)
    have hcap' : 0 ≤ cap := Nat.zero_le _
    go_wp2
    go_ret
    exact ⟨_, rfl, hO, k1⟩
set_option maxRecDepth 100000 in
set_option maxHeartbeats 8000000 in
/-- slices.Concat of two. -/
theorem concat (g : Nat) (t : TypeId) (v1 v2 : Value) (lo hi lo' hi' : Nat) (l m : List It) (w : World) (hg : Blk w g #[v1, v2] t) (h1 : Its w lo hi v1 l) (h2 : Its w lo' hi' v2 m) (hl : l.length + m.length ≤ 1099511627776) :
    Calls Try.prog 129 #[.slice (some ⟨g, 0, none⟩) 2 2] w fun e w' => ∃ v, e = .returned v ∧ Ito 61 w' w.heap.size v (l ++ m) ∧ Kept None w w' := by
  obtain ⟨a1, c1, rfl, p1, p2, p3⟩ := h1.form
  obtain ⟨a2, c2, rfl, p4, p5, p6⟩ := h2.form
  obtain ⟨n1, hn1⟩ : ∃ n, n = l.length := ⟨_, rfl⟩
  obtain ⟨n2, hn2⟩ : ∃ n, n = m.length := ⟨_, rfl⟩
  rw [← hn1] at hg h1 hl p1
  rw [← hn2] at hg h2 hl p4
  have p2' : c1 ≤ 9223372036854775807 := p2
  have p5' : c2 ≤ 9223372036854775807 := p5
  have HN := hid (And.intro hn1 hn2)
  have H1 := hid h1
  have H2 := hid h2
  clear hn1 hn2 h1 h2 p2 p5 p3 p6
  have q0 := hg.cell 0
  have q1 := hg.cell 1
  simp only [List.getElem?_toArray, List.getElem?_cons_zero, List.getElem?_cons_succ] at q0 q1
  have HG := hid hg
  clear hg
  go_enter Try.func129, Try.ntmps129
  go_wp2
  go_loopg [3, 5, 11] 2 (fun kx s3 s5 s11 wr => ∃ (i S : Nat) (v5 : Value), s3 = .int .i64 S ∧ s5 = v5 ∧ s11 = .int .i64 i ∧ 2 - i ≤ kx ∧ w = wr ∧ (i = 0 ∧ S = 0 ∨ i = 1 ∧ S = n1 ∨ i = 2 ∧ S = n1 + n2))
  case atStart => exact ⟨0, 0, _, rfl, rfl, rfl, Nat.le_refl _, rfl, .inl ⟨rfl, rfl⟩⟩
  case round =>
    obtain ⟨i, S, v5, rfl, rfl, rfl, hkx, rfl, hi⟩ := hrel
    rcases hi with ⟨rfl, rfl⟩ | ⟨rfl, rfl⟩ | ⟨rfl, rfl⟩
    · go_wp2
      go_roundg 1
      case measure => omega
      case rel => exact ⟨1, n1, _, rfl, rfl, rfl, Nat.le_refl _, rfl, .inr (.inl ⟨rfl, rfl⟩)⟩
    · go_wp2
      go_roundg 0
      case measure => omega
      case rel => exact ⟨2, S + n2, _, by go_num, rfl, rfl, Nat.le_refl _, rfl, .inr (.inr ⟨rfl, rfl⟩)⟩
    · go_wp2_with (first | (go_at_call 147; rw [show (n1 : Int) + (n2 : Int) = ((n1 + n2 : Nat) : Int) by omega]; refine (grow (n1 + n2) _ hl).mono ?_; rintro e w1 ⟨v, rfl, hO, k1⟩))
      obtain ⟨av, cv, rfl⟩ := hO.form
      have HO := hid hO
      have K1 := hid k1
      clear q0 q1 hO k1
      go_loopg [6, 8, 27] 2 (fun kx s6 s8 s27 wr => ∃ (i : Nat) (v8 : Value) (a6 : Option Addr) (n6 c6 : Nat), s6 = .slice a6 n6 c6 ∧ s8 = v8 ∧ s27 = .int .i64 i ∧ i ≤ 2 ∧ 2 - i ≤ kx ∧ Hid (Kept None wr wr ∧ Kept None w wr ∧ (i = 0 ∧ Ito 61 wr w.heap.size (.slice a6 n6 c6) [] ∨ i = 1 ∧ Ito 61 wr w.heap.size (.slice a6 n6 c6) l ∨ i = 2 ∧ Ito 61 wr w.heap.size (.slice a6 n6 c6) (l ++ m))))
      case atStart => exact ⟨0, _, _, _, _, rfl, rfl, rfl, by omega, Nat.le_refl _, ⟨Kept.refl _ _, K1.out, .inl ⟨rfl, HO.out⟩⟩⟩
      case round =>
        obtain ⟨i, v8, a6, n6, c6, rfl, rfl, rfl, hi2, hkx, HR⟩ := hrel
        clear HO K1
        have hk := HR.out.2.1
        have q0 := (HG.out.kept hk (fun h => h)).cell 0
        have q1 := (HG.out.kept hk (fun h => h)).cell 1
        simp only [List.getElem?_toArray, List.getElem?_cons_zero, List.getElem?_cons_succ] at q0 q1
        have hsz := hk.size
        have i1 := H1.out.kept hk (fun _ _ _ h => h)
        have i2 := H2.out.kept hk (fun _ _ _ h => h)
        have HK := hid hk
        clear hk
        rcases HR.out.2.2 with ⟨rfl, hO⟩ | ⟨rfl, hO⟩ | ⟨rfl, hO⟩
        · have hll : ([] : List It).length + l.length ≤ 1099511627776 := by have := HN.out.1; simp; omega
          clear HR
          go_wp2_with (first | (at_builtin; refine wpList_append_ito (v := .slice a6 n6 c6) (u := .slice a1 n1 c1) (.refl _) _ _ 64 rfl RTr.rtItems rfl rfl hO i1 hll hsz ?_; intro a7 n7 c7 w7 hO7 k7 f7) | fail)
          go_roundg 1
          case measure => omega
          case rel => exact ⟨1, _, _, _, _, rfl, rfl, rfl, by omega, Nat.le_refl _, ⟨Kept.refl _ _, Kept.own HK.out k7 (fun q hq => (hO.own q hq).1), .inr (.inl ⟨rfl, by simpa using hO7⟩)⟩⟩
        · have hll : l.length + m.length ≤ 1099511627776 := by have := HN.out; omega
          clear HR
          go_wp2_with (first | (at_builtin; refine wpList_append_ito (v := .slice a6 n6 c6) (u := .slice a2 n2 c2) (.refl _) _ _ 64 rfl RTr.rtItems rfl rfl hO i2 hll hsz ?_; intro a7 n7 c7 w7 hO7 k7 f7) | fail)
          go_roundg 0
          case measure => omega
          case rel => exact ⟨2, _, _, _, _, rfl, rfl, rfl, by omega, Nat.le_refl _, ⟨Kept.refl _ _, Kept.own HK.out k7 (fun q hq => (hO.own q hq).1), .inr (.inr ⟨rfl, hO7⟩)⟩⟩
        · clear HR
          go_wp2
          go_ret
          exact ⟨_, rfl, hO, HK.out⟩
end Tr
end Go.Proofs.Ytidegffdhpdhjaa
