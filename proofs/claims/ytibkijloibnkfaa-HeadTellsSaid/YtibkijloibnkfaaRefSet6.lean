/- Package postmarkref5, Set and Root: by contract. -/
import Derived.Test.YtibkijloibnkfaaRefRoot6
import Derived.Test.YtibkijloibnkfaaRefItem6
import Derived.Test.YtibkijloibnkfaaItCat6
import Derived.Test.YtibkijloibnkfaaItCut6
import Derived.Deep.LoopGhost
namespace Go.Pm
open Go Go.RowKit
/-! ### An item into its place, by the place -/
theorem insI_at {x : It} : ∀ {out : List It} {k : Nat}, k ≤ out.length → (∀ t (h : t < out.length), t < k → Op.bytesLess out[t].i x.i = true) → (∀ h : k < out.length, Op.bytesLess out[k].i x.i = false) →
    insI x out = out.take k ++ (match out.drop k with | [] => [x] | y :: r => if y.i = x.i then x :: r else x :: y :: r)
  | [], k, hk, _, _ => by
    obtain rfl : k = 0 := by simpa using hk
    rfl
  | y :: out, 0, _, _, h => by
    have h0 := h (by simp)
    simp only [List.getElem_cons_zero] at h0
    unfold insI
    rw [h0]
    simp
  | y :: out, k + 1, hk, h1, h2 => by
    have h0 := h1 0 (by simp) (by omega)
    simp only [List.getElem_cons_zero] at h0
    have ih := insI_at (x := x) (out := out) (k := k) (by simpa using hk) (fun t ht htk => by
      have := h1 (t + 1) (by simpa using ht) (by omega)
      simpa using this) (fun h => by
      have := h2 (by simpa using h)
      simpa using this)
    unfold insI
    rw [h0, if_pos rfl, ih]
    rfl
theorem insI_same {x : It} {out : List It} {k : Nat} (hk : k < out.length) (h1 : ∀ t (h : t < out.length), t < k → Op.bytesLess out[t].i x.i = true) (h2 : Op.bytesLess out[k].i x.i = false) (he : out[k].i = x.i) : insI x out = out.set k x := by
  rw [insI_at (by omega) h1 (fun _ => h2), List.drop_eq_getElem_cons hk]
  simp only [he, if_true]
  rw [List.set_eq_take_append_cons_drop, if_pos hk]
theorem insI_new {x : It} {out : List It} {k : Nat} (hk : k ≤ out.length) (h1 : ∀ t (h : t < out.length), t < k → Op.bytesLess out[t].i x.i = true) (h2 : ∀ h : k < out.length, Op.bytesLess out[k].i x.i = false ∧ out[k].i ≠ x.i) : insI x out = (out.take k ++ [x]) ++ out.drop k := by
  rw [insI_at hk h1 (fun h => (h2 h).1), List.append_assoc]
  congr 1
  by_cases h : k < out.length
  · rw [List.drop_eq_getElem_cons h]
    simp only [(h2 h).2, if_false, List.singleton_append]
  · rw [List.drop_of_length_le (by omega)]
    rfl
theorem len_insI (x : It) : ∀ out : List It, (insI x out).length ≤ out.length + 1
  | [] => Nat.le_refl _
  | y :: out => by
    have := len_insI x out
    unfold insI
    split
    · simpa using this
    · split <;> simp
theorem len_setI (l : List It) : (setI l).length ≤ l.length := by
  suffices h : ∀ r : List It, (setI r.reverse).length ≤ r.length by
    have := h l.reverse
    rwa [List.reverse_reverse, List.length_reverse] at this
  intro r
  induction r with
  | nil => exact Nat.le_refl _
  | cons x r ih =>
    rw [List.reverse_cons, setI_snoc]
    have := len_insI x (setI r.reverse)
    simp only [List.length_cons]
    omega
theorem full_setI {l : List It} (h : Full l) : Full (setI l) := fun x hx => h x ((find_some ((mem_setI x l).1 hx)).1)
/-! ### Items in a region that draws its order -/
/-- It tells items of the call's own. -/
abbrev Fct.ito (e : TypeId) (k : Nat) (lo : Nat) (l : List It) (uses : List Nat := []) (spends : List Nat := []) (later : List Nat := []) : Fct := { k := k, uses := uses, spends := spends, later := later, pure := fun u => ∃ a c, u = .slice a l.length c, fact := fun u W => Ito e W lo u l }
/-- It tells items. -/
abbrev Fct.its (k : Nat) (l : List It) (uses : List Nat := []) : Fct := { k := k, uses := uses, pure := fun u => ∃ a c, u = .slice a l.length c, fact := fun u W => ∃ lo hi, Its W lo hi u l }
theorem Steady.ito {l : List Fct} {k : Nat} {us : List Nat} {e : TypeId} {lo : Nat} {m : List It} {sp lt : List Nat} (h : Steady l) : Steady (.ito e k lo m us sp lt :: l) := .cons ⟨_, none, 0, rfl⟩ (fun _ _ _ hk hb => Ito.kept hb hk (fun _ _ h => h)) h
theorem Steady.its {l : List Fct} {k : Nat} {us : List Nat} {m : List It} (h : Steady l) : Steady (.its k m us :: l) := .cons ⟨_, none, 0, rfl⟩ (fun _ _ _ hk ⟨lo, hi, hb⟩ => ⟨lo, hi, hb.kept hk (fun _ _ _ h => h)⟩) h
theorem gives_append_ito {P : Program} {o : Oper} {a : Act} {w : World} {X : Value → World → Prop} (s x : Operand) (t : TypeId)
    (ho : o.op = .call { callee := .builtin .append, args := #[s, x], argTypes := #[t, t] }) {e : TypeId} {z : Value} (hT : RowTyK P t e z 64 64)
    {v : Value} (hs : a.eval s = v) {u : Value} (hx : a.eval x = u) {base : Nat} {l : List It} (hown : Ito e w base v l) {lo hi : Nat} {m : List It} (hu : Its w lo hi u m)
    (h63 : l.length + m.length ≤ 1099511627776) (hbase : base ≤ w.heap.size)
    (h : ∀ a' n' c' w', Ito e w' base (.slice a' n' c') (l ++ m) → Kept (Of v) w w' → (∀ k, (Value.slice a' n' c').ownBlock = some k → v.ownBlock = some k ∨ k = w.heap.size) → X (.slice a' n' c') w') : Gives P o a w X := by
  obtain ⟨a', n', c', w', hr, h1, h2, h3⟩ := run_append_ito (w := w) (ty := o.type) hT hown hu h63 hbase
  unfold Gives
  simp only [execOp, ho, resolve, invoke, builtin, Sem.run_bind, Sem.run_pure, Result.andThen_ok, List.map_toArray, List.map_cons, List.map_nil, hs, hx, hr]
  exact h _ _ _ _ h1 h2 h3
/-- What stands between two rounds of the reference's Set. -/
structure RMid (e : TypeId) (w0 : World) (va : Value) (L : List It) (i : Nat) (vo : Value) (w : World) : Prop where
  out : Ito e w w0.heap.size vo (setI (L.take i))
  all : Ito e w w0.heap.size va L
  ne : ∀ q, vo.ownBlock = some q → va.ownBlock ≠ some q
  kept : Kept None w0 w
theorem RMid.go {e : TypeId} {w0 w w' : World} {va vo : Value} {L : List It} {i : Nat} (h : RMid e w0 va L i vo w) (hk : Kept None w w') : RMid e w0 va L i vo w' :=
  ⟨h.out.kept hk (fun _ _ h => h), h.all.kept hk (fun _ _ h => h), h.ne, h.kept.trans hk⟩
end Go.Pm
namespace Go.Proofs.Ytibkijloibnkfaa
open Go.RowKit Go.Pm

namespace RTr
set_option maxRecDepth 100000 in
set_option maxHeartbeats 4000000 in
/-- Set. -/
theorem set (v1 v2 : Value) (lo hi lo' hi' : Nat) (l m : List It) (w : World) (h1 : Its w lo hi v1 l) (h2 : Its w lo' hi' v2 m) (hl : l.length + m.length ≤ 549755813888) :
    Calls Try.prog 102 #[v1, v2] w fun e w' => ∃ v, e = .returned v ∧ Ito 139 w' w.heap.size v (setI (l ++ m)) ∧ Kept None w w' := by
  obtain ⟨a1, c1, rfl, _, _, _⟩ := h1.form
  obtain ⟨a2, c2, rfl, _, _, _⟩ := h2.form
  have i0 := Ito.nil 139 w w.heap.size
  have hl1 : ([] : List It).length + l.length ≤ 1099511627776 := by simp; omega
  have hl2 : ([] ++ l : List It).length + m.length ≤ 1099511627776 := by simp; omega
  obtain ⟨L, hL⟩ : ∃ L, L = l ++ m := ⟨_, rfl⟩
  rw [← hL]
  have HL0 := hid hL
  clear hL
  obtain ⟨n1, hn1⟩ : ∃ n, n = l.length := ⟨_, rfl⟩
  obtain ⟨n2, hn2⟩ : ∃ n, n = m.length := ⟨_, rfl⟩
  rw [← hn1] at h1 ⊢
  rw [← hn2] at h2 ⊢
  have HN := hid (And.intro hn1 hn2)
  clear hn1 hn2
  go_enter Try.func102, Try.ntmps102
  go_wp2_with (first | (at_builtin; refine wpList_append_ito (v := .slice none 0 0) (u := .slice a1 n1 c1) (.refl _) _ _ 126 rfl rtItems rfl rfl i0 h1 hl1 (Nat.le_refl _) ?_; intro a5 n5 c5 w5 hO5 k5 f5) | (at_builtin; refine wpList_append_ito (v := .slice a5 n5 c5) (u := .slice a2 n2 c2) (.refl _) _ _ 126 rfl rtItems rfl rfl hO5 (h2.kept (S := None) (k5.mono (fun q _ hq => by cases hq)) (fun _ _ _ h => h)) hl2 k5.size ?_; intro a6 n6 c6 w6 hO6 k6 f6) | fail)
  have k05 : Kept None w w5 := k5.mono (fun q _ hq => by cases hq)
  have k06 : Kept None w w6 := Kept.own k05 k6 (fun q hq => (hO5.own q hq).1)
  rw [List.nil_append] at hO6
  obtain ⟨a6', c6', e6⟩ := hO6.form
  rw [← HL0.out] at hO6 e6
  obtain ⟨N, hN⟩ : ∃ N, N = L.length := ⟨_, rfl⟩
  rw [← hN] at e6
  injection e6 with e1 e2 e3
  subst e1 e2 e3
  have hNb : n6 ≤ 549755813888 := by rw [hN, HL0.out, List.length_append]; exact hl
  have hM : RMid 139 w (.slice a6 n6 c6) L 0 (.slice none 0 0) w6 := ⟨Ito.nil _ _ _, hO6, (fun q h => by cases h), k06⟩
  have HM := hid hM
  have HL := hid hN
  clear hM hO6 hN HL0 k06 k05 k6 k5 hO5 h1 h2 hl1 hl2 i0 f5 f6 hl HN
  go_wp2
  go_loopg [5, 7, 8] n6 (fun kx s5 s7 s8 wr => ∃ (i : Nat) (ao : Option Addr) (no co : Nat) (v8 : Value), s5 = .slice ao no co ∧ s7 = .int .i64 i ∧ s8 = v8 ∧ i ≤ n6 ∧ n6 - i ≤ kx ∧ Hid (RMid 139 w (.slice a6 n6 c6) L i (.slice ao no co) wr))
  case atStart => exact ⟨0, none, 0, 0, _, rfl, rfl, rfl, Nat.zero_le _, Nat.le_refl _, HM⟩
  case round =>
    obtain ⟨i, ao, no, co, v8, rfl, rfl, rfl, hin, hkx, HX⟩ := hrel
    clear HM
    by_cases hlt : i < n6
    · have hltz : (i : Int) < (n6 : Int) := by omega
      obtain ⟨x, hx⟩ : ∃ x, L[i]? = some x := ⟨_, List.getElem?_eq_getElem (by have := HL.out; omega)⟩
      have hxl := HX.out.all.1 x (List.mem_of_getElem? hx)
      have h64 := itC_len hxl
      obtain ⟨out, hout⟩ : ∃ out, out = setI (L.take i) := ⟨_, rfl⟩
      have hol : out.length ≤ i := by rw [hout]; exact Nat.le_trans (len_setI _) (by simp; omega)
      have hnext : setI (L.take (i + 1)) = insI x out := by
        obtain ⟨hi', he'⟩ := List.getElem?_eq_some_iff.1 hx
        rw [List.take_succ_eq_append_getElem hi', setI_snoc, he', hout]
      have hOo : Ito 139 wr w.heap.size (.slice ao no co) out := by rw [hout]; exact HX.out.out
      have hno : no = out.length := by obtain ⟨_, _, e⟩ := hOo.form; injection e
      have hnc : no ≤ co ∧ co ≤ 9223372036854775807 := by
        obtain ⟨_, _, e, g1, g2, _⟩ := (hOo.its (Nat.le_refl _)).form
        injection e with e1 e2 e3
        subst e3
        exact ⟨by omega, g2⟩
      obtain ⟨hnc1, hnc2⟩ := hnc
      -- where x lies
      obtain ⟨b6, o6, hb6, _, _, q3, hc6⟩ := (HX.out.all.its (Nat.le_refl _)).ne (by have := HL.out; omega)
      obtain rfl := hb6
      have hcx0 := hc6 i x hx
      have hcI0 := hcx0
      have hcx1 : wr.rangeAt b6 (o6 + i * 64) (x.i.map u8v) := by
        have h := rangeAt_take hcx0 32
        rwa [show (itC x).take 32 = x.i.map u8v from List.take_left' (by simp [hxl.1])] at h
      have aHx : AggTy Try.prog 23 (x.i.map u8v).length := by rw [List.length_map, hxl.1]; exact Sp.aH
      have aY : AggTy Try.prog 139 (itC x).length := by rw [h64]; exact aI64
      have HXX := hid hx
      have HOUT := hid hout
      have HNEXT := hid hnext
      have HNO := hid hno
      have HXL := hid hxl
      have H64 := hid h64
      have HC := hid (And.intro hcx1 hcI0)
      have HOO := hid hOo
      have hno1 : no ≤ out.length := by omega
      have hno2 : out.length ≤ no := by omega
      clear hx hout hnext hno hxl h64 hc6 hcx0 hcI0 hcx1 hOo q3
      obtain ⟨wo, hwo⟩ : ∃ wo : World, wo = wr := ⟨_, rfl⟩
      subst hwo
      go_wp2
      go_loopg [8] no (fun ky s8 wr => ∃ k : Nat, s8 = .int .i64 k ∧ k ≤ no ∧ no - k ≤ ky ∧ Hid (Kept None wo wr) ∧ Hid (∀ t (h : t < out.length), t < k → Op.bytesLess out[t].i x.i = true))
      case atStart => exact ⟨0, rfl, Nat.zero_le _, Nat.le_refl _, Kept.refl _ _, fun t h h2 => by omega⟩
      case round =>
        obtain ⟨k, rfl, hkn, hky, HK, HLT⟩ := hrel
        have hcx := rangeAt_kept HC.out.1 HK.out
        have hcI := rangeAt_kept HC.out.2 HK.out
        have hOr := HOO.out.kept HK.out (fun _ _ h => h)
        have HX2 := hid (HX.out.go HK.out)
        by_cases hk : k < no
        · have hkz : (k : Int) < (no : Int) := by omega
          obtain ⟨y, hy⟩ : ∃ y, out[k]? = some y := ⟨_, List.getElem?_eq_getElem (by omega)⟩
          have hyl := hOr.1 y (List.mem_of_getElem? hy)
          obtain ⟨b5, o5, hb5, _, _, q3, hc5⟩ := (hOr.its (Nat.le_refl _)).ne (by omega)
          obtain rfl := hb5
          have hcy : wr.rangeAt b5 (o5 + k * 64) (y.i.map u8v) := by
            have h := rangeAt_take (hc5 k y hy) 32
            rwa [show (itC y).take 32 = y.i.map u8v from List.take_left' (by simp [hyl.1])] at h
          have aHy : AggTy Try.prog 23 (y.i.map u8v).length := by rw [List.length_map, hyl.1]; exact Sp.aH
          have hLe := fun W => less y.i x.i W hyl.1 HXL.out.1
          have e1 := Tr.eqHash y.i x.i hyl.1 HXL.out.1
          obtain ⟨b, hb⟩ : ∃ b, b = Op.bytesLess y.i x.i := ⟨_, rfl⟩
          rw [← hb] at hLe
          have HLess := hid hLe
          have HB := hid hb
          have HY := hid hy
          have HOR := hid hOr
          clear hLe hb hy q3 hc5 hOr
          go_wp2_with fail
          have hs : Steady [.val 15 (.bool b)] := Steady.val (Steady.nil)
          refine wp_region_kn wr _ hs (Kept.refl _ _) (by kernel_rfl) (by kernel_rfl) (by kernel_rfl) ?_
          iterate 9 (refine wpPar_pure rfl (by rfl) _ (fun W hW => by
              go_simp
              exact rfl) ?_; simp only [Act.put, List.setIfInBounds_toArray, List.set_cons_zero, List.set_cons_succ])
          refine wpPar_pure rfl (by rfl) _ (fun W hW => exec_load_at rfl rfl (rangeAt_kept hcy hW) aHy) ?_; simp only [Act.put, List.setIfInBounds_toArray, List.set_cons_zero, List.set_cons_succ]
          iterate 4 (refine wpPar_pure rfl (by rfl) _ (fun W hW => by
              go_simp
              exact rfl) ?_; simp only [Act.put, List.setIfInBounds_toArray, List.set_cons_zero, List.set_cons_succ])
          refine wpPar_pure rfl (by rfl) _ (fun W hW => exec_load_at rfl rfl (rangeAt_kept hcx hW) aHx) ?_; simp only [Act.put, List.setIfInBounds_toArray, List.set_cons_zero, List.set_cons_succ]
          refine wpKn_adds hs rfl (by rfl) (fun W hW hd => ?_) (fun v15 hv => ?_)
          · unfold Gives
            go_simp
            refine gives_call (HLess.out W) ?_
            rintro e w3 ⟨rfl, k3⟩
            exact ⟨_, rfl, k3, rfl, trivial⟩
          obtain rfl : v15 = .bool b := hv
          simp only [Act.put, List.setIfInBounds_toArray, List.set_cons_zero, List.set_cons_succ]
          iterate 1 (refine wpPar_pure rfl (by rfl) _ (fun W hW => by
              go_simp
              exact rfl) ?_; simp only [Act.put, List.setIfInBounds_toArray, List.set_cons_zero, List.set_cons_succ])
          refine wpPar_nil (fun w6 hW hG => ?_)
          clear hG hs
          have HW := hid hW
          clear hW
          cases b with
          | true =>
            have HT := hid (show ∀ t (h : t < out.length), t < k + 1 → Op.bytesLess out[t].i x.i = true from fun t h ht => by
              by_cases e : t = k
              · subst e
                have e2 := (List.getElem?_eq_some_iff.1 HY.out).2
                rw [e2]; exact HB.out.symm
              · exact HLT.out t h (by omega))
            go_wp2
            go_roundg (no - (k + 1))
            case measure => omega
            case rel => exact ⟨k + 1, by go_num, by omega, Nat.le_refl _, HK.out.trans HW.out, HT⟩
          | false =>
            have hcy := rangeAt_kept hcy HW.out
            have hcx := rangeAt_kept hcx HW.out
            have hcI := rangeAt_kept hcI HW.out
            have HXB := hid (HX2.out.go HW.out)
            have HOB := hid (HOR.out.kept HW.out (fun _ _ h => h))
            have KB := hid (HK.out.trans HW.out)
            clear HX2 HOR HK HW
            obtain ⟨wB, hwB⟩ : ∃ wB, wB = w6 := ⟨_, rfl⟩
            subst hwB
            go_wp2_with fail
            refine wp_region_kn wB [] Steady.nil (Kept.refl _ _) (by kernel_rfl) (by kernel_rfl) (by kernel_rfl) ?_
            iterate 9 (refine wpPar_pure rfl (by rfl) _ (fun W hW => by
                go_simp
                exact rfl) ?_; simp only [Act.put, List.setIfInBounds_toArray, List.set_cons_zero, List.set_cons_succ])
            refine wpPar_pure rfl (by rfl) _ (fun W hW => exec_load_at rfl rfl (rangeAt_kept hcy hW) aHy) ?_; simp only [Act.put, List.setIfInBounds_toArray, List.set_cons_zero, List.set_cons_succ]
            iterate 4 (refine wpPar_pure rfl (by rfl) _ (fun W hW => by
                go_simp
                exact rfl) ?_; simp only [Act.put, List.setIfInBounds_toArray, List.set_cons_zero, List.set_cons_succ])
            refine wpPar_pure rfl (by rfl) _ (fun W hW => exec_load_at rfl rfl (rangeAt_kept hcx hW) aHx) ?_; simp only [Act.put, List.setIfInBounds_toArray, List.set_cons_zero, List.set_cons_succ]
            obtain ⟨yv, hyv⟩ : ∃ yv, yv = (y.i.map u8v).toArray := ⟨_, rfl⟩
            obtain ⟨xv, hxv⟩ : ∃ xv, xv = (x.i.map u8v).toArray := ⟨_, rfl⟩
            rw [← hyv, ← hxv] at e1
            simp only [← hyv, ← hxv]
            clear hyv hxv
            iterate 2 (refine wpPar_pure rfl (by rfl) _ (fun W hW => by
                go_simp
                exact rfl) ?_; simp only [Act.put, List.setIfInBounds_toArray, List.set_cons_zero, List.set_cons_succ])
            refine wpPar_nil (fun w7 hW hG => ?_)
            clear hG
            have hcIB := rangeAt_kept hcI hW
            have HXB' := hid (HXB.out.go hW)
            have HOB' := hid (HOB.out.kept hW (fun _ _ h => h))
            clear hcy hcx hcI HXB HOB KB hW e1
            have HXB := HXB'
            have HOB := HOB'
            clear HXB' HOB'
            obtain ⟨wB, hwB⟩ : ∃ wB, wB = w7 := ⟨_, rfl⟩
            subst hwB
            have hky : ∃ h : k < out.length, out[k] = y := List.getElem?_eq_some_iff.1 HY.out
            by_cases hxy : y.i = x.i
            · have hb : (y.i == x.i) = true := by simp [hxy]
              have HIN := hid (show insI x out = out.set k x from by
                obtain ⟨h1, h2⟩ := hky
                exact insI_same h1 HLT.out (by rw [h2]; exact HB.out.symm) (by rw [h2]; exact hxy))
              have h00 : o5 = 0 := by
                rcases HOB.out.2.2 with ⟨h1, _⟩ | ⟨g, cap, cur, h1, _⟩
                · injection h1 with e; cases e
                · injection h1 with e; injection e with e; injection e
              have hkl := hky.1
              have hown := HOB.out
              subst h00
              clear hxy hky
              rw [hb]
              clear hb
              go_wp2_with (first | (refine wpList_load_at (.refl _) _ _ rfl rfl hcIB aY ?_) | (refine wpList_store_item (.refl _) _ _ _ rfl hown hkl HXL.out rfl rfl aI64 ?_; intro w9 hI9 k9) | fail)
              go_roundg (n6 - (i + 1))
              case measure => omega
              case rel =>
                refine ⟨i + 1, _, _, _, _, rfl, by go_num, rfl, by omega, Nat.le_refl _, ⟨?_, ?_, ?_, ?_⟩⟩
                · rw [HNEXT.out, HIN.out]; exact hI9
                · refine HXB.out.all.kept k9 (fun q hq (e : q = b5) => ?_)
                  subst e
                  exact HXB.out.ne _ rfl hq
                · exact fun q hq => HXB.out.ne q hq
                · exact HXB.out.kept.then k9 (fun q hq (e : q = b5) => by
                    have := (hown.own b5 rfl).1
                    omega)
            · have hb : (y.i == x.i) = false := by simp [hxy]
              have HNEW := hid (show ∀ h : k < out.length, Op.bytesLess out[k].i x.i = false ∧ out[k].i ≠ x.i from fun h => by
                obtain ⟨h1, h2⟩ := hky
                rw [h2]
                exact ⟨HB.out.symm, hxy⟩)
              clear hxy hky
              rw [hb]
              clear hb
              obtain ⟨q1a, s1, iA⟩ := items_to Tr.tItems' Tr.zItems' (HOB.out.its (Nat.le_refl _)) .i64 k hkn
              obtain ⟨q2a, s2, iD⟩ := items_from Tr.tItems' Tr.zItems' (HOB.out.its (Nat.le_refl _)) .i64 k hkn
              have hins : insI x out = (out.take k ++ [x]) ++ out.drop k := insI_new (by omega) HLT.out HNEW.out
              have hAl : (out.take k).length = k := List.length_take_of_le (by omega)
              have hDl : (out.drop k).length ≤ no := by rw [List.length_drop]; omega
              obtain ⟨A, hA⟩ : ∃ A, A = out.take k := ⟨_, rfl⟩
              obtain ⟨D, hD⟩ : ∃ D, D = out.drop k := ⟨_, rfl⟩
              rw [← hA] at hins iA hAl
              rw [← hD] at hins iD hDl
              obtain ⟨AX, hAX⟩ : ∃ AX, AX = A ++ [x] := ⟨_, rfl⟩
              rw [← hAX] at hins
              obtain ⟨AXD, hAXD⟩ : ∃ AXD, AXD = AX ++ D := ⟨_, rfl⟩
              rw [← hAXD] at hins
              have hA40 : A.length ≤ 1099511627776 := by omega
              have hA41 : A.length + 1 ≤ 1099511627776 := by omega
              have hA42 : AX.length + D.length ≤ 1099511627776 := by rw [hAX, List.length_append, hAl, List.length_singleton]; omega
              have HAX := hid hAX
              have HAXD := hid hAXD
              have HINS := hid hins
              have hkz : (k : Int) ≤ (no : Int) := by omega
              clear hA hD hAX hAXD hins hAl hDl
              go_wp2_with fail
              have hs : Steady [.ito 139 3 wB.heap.size A, .its 8 [x], .ito 139 9 wB.heap.size AX [3, 8] [3, 8] [13], .ito 139 13 wB.heap.size AXD [9, 3, 8] [9, 3, 8]] := Steady.ito (Steady.its (Steady.ito (Steady.ito Steady.nil)))
              refine wp_region_kn wB _ hs (Kept.refl _ _) (by kernel_rfl) (by kernel_rfl) (by kernel_rfl) ?_
              iterate 3 (refine wpPar_pure rfl (by rfl) _ (fun W hW => by
                  have q1 := s1 W
                  have q2 := s2 W
                  go_simp
                  exact rfl) ?_; simp only [Act.put, List.setIfInBounds_toArray, List.set_cons_zero, List.set_cons_succ])
              refine wpKn_adds hs rfl (by rfl) (fun W hW hd => ?_) (fun v3 hv => ?_)
              · refine gives_append_ito _ _ 126 rfl RTr.rtItems (v := .slice none 0 0) rfl rfl (Ito.nil _ W wB.heap.size) (iA.kept hW (fun _ _ _ h => h)) (by simpa using hA40) hW.size ?_
                intro a' n' c' W' h3 h4 _
                refine ⟨h4.mono (fun q _ hq => by cases hq), ?_, (by rw [List.nil_append] at h3; exact h3)⟩
                obtain ⟨a'', c'', e⟩ := h3.form
                exact ⟨a'', c'', by simpa using e⟩
              obtain ⟨a3, c3, rfl⟩ : ∃ a c, v3 = .slice a A.length c := hv
              simp only [Act.put, List.setIfInBounds_toArray, List.set_cons_zero, List.set_cons_succ]
              iterate 3 (refine wpPar_pure rfl (by rfl) _ (fun W hW => by
                  have q1 := s1 W
                  have q2 := s2 W
                  go_simp
                  exact rfl) ?_; simp only [Act.put, List.setIfInBounds_toArray, List.set_cons_zero, List.set_cons_succ])
              refine wpPar_pure rfl (by rfl) _ (fun W hW => exec_load_at rfl rfl (rangeAt_kept hcIB hW) aY) ?_; simp only [Act.put, List.setIfInBounds_toArray, List.set_cons_zero, List.set_cons_succ]
              refine wpKn_adds hs rfl (by rfl) (fun W hW hd => ?_) (fun v8 hv => ?_)
              · unfold Gives
                rw [exec_one_item 126 (.tmp 69) rfl RTr.rtItems (by decide) (A := (itC x).toArray) rfl (by simpa using H64.out)]
                exact ⟨(Kept.refl None W).alloc _, ⟨_, _, rfl⟩, _, _, Its.one W 139 x HXL.out⟩
              obtain ⟨a8, c8, rfl⟩ : ∃ a c, v8 = .slice a 1 c := hv
              simp only [Act.put, List.setIfInBounds_toArray, List.set_cons_zero, List.set_cons_succ]
              refine wpPar_adds rfl (by rfl) (fun W hW hd => ?_) (fun v9 hv => ?_)
              · have h1 : Ito 139 W wB.heap.size (.slice a3 A.length c3) A := hd 3 (List.Mem.head _)
                obtain ⟨lo2, hi2, h2⟩ : ∃ lo hi, Its W lo hi (.slice a8 1 c8) [x] := hd 8 (List.Mem.tail _ (List.Mem.head _))
                refine gives_append_ito _ _ 126 rfl RTr.rtItems rfl rfl h1 h2 (by simpa using hA41) hW.size ?_
                intro a' n' c' W' h3 h4 _
                rw [← HAX.out] at h3
                refine ⟨Kept.own hW h4 (fun q hq => (h1.own q hq).1), h3.form, h3, keeps_of fun f hf hs hlt hne u hfu => ?_⟩
                simp only [List.mem_cons, List.not_mem_nil, or_false] at hf
                rcases hf with rfl | rfl | rfl | rfl
                · exact absurd (List.Mem.head _) hs
                · exact absurd (List.Mem.tail _ (List.Mem.head _)) hs
                · exact absurd rfl hne
                · exact absurd (List.Mem.head _) hlt
              obtain ⟨a9, c9, rfl⟩ : ∃ a c, v9 = .slice a AX.length c := hv
              simp only [Act.put, List.setIfInBounds_toArray, List.set_cons_zero, List.set_cons_succ]
              iterate 3 (refine wpPar_pure rfl (by rfl) _ (fun W hW => by
                  have q1 := s1 W
                  have q2 := s2 W
                  go_simp
                  exact rfl) ?_; simp only [Act.put, List.setIfInBounds_toArray, List.set_cons_zero, List.set_cons_succ])
              refine wpPar_adds rfl (by rfl) (fun W hW hd => ?_) (fun v13 hv => ?_)
              · have h1 : Ito 139 W wB.heap.size (.slice a9 AX.length c9) AX := hd 9 (List.Mem.head _)
                refine gives_append_ito _ _ 126 rfl RTr.rtItems rfl rfl h1 (iD.kept hW (fun _ _ _ h => h)) hA42 hW.size ?_
                intro a' n' c' W' h3 h4 _
                rw [← HAXD.out] at h3
                refine ⟨Kept.own hW h4 (fun q hq => (h1.own q hq).1), h3.form, h3, keeps_of fun f hf hs _ hne u hfu => ?_⟩
                simp only [List.mem_cons, List.not_mem_nil, or_false] at hf
                rcases hf with rfl | rfl | rfl | rfl
                · exact absurd (List.Mem.tail _ (List.Mem.head _)) hs
                · exact absurd (List.Mem.tail _ (List.Mem.tail _ (List.Mem.head _))) hs
                · exact absurd (List.Mem.head _) hs
                · exact absurd rfl hne
              obtain ⟨a13, c13, rfl⟩ : ∃ a c, v13 = .slice a AXD.length c := hv
              simp only [Act.put, List.setIfInBounds_toArray, List.set_cons_zero, List.set_cons_succ]
              iterate 1 (refine wpPar_pure rfl (by rfl) _ (fun W hW => by
                  go_simp
                  exact rfl) ?_; simp only [Act.put, List.setIfInBounds_toArray, List.set_cons_zero, List.set_cons_succ])
              refine wpPar_nil (fun w9 hW hG => ?_)
              have hb : Ito 139 w9 wB.heap.size (.slice a13 AXD.length c13) AXD := hG 13
              have hfin : RMid 139 w (.slice (some ⟨b6, o6, none⟩) n6 c6) L (i + 1) (.slice a13 AXD.length c13) w9 := by
                have hsz := HXB.out.kept.size
                refine ⟨?_, HXB.out.all.kept hW (fun _ _ h => h), fun q hq h => ?_, HXB.out.kept.trans hW⟩
                · rw [HNEXT.out, HINS.out]
                  exact hb.base hsz
                · have e1 := (hb.own q hq).1
                  have e2 := (HXB.out.all.own q h).2
                  omega
              have HF := hid hfin
              clear hG hs hW hb hfin s1 s2 iA iD
              go_wp2
              go_roundg (n6 - (i + 1))
              case measure => omega
              case rel => exact ⟨i + 1, _, _, _, _, rfl, by go_num, rfl, by omega, Nat.le_refl _, HF⟩
        · have hkz : ¬ (k : Int) < (no : Int) := by omega
          have hd : decide ((k : Int) < (no : Int)) = false := decide_eq_false hkz
          have HNEW := hid (show ∀ h : k < out.length, Op.bytesLess out[k].i x.i = false ∧ out[k].i ≠ x.i from fun h => by omega)
          have HX2' := HX2
          clear hcx
          go_wp2_with fail
          go_quiet (fail)
          have hcI1 := rangeAt_kept hcI (Kept.toDrewN None _ nq)
          have HXB1 := hid (HX2.out.go (Kept.toDrewN None _ nq))
          have HOB1 := hid (hOr.kept (Kept.toDrewN None _ nq) (fun _ _ h => h))
          clear hcI HX2 HX2' hOr HK
          generalize wr.drewN nq = w8 at hcI1 HXB1 HOB1 ⊢
          clear nq
          go_wp2_with fail
          go_quiet (fail)
          have hcIB := rangeAt_kept hcI1 (Kept.toDrewN None _ nq)
          have HXB := hid (HXB1.out.go (Kept.toDrewN None _ nq))
          have HOB := hid (HOB1.out.kept (Kept.toDrewN None _ nq) (fun _ _ h => h))
          clear hcI1 HXB1 HOB1
          generalize w8.drewN nq = wB at hcIB HXB HOB ⊢
          clear nq hd hkz
          obtain ⟨q1a, s1, iA⟩ := items_to Tr.tItems' Tr.zItems' (HOB.out.its (Nat.le_refl _)) .i64 k hkn
          obtain ⟨q2a, s2, iD⟩ := items_from Tr.tItems' Tr.zItems' (HOB.out.its (Nat.le_refl _)) .i64 k hkn
          have hins : insI x out = (out.take k ++ [x]) ++ out.drop k := insI_new (by omega) HLT.out HNEW.out
          have hAl : (out.take k).length = k := List.length_take_of_le (by omega)
          have hDl : (out.drop k).length ≤ no := by rw [List.length_drop]; omega
          obtain ⟨A, hA⟩ : ∃ A, A = out.take k := ⟨_, rfl⟩
          obtain ⟨D, hD⟩ : ∃ D, D = out.drop k := ⟨_, rfl⟩
          rw [← hA] at hins iA hAl
          rw [← hD] at hins iD hDl
          obtain ⟨AX, hAX⟩ : ∃ AX, AX = A ++ [x] := ⟨_, rfl⟩
          rw [← hAX] at hins
          obtain ⟨AXD, hAXD⟩ : ∃ AXD, AXD = AX ++ D := ⟨_, rfl⟩
          rw [← hAXD] at hins
          have hA40 : A.length ≤ 1099511627776 := by omega
          have hA41 : A.length + 1 ≤ 1099511627776 := by omega
          have hA42 : AX.length + D.length ≤ 1099511627776 := by rw [hAX, List.length_append, hAl, List.length_singleton]; omega
          have HAX := hid hAX
          have HAXD := hid hAXD
          have HINS := hid hins
          have hkz : (k : Int) ≤ (no : Int) := by omega
          clear hA hD hAX hAXD hins hAl hDl
          go_wp2_with fail
          have hs : Steady [.ito 139 3 wB.heap.size A, .its 8 [x], .ito 139 9 wB.heap.size AX [3, 8] [3, 8] [13], .ito 139 13 wB.heap.size AXD [9, 3, 8] [9, 3, 8]] := Steady.ito (Steady.its (Steady.ito (Steady.ito Steady.nil)))
          refine wp_region_kn wB _ hs (Kept.refl _ _) (by kernel_rfl) (by kernel_rfl) (by kernel_rfl) ?_
          iterate 3 (refine wpPar_pure rfl (by rfl) _ (fun W hW => by
              have q1 := s1 W
              have q2 := s2 W
              go_simp
              exact rfl) ?_; simp only [Act.put, List.setIfInBounds_toArray, List.set_cons_zero, List.set_cons_succ])
          refine wpKn_adds hs rfl (by rfl) (fun W hW hd => ?_) (fun v3 hv => ?_)
          · refine gives_append_ito _ _ 126 rfl RTr.rtItems (v := .slice none 0 0) rfl rfl (Ito.nil _ W wB.heap.size) (iA.kept hW (fun _ _ _ h => h)) (by simpa using hA40) hW.size ?_
            intro a' n' c' W' h3 h4 _
            refine ⟨h4.mono (fun q _ hq => by cases hq), ?_, (by rw [List.nil_append] at h3; exact h3)⟩
            obtain ⟨a'', c'', e⟩ := h3.form
            exact ⟨a'', c'', by simpa using e⟩
          obtain ⟨a3, c3, rfl⟩ : ∃ a c, v3 = .slice a A.length c := hv
          simp only [Act.put, List.setIfInBounds_toArray, List.set_cons_zero, List.set_cons_succ]
          iterate 3 (refine wpPar_pure rfl (by rfl) _ (fun W hW => by
              have q1 := s1 W
              have q2 := s2 W
              go_simp
              exact rfl) ?_; simp only [Act.put, List.setIfInBounds_toArray, List.set_cons_zero, List.set_cons_succ])
          refine wpPar_pure rfl (by rfl) _ (fun W hW => exec_load_at rfl rfl (rangeAt_kept hcIB hW) aY) ?_; simp only [Act.put, List.setIfInBounds_toArray, List.set_cons_zero, List.set_cons_succ]
          refine wpKn_adds hs rfl (by rfl) (fun W hW hd => ?_) (fun v8 hv => ?_)
          · unfold Gives
            rw [exec_one_item 126 (.tmp 69) rfl RTr.rtItems (by decide) (A := (itC x).toArray) rfl (by simpa using H64.out)]
            exact ⟨(Kept.refl None W).alloc _, ⟨_, _, rfl⟩, _, _, Its.one W 139 x HXL.out⟩
          obtain ⟨a8, c8, rfl⟩ : ∃ a c, v8 = .slice a 1 c := hv
          simp only [Act.put, List.setIfInBounds_toArray, List.set_cons_zero, List.set_cons_succ]
          refine wpPar_adds rfl (by rfl) (fun W hW hd => ?_) (fun v9 hv => ?_)
          · have h1 : Ito 139 W wB.heap.size (.slice a3 A.length c3) A := hd 3 (List.Mem.head _)
            obtain ⟨lo2, hi2, h2⟩ : ∃ lo hi, Its W lo hi (.slice a8 1 c8) [x] := hd 8 (List.Mem.tail _ (List.Mem.head _))
            refine gives_append_ito _ _ 126 rfl RTr.rtItems rfl rfl h1 h2 (by simpa using hA41) hW.size ?_
            intro a' n' c' W' h3 h4 _
            rw [← HAX.out] at h3
            refine ⟨Kept.own hW h4 (fun q hq => (h1.own q hq).1), h3.form, h3, keeps_of fun f hf hs hlt hne u hfu => ?_⟩
            simp only [List.mem_cons, List.not_mem_nil, or_false] at hf
            rcases hf with rfl | rfl | rfl | rfl
            · exact absurd (List.Mem.head _) hs
            · exact absurd (List.Mem.tail _ (List.Mem.head _)) hs
            · exact absurd rfl hne
            · exact absurd (List.Mem.head _) hlt
          obtain ⟨a9, c9, rfl⟩ : ∃ a c, v9 = .slice a AX.length c := hv
          simp only [Act.put, List.setIfInBounds_toArray, List.set_cons_zero, List.set_cons_succ]
          iterate 3 (refine wpPar_pure rfl (by rfl) _ (fun W hW => by
              have q1 := s1 W
              have q2 := s2 W
              go_simp
              exact rfl) ?_; simp only [Act.put, List.setIfInBounds_toArray, List.set_cons_zero, List.set_cons_succ])
          refine wpPar_adds rfl (by rfl) (fun W hW hd => ?_) (fun v13 hv => ?_)
          · have h1 : Ito 139 W wB.heap.size (.slice a9 AX.length c9) AX := hd 9 (List.Mem.head _)
            refine gives_append_ito _ _ 126 rfl RTr.rtItems rfl rfl h1 (iD.kept hW (fun _ _ _ h => h)) hA42 hW.size ?_
            intro a' n' c' W' h3 h4 _
            rw [← HAXD.out] at h3
            refine ⟨Kept.own hW h4 (fun q hq => (h1.own q hq).1), h3.form, h3, keeps_of fun f hf hs _ hne u hfu => ?_⟩
            simp only [List.mem_cons, List.not_mem_nil, or_false] at hf
            rcases hf with rfl | rfl | rfl | rfl
            · exact absurd (List.Mem.tail _ (List.Mem.head _)) hs
            · exact absurd (List.Mem.tail _ (List.Mem.tail _ (List.Mem.head _))) hs
            · exact absurd (List.Mem.head _) hs
            · exact absurd rfl hne
          obtain ⟨a13, c13, rfl⟩ : ∃ a c, v13 = .slice a AXD.length c := hv
          simp only [Act.put, List.setIfInBounds_toArray, List.set_cons_zero, List.set_cons_succ]
          iterate 1 (refine wpPar_pure rfl (by rfl) _ (fun W hW => by
              go_simp
              exact rfl) ?_; simp only [Act.put, List.setIfInBounds_toArray, List.set_cons_zero, List.set_cons_succ])
          refine wpPar_nil (fun w9 hW hG => ?_)
          have hb : Ito 139 w9 wB.heap.size (.slice a13 AXD.length c13) AXD := hG 13
          have hfin : RMid 139 w (.slice (some ⟨b6, o6, none⟩) n6 c6) L (i + 1) (.slice a13 AXD.length c13) w9 := by
            have hsz := HXB.out.kept.size
            refine ⟨?_, HXB.out.all.kept hW (fun _ _ h => h), fun q hq h => ?_, HXB.out.kept.trans hW⟩
            · rw [HNEXT.out, HINS.out]
              exact hb.base hsz
            · have e1 := (hb.own q hq).1
              have e2 := (HXB.out.all.own q h).2
              omega
          have HF := hid hfin
          clear hG hs hW hb hfin s1 s2 iA iD
          go_wp2
          go_roundg (n6 - (i + 1))
          case measure => omega
          case rel => exact ⟨i + 1, _, _, _, _, rfl, by go_num, rfl, by omega, Nat.le_refl _, HF⟩
    · have hltz : ¬ (i : Int) < (n6 : Int) := by omega
      go_wp2
      go_ret
      have hi : i = L.length := by have := HL.out; omega
      refine ⟨_, rfl, ?_, HX.out.kept⟩
      have h := HX.out.out
      rwa [hi, List.take_length] at h
end RTr
end Go.Proofs.Ytibkijloibnkfaa
