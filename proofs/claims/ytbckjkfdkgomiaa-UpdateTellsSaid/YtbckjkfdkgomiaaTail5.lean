/- A region that draws its order, of which what stands behind operation n waits for all that is ahead: one walk of the head by a plan (XPar), then the rest as it stands. Program-independent. -/
import Derived.Test.YtbckjkfdkgomiaaKn
import Derived.StillTail
namespace Go.Pm
open Go Go.RowKit
section
variable {P : Program} {ops : Array Oper} {md : Region.Mode} {T : Plan}

/-- Whatever order of the head. -/
def wpAnyPL (P : Program) (md : Region.Mode) (T : Plan) (ops : Array Oper) (n : Nat) (L : Array Bool → Act → (Nat → World → Prop) → Prop) : Nat → Array Bool → Act → (Nat → World → Prop) → Prop
  | 0, listed, a, G => L listed a G
  | fuel + 1, listed, a, G => Region.ready md ops listed ≠ [] ∧ ∀ i ∈ Region.ready md ops listed, i < n ∧ ∀ o, ops[i]? = some o → ParOp P T ops i o a G (wpAnyPL P md T ops n L fuel (listed.setIfInBounds i true))

theorem wpAnyPL_first (hok : T.ok md ops = true) {w0 : World} (hbase : T.base w0) (hpure : ∀ k, T.adds k = true → ∃ v, T.pure k v) {n : Nat} {L : Array Bool → Act → (Nat → World → Prop) → Prop} {i : Nat} {oi : Oper} (hi : ops[i]? = some oi)
    (hsel : ∀ (j : Nat) (o : Oper) cs b, ops[j]? = some o → o.op ≠ .select cs b) (hs : Region.sinkB md ops n = true) (hc : Region.chainB md ops n = true) (hn : n < ops.size) (hin : i < n)
    (hdone : ∀ listed a G, L listed a G → ∀ j ∈ Region.ready md ops listed, n ≤ j) :
    ∀ (fuel : Nat) (listed : Array Bool) (a : Act) (G : Nat → World → Prop), HeadInv md ops n listed →
      (∀ j oj, ops[j]? = some oj → j ≠ i → listed.getD j true = false → (∀ e ∈ oj.after, Region.binds md e = true → e.on ≠ i) → oi.apart ops oj = true) →
      i ∈ Region.ready md ops listed → ParOp P T ops i oi a G (wpAnyPL P md T ops n L fuel (listed.setIfInBounds i true)) →
      wpAnyPL P md T ops n L (fuel + 1) listed a G := by
  intro fuel
  induction fuel with
  | zero =>
    intro listed a G inv hfree hr H
    have hun := (mem_ready.1 hr).1
    refine ⟨fun h => (by rw [h] at hr; cases hr), fun j hj => ?_⟩
    have hjn : j < n := by
      rcases Nat.lt_or_ge j n with h | h
      · exact h
      · exact absurd hj (tail_waits hs hc hn inv _ i rfl hin hun j h)
    refine ⟨hjn, fun oj hoj => ?_⟩
    by_cases hji : j = i
    · subst hji
      rw [hi] at hoj
      cases hoj
      exact H
    · exfalso
      have hno := ready_mono hj hji
      have hge : n ≤ j := by
        by_cases hw : Region.wanted oi (yielded ops a.tmps) = true
        · rw [parOp_iff hbase hw] at H
          cases hRi : T.adds i with
          | false =>
            rw [hRi] at H
            obtain ⟨⟨v, hv⟩, h2⟩ := H
            exact hdone _ _ _ (h2 v hv) j hno
          | true =>
            rw [hRi] at H
            obtain ⟨v, hv⟩ := hpure i hRi
            exact hdone _ _ _ (H.2 v hv) j hno
        · unfold ParOp at H
          rw [if_neg hw] at H
          exact hdone _ _ _ H j hno
      omega
  | succ fuel ih =>
    intro listed a G inv hfree hr H
    have hun := (mem_ready.1 hr).1
    refine ⟨fun h => (by rw [h] at hr; cases hr), fun j hj => ?_⟩
    have hjn : j < n := by
      rcases Nat.lt_or_ge j n with h | h
      · exact h
      · exact absurd hj (tail_waits hs hc hn inv _ i rfl hin hun j h)
    refine ⟨hjn, fun oj hoj => ?_⟩
    have hdown : Down md ops listed := inv.closed
    by_cases hji : j = i
    · subst hji
      rw [hi] at hoj
      cases hoj
      exact H
    · obtain ⟨hjun, oj', hoj', hall⟩ := mem_ready.1 hj
      rw [hoj] at hoj'
      cases hoj'
      obtain ⟨hiun, oi', hoi', halli⟩ := mem_ready.1 hr
      rw [hi] at hoi'
      cases hoi'
      have hltI : i < ops.size := (Array.getElem?_eq_some_iff.1 hi).1
      have hltJ : j < ops.size := (Array.getElem?_eq_some_iff.1 hoj).1
      have nowait : ∀ (x : Nat) (o : Oper), listed.getD x true = false → (∀ e ∈ o.after, Region.binds md e = true → listed.getD e.on false = true) → ∀ e ∈ o.after, Region.binds md e = true → e.on ≠ x := fun x o hx ho e he hb heq => by
        have h1 := ho e he hb
        rw [heq] at h1
        rcases Nat.lt_or_ge x listed.size with h' | h'
        · simp [h'] at hx h1; rw [hx] at h1; cases h1
        · simp [Array.getElem?_eq_none h'] at h1
      have nwj := nowait i oj hiun hall
      have nwi := nowait j oi hjun halli
      have unlisted : ∀ x, listed.getD x true = false → listed.getD x false = false := fun x hx => by
        rcases Nat.lt_or_ge x listed.size with h' | h'
        · simpa [h'] using hx
        · simp [Array.getElem?_eq_none h']
      have wji : waits md ops j i = false := by
        cases hw : waits md ops j i with
        | false => rfl
        | true => have h1 := waitsN_listed hdown 6 j i oj hoj hall hw; rw [unlisted i hiun] at h1; cases h1
      have wij : waits md ops i j = false := by
        cases hw : waits md ops i j with
        | false => rfl
        | true => have h1 := waitsN_listed hdown 6 i j oi hi halli hw; rw [unlisted j hjun] at h1; cases h1
      have hdown' := inv.set hj hjn
      -- neither leans on the other's fact, nor uses up what the other leans on
      have uji : i ∉ T.uses j := fun h => by rcases ok_uses hok hltJ h with h' | h'; omega; rw [wji] at h'; cases h'
      have uij : j ∉ T.uses i := fun h => by rcases ok_uses hok hltI h with h' | h'; omega; rw [wij] at h'; cases h'
      have sji : i ∉ T.spends j := fun h => uji (ok_spends hok hltJ h)
      have sij : j ∉ T.spends i := fun h => uij (ok_spends hok hltI h)
      have sIJ : ∀ k ∈ T.uses i, k ∉ T.spends j := fun k hk hs => ok_apart hok hltI hltJ (Ne.symm hji) wij wji hs hk
      have hap := hfree j oj hoj hji hjun nwj
      obtain ⟨h1, h2, h3⟩ := Oper.apart_spec hap
      have hready' : j ∈ Region.ready md ops (listed.setIfInBounds i true) := ready_mono hj hji
      have eqj : ∀ v, execOp (a.put oi.dst v).eval oj = execOp a.eval oj := fun v => execOp_put oj (fun cs b => hsel j oj cs b hoj) a oi.dst v h1
      have eqi : ∀ u, execOp (a.put oj.dst u).eval oi = execOp a.eval oi := fun u => execOp_put oi (fun cs b => hsel i oi cs b hi) a oj.dst u h3
      have wj : ∀ v, Region.wanted oj (yielded ops (a.put oi.dst v).tmps) = Region.wanted oj (yielded ops a.tmps) := fun v => wanted_put oj a oi.dst v h1
      have wi : ∀ u, Region.wanted oi (yielded ops (a.put oj.dst u).tmps) = Region.wanted oi (yielded ops a.tmps) := fun u => wanted_put oi a oj.dst u h3
      have hlisted : (listed.setIfInBounds i true).setIfInBounds j true = (listed.setIfInBounds j true).setIfInBounds i true := (Array.setIfInBounds_comm _ _ hji).symm
      have hfree' : ∀ k ok, ops[k]? = some ok → k ≠ i → (listed.setIfInBounds j true).getD k true = false →
          (∀ e ∈ ok.after, Region.binds md e = true → e.on ≠ i) → oi.apart ops ok = true := fun k ok hk hki hun hno => by
        refine hfree k ok hk hki ?_ hno
        by_cases hjk : j = k
        · subst hjk; exact hjun
        · rw [getD_set_ne true hjk] at hun; exact hun
      have hri' : i ∈ Region.ready md ops (listed.setIfInBounds j true) := ready_mono hr (Ne.symm hji)
      have askJ : ∀ (v : Value), Asked P T j oj (a.put oi.dst v) (Then T G i v (T.adds i)) (T.adds j) → Asked P T j oj a G (T.adds j) := fun v h => by
        cases hRj : T.adds j with
        | false => rw [hRj] at h; obtain ⟨u, hu⟩ := h; exact ⟨u, fun W hW => by rw [← eqj v]; exact hu W hW⟩
        | true =>
          rw [hRj] at h
          refine fun W hW hd => (h W hW (fun k hk => ?_)).of_eq (eqj v).symm
          cases hRi : T.adds i with
          | false => exact hd k hk
          | true =>
            have hki : k ≠ i := fun e => uji (e ▸ hk)
            simp only [Then]
            by_cases hs : k ∈ T.spends i
            · rw [after_spent hki hs]; trivial
            · rw [after_ne hki hs]; exact hd k hk
      have askJ' : ∀ (v : Value), Asked P T j oj (a.put oi.dst v) G (T.adds j) → Asked P T j oj a G (T.adds j) := fun v h => by
        cases hRj : T.adds j with
        | false => rw [hRj] at h; obtain ⟨u, hu⟩ := h; exact ⟨u, fun W hW => by rw [← eqj v]; exact hu W hW⟩
        | true => rw [hRj] at h; exact fun W hW hd => (h W hW hd).of_eq (eqj v).symm
      have askI : ∀ (u : Value), Asked P T i oi a G (T.adds i) → Asked P T i oi (a.put oj.dst u) (Then T G j u (T.adds j)) (T.adds i) := fun u h => by
        cases hRi : T.adds i with
        | false => rw [hRi] at h; obtain ⟨v, hv⟩ := h; exact ⟨v, fun W hW => by rw [eqi u]; exact hv W hW⟩
        | true =>
          rw [hRi] at h
          refine fun W hW hd => (h W hW (fun k hk => ?_)).of_eq (eqi u)
          have := hd k hk
          cases hRj : T.adds j with
          | false => rw [hRj] at this; exact this
          | true =>
            rw [hRj] at this
            simp only [Then] at this
            rwa [after_ne (fun e : k = j => uij (e ▸ hk)) (sIJ k hk)] at this
      have askI' : ∀ (u : Value), Asked P T i oi a G (T.adds i) → Asked P T i oi (a.put oj.dst u) G (T.adds i) := fun u h => by
        cases hRi : T.adds i with
        | false => rw [hRi] at h; obtain ⟨v, hv⟩ := h; exact ⟨v, fun W hW => by rw [eqi u]; exact hv W hW⟩
        | true => rw [hRi] at h; exact fun W hW hd => (h W hW hd).of_eq (eqi u)
      have mayI : ∀ (u v : Value), May P T i oi (a.put oj.dst u) v (T.adds i) → May P T i oi a v (T.adds i) := fun u v h => by
        cases hRi : T.adds i with
        | false => rw [hRi] at h; exact fun W hW => by rw [← eqi u]; exact h W hW
        | true => rw [hRi] at h; exact h
      have mayJ : ∀ (v u : Value), May P T j oj a u (T.adds j) → May P T j oj (a.put oi.dst v) u (T.adds j) := fun v u h => by
        cases hRj : T.adds j with
        | false => rw [hRj] at h; exact fun W hW => by rw [eqj v]; exact h W hW
        | true => rw [hRj] at h; exact h
      have eG : ∀ u v, Then T (Then T G j u (T.adds j)) i v (T.adds i) = Then T (Then T G i v (T.adds i)) j u (T.adds j) := fun u v => by
        cases T.adds i <;> cases T.adds j <;> simp only [Then]
        funext k
        unfold Plan.after
        by_cases e1 : k = i
        · subst e1; rw [if_pos rfl, if_neg (Ne.symm hji), if_neg sji, if_pos rfl]
        · by_cases e2 : k = j
          · subst e2; rw [if_neg e1, if_neg sij, if_pos rfl, if_pos rfl]
          · rw [if_neg e1, if_neg e2, if_neg e2, if_neg e1]
            split <;> split <;> rfl
      by_cases hwj : Region.wanted oj (yielded ops a.tmps) = true
      · rw [parOp_iff hbase hwj]
        by_cases hwi : Region.wanted oi (yielded ops a.tmps) = true
        · rw [parOp_iff hbase hwi] at H
          obtain ⟨HA, HB⟩ := H
          obtain ⟨vs, hvs⟩ : ∃ v, May P T i oi a v (T.adds i) := by
            cases hRi : T.adds i with
            | false => rw [hRi] at HA; exact HA
            | true => exact hpure i hRi
          have hjv := ((HB vs hvs).2 j hready').2 oj hoj
          rw [parOp_iff hbase (by rw [wj]; exact hwj)] at hjv
          refine ⟨askJ vs hjv.1, fun u hu => ?_⟩
          refine ih (listed.setIfInBounds j true) (a.put oj.dst u) (Then T G j u (T.adds j)) hdown' hfree' hri' ?_
          rw [parOp_iff hbase (by rw [wi]; exact hwi)]
          refine ⟨askI u HA, fun v hv => ?_⟩
          have hk := ((HB v (mayI u v hv)).2 j hready').2 oj hoj
          rw [parOp_iff hbase (by rw [wj]; exact hwj)] at hk
          have hfin := hk.2 u (mayJ v u hu)
          rw [← hlisted, ← Act.put_comm a v u h2, eG]
          exact hfin
        · unfold ParOp at H
          rw [if_neg hwi] at H
          have hjv := (H.2 j hready').2 oj hoj
          rw [parOp_iff hbase (by rw [wj]; exact hwj)] at hjv
          refine ⟨askJ' undef hjv.1, fun u hu => ?_⟩
          refine ih (listed.setIfInBounds j true) (a.put oj.dst u) (Then T G j u (T.adds j)) hdown' hfree' hri' ?_
          unfold ParOp
          rw [if_neg (by rw [wi]; exact hwi)]
          have hfin := hjv.2 u (mayJ undef u hu)
          rw [← hlisted, ← Act.put_comm a undef u h2]
          exact hfin
      · unfold ParOp
        rw [if_neg hwj]
        refine ih (listed.setIfInBounds j true) (a.put oj.dst undef) G hdown' hfree' hri' ?_
        by_cases hwi : Region.wanted oi (yielded ops a.tmps) = true
        · rw [parOp_iff hbase hwi] at H
          rw [parOp_iff hbase (by rw [wi]; exact hwi)]
          refine ⟨askI' undef H.1, fun v hv => ?_⟩
          have hk := ((H.2 v (mayI undef v hv)).2 j hready').2 oj hoj
          unfold ParOp at hk
          rw [if_neg (by rw [wj]; exact hwj)] at hk
          rw [← hlisted, ← Act.put_comm a v undef h2]
          exact hk
        · unfold ParOp at H ⊢
          rw [if_neg hwi] at H
          rw [if_neg (by rw [wi]; exact hwi)]
          have hk := (H.2 j hready').2 oj hoj
          unfold ParOp at hk
          rw [if_neg (by rw [wj]; exact hwj)] at hk
          rw [← hlisted, ← Act.put_comm a undef undef h2]
          exact hk


theorem wpAnyPL_lex (hok : T.ok md ops = true) {w0 : World} (hbase : T.base w0) (hpure : ∀ k, T.adds k = true → ∃ v, T.pure k v) {n g : Nat} {Lq : Act → World → Prop} (hsel : Region.noSelect ops = true) (hs : Region.sinkB md ops n = true) (hc : Region.chainB md ops n = true) (hn : n < ops.size) :
    ∀ (l : List Oper) (k : Nat) (listed : Array Bool) (a : Act) (G : Nat → World → Prop), (∀ j, j < l.length → l[j]? = ops[k + j]?) → k + l.length = n → HeadInv md ops n listed →
    Region.lexHead md ops g l.length k listed = true → wpPar P T ops Lq k l a G →
    wpAnyPL P md T ops n (fun listed' a' G' => Region.seqB md ops g n listed' = true ∧ ∀ W, T.base W → (∀ i, G' i W) → Lq a' W) l.length listed a G
  | [], k, listed, a, G, _, hk, _, hB, h => by
    have : k = n := by simpa using hk
    subst this
    exact ⟨by simpa [Region.lexHead] using hB, h⟩
  | o :: l, k, listed, a, G, hl, hk, inv, hB, h => by
    have h0 : ops[k]? = some o := by simpa using (hl 0 (by simp)).symm
    simp only [List.length_cons, Region.lexHead, Bool.and_eq_true] at hB
    obtain ⟨⟨hr, hf⟩, hB'⟩ := hB
    have hkn : k < n := by simp only [List.length_cons] at hk; omega
    have hr' : k ∈ Region.ready md ops listed := by simpa using hr
    have next : ∀ (a' : Act) (G' : Nat → World → Prop), wpPar P T ops Lq (k + 1) l a' G' → wpAnyPL P md T ops n (fun listed' a' G' => Region.seqB md ops g n listed' = true ∧ ∀ W, T.base W → (∀ i, G' i W) → Lq a' W) l.length (listed.setIfInBounds k true) a' G' := fun a' G' h' =>
      wpAnyPL_lex hok hbase hpure hsel hs hc hn l (k + 1) _ a' G' (fun j hj => by have := hl (j + 1) (by simp; omega); simpa [Nat.add_assoc, Nat.add_comm 1 j] using this) (by simp only [List.length_cons] at hk; omega) (inv.set hr' hkn) hB' h'
    refine wpAnyPL_first hok hbase hpure h0 (Region.noSelect_spec hsel) hs hc hn hkn (fun listed' a' G' hL => seqB_ready hL.1) l.length listed a G inv (Region.free_spec h0 hf) hr' ?_
    have hP : ParOp P T ops k o a G (wpPar P T ops Lq (k + 1) l) := h
    unfold ParOp at hP ⊢
    split
    · rename_i hw
      rw [if_pos hw] at hP
      split
      · rename_i hR
        rw [if_pos hR] at hP
        exact ⟨hP.1, fun v hv => next _ _ (hP.2 v hv)⟩
      · rename_i hR
        rw [if_neg hR] at hP
        obtain ⟨v, h1, h2⟩ := hP
        exact ⟨v, h1, next _ _ h2⟩
    · rename_i hw
      rw [if_neg hw] at hP
      exact next _ _ hP

theorem wpAny_of_parL (hok : T.ok md ops = true) {n g : Nat} {L : Array Bool → Act → (Nat → World → Prop) → Prop} {Q' : Exit → Act → World → Prop} (hL : ∀ listed a G w, L listed a G → T.base w → (∀ i, G i w) → wpAny P md ops Q' g listed a w) : ∀ (fuel : Nat) (listed : Array Bool) (a : Act) (G : Nat → World → Prop) (w : World), T.known G → Down md ops listed → (listed.size = ops.size ∧ ∀ k, k < ops.size → listed.getD k false = false → ∀ W, G k W) → T.base w → (∀ i, G i w) →
    wpAnyPL P md T ops n L fuel listed a G → wpAny P md ops Q' (fuel + g) listed a w
  | 0, _, _, _, _, _, _, _, hb, hw, h => by rw [Nat.zero_add]; exact hL _ _ _ _ h hb hw
  | fuel + 1, listed, a, G, w, hG, hD, ⟨hS, hN⟩, hb, hw, h => by
    rw [show fuel + 1 + g = (fuel + g) + 1 by omega]
    refine ⟨fun h0 => absurd h0 h.1, fun i hi => ?_⟩
    obtain ⟨hiun, o, ho, halli⟩ := mem_ready.1 hi
    have hP := (h.2 i hi).2 o ho
    have hltI : i < ops.size := (Array.getElem?_eq_some_iff.1 ho).1
    have hD' := hD.set ho halli
    have hN' : ∀ G' : Nat → World → Prop, (∀ k, k ≠ i → G' k = G k ∨ ∀ W, G' k W) → (listed.setIfInBounds i true).size = ops.size ∧ ∀ k, k < ops.size → (listed.setIfInBounds i true).getD k false = false → ∀ W, G' k W := fun G' hg => ⟨by simpa using hS, fun k hk hl W => by
      have hki : k ≠ i := fun e => by subst e; simp [hS, hk] at hl
      rw [getD_set_ne false (Ne.symm hki)] at hl
      rcases hg k hki with e | e
      · rw [e]; exact hN k hk hl W
      · exact e W⟩
    have hlater : ∀ k ∈ T.later i, ∀ W, G k W := fun k hk => by
      obtain ⟨hkl, hkw⟩ := ok_later hok hltI hk
      refine hN k hkl ?_
      cases hl : listed.getD k false with
      | false => rfl
      | true =>
        obtain ⟨ok, hok'⟩ : ∃ ok, ops[k]? = some ok := ⟨ops[k], Array.getElem?_eq_getElem hkl⟩
        have h1 := waitsN_listed hD 6 k i ok hok' (hD k ok hok' hl) hkw
        have h2 : listed.getD i false = false := by
          have := hS ▸ hltI
          simpa [this] using hiun
        rw [h2] at h1
        cases h1
    unfold ParOp at hP
    unfold wpOp
    simp only [ho]
    split
    · rename_i hwt
      rw [if_pos hwt] at hP
      refine .inl ?_
      by_cases hR : T.adds i = true
      · rw [if_pos hR] at hP
        refine (hP.1 w hb (fun j _ => hw j)).wp fun v W' ⟨hb', hp, hf, hk⟩ => ?_
        refine wpAny_of_parL hok hL fuel _ _ (T.after G i v) W' (fun k => ?_) hD' (hN' _ fun k hk => ?_) hb' (fun k => ?_) (hP.2 v hp)
        · by_cases e : k = i
          · subst e; exact .inr ⟨v, after_same G k v⟩
          · by_cases hs : k ∈ T.spends i
            · rw [after_spent e hs]; exact .inl fun _ => trivial
            · rw [after_ne e hs]; exact hG k
        · by_cases hs : k ∈ T.spends i
          · right; rw [after_spent hk hs]; exact fun _ => trivial
          · left; exact after_ne hk hs v
        · by_cases e : k = i
          · subst e; rw [after_same]; exact hf
          · by_cases hs : k ∈ T.spends i
            · rw [after_spent e hs]; trivial
            · rw [after_ne e hs]
              rcases hG k with h' | ⟨u, hu⟩
              · exact h' _
              · have := hw k
                by_cases hl : k ∈ T.later i
                · exact hlater k hl _
                · rw [hu] at this ⊢
                  exact hk k hs hl e u this
      · rw [if_neg hR] at hP
        obtain ⟨v, h1, h2⟩ := hP
        unfold Oper.wp
        rw [h1 w hb]
        exact wpAny_of_parL hok hL fuel _ _ G w hG hD' (hN' G fun _ _ => .inl rfl) hb hw h2
    · rename_i hwt
      rw [if_neg hwt] at hP
      exact wpAny_of_parL hok hL fuel _ _ G w hG hD' (hN' G fun _ _ => .inl rfl) hb hw hP


/-- ONE WALK OF THE HEAD SERVES EVERY ORDER of it; what stands behind it waits for all of it. -/
theorem wp_region_plan_tail {id : Nat} {Q : Exit → Act → World → Prop} {a : Act} {w : World} {l : List Oper} (n : Nat) (base : World → Prop) (F : List Fct) (inits : List Nat) (hm : P.follows .mixedOrders = true) (hB : Region.lexTailB .any l.toArray n = true) (hok : (planOf base F).ok .any l.toArray = true)
    (hin : inits.all (fun k => decide (l.length ≤ k)) = true) (hpure : ∀ f ∈ F, ∃ v, f.pure v) (hbase : base w.drew) (hw : ∀ k ∈ inits, (planOf base F).fact k undef w.drew)
    (h : wpPar P (planOf base F) l.toArray (fun a' w' => wpList P l.toArray Q (l.drop n) a' w') 0 (l.take n) a (starts (planOf base F) inits)) : (Code.region id l.toArray true).wp P Q a w := by
  simp only [Region.lexTailB, Bool.and_eq_true, decide_eq_true_eq] at hB
  obtain ⟨⟨⟨⟨hsel, hn⟩, hs⟩, hc⟩, hlex⟩ := hB
  have htl : (l.take n).length = n := by simp at hn; simp; omega
  have hdl : (l.drop n).length = l.toArray.size - n := by simp
  have inv0 : HeadInv .any l.toArray n (Array.replicate l.toArray.size false) :=
    ⟨by simp, fun j oj _ hl => (by rw [getD_replicate_false] at hl; cases hl), fun t _ ht => getD_in (by simpa using ht) (getD_replicate_false _ _)⟩
  have hp : ∀ k, (planOf base F).adds k = true → ∃ v, (planOf base F).pure k v := fun k _ => by
    simp only [planOf]
    cases hfind : F.find? (fun f => f.k == k) with
    | none => exact ⟨undef, trivial⟩
    | some f => exact hpure f (List.mem_of_find?_eq_some hfind)
  have H := wpAnyPL_lex (P := P) (md := .any) (g := l.toArray.size - n) hok hbase hp hsel hs hc hn (l.take n) 0 _ a _ (fun j hj => by
    have hj' : j < n := by rw [htl] at hj; exact hj
    simp [hj']) (by simpa using htl) inv0 (by rw [htl]; exact hlex) h
  refine wp_region_any hm ?_
  have := wpAny_of_parL (P := P) (Q' := Q) (g := l.toArray.size - n) hok (fun listed a' G' w' hL hb hG => by
    have := wpAny_of_seq (md := .any) (Q' := Q) (l.drop n) n listed a' w' (fun j => by simp [List.getElem?_drop]) (by rw [hdl]; exact hL.1) (hL.2 w' hb hG)
    rwa [hdl] at this) _ _ _ _ w.drew (starts_known _ inits) inv0.closed ⟨by simp, fun k hk _ => ?_⟩ hbase (fun k => ?_) H
  · rw [htl, show n + (l.toArray.size - n) = l.toArray.size by omega] at this
    exact this
  · intro W
    unfold starts
    rw [if_neg]
    · trivial
    · intro hmm
      have := List.all_eq_true.1 hin k hmm
      simp only [decide_eq_true_eq] at this
      simp at hk
      omega
  · unfold starts
    split
    · rename_i hk; exact hw k hk
    · trivial
end
end Go.Pm
