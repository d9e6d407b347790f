/- A region that draws its order, once more: what an operation leaves known may speak of a slot of the frame ('key'): so a store into what the region itself has laid can be told. Program-independent. -/
import Derived.Test.YtidegffdhpdhjaaNm7
namespace Go.Pm
namespace Ky
open Go Go.RowKit
/-- What is said upfront. -/
structure Plan where
  base : World → Prop
  key : Nat → Option Tmp
  adds : Nat → Bool
  uses : Nat → List Nat
  spends : Nat → List Nat
  later : Nat → List Nat
  pure : Nat → Value → Prop
  fact : Nat → Value × Value → World → Prop
/-- What the frame has at the slot that operation i names. -/
def Plan.kv (T : Plan) (a : Act) (i : Nat) : Value := match T.key i with | some t => a.tmps.getD t undef | none => undef

/-- What is known behind operation i. -/
def Plan.after (T : Plan) (G : Nat → World → Prop) (i : Nat) (v : Value × Value) : Nat → World → Prop := fun k => if k = i then T.fact i v else if k ∈ T.spends i then fun _ => True else G k
/-- Every fact that operation i doesn't use up stays ('later i': operations that wait for i: their facts aren't there yet). -/
def Plan.keeps (T : Plan) (i : Nat) (W W' : World) : Prop := ∀ k, k ∉ T.spends i → k ∉ T.later i → k ≠ i → ∀ u, T.fact k u W → T.fact k u W'
/-- What operation i leaves. -/
def Plan.leaves (T : Plan) (i : Nat) (kv : Value) (W : World) (v : Value) (W' : World) : Prop := T.base W' ∧ T.pure i v ∧ T.fact i (kv, v) W' ∧ T.keeps i W W'

theorem kv_put {T : Plan} {a : Act} {i : Nat} {d : Option Tmp} (h : ∀ t, T.key i = some t → d = some t → False) (v : Value) : T.kv (a.put d v) i = T.kv a i := by
  unfold Plan.kv
  cases hk : T.key i with
  | none => rfl
  | some t =>
    cases d with
    | none => rfl
    | some t' =>
      have hne : t' ≠ t := fun e => h t hk (by rw [e])
      simp only [Act.put]
      rw [Array.getD_eq_getD_getElem?, Array.getD_eq_getD_getElem?, Array.getElem?_setIfInBounds_ne hne]
section
variable {P : Program} {ops : Array Oper} {md : Region.Mode} {T : Plan}

/-- Operation k comes up: what is asked of it, and what follows. -/
def ParOp (P : Program) (T : Plan) (ops : Array Oper) (k : Nat) (o : Oper) (a : Act) (G : Nat → World → Prop) (K : Act → (Nat → World → Prop) → Prop) : Prop :=
  if Region.wanted o (yielded ops a.tmps) = true then
    if T.adds k = true then
      (∀ W, T.base W → (∀ j ∈ T.uses k, G j W) → Gives P o a W (T.leaves k (T.kv a k) W)) ∧ ∀ v, T.pure k v → K (a.put o.dst v) (T.after G k (T.kv a k, v))
    else ∃ v, (∀ W, T.base W → (execOp a.eval o).run P W = .ok (.value v) W) ∧ K (a.put o.dst v) G
  else K (a.put o.dst undef) G

/-- The lexical walk. -/
def wpPar (P : Program) (T : Plan) (ops : Array Oper) (Q : Act → World → Prop) : Nat → List Oper → Act → (Nat → World → Prop) → Prop
  | _, [], a, G => ∀ W, T.base W → (∀ i, G i W) → Q a W
  | k, o :: rest, a, G => ParOp P T ops k o a G (wpPar P T ops Q (k + 1) rest)

/-- Whatever order. -/
def wpAnyP (P : Program) (md : Region.Mode) (T : Plan) (ops : Array Oper) (Q : Act → World → Prop) : Nat → Array Bool → Act → (Nat → World → Prop) → Prop
  | 0, listed, a, G => Region.ready md ops listed = [] ∧ ∀ W, T.base W → (∀ i, G i W) → Q a W
  | fuel + 1, listed, a, G => (Region.ready md ops listed = [] → ∀ W, T.base W → (∀ i, G i W) → Q a W) ∧
    ∀ i ∈ Region.ready md ops listed, ∀ o, ops[i]? = some o → ParOp P T ops i o a G (wpAnyP P md T ops Q fuel (listed.setIfInBounds i true))

theorem after_same (G : Nat → World → Prop) (k : Nat) (v : Value × Value) : T.after G k v k = T.fact k v := if_pos rfl
theorem after_spent {G : Nat → World → Prop} {i k : Nat} (h : k ≠ i) (hs : k ∈ T.spends i) (v : Value × Value) : T.after G i v k = fun _ => True := by unfold Plan.after; rw [if_neg h, if_pos hs]
theorem after_ne {G : Nat → World → Prop} {i k : Nat} (h : k ≠ i) (hs : k ∉ T.spends i) (v : Value × Value) : T.after G i v k = G k := by unfold Plan.after; rw [if_neg h, if_neg hs]

/-- Is the plan sound: an operation leans on what it waits for; what it uses up no other one leans on that isn't ordered with it. -/
def Plan.ok (T : Plan) (md : Region.Mode) (ops : Array Oper) : Bool :=
  (List.range ops.size).all fun i => (T.uses i).all (fun j => decide (ops.size ≤ j) || waits md ops i j) && (T.spends i).all (fun j => (T.uses i).contains j) && (T.later i).all (fun j => decide (j < ops.size) && waits md ops j i) && ((List.range ops.size).all fun j => match T.key i with | none => true | some t => ((ops[j]?).bind (·.dst)) != some t || i == j || waits md ops i j) &&
    (List.range ops.size).all fun j => i == j || ((T.spends j).all fun k => !(T.uses i).contains k) || waits md ops i j || waits md ops j i

section
variable (hok : T.ok md ops = true)
include hok
theorem ok_uses {i j : Nat} (hi : i < ops.size) (hj : j ∈ T.uses i) : ops.size ≤ j ∨ waits md ops i j = true := by
  have := List.all_eq_true.1 hok i (List.mem_range.2 hi)
  simp only [Bool.and_eq_true] at this
  have h3 := List.all_eq_true.1 this.1.1.1.1 j hj
  simpa [Bool.or_eq_true, decide_eq_true_eq] using h3
theorem ok_spends {i j : Nat} (hi : i < ops.size) (hj : j ∈ T.spends i) : j ∈ T.uses i := by
  have := List.all_eq_true.1 hok i (List.mem_range.2 hi)
  simp only [Bool.and_eq_true] at this
  have h3 := List.all_eq_true.1 this.1.1.1.2 j hj
  simpa [List.contains_iff_mem] using h3
theorem ok_later {i j : Nat} (hi : i < ops.size) (hj : j ∈ T.later i) : j < ops.size ∧ waits md ops j i = true := by
  have := List.all_eq_true.1 hok i (List.mem_range.2 hi)
  simp only [Bool.and_eq_true] at this
  have h3 := List.all_eq_true.1 this.1.1.2 j hj
  simpa [Bool.and_eq_true, decide_eq_true_eq] using h3
theorem ok_key {i j : Nat} (hi : i < ops.size) (hj : j < ops.size) {t : Tmp} (hk : T.key i = some t) (hd : (ops[j]?).bind (·.dst) = some t) (hne : i ≠ j) : waits md ops i j = true := by
  have := List.all_eq_true.1 hok i (List.mem_range.2 hi)
  simp only [Bool.and_eq_true] at this
  have h2 := List.all_eq_true.1 this.1.2 j (List.mem_range.2 hj)
  rw [hk] at h2
  simp only [Bool.or_eq_true, bne_iff_ne, beq_iff_eq] at h2
  rcases h2 with (h2 | h2) | h2
  · exact absurd hd h2
  · exact absurd h2 hne
  · exact h2
theorem ok_apart {i j k : Nat} (hi : i < ops.size) (hj : j < ops.size) (hne : i ≠ j) (h1 : waits md ops i j = false) (h2 : waits md ops j i = false) (hk : k ∈ T.spends j) : k ∉ T.uses i := by
  have := List.all_eq_true.1 hok i (List.mem_range.2 hi)
  simp only [Bool.and_eq_true] at this
  have h3 := List.all_eq_true.1 this.2 j (List.mem_range.2 hj)
  simp only [h1, h2, Bool.or_false, Bool.or_eq_true, beq_iff_eq, hne, false_or] at h3
  have h4 := List.all_eq_true.1 h3 k hk
  simpa using h4
end

/-- Asked of an operation; the values that it may come to; what is known then: by kind. -/
def Asked (P : Program) (T : Plan) (k : Nat) (o : Oper) (a : Act) (G : Nat → World → Prop) : Bool → Prop
  | true => ∀ W, T.base W → (∀ j ∈ T.uses k, G j W) → Gives P o a W (T.leaves k (T.kv a k) W)
  | false => ∃ v, ∀ W, T.base W → (execOp a.eval o).run P W = .ok (.value v) W
def May (P : Program) (T : Plan) (k : Nat) (o : Oper) (a : Act) (v : Value) : Bool → Prop
  | true => T.pure k v
  | false => ∀ W, T.base W → (execOp a.eval o).run P W = .ok (.value v) W
def Then (T : Plan) (G : Nat → World → Prop) (k : Nat) (v : Value × Value) : Bool → Nat → World → Prop
  | true => T.after G k v
  | false => G

theorem parOp_iff {k : Nat} {o : Oper} {a : Act} {G : Nat → World → Prop} {K : Act → (Nat → World → Prop) → Prop} {w0 : World} (hbase : T.base w0) (hw : Region.wanted o (yielded ops a.tmps) = true) :
    ParOp P T ops k o a G K ↔ Asked P T k o a G (T.adds k) ∧ ∀ v, May P T k o a v (T.adds k) → K (a.put o.dst v) (Then T G k (T.kv a k, v) (T.adds k)) := by
  unfold ParOp
  rw [if_pos hw]
  cases hR : T.adds k with
  | false =>
    rw [if_neg (by decide)]
    constructor
    · rintro ⟨v, h1, h2⟩
      refine ⟨⟨v, h1⟩, fun u hu => ?_⟩
      have e := (h1 w0 hbase).symm.trans (hu w0 hbase)
      simp only [Result.ok.injEq, Next.value.injEq, and_true] at e
      subst e
      exact h2
    · rintro ⟨⟨v, h1⟩, h2⟩
      exact ⟨v, h1, h2 v h1⟩
  | true => rw [if_pos rfl]; exact Iff.rfl

/-- An operation that may come up now, and that no other one's doing concerns, may be taken first. -/
theorem wpAnyP_first (hok : T.ok md ops = true) {w0 : World} (hbase : T.base w0) (hpure : ∀ k, T.adds k = true → ∃ v, T.pure k v) {Q : Act → World → Prop} {i : Nat} {oi : Oper} (hi : ops[i]? = some oi)
    (hsel : ∀ (j : Nat) (o : Oper) cs b, ops[j]? = some o → o.op ≠ .select cs b) :
    ∀ (fuel : Nat) (listed : Array Bool) (a : Act) (G : Nat → World → Prop), Down md ops listed →
      (∀ j oj, ops[j]? = some oj → j ≠ i → listed.getD j true = false → (∀ e ∈ oj.after, Region.binds md e = true → e.on ≠ i) → oi.apart ops oj = true) →
      i ∈ Region.ready md ops listed → ParOp P T ops i oi a G (wpAnyP P md T ops Q fuel (listed.setIfInBounds i true)) →
      wpAnyP P md T ops Q (fuel + 1) listed a G := by
  intro fuel
  induction fuel with
  | zero =>
    intro listed a G hdown hfree hr H
    refine ⟨fun h => (by rw [h] at hr; cases hr), fun j hj oj hoj => ?_⟩
    by_cases hji : j = i
    · subst hji
      rw [hi] at hoj
      cases hoj
      exact H
    · exfalso
      have hno := ready_mono hj hji
      have hnil : Region.ready md ops (listed.setIfInBounds i true) = [] := by
        by_cases hw : Region.wanted oi (yielded ops a.tmps) = true
        · rw [parOp_iff hbase hw] at H
          cases hRi : T.adds i with
          | false =>
            rw [hRi] at H
            obtain ⟨⟨v, hv⟩, h2⟩ := H
            exact (h2 v hv).1
          | true =>
            rw [hRi] at H
            obtain ⟨v, hv⟩ := hpure i hRi
            exact (H.2 v hv).1
        · unfold ParOp at H
          rw [if_neg hw] at H
          exact H.1
      rw [hnil] at hno
      cases hno
  | succ fuel ih =>
    intro listed a G hdown hfree hr H
    refine ⟨fun h => (by rw [h] at hr; cases hr), fun j hj oj hoj => ?_⟩
    by_cases hji : j = i
    · subst hji
      rw [hi] at hoj
      cases hoj
      exact H
    · obtain ⟨hjun, oj', hoj', hall⟩ := mem_ready.1 hj
      rw [hoj] at hoj'
      cases hoj'
      obtain ⟨hiun, oi', hoi', halli⟩ := mem_ready.1 hr
      rw [hi] at hoi'
      cases hoi'
      have hltI : i < ops.size := (Array.getElem?_eq_some_iff.1 hi).1
      have hltJ : j < ops.size := (Array.getElem?_eq_some_iff.1 hoj).1
      have nowait : ∀ (x : Nat) (o : Oper), listed.getD x true = false → (∀ e ∈ o.after, Region.binds md e = true → listed.getD e.on false = true) → ∀ e ∈ o.after, Region.binds md e = true → e.on ≠ x := fun x o hx ho e he hb heq => by
        have h1 := ho e he hb
        rw [heq] at h1
        rcases Nat.lt_or_ge x listed.size with h' | h'
        · simp [h'] at hx h1; rw [hx] at h1; cases h1
        · simp [Array.getElem?_eq_none h'] at h1
      have nwj := nowait i oj hiun hall
      have nwi := nowait j oi hjun halli
      have unlisted : ∀ x, listed.getD x true = false → listed.getD x false = false := fun x hx => by
        rcases Nat.lt_or_ge x listed.size with h' | h'
        · simpa [h'] using hx
        · simp [Array.getElem?_eq_none h']
      have wji : waits md ops j i = false := by
        cases hw : waits md ops j i with
        | false => rfl
        | true => have h1 := waitsN_listed hdown 6 j i oj hoj hall hw; rw [unlisted i hiun] at h1; cases h1
      have wij : waits md ops i j = false := by
        cases hw : waits md ops i j with
        | false => rfl
        | true => have h1 := waitsN_listed hdown 6 i j oi hi halli hw; rw [unlisted j hjun] at h1; cases h1
      have hdown' := hdown.set hoj hall
      -- neither leans on the other's fact, nor uses up what the other leans on
      have uji : i ∉ T.uses j := fun h => by rcases ok_uses hok hltJ h with h' | h'; omega; rw [wji] at h'; cases h'
      have uij : j ∉ T.uses i := fun h => by rcases ok_uses hok hltI h with h' | h'; omega; rw [wij] at h'; cases h'
      have sji : i ∉ T.spends j := fun h => uji (ok_spends hok hltJ h)
      have sij : j ∉ T.spends i := fun h => uij (ok_spends hok hltI h)
      have sIJ : ∀ k ∈ T.uses i, k ∉ T.spends j := fun k hk hs => ok_apart hok hltI hltJ (Ne.symm hji) wij wji hs hk
      have hap := hfree j oj hoj hji hjun nwj
      obtain ⟨h1, h2, h3⟩ := Oper.apart_spec hap
      have hready' : j ∈ Region.ready md ops (listed.setIfInBounds i true) := ready_mono hj hji
      have eqj : ∀ v, execOp (a.put oi.dst v).eval oj = execOp a.eval oj := fun v => execOp_put oj (fun cs b => hsel j oj cs b hoj) a oi.dst v h1
      have eqi : ∀ u, execOp (a.put oj.dst u).eval oi = execOp a.eval oi := fun u => execOp_put oi (fun cs b => hsel i oi cs b hi) a oj.dst u h3
      have wj : ∀ v, Region.wanted oj (yielded ops (a.put oi.dst v).tmps) = Region.wanted oj (yielded ops a.tmps) := fun v => wanted_put oj a oi.dst v h1
      have wi : ∀ u, Region.wanted oi (yielded ops (a.put oj.dst u).tmps) = Region.wanted oi (yielded ops a.tmps) := fun u => wanted_put oi a oj.dst u h3
      have kvj : ∀ v, T.kv (a.put oi.dst v) j = T.kv a j := fun v => kv_put (fun t ht hd => by
        have := ok_key hok hltJ hltI ht (by rw [hi]; exact hd) hji
        rw [wji] at this; cases this) v
      have kvi : ∀ u, T.kv (a.put oj.dst u) i = T.kv a i := fun u => kv_put (fun t ht hd => by
        have := ok_key hok hltI hltJ ht (by rw [hoj]; exact hd) (Ne.symm hji)
        rw [wij] at this; cases this) u
      have hlisted : (listed.setIfInBounds i true).setIfInBounds j true = (listed.setIfInBounds j true).setIfInBounds i true := (Array.setIfInBounds_comm _ _ hji).symm
      have hfree' : ∀ k ok, ops[k]? = some ok → k ≠ i → (listed.setIfInBounds j true).getD k true = false →
          (∀ e ∈ ok.after, Region.binds md e = true → e.on ≠ i) → oi.apart ops ok = true := fun k ok hk hki hun hno => by
        refine hfree k ok hk hki ?_ hno
        by_cases hjk : j = k
        · subst hjk; exact hjun
        · rw [getD_set_ne true hjk] at hun; exact hun
      have hri' : i ∈ Region.ready md ops (listed.setIfInBounds j true) := ready_mono hr (Ne.symm hji)
      have askJ : ∀ (v : Value) (p : Value × Value), Asked P T j oj (a.put oi.dst v) (Then T G i p (T.adds i)) (T.adds j) → Asked P T j oj a G (T.adds j) := fun v p h => by
        cases hRj : T.adds j with
        | false => rw [hRj] at h; obtain ⟨u, hu⟩ := h; exact ⟨u, fun W hW => by rw [← eqj v]; exact hu W hW⟩
        | true =>
          rw [hRj] at h
          unfold Asked at h ⊢
          rw [kvj v] at h
          refine fun W hW hd => (h W hW (fun k hk => ?_)).of_eq (eqj v).symm
          cases hRi : T.adds i with
          | false => exact hd k hk
          | true =>
            have hki : k ≠ i := fun e => uji (e ▸ hk)
            simp only [Then]
            by_cases hs : k ∈ T.spends i
            · rw [after_spent hki hs]; trivial
            · rw [after_ne hki hs]; exact hd k hk
      have askJ' : ∀ (v : Value), Asked P T j oj (a.put oi.dst v) G (T.adds j) → Asked P T j oj a G (T.adds j) := fun v h => by
        cases hRj : T.adds j with
        | false => rw [hRj] at h; obtain ⟨u, hu⟩ := h; exact ⟨u, fun W hW => by rw [← eqj v]; exact hu W hW⟩
        | true => rw [hRj] at h; unfold Asked at h ⊢; rw [kvj v] at h; exact fun W hW hd => (h W hW hd).of_eq (eqj v).symm
      have askI : ∀ (u : Value) (p : Value × Value), Asked P T i oi a G (T.adds i) → Asked P T i oi (a.put oj.dst u) (Then T G j p (T.adds j)) (T.adds i) := fun u p h => by
        cases hRi : T.adds i with
        | false => rw [hRi] at h; obtain ⟨v, hv⟩ := h; exact ⟨v, fun W hW => by rw [eqi u]; exact hv W hW⟩
        | true =>
          rw [hRi] at h
          unfold Asked at h ⊢
          rw [kvi u]
          refine fun W hW hd => (h W hW (fun k hk => ?_)).of_eq (eqi u)
          have := hd k hk
          cases hRj : T.adds j with
          | false => rw [hRj] at this; exact this
          | true =>
            rw [hRj] at this
            simp only [Then] at this
            rwa [after_ne (fun e : k = j => uij (e ▸ hk)) (sIJ k hk)] at this
      have askI' : ∀ (u : Value), Asked P T i oi a G (T.adds i) → Asked P T i oi (a.put oj.dst u) G (T.adds i) := fun u h => by
        cases hRi : T.adds i with
        | false => rw [hRi] at h; obtain ⟨v, hv⟩ := h; exact ⟨v, fun W hW => by rw [eqi u]; exact hv W hW⟩
        | true => rw [hRi] at h; unfold Asked at h ⊢; rw [kvi u]; exact fun W hW hd => (h W hW hd).of_eq (eqi u)
      have mayI : ∀ (u v : Value), May P T i oi (a.put oj.dst u) v (T.adds i) → May P T i oi a v (T.adds i) := fun u v h => by
        cases hRi : T.adds i with
        | false => rw [hRi] at h; exact fun W hW => by rw [← eqi u]; exact h W hW
        | true => rw [hRi] at h; exact h
      have mayJ : ∀ (v u : Value), May P T j oj a u (T.adds j) → May P T j oj (a.put oi.dst v) u (T.adds j) := fun v u h => by
        cases hRj : T.adds j with
        | false => rw [hRj] at h; exact fun W hW => by rw [eqj v]; exact h W hW
        | true => rw [hRj] at h; exact h
      have eG : ∀ u v : Value × Value, Then T (Then T G j u (T.adds j)) i v (T.adds i) = Then T (Then T G i v (T.adds i)) j u (T.adds j) := fun u v => by
        cases T.adds i <;> cases T.adds j <;> simp only [Then]
        funext k
        unfold Plan.after
        by_cases e1 : k = i
        · subst e1; rw [if_pos rfl, if_neg (Ne.symm hji), if_neg sji, if_pos rfl]
        · by_cases e2 : k = j
          · subst e2; rw [if_neg e1, if_neg sij, if_pos rfl, if_pos rfl]
          · rw [if_neg e1, if_neg e2, if_neg e2, if_neg e1]
            split <;> split <;> rfl
      by_cases hwj : Region.wanted oj (yielded ops a.tmps) = true
      · rw [parOp_iff hbase hwj]
        by_cases hwi : Region.wanted oi (yielded ops a.tmps) = true
        · rw [parOp_iff hbase hwi] at H
          obtain ⟨HA, HB⟩ := H
          obtain ⟨vs, hvs⟩ : ∃ v, May P T i oi a v (T.adds i) := by
            cases hRi : T.adds i with
            | false => rw [hRi] at HA; exact HA
            | true => exact hpure i hRi
          have hjv := (HB vs hvs).2 j hready' oj hoj
          rw [parOp_iff hbase (by rw [wj]; exact hwj)] at hjv
          rw [kvj] at hjv
          refine ⟨askJ vs _ hjv.1, fun u hu => ?_⟩
          refine ih (listed.setIfInBounds j true) (a.put oj.dst u) (Then T G j (T.kv a j, u) (T.adds j)) hdown' hfree' hri' ?_
          rw [parOp_iff hbase (by rw [wi]; exact hwi), kvi]
          refine ⟨askI u _ HA, fun v hv => ?_⟩
          have hk := (HB v (mayI u v hv)).2 j hready' oj hoj
          rw [parOp_iff hbase (by rw [wj]; exact hwj), kvj] at hk
          have hfin := hk.2 u (mayJ v u hu)
          rw [← hlisted, ← Act.put_comm a v u h2, eG]
          exact hfin
        · unfold ParOp at H
          rw [if_neg hwi] at H
          have hjv := H.2 j hready' oj hoj
          rw [parOp_iff hbase (by rw [wj]; exact hwj)] at hjv
          rw [kvj] at hjv
          refine ⟨askJ' undef hjv.1, fun u hu => ?_⟩
          refine ih (listed.setIfInBounds j true) (a.put oj.dst u) (Then T G j (T.kv a j, u) (T.adds j)) hdown' hfree' hri' ?_
          unfold ParOp
          rw [if_neg (by rw [wi]; exact hwi)]
          have hfin := hjv.2 u (mayJ undef u hu)
          rw [← hlisted, ← Act.put_comm a undef u h2]
          exact hfin
      · unfold ParOp
        rw [if_neg hwj]
        refine ih (listed.setIfInBounds j true) (a.put oj.dst undef) G hdown' hfree' hri' ?_
        by_cases hwi : Region.wanted oi (yielded ops a.tmps) = true
        · rw [parOp_iff hbase hwi] at H
          rw [parOp_iff hbase (by rw [wi]; exact hwi)]
          refine ⟨askI' undef H.1, fun v hv => ?_⟩
          rw [kvi]
          have hk := (H.2 v (mayI undef v hv)).2 j hready' oj hoj
          unfold ParOp at hk
          rw [if_neg (by rw [wj]; exact hwj)] at hk
          rw [← hlisted, ← Act.put_comm a v undef h2]
          exact hk
        · unfold ParOp at H ⊢
          rw [if_neg hwi] at H
          rw [if_neg (by rw [wi]; exact hwi)]
          have hk := H.2 j hready' oj hoj
          unfold ParOp at hk
          rw [if_neg (by rw [wj]; exact hwj)] at hk
          rw [← hlisted, ← Act.put_comm a undef undef h2]
          exact hk

theorem wpAnyP_lex (hok : T.ok md ops = true) {w0 : World} (hbase : T.base w0) (hpure : ∀ k, T.adds k = true → ∃ v, T.pure k v) {Q : Act → World → Prop} (hs : Region.noSelect ops = true) :
    ∀ (l : List Oper) (k : Nat) (listed : Array Bool) (a : Act) (G : Nat → World → Prop), (∀ j, l[j]? = ops[k + j]?) → Region.lexFrom md ops l.length k listed = true → Down md ops listed → wpPar P T ops Q k l a G → wpAnyP P md T ops Q l.length listed a G
  | [], _, _, _, _, _, hB, _, h => ⟨by simpa [Region.lexFrom] using hB, h⟩
  | o :: l, k, listed, a, G, hl, hB, hdown, h => by
    have h0 : ops[k]? = some o := by simpa using (hl 0).symm
    simp only [List.length_cons, Region.lexFrom, Bool.and_eq_true] at hB
    obtain ⟨⟨hr, hf⟩, hB'⟩ := hB
    have hr' : k ∈ Region.ready md ops listed := by simpa using hr
    obtain ⟨_, o', ho', hall⟩ := mem_ready.1 hr'
    rw [h0] at ho'
    cases ho'
    have next : ∀ (a' : Act) (G' : Nat → World → Prop), wpPar P T ops Q (k + 1) l a' G' → wpAnyP P md T ops Q l.length (listed.setIfInBounds k true) a' G' := fun a' G' h' =>
      wpAnyP_lex hok hbase hpure hs l (k + 1) _ a' G' (fun j => by have := hl (j + 1); simpa [Nat.add_assoc, Nat.add_comm 1 j] using this) hB' (hdown.set h0 hall) h'
    refine wpAnyP_first hok hbase hpure h0 (Region.noSelect_spec hs) l.length listed a G hdown (Region.free_spec h0 hf) hr' ?_
    have hP : ParOp P T ops k o a G (wpPar P T ops Q (k + 1) l) := h
    unfold ParOp at hP ⊢
    split
    · rename_i hw
      rw [if_pos hw] at hP
      split
      · rename_i hR
        rw [if_pos hR] at hP
        exact ⟨hP.1, fun v hv => next _ _ (hP.2 v hv)⟩
      · rename_i hR
        rw [if_neg hR] at hP
        obtain ⟨v, h1, h2⟩ := hP
        exact ⟨v, h1, next _ _ h2⟩
    · rename_i hw
      rw [if_neg hw] at hP
      exact next _ _ hP

/-- Every fact is either said of some value, or empty. -/
def Plan.known (T : Plan) (G : Nat → World → Prop) : Prop := ∀ k, (∀ W, G k W) ∨ ∃ u, G k = T.fact k u

theorem wpAny_of_par (hok : T.ok md ops = true) {Q : Act → World → Prop} {Q' : Exit → Act → World → Prop} (hQ : ∀ a w, Q a w → Q' .normal a w) : ∀ (fuel : Nat) (listed : Array Bool) (a : Act) (G : Nat → World → Prop) (w : World), T.known G → Down md ops listed → (listed.size = ops.size ∧ ∀ k, k < ops.size → listed.getD k false = false → ∀ W, G k W) → T.base w → (∀ i, G i w) →
    wpAnyP P md T ops Q fuel listed a G → wpAny P md ops Q' fuel listed a w
  | 0, _, _, _, _, _, _, _, hb, hw, h => ⟨h.1, hQ _ _ (h.2 _ hb hw)⟩
  | fuel + 1, listed, a, G, w, hG, hD, ⟨hS, hN⟩, hb, hw, h => by
    refine ⟨fun h0 => hQ _ _ (h.1 h0 _ hb hw), fun i hi => ?_⟩
    obtain ⟨hiun, o, ho, halli⟩ := mem_ready.1 hi
    have hP := h.2 i hi o ho
    have hltI : i < ops.size := (Array.getElem?_eq_some_iff.1 ho).1
    have hD' := hD.set ho halli
    have hN' : ∀ G' : Nat → World → Prop, (∀ k, k ≠ i → G' k = G k ∨ ∀ W, G' k W) → (listed.setIfInBounds i true).size = ops.size ∧ ∀ k, k < ops.size → (listed.setIfInBounds i true).getD k false = false → ∀ W, G' k W := fun G' hg => ⟨by simpa using hS, fun k hk hl W => by
      have hki : k ≠ i := fun e => by subst e; simp [hS, hk] at hl
      rw [getD_set_ne false (Ne.symm hki)] at hl
      rcases hg k hki with e | e
      · rw [e]; exact hN k hk hl W
      · exact e W⟩
    have hlater : ∀ k ∈ T.later i, ∀ W, G k W := fun k hk => by
      obtain ⟨hkl, hkw⟩ := ok_later hok hltI hk
      refine hN k hkl ?_
      cases hl : listed.getD k false with
      | false => rfl
      | true =>
        obtain ⟨ok, hok'⟩ : ∃ ok, ops[k]? = some ok := ⟨ops[k], Array.getElem?_eq_getElem hkl⟩
        have h1 := waitsN_listed hD 6 k i ok hok' (hD k ok hok' hl) hkw
        have h2 : listed.getD i false = false := by
          have := hS ▸ hltI
          simpa [this] using hiun
        rw [h2] at h1
        cases h1
    unfold ParOp at hP
    unfold wpOp
    simp only [ho]
    split
    · rename_i hwt
      rw [if_pos hwt] at hP
      refine .inl ?_
      by_cases hR : T.adds i = true
      · rw [if_pos hR] at hP
        refine (hP.1 w hb (fun j _ => hw j)).wp fun v W' ⟨hb', hp, hf, hk⟩ => ?_
        refine wpAny_of_par hok hQ fuel _ _ (T.after G i (T.kv a i, v)) W' (fun k => ?_) hD' (hN' _ fun k hk => ?_) hb' (fun k => ?_) (hP.2 v hp)
        · by_cases e : k = i
          · subst e; exact .inr ⟨(T.kv a k, v), after_same G k _⟩
          · by_cases hs : k ∈ T.spends i
            · rw [after_spent e hs]; exact .inl fun _ => trivial
            · rw [after_ne e hs]; exact hG k
        · by_cases hs : k ∈ T.spends i
          · right; rw [after_spent hk hs]; exact fun _ => trivial
          · left; exact after_ne hk hs _
        · by_cases e : k = i
          · subst e; rw [after_same]; exact hf
          · by_cases hs : k ∈ T.spends i
            · rw [after_spent e hs]; trivial
            · rw [after_ne e hs]
              rcases hG k with h' | ⟨u, hu⟩
              · exact h' _
              · have := hw k
                by_cases hl : k ∈ T.later i
                · exact hlater k hl _
                · rw [hu] at this ⊢
                  exact hk k hs hl e u this
      · rw [if_neg hR] at hP
        obtain ⟨v, h1, h2⟩ := hP
        unfold Oper.wp
        rw [h1 w hb]
        exact wpAny_of_par hok hQ fuel _ _ G w hG hD' (hN' G fun _ _ => .inl rfl) hb hw h2
    · rename_i hwt
      rw [if_neg hwt] at hP
      exact wpAny_of_par hok hQ fuel _ _ G w hG hD' (hN' G fun _ _ => .inl rfl) hb hw hP

/-- ONE WALK OF THE LEXICAL ORDER SERVES EVERY ORDER. The facts of the beginning: 'G', at the numbers from 'l.length' on. -/
theorem wp_region_par {id : Nat} {Q : Exit → Act → World → Prop} {a : Act} {w : World} {l : List Oper} (T : Plan) (G : Nat → World → Prop) (hm : P.follows .mixedOrders = true) (hB : Region.lexB .any l.toArray = true) (hok : T.ok .any l.toArray = true)
    (hpure : ∀ k, T.adds k = true → ∃ v, T.pure k v) (hG : T.known G) (hN : ∀ k, k < l.length → ∀ W, G k W) (hbase : T.base w.drew) (hw : ∀ k, G k w.drew)
    (h : wpPar P T l.toArray (fun a' w' => Q .normal a' w') 0 l a G) : (Code.region id l.toArray true).wp P Q a w := by
  simp only [Region.lexB, Bool.and_eq_true] at hB
  have hdown : Down .any l.toArray (Array.replicate l.toArray.size false) := fun k o _ hk => by rw [Array.getD_eq_getD_getElem?, Array.getElem?_replicate] at hk; split at hk <;> simp at hk
  refine wp_region_any hm (wpAny_of_par (T := T) hok (Q := fun a' w' => Q .normal a' w') (fun _ _ h => h) _ _ _ G w.drew hG hdown ⟨by simp, fun k hk _ => hN k (by simpa using hk)⟩ hbase hw ?_)
  have := wpAnyP_lex (P := P) (md := .any) (Q := fun a' w' => Q .normal a' w') hok hbase hpure hB.1 l 0 (Array.replicate l.toArray.size false) a G (by simp) (by simpa using hB.2) hdown h
  simpa using this

/-! ### The steps of the lexical walk -/
theorem wpPar_nil {Q : Act → World → Prop} {k : Nat} {a : Act} {G : Nat → World → Prop} (h : ∀ W, T.base W → (∀ i, G i W) → Q a W) : wpPar P T ops Q k [] a G := h
/-- An operation that yields one value, whatever has gone on. -/
theorem wpPar_pure {Q : Act → World → Prop} {k : Nat} {o : Oper} {rest : List Oper} {a : Act} {G : Nat → World → Prop} (hR : T.adds k = false) (hw : Region.wanted o (yielded ops a.tmps) = true) (v : Value) (h1 : ∀ W, T.base W → (execOp a.eval o).run P W = .ok (.value v) W)
    (h2 : wpPar P T ops Q (k + 1) rest (a.put o.dst v) G) : wpPar P T ops Q k (o :: rest) a G := by
  show ParOp _ _ _ _ _ _ _ _
  unfold ParOp
  rw [if_pos hw, if_neg (by rw [hR]; decide)]
  exact ⟨v, h1, h2⟩
theorem wpPar_skip {Q : Act → World → Prop} {k : Nat} {o : Oper} {rest : List Oper} {a : Act} {G : Nat → World → Prop} (hw : Region.wanted o (yielded ops a.tmps) = false) (h2 : wpPar P T ops Q (k + 1) rest (a.put o.dst undef) G) : wpPar P T ops Q k (o :: rest) a G := by
  show ParOp _ _ _ _ _ _ _ _
  unfold ParOp
  rw [if_neg (by rw [hw]; decide)]
  exact h2
/-- An operation that adds. -/
theorem wpPar_adds {Q : Act → World → Prop} {k : Nat} {o : Oper} {rest : List Oper} {a : Act} {G : Nat → World → Prop} (hR : T.adds k = true) (hw : Region.wanted o (yielded ops a.tmps) = true)
    (h1 : ∀ W, T.base W → (∀ j ∈ T.uses k, G j W) → Gives P o a W (T.leaves k (T.kv a k) W))
    (h2 : ∀ v, T.pure k v → wpPar P T ops Q (k + 1) rest (a.put o.dst v) (T.after G k (T.kv a k, v))) : wpPar P T ops Q k (o :: rest) a G := by
  show ParOp _ _ _ _ _ _ _ _
  unfold ParOp
  rw [if_pos hw, if_pos hR]
  exact ⟨h1, h2⟩
theorem givesUpon_skip (X : Value → World → Prop) (W : World) : givesUpon P X (.ok .skip W) = X undef W := rfl
theorem givesUpon_enter (X : Value → World → Prop) (f : FuncId) (args : Array Value) (W : World) : givesUpon P X (.ok (.enter f args) W) = Calls P f args W (fun e w'' => ∃ v, e = .returned v ∧ X v w'') := rfl
end

/-! ### A plan as a list: an entry for each operation that adds, and for each fact of the beginning. -/
structure Fct where
  k : Nat
  uses : List Nat
  key : Option Tmp := none
  spends : List Nat := []
  later : List Nat := []
  pure : Value → Prop := fun _ => True
  fact : Value × Value → World → Prop := fun _ _ => True
def planOf (base : World → Prop) (l : List Fct) : Plan where
  base := base
  key k := match l.find? (fun f => f.k == k) with | some f => f.key | none => none
  adds k := l.any fun f => f.k == k
  uses k := match l.find? (fun f => f.k == k) with | some f => f.uses | none => []
  spends k := match l.find? (fun f => f.k == k) with | some f => f.spends | none => []
  later k := match l.find? (fun f => f.k == k) with | some f => f.later | none => []
  pure k v := match l.find? (fun f => f.k == k) with | some f => f.pure v | none => True
  fact k v W := match l.find? (fun f => f.k == k) with | some f => f.fact v W | none => True
/-- What is known at the beginning. -/
def starts (T : Plan) (inits : List Nat) : Nat → World → Prop := fun k => if k ∈ inits then T.fact k (undef, undef) else fun _ => True
theorem starts_known (T : Plan) (inits : List Nat) : T.known (starts T inits) := fun k => by
  unfold starts
  split
  · exact .inr ⟨(undef, undef), rfl⟩
  · exact .inl fun _ => trivial
theorem keeps_of {base : World → Prop} {l : List Fct} {i : Nat} {W W' : World} (h : ∀ f ∈ l, f.k ∉ (planOf base l).spends i → f.k ∉ (planOf base l).later i → f.k ≠ i → ∀ u, f.fact u W → f.fact u W') : (planOf base l).keeps i W W' := fun k hk hl hne u hf => by
  simp only [planOf] at hf ⊢
  cases hfind : l.find? (fun f => f.k == k) with
  | none => trivial
  | some f =>
    rw [hfind] at hf
    have hm := List.mem_of_find?_eq_some hfind
    have he : f.k = k := by simpa using List.find?_some hfind
    exact h f hm (by rw [he]; exact hk) (by rw [he]; exact hl) (by rw [he]; exact hne) u hf
/-- Nothing that was there has turned. -/
theorem keeps_all {base : World → Prop} {l : List Fct} {i : Nat} {W W' : World} (h : ∀ f ∈ l, ∀ u, f.fact u W → f.fact u W') : (planOf base l).keeps i W W' := keeps_of fun f hf _ _ _ => h f hf
theorem wp_region_plan {P : Program} {id : Nat} {Q : Exit → Act → World → Prop} {a : Act} {w : World} {ops : List Oper} (base : World → Prop) (l : List Fct) (inits : List Nat) (hm : P.follows .mixedOrders = true) (hB : Region.lexB .any ops.toArray = true) (hok : (planOf base l).ok .any ops.toArray = true)
    (hin : inits.all (fun k => decide (ops.length ≤ k)) = true) (hpure : ∀ f ∈ l, ∃ v, f.pure v) (hbase : base w.drew) (hw : ∀ k ∈ inits, (planOf base l).fact k (undef, undef) w.drew)
    (h : wpPar P (planOf base l) ops.toArray (fun a' w' => Q .normal a' w') 0 ops a (starts (planOf base l) inits)) : (Code.region id ops.toArray true).wp P Q a w := by
  refine wp_region_par (planOf base l) _ hm hB hok (fun k _ => ?_) (starts_known _ inits) (fun k hk W => ?_) hbase (fun k => ?_) h
  · simp only [planOf]
    cases hfind : l.find? (fun f => f.k == k) with
    | none => exact ⟨undef, trivial⟩
    | some f => exact hpure f (List.mem_of_find?_eq_some hfind)
  · unfold starts
    rw [if_neg]
    · trivial
    · intro hm
      have := List.all_eq_true.1 hin k hm
      simp only [decide_eq_true_eq] at this
      omega
  · unfold starts
    split
    · rename_i hk; exact hw k hk
    · trivial
/-- A fact without a slot. -/
def lift (f : Go.Pm.Fct) : Fct := { k := f.k, uses := f.uses, spends := f.spends, later := f.later, pure := f.pure, fact := fun p => f.fact p.2 }
/-- Each may be so; none is undone by what makes new things. -/
def Steady (l : List Fct) : Prop := ∀ f ∈ l, (∃ v, f.pure v) ∧ ∀ u W W', Kept None W W' → f.fact u W → f.fact u W'
theorem Steady.pure {l : List Fct} (h : Steady l) : ∀ f ∈ l, ∃ v, f.pure v := fun f hf => (h f hf).1
theorem Steady.keeps {l : List Fct} (h : Steady l) {base : World → Prop} {i : Nat} {W W' : World} (hk : Kept None W W') : (planOf base l).keeps i W W' := keeps_all fun f hf u hu => (h f hf).2 u _ _ hk hu
theorem Steady.nil : Steady [] := fun f hf => by cases hf
theorem Steady.cons {f : Fct} {l : List Fct} (h1 : ∃ v, f.pure v) (h2 : ∀ u W W', Kept None W W' → f.fact u W → f.fact u W') (h : Steady l) : Steady (f :: l) := fun g hg => by
  rcases List.mem_cons.1 hg with rfl | hg
  · exact ⟨h1, h2⟩
  · exact h g hg
theorem Steady.lift {l : List Go.Pm.Fct} (h : Go.Pm.Steady l) : Steady (l.map lift) := fun f hf => by
  obtain ⟨g, hg, rfl⟩ := List.mem_map.1 hf
  exact ⟨(h g hg).1, fun u W W' hk hb => (h g hg).2 u.2 W W' hk hb⟩
theorem Steady.append {l m : List Fct} (h : Steady l) (h' : Steady m) : Steady (l ++ m) := fun f hf => (List.mem_append.1 hf).elim (h f) (h' f)
theorem wp_region_kn {P : Program} {id : Nat} {Q : Exit → Act → World → Prop} {a : Act} {w : World} {ops : List Oper} (w0 : World) (l : List Fct) (hs : Steady l) (hk : Kept None w0 w) (hm : P.follows .mixedOrders = true) (hB : Region.lexB .any ops.toArray = true) (hok : (planOf (Kept None w0) l).ok .any ops.toArray = true)
    (h : wpPar P (planOf (Kept None w0) l) ops.toArray (fun a' w' => Q .normal a' w') 0 ops a (starts (planOf (Kept None w0) l) [])) : (Code.region id ops.toArray true).wp P Q a w :=
  wp_region_plan (Kept None w0) l [] hm hB hok rfl hs.pure hk.drew (fun j hj => by cases hj) h
section
variable {P : Program} {ops : Array Oper} {w0 : World} {l : List Fct} {Q : Act → World → Prop} {k : Nat} {o : Oper} {rest : List Oper} {a : Act} {G : Nat → World → Prop}
theorem wpKn_adds (hs : Steady l) (hR : (planOf (Kept None w0) l).adds k = true) (hw : Region.wanted o (yielded ops a.tmps) = true)
    (h1 : ∀ W, Kept None w0 W → (∀ j ∈ (planOf (Kept None w0) l).uses k, G j W) → Gives P o a W (fun v W' => Kept None W W' ∧ (planOf (Kept None w0) l).pure k v ∧ (planOf (Kept None w0) l).fact k ((planOf (Kept None w0) l).kv a k, v) W'))
    (h2 : ∀ v, (planOf (Kept None w0) l).pure k v → wpPar P (planOf (Kept None w0) l) ops Q (k + 1) rest (a.put o.dst v) ((planOf (Kept None w0) l).after G k ((planOf (Kept None w0) l).kv a k, v))) : wpPar P (planOf (Kept None w0) l) ops Q k (o :: rest) a G :=
  wpPar_adds hR hw (fun W hW hd => by
    have h := h1 W hW hd
    unfold Gives at h ⊢
    exact givesUpon_mono (fun v W' ⟨k1, k2, k3⟩ => ⟨hW.then k1 (fun _ _ h => h), k2, k3, hs.keeps k1⟩) h) h2
end
end Ky
theorem gives_store7 {P : Program} {o : Oper} {a : Act} {w : World} {X : Value → World → Prop} (ty : TypeId) (x y : Operand) (ho : o.op = .store ty x y) {g : Nat} (hx : a.eval x = .pointer (some ⟨g, 0, none⟩)) {cs' : Array Value} (hy : a.eval y = .agg cs')
    {t : TypeId} {cs : Array Value} (hb : Blk w g cs t) (hT : AggTy P ty cs'.size) (hs : cs.size = cs'.size) (h1 : cs'.all (·.oneCell') = true) (h : ∀ w', Blk w' g cs' t → Kept (Just g) w w' → X undef w') : Gives P o a w X := by
  have hr := run_store_blk (P := P) (ty := ty) hb hT hs h1
  unfold Gives
  simp only [execOp, ho, hx, hy, Sem.run_bind, hr, Result.andThen_ok, Sem.run_pure]
  exact h _ (hb.setRow _) (Kept.row _ _ _)
/-- What a store into what the region itself has laid leaves. -/
abbrev Ky.stored (k lo : Nat) (slot : Tmp) (A : Array Value) (t : TypeId) (room : Nat) : Ky.Fct := { k := k, uses := [room], spends := [room], key := some slot, fact := fun p W => ∃ g, p.1 = .pointer (some ⟨g, 0, none⟩) ∧ lo ≤ g ∧ Blk W g A t }
theorem Ky.steady_stored (k lo : Nat) (slot : Tmp) (A : Array Value) (t : TypeId) (room : Nat) : Ky.Steady [Ky.stored k lo slot A t room] := Ky.Steady.cons ⟨undef, trivial⟩ (fun _ _ _ hk ⟨g, h1, h2, h3⟩ => ⟨g, h1, h2, h3.kept hk (fun h => h)⟩) Ky.Steady.nil
/-- .. which uses up other facts, too. -/
abbrev Ky.storedS (k lo : Nat) (slot : Tmp) (A : Array Value) (t : TypeId) (room : Nat) (sp : List Nat) : Ky.Fct := { k := k, uses := room :: sp, spends := room :: sp, key := some slot, fact := fun p W => ∃ g, p.1 = .pointer (some ⟨g, 0, none⟩) ∧ lo ≤ g ∧ Blk W g A t }
theorem Ky.steady_storedS (k lo : Nat) (slot : Tmp) (A : Array Value) (t : TypeId) (room : Nat) (sp : List Nat) : Ky.Steady [Ky.storedS k lo slot A t room sp] := Ky.Steady.cons ⟨undef, trivial⟩ (fun _ _ _ hk ⟨g, h1, h2, h3⟩ => ⟨g, h1, h2, h3.kept hk (fun h => h)⟩) Ky.Steady.nil
end Go.Pm
