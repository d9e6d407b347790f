/- postmarklaw2.SpongeTells: true. -/
import Derived.Test.YtffmblafpkdhlaaKnown2
namespace Go.Proofs.Ytffmblafpkdhlaa
open Go.RowKit Go.Pm

/-- The calls: states, sums and tags by value; the texts read as x, and are turned into strings. -/
def planTells (p : S5) (r q x : List UInt8) : List Fct :=
  [{ k := 1, uses := [], pure := fun v => v = Sp.sv p },
   { k := 3, uses := [], pure := fun v => v = Sp.sv p },
   { k := 7, uses := [], pure := fun v => v = hashV r },
   { k := 9, uses := [], pure := fun v => v = hashV r },
   { k := 15, uses := [], fact := fun v W => ∃ lo hi, Bs W lo hi v x },
   { k := 16, uses := [15], pure := fun v => v = .string ⟨x.toArray⟩ },
   { k := 19, uses := [], fact := fun v W => ∃ lo hi, Bs W lo hi v x },
   { k := 20, uses := [19], pure := fun v => v = .string ⟨x.toArray⟩ },
   { k := 26, uses := [], pure := fun v => v = hashV q },
   { k := 29, uses := [], pure := fun v => v = hashV q }]
theorem planTells_pure {p : S5} {r q x : List UInt8} : ∀ f ∈ planTells p r q x, ∃ v, f.pure v := by
  intro f hf
  simp only [planTells, List.mem_cons, List.not_mem_nil, or_false] at hf
  rcases hf with rfl | rfl | rfl | rfl | rfl | rfl | rfl | rfl | rfl | rfl <;> first | exact ⟨_, rfl⟩ | exact ⟨undef, trivial⟩
theorem planTells_keeps {base : World → Prop} {p : S5} {r q x : List UInt8} {i : Nat} {W W' : World} (hk : Kept None W W') : (planOf base (planTells p r q x)).keeps i W W' := by
  refine keeps_all fun f hf u hu => ?_
  simp only [planTells, List.mem_cons, List.not_mem_nil, or_false] at hf
  rcases hf with rfl | rfl | rfl | rfl | rfl | rfl | rfl | rfl | rfl | rfl
  all_goals first
    | exact trivial
    | (obtain ⟨lo, hi, h⟩ := hu; exact ⟨lo, hi, h.kept hk (fun _ _ _ h => h)⟩)

/-- Short parts are few bytes together. -/
theorem total_short (ls : List (List UInt8)) (h : ∀ (j : Nat) (hj : j < ls.length), ls[j].length ≤ 60) : total ls ≤ 60 * ls.length := by
  have key : ∀ k, k ≤ ls.length → total (ls.take k) ≤ 60 * k := fun k => by
    induction k with
    | zero => intro _; simp [total]
    | succ k ih =>
      intro hk
      have := total_take ls k (by omega)
      have := h k (by omega)
      have := ih (by omega)
      omega
  have := key ls.length (Nat.le_refl _)
  rwa [List.take_of_length_le (Nat.le_refl _)] at this

set_option maxHeartbeats 2000000 in
theorem spongeTells (s : S5) (v : Value) (tg : Int) (u : Value) (lo hi lo1 hi1 lo2 hi2 : Nat) (b : List UInt8) (ls : List (List UInt8)) (w : World) (ht0 : 0 ≤ tg) (ht1 : tg < 256) (hv : Bs w lo hi v b) (hu : Bss w lo1 hi1 lo2 hi2 u ls) :
    Calls Try.prog 3 #[Sp.sv s, v, .int .u8 tg, u] w fun e w' => e = .returned (.bool true) ∧ Kept None w w' := by
  obtain ⟨a, cap, rfl, g1, g2, g3⟩ := hv.shape
  obtain ⟨a', cap', rfl, g1', g2', g3'⟩ := hu.shape
  clear g3 g3'
  by_cases hb : 200 < b.length
  · have d1 : decide (200 < (b.length : Int)) = true := by simp; omega
    go_enter Try.func3, Try.ntmps3
    go_wp2_with fail
    refine (known _).mono ?_
    rintro e1 w1 ⟨rfl, k1⟩
    have k2 : Kept None w w1 := ((Kept.refl _ _).alloc _).trans k1
    go_wp2
    go_ret
    exact ⟨rfl, k2⟩
  have d1 : decide (200 < (b.length : Int)) = false := by simp; omega
  by_cases hl : 6 < ls.length
  · have d2 : decide (6 < (ls.length : Int)) = true := by simp; omega
    go_enter Try.func3, Try.ntmps3
    go_wp2_with fail
    refine (known _).mono ?_
    rintro e1 w1 ⟨rfl, k1⟩
    have k2 : Kept None w w1 := ((Kept.refl _ _).alloc _).trans k1
    go_wp2
    go_ret
    exact ⟨rfl, k2⟩
  have d2 : decide (6 < (ls.length : Int)) = false := by simp; omega
  go_enter Try.func3, Try.ntmps3
  go_wp2_with fail
  refine (known _).mono ?_
  rintro e1 w1 ⟨rfl, k1⟩
  have hA := (Blk.new w (Sp.sc s) 23).kept k1 (fun h => h)
  have k2 : Kept None w w1 := ((Kept.refl _ _).alloc _).trans k1
  have hv1 := hv.kept k2 (fun _ _ _ h => h)
  have hu1 := hu.kept k2 (fun _ _ _ h => h) (fun _ _ _ h => h)
  clear k1 hv hu
  go_wp2
  go_loop [9] (fun i => ∃ k : Nat, k ≤ ls.length ∧ i = .int .i64 k ∧ ∀ (j : Nat) (hj : j < ls.length), j < k → ls[j].length ≤ 60) (fun i => ls.length - (intOf i).toNat)
  case atStart => exact ⟨0, Nat.zero_le _, rfl, fun j _ h => by omega⟩
  case round =>
    obtain ⟨k, hk, rfl, hsh⟩ := hrel
    by_cases hlt : k < ls.length
    · obtain ⟨b', o', rfl, q1, q2, q3, hc⟩ := Bss.at hu1 (by omega)
      obtain ⟨a3, c3, hc3, _⟩ := hc k hlt
      by_cases h60 : 60 < ls[k].length
      · generalize ls[k].length = n at *
        clear hc hsh
        go_wp2
        go_ret
        exact ⟨rfl, k2⟩
      · have hn : ∀ (j : Nat) (hj : j < ls.length), j < k + 1 → ls[j].length ≤ 60 := fun j hj h => by
          by_cases e : j = k
          · subst e; omega
          · exact hsh j hj (by omega)
        have HN := hid hn
        have h60' : ls[k].length ≤ 60 := by omega
        generalize ls[k].length = n at *
        clear hc hsh hn h60
        go_wp2
        go_round
        case rel => exact ⟨k + 1, by omega, by go_num, HN.out⟩
        case measure => simp [intOf]; omega
    · have htot := total_short ls (fun j hj => hsh j hj (by omega))
      have htl : total ls ≤ 1099511627776 := by omega
      have hll : ls.length ≤ 1099511627776 := by omega
      clear hsh htot
      -- what the calls come to, under names
      have c1 := fun w => Sp.perm s w
      have c2 := fun w => Ref.perm s w
      have c3 := fun v lo hi w h => Sp.sum v lo hi b w h
      have c4 := fun v lo hi w h => Ref.sum v lo hi b w h (by omega)
      have c5 := fun v lo hi lo' hi' w h => Sp.text tg v lo hi lo' hi' ls w ht0 ht1 h hll htl
      have c6 := fun v lo hi lo' hi' w h => Ref.text tg v lo hi lo' hi' ls w ht0 ht1 h hll htl
      have c7 := fun v lo hi lo' hi' w h => Sp.tag tg v lo hi lo' hi' ls w ht0 ht1 h hll htl
      have c8 := fun v lo hi lo' hi' w h => Ref.tag tg v lo hi lo' hi' ls w ht0 ht1 h hll htl
      have l1 := sumB_len b
      have l2 := sumB_len (textB tg ls)
      obtain ⟨p, hp⟩ : ∃ p, p = s.perm := ⟨_, rfl⟩
      obtain ⟨r, hr⟩ : ∃ r, r = sumB b := ⟨_, rfl⟩
      obtain ⟨q, hq⟩ : ∃ q, q = sumB (textB tg ls) := ⟨_, rfl⟩
      obtain ⟨x, hx⟩ : ∃ x, x = textB tg ls := ⟨_, rfl⟩
      rw [← hp] at c1 c2
      rw [← hr] at c3 c4 l1
      rw [← hq] at c7 c8 l2
      rw [← hx] at c5 c6
      have e1 := eqState p p
      have e2 := eqHash r r l1 l1
      have e3 := eqHash q q l2 l2
      have g1 := gState
      have g2 := gHash
      simp only [decide_true, beq_self_eq_true] at e1 e2 e3
      have C := hid (And.intro c1 (And.intro c2 (And.intro c3 (And.intro c4 (And.intro c5 (And.intro c6 (And.intro c7 c8)))))))
      clear c1 c2 c3 c4 c5 c6 c7 c8 l1 l2 hp hr hq hx
      go_wp2
      refine wp_region_plan (Kept None w1) (planTells p r q x) [] (by kernel_rfl) (by kernel_rfl) (by kernel_rfl) rfl planTells_pure (Kept.refl _ _).drew (fun j hj => by cases hj) ?_
      refine wpPar_pure rfl (by rfl) _ (fun W hW => by
          have c0 := (hA.kept hW (fun h => h)).cell 0
          have c1 := (hA.kept hW (fun h => h)).cell 1
          have c2 := (hA.kept hW (fun h => h)).cell 2
          have c3 := (hA.kept hW (fun h => h)).cell 3
          have c4 := (hA.kept hW (fun h => h)).cell 4
          simp at c0 c1 c2 c3 c4
          go_simp
          exact rfl) ?_
      simp only [Act.put, List.setIfInBounds_toArray, List.set_cons_zero, List.set_cons_succ]
      refine wpPar_adds rfl (by rfl) (fun W hW hd => ?_) (fun v hv' => ?_)
      · unfold Gives
        go_simp
        refine gives_call (C.out.1 W) ?_
        rintro e w3 ⟨rfl, k3⟩
        exact ⟨_, rfl, hW.then k3 (fun _ _ h => h), rfl, trivial, planTells_keeps k3⟩
      obtain rfl : v = Sp.sv p := hv'
      simp only [Act.put, List.setIfInBounds_toArray, List.set_cons_zero, List.set_cons_succ]
      refine wpPar_pure rfl (by rfl) _ (fun W hW => by
          have c0 := (hA.kept hW (fun h => h)).cell 0
          have c1 := (hA.kept hW (fun h => h)).cell 1
          have c2 := (hA.kept hW (fun h => h)).cell 2
          have c3 := (hA.kept hW (fun h => h)).cell 3
          have c4 := (hA.kept hW (fun h => h)).cell 4
          simp at c0 c1 c2 c3 c4
          go_simp
          exact rfl) ?_
      simp only [Act.put, List.setIfInBounds_toArray, List.set_cons_zero, List.set_cons_succ]
      refine wpPar_adds rfl (by rfl) (fun W hW hd => ?_) (fun v hv' => ?_)
      · unfold Gives
        go_simp
        refine gives_call (C.out.2.1 W) ?_
        rintro e w3 ⟨rfl, k3⟩
        exact ⟨_, rfl, hW.then k3 (fun _ _ h => h), rfl, trivial, planTells_keeps k3⟩
      obtain rfl : v = Sp.sv p := hv'
      simp only [Act.put, List.setIfInBounds_toArray, List.set_cons_zero, List.set_cons_succ]
      iterate 3 (refine wpPar_pure rfl (by rfl) _ (fun W hW => by
          go_simp
          exact rfl) ?_; simp only [Act.put, List.setIfInBounds_toArray, List.set_cons_zero, List.set_cons_succ])
      refine wpPar_adds rfl (by rfl) (fun W hW hd => ?_) (fun v hv' => ?_)
      · unfold Gives
        go_simp
        refine gives_call (C.out.2.2.1 _ _ _ W (hv1.kept hW (fun _ _ _ h => h))) ?_
        rintro e w3 ⟨rfl, k3⟩
        exact ⟨_, rfl, hW.then k3 (fun _ _ h => h), rfl, trivial, planTells_keeps k3⟩
      obtain rfl : v = hashV r := hv'
      simp only [Act.put, List.setIfInBounds_toArray, List.set_cons_zero, List.set_cons_succ]
      refine wpPar_pure rfl (by rfl) _ (fun W hW => by
          go_simp
          exact rfl) ?_
      simp only [Act.put, List.setIfInBounds_toArray, List.set_cons_zero, List.set_cons_succ]
      refine wpPar_adds rfl (by rfl) (fun W hW hd => ?_) (fun v hv' => ?_)
      · unfold Gives
        go_simp
        refine gives_call (C.out.2.2.2.1 _ _ _ W (hv1.kept hW (fun _ _ _ h => h))) ?_
        rintro e w3 ⟨rfl, k3⟩
        exact ⟨_, rfl, hW.then k3 (fun _ _ h => h), rfl, trivial, planTells_keeps k3⟩
      obtain rfl : v = hashV r := hv'
      simp only [Act.put, List.setIfInBounds_toArray, List.set_cons_zero, List.set_cons_succ]
      iterate 5 (refine wpPar_pure rfl (by rfl) _ (fun W hW => by
          go_simp
          exact rfl) ?_; simp only [Act.put, List.setIfInBounds_toArray, List.set_cons_zero, List.set_cons_succ])
      refine wpPar_adds rfl (by rfl) (fun W hW hd => ?_) (fun v15 _ => ?_)
      · unfold Gives
        go_simp
        refine gives_call (C.out.2.2.2.2.1 _ _ _ _ _ W (hu1.kept hW (fun _ _ _ h => h) (fun _ _ _ h => h))) ?_
        rintro e w3 ⟨v3, rfl, k3, b3⟩
        exact ⟨_, rfl, hW.then k3 (fun _ _ h => h), trivial, ⟨_, _, b3.bs (Nat.le_refl _)⟩, planTells_keeps k3⟩
      simp only [Act.put, List.setIfInBounds_toArray, List.set_cons_zero, List.set_cons_succ]
      refine wpPar_adds rfl (by rfl) (fun W hW hd => ?_) (fun v hv' => ?_)
      · obtain ⟨lo3, hi3, hb3⟩ : ∃ lo hi, Bs W lo hi v15 x := hd 15 (List.Mem.head _)
        have hcv := cvBytes hb3
        unfold Gives
        go_simp
        exact ⟨hW, rfl, trivial, planTells_keeps (Kept.refl _ _)⟩
      obtain rfl : v = .string ⟨x.toArray⟩ := hv'
      simp only [Act.put, List.setIfInBounds_toArray, List.set_cons_zero, List.set_cons_succ]
      iterate 2 (refine wpPar_pure rfl (by rfl) _ (fun W hW => by
          go_simp
          exact rfl) ?_; simp only [Act.put, List.setIfInBounds_toArray, List.set_cons_zero, List.set_cons_succ])
      refine wpPar_adds rfl (by rfl) (fun W hW hd => ?_) (fun v19 _ => ?_)
      · unfold Gives
        go_simp
        refine gives_call (C.out.2.2.2.2.2.1 _ _ _ _ _ W (hu1.kept hW (fun _ _ _ h => h) (fun _ _ _ h => h))) ?_
        rintro e w3 ⟨v3, rfl, k3, b3⟩
        exact ⟨_, rfl, hW.then k3 (fun _ _ h => h), trivial, ⟨_, _, b3.bs (Nat.le_refl _)⟩, planTells_keeps k3⟩
      simp only [Act.put, List.setIfInBounds_toArray, List.set_cons_zero, List.set_cons_succ]
      refine wpPar_adds rfl (by rfl) (fun W hW hd => ?_) (fun v hv' => ?_)
      · obtain ⟨lo3, hi3, hb3⟩ : ∃ lo hi, Bs W lo hi v19 x := hd 19 (List.Mem.head _)
        have hcv := cvBytes hb3
        unfold Gives
        go_simp
        exact ⟨hW, rfl, trivial, planTells_keeps (Kept.refl _ _)⟩
      obtain rfl : v = .string ⟨x.toArray⟩ := hv'
      simp only [Act.put, List.setIfInBounds_toArray, List.set_cons_zero, List.set_cons_succ]
      iterate 5 (refine wpPar_pure rfl (by rfl) _ (fun W hW => by
          go_simp
          exact rfl) ?_; simp only [Act.put, List.setIfInBounds_toArray, List.set_cons_zero, List.set_cons_succ])
      refine wpPar_adds rfl (by rfl) (fun W hW hd => ?_) (fun v hv' => ?_)
      · unfold Gives
        go_simp
        refine gives_call (C.out.2.2.2.2.2.2.1 _ _ _ _ _ W (hu1.kept hW (fun _ _ _ h => h) (fun _ _ _ h => h))) ?_
        rintro e w3 ⟨rfl, k3⟩
        exact ⟨_, rfl, hW.then k3 (fun _ _ h => h), rfl, trivial, planTells_keeps k3⟩
      obtain rfl : v = hashV q := hv'
      simp only [Act.put, List.setIfInBounds_toArray, List.set_cons_zero, List.set_cons_succ]
      iterate 2 (refine wpPar_pure rfl (by rfl) _ (fun W hW => by
          go_simp
          exact rfl) ?_; simp only [Act.put, List.setIfInBounds_toArray, List.set_cons_zero, List.set_cons_succ])
      refine wpPar_adds rfl (by rfl) (fun W hW hd => ?_) (fun v hv' => ?_)
      · unfold Gives
        go_simp
        refine gives_call (C.out.2.2.2.2.2.2.2 _ _ _ _ _ W (hu1.kept hW (fun _ _ _ h => h) (fun _ _ _ h => h))) ?_
        rintro e w3 ⟨rfl, k3⟩
        exact ⟨_, rfl, hW.then k3 (fun _ _ h => h), rfl, trivial, planTells_keeps k3⟩
      obtain rfl : v = hashV q := hv'
      simp only [Act.put, List.setIfInBounds_toArray, List.set_cons_zero, List.set_cons_succ]
      iterate 3 (refine wpPar_pure rfl (by rfl) _ (fun W hW => by
          go_simp
          exact rfl) ?_; simp only [Act.put, List.setIfInBounds_toArray, List.set_cons_zero, List.set_cons_succ])
      refine wpPar_nil (fun w3 hw3 _ => ?_)
      have k4 : Kept None w w3 := k2.trans hw3
      go_wp2
      go_ret
      exact ⟨rfl, k4⟩
end Go.Proofs.Ytffmblafpkdhlaa
