/- postmarklaw2.SpongePads: true. -/
import Derived.Test.YtffmblafpkdhlaaKnown2
namespace Go.Proofs.Ytffmblafpkdhlaa
open Go.RowKit Go.Pm

/-- Six calls, each by value. -/
def planPads (x y : List UInt8) : List Fct :=
  [{ k := 1, uses := [], pure := fun v => v = hashV x },
   { k := 3, uses := [], pure := fun v => v = hashV y },
   { k := 6, uses := [], pure := fun v => v = hashV x },
   { k := 8, uses := [], pure := fun v => v = hashV y },
   { k := 19, uses := [], pure := fun v => v = hashV x },
   { k := 21, uses := [], pure := fun v => v = hashV y }]
theorem planPads_pure {x y : List UInt8} : ∀ f ∈ planPads x y, ∃ v, f.pure v := by
  intro f hf
  simp only [planPads, List.mem_cons, List.not_mem_nil, or_false] at hf
  rcases hf with rfl | rfl | rfl | rfl | rfl | rfl <;> exact ⟨_, rfl⟩
theorem planPads_keeps {base : World → Prop} {x y : List UInt8} {i : Nat} {W W' : World} : (planOf base (planPads x y)).keeps i W W' := by
  refine keeps_all fun f hf u _ => ?_
  simp only [planPads, List.mem_cons, List.not_mem_nil, or_false] at hf
  rcases hf with rfl | rfl | rfl | rfl | rfl | rfl <;> trivial

set_option maxHeartbeats 2000000 in
theorem spongePads (v u : Value) (lo hi lo' hi' : Nat) (l m : List UInt8) (w : World) (hv : Bs w lo hi v l) (hu : Bs w lo' hi' u m) :
    Calls Try.prog 7 #[v, u] w fun e w' => e = .returned (.bool true) ∧ Kept None w w' := by
  obtain ⟨a, cap, rfl, g1, g2, g3⟩ := hv.shape
  obtain ⟨a', cap', rfl, g1', g2', g3'⟩ := hu.shape
  clear g3 g3'
  go_enter Try.func7, Try.ntmps7
  go_wp2_with fail
  refine (known w).mono ?_
  rintro e1 w1 ⟨rfl, k1⟩
  have hv1 := hv.kept k1 (fun _ _ _ h => h)
  have hu1 := hu.kept k1 (fun _ _ _ h => h)
  obtain ⟨p, p1, p2⟩ : ∃ p : Nat, p ≤ l.length ∧ (if (7 : Int) < l.length then (7 : Int) else l.length) = p := ⟨min l.length 7, by omega, by split <;> omega⟩
  obtain ⟨q, q1, q2⟩ : ∃ q : Nat, q ≤ m.length ∧ (if (7 : Int) < m.length then (7 : Int) else m.length) = q := ⟨min m.length 7, by omega, by split <;> omega⟩
  obtain ⟨a1, s1, r1⟩ := slice_to tBytes zBytes hv1 .i64 (p : Int) (by omega) (by omega)
  obtain ⟨a2, s2, r2⟩ := slice_to tBytes zBytes hu1 .i64 (q : Int) (by omega) (by omega)
  rw [Int.toNat_natCast] at s1 r1 s2 r2
  rw [← List.map_take] at r1 r2
  have hl1 : (l.take p).length = p := by rw [List.length_take]; omega
  have hl2 : (m.take q).length = q := by rw [List.length_take]; omega
  obtain ⟨x, hx⟩ : ∃ x, x = l.take p := ⟨_, rfl⟩
  obtain ⟨y, hy⟩ : ∃ y, y = m.take q := ⟨_, rfl⟩
  have b1 : Bs w1 lo hi (.slice a1 p cap) x := by rw [hx]; exact r1
  have b2 : Bs w1 lo' hi' (.slice a2 q cap') y := by rw [hy]; exact r2
  have hx7 : x.length ≤ 7 := by rw [hx, hl1]; split at p2 <;> omega
  have hy7 : y.length ≤ 7 := by rw [hy, hl2]; split at q2 <;> omega
  have P2 := hid p2
  have Q2 := hid q2
  clear hv hu hv1 hu1 r1 r2 p2 q2 hl1 hl2 hx hy
  go_wp2
  refine wp_region_plan (Kept None w1) [] [] (by kernel_rfl) (by kernel_rfl) (by kernel_rfl) rfl (fun f hf => by cases hf) (Kept.refl _ _).drew (fun j hj => by cases hj) ?_
  iterate 3 (refine wpPar_pure rfl (by rfl) _ (fun W hW => by
    go_simp
    exact rfl) ?_; simp only [Act.put, List.setIfInBounds_toArray, List.set_cons_zero, List.set_cons_succ])
  refine wpPar_pure rfl (by rfl) (.int .i64 p) (fun W hW => by
    go_simp
    exact P2.out) ?_
  simp only [Act.put, List.setIfInBounds_toArray, List.set_cons_zero, List.set_cons_succ]
  iterate 4 (refine wpPar_pure rfl (by rfl) _ (fun W hW => by
    go_simp
    exact rfl) ?_; simp only [Act.put, List.setIfInBounds_toArray, List.set_cons_zero, List.set_cons_succ])
  refine wpPar_pure rfl (by rfl) (.int .i64 q) (fun W hW => by
    go_simp
    exact Q2.out) ?_
  simp only [Act.put, List.setIfInBounds_toArray, List.set_cons_zero, List.set_cons_succ]
  iterate 3 (refine wpPar_pure rfl (by rfl) _ (fun W hW => by
    go_simp
    exact rfl) ?_; simp only [Act.put, List.setIfInBounds_toArray, List.set_cons_zero, List.set_cons_succ])
  refine wpPar_nil (fun w2 hw2 _ => ?_)
  have k2 : Kept None w1 w2 := hw2
  have b3 := b1.kept k2 (fun _ _ _ h => h)
  have b4 := b2.kept k2 (fun _ _ _ h => h)
  have k3 := k1.trans k2
  clear hw2 k1 k2 b1 b2 s1 s2 P2 Q2
  -- the sums, under names
  have s1 := fun v lo hi w h => Sp.sum v lo hi x w h
  have s2 := fun v lo hi w h => Sp.sum v lo hi y w h
  have s3 := fun v lo hi w h => Ref.sum v lo hi x w h (by omega)
  have s4 := fun v lo hi w h => Ref.sum v lo hi y w h (by omega)
  have l1 := sumB_len x
  have l2 := sumB_len y
  have hxy : x = y → sumB x = sumB y := fun h => by rw [h]
  obtain ⟨r, hr⟩ : ∃ r, r = sumB x := ⟨_, rfl⟩
  obtain ⟨t, ht⟩ : ∃ t, t = sumB y := ⟨_, rfl⟩
  rw [← hr] at s1 s3 l1 hxy
  rw [← ht] at s2 s4 l2 hxy
  have e1 := eqHash r t l1 l2
  have g1 := gHash
  have C := hid (And.intro s1 (And.intro s2 (And.intro s3 s4)))
  have D := hid hxy
  clear s1 s2 s3 s4 l1 l2 hr ht hxy
  go_wp2
  by_cases hxy : x = y
  · obtain rfl := D.out hxy
    subst hxy
    have e2 : (r == r) = true := beq_self_eq_true r
    rw [e2] at e1
    refine wp_region_plan (Kept None w2) (planPads r r) [] (by kernel_rfl) (by kernel_rfl) (by kernel_rfl) rfl planPads_pure (Kept.refl _ _).drew (fun j hj => by cases hj) ?_
    refine wpPar_pure rfl (by rfl) _ (fun W hW => by
        go_simp
        exact rfl) ?_
    simp only [Act.put, List.setIfInBounds_toArray, List.set_cons_zero, List.set_cons_succ]
    refine wpPar_adds rfl (by rfl) (fun W hW hd => ?_) (fun v hv' => ?_)
    · unfold Gives
      go_simp
      refine gives_call (C.out.1 _ _ _ W (b3.kept hW (fun _ _ _ h => h))) ?_
      rintro e w3 ⟨rfl, k3⟩
      exact ⟨_, rfl, hW.then k3 (fun _ _ h => h), rfl, trivial, planPads_keeps⟩
    obtain rfl : v = hashV r := hv'
    simp only [Act.put, List.setIfInBounds_toArray, List.set_cons_zero, List.set_cons_succ]
    refine wpPar_pure rfl (by rfl) _ (fun W hW => by
        go_simp
        exact rfl) ?_
    simp only [Act.put, List.setIfInBounds_toArray, List.set_cons_zero, List.set_cons_succ]
    refine wpPar_adds rfl (by rfl) (fun W hW hd => ?_) (fun v hv' => ?_)
    · unfold Gives
      go_simp
      refine gives_call (C.out.2.1 _ _ _ W (b4.kept hW (fun _ _ _ h => h))) ?_
      rintro e w3 ⟨rfl, k3⟩
      exact ⟨_, rfl, hW.then k3 (fun _ _ h => h), rfl, trivial, planPads_keeps⟩
    obtain rfl : v = hashV r := hv'
    simp only [Act.put, List.setIfInBounds_toArray, List.set_cons_zero, List.set_cons_succ]
    iterate 2 (refine wpPar_pure rfl (by rfl) _ (fun W hW => by
        go_simp
        exact rfl) ?_; simp only [Act.put, List.setIfInBounds_toArray, List.set_cons_zero, List.set_cons_succ])
    refine wpPar_adds rfl (by rfl) (fun W hW hd => ?_) (fun v hv' => ?_)
    · unfold Gives
      go_simp
      refine gives_call (C.out.2.2.1 _ _ _ W (b3.kept hW (fun _ _ _ h => h))) ?_
      rintro e w3 ⟨rfl, k3⟩
      exact ⟨_, rfl, hW.then k3 (fun _ _ h => h), rfl, trivial, planPads_keeps⟩
    obtain rfl : v = hashV r := hv'
    simp only [Act.put, List.setIfInBounds_toArray, List.set_cons_zero, List.set_cons_succ]
    refine wpPar_pure rfl (by rfl) _ (fun W hW => by
        go_simp
        exact rfl) ?_
    simp only [Act.put, List.setIfInBounds_toArray, List.set_cons_zero, List.set_cons_succ]
    refine wpPar_adds rfl (by rfl) (fun W hW hd => ?_) (fun v hv' => ?_)
    · unfold Gives
      go_simp
      refine gives_call (C.out.2.2.2 _ _ _ W (b4.kept hW (fun _ _ _ h => h))) ?_
      rintro e w3 ⟨rfl, k3⟩
      exact ⟨_, rfl, hW.then k3 (fun _ _ h => h), rfl, trivial, planPads_keeps⟩
    obtain rfl : v = hashV r := hv'
    simp only [Act.put, List.setIfInBounds_toArray, List.set_cons_zero, List.set_cons_succ]
    iterate 4 (refine wpPar_pure rfl (by rfl) _ (fun W hW => by
        go_simp
        exact rfl) ?_; simp only [Act.put, List.setIfInBounds_toArray, List.set_cons_zero, List.set_cons_succ])
    iterate 3 (refine wpPar_pure rfl (by rfl) _ (fun W hW => by
        have c1 := cvBytes (b3.kept hW (fun _ _ _ h => h))
        have c2 := cvBytes (b4.kept hW (fun _ _ _ h => h))
        go_simp
        exact rfl) ?_; simp only [Act.put, List.setIfInBounds_toArray, List.set_cons_zero, List.set_cons_succ])
    iterate 3 (refine wpPar_pure rfl (by rfl) _ (fun W hW => by
        go_simp
        exact rfl) ?_; simp only [Act.put, List.setIfInBounds_toArray, List.set_cons_zero, List.set_cons_succ])
    refine wpPar_adds rfl (by rfl) (fun W hW hd => ?_) (fun v hv' => ?_)
    · unfold Gives
      go_simp
      refine gives_call (C.out.1 _ _ _ W (b3.kept hW (fun _ _ _ h => h))) ?_
      rintro e w3 ⟨rfl, k3⟩
      exact ⟨_, rfl, hW.then k3 (fun _ _ h => h), rfl, trivial, planPads_keeps⟩
    obtain rfl : v = hashV r := hv'
    simp only [Act.put, List.setIfInBounds_toArray, List.set_cons_zero, List.set_cons_succ]
    refine wpPar_pure rfl (by rfl) _ (fun W hW => by
        go_simp
        exact rfl) ?_
    simp only [Act.put, List.setIfInBounds_toArray, List.set_cons_zero, List.set_cons_succ]
    refine wpPar_adds rfl (by rfl) (fun W hW hd => ?_) (fun v hv' => ?_)
    · unfold Gives
      go_simp
      refine gives_call (C.out.2.1 _ _ _ W (b4.kept hW (fun _ _ _ h => h))) ?_
      rintro e w3 ⟨rfl, k3⟩
      exact ⟨_, rfl, hW.then k3 (fun _ _ h => h), rfl, trivial, planPads_keeps⟩
    obtain rfl : v = hashV r := hv'
    simp only [Act.put, List.setIfInBounds_toArray, List.set_cons_zero, List.set_cons_succ]
    iterate 4 (refine wpPar_pure rfl (by rfl) _ (fun W hW => by
        go_simp
        exact rfl) ?_; simp only [Act.put, List.setIfInBounds_toArray, List.set_cons_zero, List.set_cons_succ])
    refine wpPar_nil (fun w3 hw3 _ => ?_)
    have k4 : Kept None w w3 := k3.trans hw3
    go_wp2
    go_ret
    exact ⟨rfl, k4⟩
  · have hne : (x == y) = false := by simpa using hxy
    refine wp_region_plan (Kept None w2) (planPads r t) [] (by kernel_rfl) (by kernel_rfl) (by kernel_rfl) rfl planPads_pure (Kept.refl _ _).drew (fun j hj => by cases hj) ?_
    refine wpPar_pure rfl (by rfl) _ (fun W hW => by
        go_simp
        exact rfl) ?_
    simp only [Act.put, List.setIfInBounds_toArray, List.set_cons_zero, List.set_cons_succ]
    refine wpPar_adds rfl (by rfl) (fun W hW hd => ?_) (fun v hv' => ?_)
    · unfold Gives
      go_simp
      refine gives_call (C.out.1 _ _ _ W (b3.kept hW (fun _ _ _ h => h))) ?_
      rintro e w3 ⟨rfl, k3⟩
      exact ⟨_, rfl, hW.then k3 (fun _ _ h => h), rfl, trivial, planPads_keeps⟩
    obtain rfl : v = hashV r := hv'
    simp only [Act.put, List.setIfInBounds_toArray, List.set_cons_zero, List.set_cons_succ]
    refine wpPar_pure rfl (by rfl) _ (fun W hW => by
        go_simp
        exact rfl) ?_
    simp only [Act.put, List.setIfInBounds_toArray, List.set_cons_zero, List.set_cons_succ]
    refine wpPar_adds rfl (by rfl) (fun W hW hd => ?_) (fun v hv' => ?_)
    · unfold Gives
      go_simp
      refine gives_call (C.out.2.1 _ _ _ W (b4.kept hW (fun _ _ _ h => h))) ?_
      rintro e w3 ⟨rfl, k3⟩
      exact ⟨_, rfl, hW.then k3 (fun _ _ h => h), rfl, trivial, planPads_keeps⟩
    obtain rfl : v = hashV t := hv'
    simp only [Act.put, List.setIfInBounds_toArray, List.set_cons_zero, List.set_cons_succ]
    iterate 2 (refine wpPar_pure rfl (by rfl) _ (fun W hW => by
        go_simp
        exact rfl) ?_; simp only [Act.put, List.setIfInBounds_toArray, List.set_cons_zero, List.set_cons_succ])
    refine wpPar_adds rfl (by rfl) (fun W hW hd => ?_) (fun v hv' => ?_)
    · unfold Gives
      go_simp
      refine gives_call (C.out.2.2.1 _ _ _ W (b3.kept hW (fun _ _ _ h => h))) ?_
      rintro e w3 ⟨rfl, k3⟩
      exact ⟨_, rfl, hW.then k3 (fun _ _ h => h), rfl, trivial, planPads_keeps⟩
    obtain rfl : v = hashV r := hv'
    simp only [Act.put, List.setIfInBounds_toArray, List.set_cons_zero, List.set_cons_succ]
    refine wpPar_pure rfl (by rfl) _ (fun W hW => by
        go_simp
        exact rfl) ?_
    simp only [Act.put, List.setIfInBounds_toArray, List.set_cons_zero, List.set_cons_succ]
    refine wpPar_adds rfl (by rfl) (fun W hW hd => ?_) (fun v hv' => ?_)
    · unfold Gives
      go_simp
      refine gives_call (C.out.2.2.2 _ _ _ W (b4.kept hW (fun _ _ _ h => h))) ?_
      rintro e w3 ⟨rfl, k3⟩
      exact ⟨_, rfl, hW.then k3 (fun _ _ h => h), rfl, trivial, planPads_keeps⟩
    obtain rfl : v = hashV t := hv'
    simp only [Act.put, List.setIfInBounds_toArray, List.set_cons_zero, List.set_cons_succ]
    iterate 4 (refine wpPar_pure rfl (by rfl) _ (fun W hW => by
        go_simp
        exact rfl) ?_; simp only [Act.put, List.setIfInBounds_toArray, List.set_cons_zero, List.set_cons_succ])
    iterate 3 (refine wpPar_pure rfl (by rfl) _ (fun W hW => by
        have c1 := cvBytes (b3.kept hW (fun _ _ _ h => h))
        have c2 := cvBytes (b4.kept hW (fun _ _ _ h => h))
        go_simp
        exact rfl) ?_; simp only [Act.put, List.setIfInBounds_toArray, List.set_cons_zero, List.set_cons_succ])
    iterate 2 (refine wpPar_pure rfl (by rfl) _ (fun W hW => by
        go_simp
        exact rfl) ?_; simp only [Act.put, List.setIfInBounds_toArray, List.set_cons_zero, List.set_cons_succ])
    iterate 5 (refine wpPar_skip (by rfl) ?_; simp only [Act.put, List.setIfInBounds_toArray, List.set_cons_zero, List.set_cons_succ])
    iterate 3 (refine wpPar_pure rfl (by rfl) _ (fun W hW => by
        go_simp
        exact rfl) ?_; simp only [Act.put, List.setIfInBounds_toArray, List.set_cons_zero, List.set_cons_succ])
    refine wpPar_nil (fun w3 hw3 _ => ?_)
    have k4 : Kept None w w3 := k3.trans hw3
    go_wp2
    go_ret
    exact ⟨rfl, k4⟩
end Go.Proofs.Ytffmblafpkdhlaa
