/- postmarklaw2.SpongePerm: true. -/
import Derived.Test.YtffmblafpkdhlaaKnown2
namespace Go.Proofs.Ytffmblafpkdhlaa
open Go.RowKit Go.Pm

/-- Four calls, each by value. -/
def planPerm (p q r : S5) : List Fct :=
  [{ k := 1, uses := [], pure := fun v => v = Sp.sv p },
   { k := 3, uses := [], pure := fun v => v = Sp.sv q },
   { k := 11, uses := [], pure := fun v => v = Sp.sv p },
   { k := 13, uses := [], pure := fun v => v = Sp.sv r }]
theorem planPerm_pure {p q r : S5} : ∀ f ∈ planPerm p q r, ∃ v, f.pure v := by
  intro f hf
  simp only [planPerm, List.mem_cons, List.not_mem_nil, or_false] at hf
  rcases hf with rfl | rfl | rfl | rfl <;> exact ⟨_, rfl⟩
theorem planPerm_keeps {base : World → Prop} {p q r : S5} {i : Nat} {W W' : World} : (planOf base (planPerm p q r)).keeps i W W' := by
  refine keeps_all fun f hf u _ => ?_
  simp only [planPerm, List.mem_cons, List.not_mem_nil, or_false] at hf
  rcases hf with rfl | rfl | rfl | rfl <;> trivial

set_option maxHeartbeats 2000000 in
theorem spongePerm (s t : S5) (i : Int) (x : U64) (w : World) (hi0 : 0 ≤ i) (hi1 : i < 256) :
    Calls Try.prog 6 #[Sp.sv s, Sp.sv t, .int .u8 i, .int .u64 (U x)] w fun e w' => e = .returned (.bool true) ∧ Kept None w w' := by
  obtain ⟨j, hj, hij⟩ : ∃ j : Nat, j < 5 ∧ i % 5 = j := ⟨(i % 5).toNat, by omega, by omega⟩
  -- what the calls come to, under names
  have c1 := fun w => Sp.perm s w
  have c2 := fun w => Sp.perm t w
  have c3 := fun w => Sp.perm (s.xoredAt x j) w
  have h1 : decide (s.perm = t.perm) = decide (s = t) := decide_eq_decide.2 (perm_eq s t)
  have h2 : decide (s.perm = (s.xoredAt x j).perm) = decide (x = 0) := decide_eq_decide.2 ((perm_eq _ _).trans (xoredAt_eq s x j))
  obtain ⟨p, hp⟩ : ∃ p, p = s.perm := ⟨_, rfl⟩
  obtain ⟨q, hq⟩ : ∃ q, q = t.perm := ⟨_, rfl⟩
  obtain ⟨r, hr⟩ : ∃ r, r = (s.xoredAt x j).perm := ⟨_, rfl⟩
  obtain ⟨y, hy⟩ : ∃ y, y = s.xoredAt x j := ⟨_, rfl⟩
  rw [← hp] at c1 h1 h2
  rw [← hq] at c2 h1
  rw [← hr] at c3 h2
  rw [← hy] at c3
  have e1 := eqState p q
  have e2 := eqState s t
  have e3 := eqState p r
  have e4 : ((U x : Int) == 0) = decide (x = 0) := by
    rw [Bool.eq_iff_iff]
    have := U_eq x 0
    rw [show U 0 = 0 from rfl] at this
    simpa using this
  rw [h1] at e1
  rw [h2] at e3
  have g2 := gState
  have C := hid (And.intro c1 (And.intro c2 c3))
  have Y := hid hy
  have IJ := hid hij
  clear c1 c2 c3 h1 h2 hp hq hr hy hij
  go_enter Try.func6, Try.ntmps6
  go_wp2_with fail
  refine (known _).mono ?_
  rintro e w1 ⟨rfl, k1⟩
  have hA := ((Blk.new w (Sp.sc s) 23).alloc (.cells (Sp.sc t) 23)).kept k1 (fun h => h)
  have hB := (Blk.new2 w (.cells (Sp.sc s) 23) (Sp.sc t) 23).kept k1 (fun h => h)
  have k2 : Kept None w w1 := (((Kept.refl _ _).alloc _).alloc _).trans k1
  have hlB := hB.lt
  clear k1
  have hA0 := hA.cell 0
  have hA1 := hA.cell 1
  have hA2 := hA.cell 2
  have hA3 := hA.cell 3
  have hA4 := hA.cell 4
  simp at hA0 hA1 hA2 hA3 hA4
  have hj5 : j = 0 ∨ j = 1 ∨ j = 2 ∨ j = 3 ∨ j = 4 := by omega
  clear hj
  rcases hj5 with rfl | rfl | rfl | rfl | rfl
  all_goals
    have hij := IJ.out
    try simp only [Int.natCast_zero, Int.natCast_one, Int.cast_ofNat_Int] at hij
    go_wp2
    simp only [U_xor]
    clear hA0 hA1 hA2 hA3 hA4 hij
  all_goals
    have hk3 : Kept None w (w1.alloc (.cells (Sp.sc y) 23)) := k2.alloc _
    have hC3 := Blk.new w1 (Sp.sc y) 23
    have hA3 := hA.alloc (.cells (Sp.sc y) 23)
    have hB3 := hB.alloc (.cells (Sp.sc y) 23)
    obtain ⟨w2, hw2⟩ : ∃ w2, w2 = w1.alloc (.cells (Sp.sc y) 23) := ⟨_, rfl⟩
    rw [← hw2] at hk3 hC3 hA3 hB3
    have hy := Y.out
    simp only [S5.xoredAt] at hy
    rw [hy] at hw2
    simp only [Sp.sc] at hw2
    rw [← hw2]
    clear hw2 hy hA hB k2
    have E4 := hid e4
    clear e4
    refine wp_region_plan (Kept None w2) (planPerm p q r) [] (by kernel_rfl) (by kernel_rfl) (by kernel_rfl) rfl planPerm_pure (Kept.refl _ _).drew (fun j hj => by cases hj) ?_
    refine wpPar_pure rfl (by rfl) _ (fun W hW => by
        have c0 := (hA3.kept hW (fun h => h)).cell 0
        have c1 := (hA3.kept hW (fun h => h)).cell 1
        have c2 := (hA3.kept hW (fun h => h)).cell 2
        have c3 := (hA3.kept hW (fun h => h)).cell 3
        have c4 := (hA3.kept hW (fun h => h)).cell 4
        simp at c0 c1 c2 c3 c4
        go_simp
        exact rfl) ?_
    simp only [Act.put, List.setIfInBounds_toArray, List.set_cons_zero, List.set_cons_succ]
    refine wpPar_adds rfl (by rfl) (fun W hW hd => ?_) (fun v hv' => ?_)
    · unfold Gives
      go_simp
      refine gives_call (C.out.1 W) ?_
      rintro e w3 ⟨rfl, k3⟩
      exact ⟨_, rfl, hW.then k3 (fun _ _ h => h), rfl, trivial, planPerm_keeps⟩
    obtain rfl : v = Sp.sv p := hv'
    simp only [Act.put, List.setIfInBounds_toArray, List.set_cons_zero, List.set_cons_succ]
    refine wpPar_pure rfl (by rfl) _ (fun W hW => by
        have c0 := (hB3.kept hW (fun h => h)).cell 0
        have c1 := (hB3.kept hW (fun h => h)).cell 1
        have c2 := (hB3.kept hW (fun h => h)).cell 2
        have c3 := (hB3.kept hW (fun h => h)).cell 3
        have c4 := (hB3.kept hW (fun h => h)).cell 4
        simp at c0 c1 c2 c3 c4
        go_simp
        exact rfl) ?_
    simp only [Act.put, List.setIfInBounds_toArray, List.set_cons_zero, List.set_cons_succ]
    refine wpPar_adds rfl (by rfl) (fun W hW hd => ?_) (fun v hv' => ?_)
    · unfold Gives
      go_simp
      refine gives_call (C.out.2.1 W) ?_
      rintro e w3 ⟨rfl, k3⟩
      exact ⟨_, rfl, hW.then k3 (fun _ _ h => h), rfl, trivial, planPerm_keeps⟩
    obtain rfl : v = Sp.sv q := hv'
    simp only [Act.put, List.setIfInBounds_toArray, List.set_cons_zero, List.set_cons_succ]
    refine wpPar_pure rfl (by rfl) _ (fun W hW => by
        go_simp
        exact rfl) ?_
    simp only [Act.put, List.setIfInBounds_toArray, List.set_cons_zero, List.set_cons_succ]
    refine wpPar_pure rfl (by rfl) _ (fun W hW => by
        have c0 := (hA3.kept hW (fun h => h)).cell 0
        have c1 := (hA3.kept hW (fun h => h)).cell 1
        have c2 := (hA3.kept hW (fun h => h)).cell 2
        have c3 := (hA3.kept hW (fun h => h)).cell 3
        have c4 := (hA3.kept hW (fun h => h)).cell 4
        simp at c0 c1 c2 c3 c4
        go_simp
        exact rfl) ?_
    simp only [Act.put, List.setIfInBounds_toArray, List.set_cons_zero, List.set_cons_succ]
    refine wpPar_pure rfl (by rfl) _ (fun W hW => by
        have c0 := (hB3.kept hW (fun h => h)).cell 0
        have c1 := (hB3.kept hW (fun h => h)).cell 1
        have c2 := (hB3.kept hW (fun h => h)).cell 2
        have c3 := (hB3.kept hW (fun h => h)).cell 3
        have c4 := (hB3.kept hW (fun h => h)).cell 4
        simp at c0 c1 c2 c3 c4
        go_simp
        exact rfl) ?_
    simp only [Act.put, List.setIfInBounds_toArray, List.set_cons_zero, List.set_cons_succ]
    iterate 3 (refine wpPar_pure rfl (by rfl) _ (fun W hW => by
        go_simp
        exact rfl) ?_; simp only [Act.put, List.setIfInBounds_toArray, List.set_cons_zero, List.set_cons_succ])
    refine wpPar_pure rfl (by rfl) _ (fun W hW => by
        have c0 := (hA3.kept hW (fun h => h)).cell 0
        have c1 := (hA3.kept hW (fun h => h)).cell 1
        have c2 := (hA3.kept hW (fun h => h)).cell 2
        have c3 := (hA3.kept hW (fun h => h)).cell 3
        have c4 := (hA3.kept hW (fun h => h)).cell 4
        simp at c0 c1 c2 c3 c4
        go_simp
        exact rfl) ?_
    simp only [Act.put, List.setIfInBounds_toArray, List.set_cons_zero, List.set_cons_succ]
    refine wpPar_adds rfl (by rfl) (fun W hW hd => ?_) (fun v hv' => ?_)
    · unfold Gives
      go_simp
      refine gives_call (C.out.1 W) ?_
      rintro e w3 ⟨rfl, k3⟩
      exact ⟨_, rfl, hW.then k3 (fun _ _ h => h), rfl, trivial, planPerm_keeps⟩
    obtain rfl : v = Sp.sv p := hv'
    simp only [Act.put, List.setIfInBounds_toArray, List.set_cons_zero, List.set_cons_succ]
    refine wpPar_pure rfl (by rfl) _ (fun W hW => by
        have c0 := (hC3.kept hW (fun h => h)).cell 0
        have c1 := (hC3.kept hW (fun h => h)).cell 1
        have c2 := (hC3.kept hW (fun h => h)).cell 2
        have c3 := (hC3.kept hW (fun h => h)).cell 3
        have c4 := (hC3.kept hW (fun h => h)).cell 4
        simp at c0 c1 c2 c3 c4
        go_simp
        exact rfl) ?_
    simp only [Act.put, List.setIfInBounds_toArray, List.set_cons_zero, List.set_cons_succ]
    refine wpPar_adds rfl (by rfl) (fun W hW hd => ?_) (fun v hv' => ?_)
    · unfold Gives
      go_simp
      refine gives_call (C.out.2.2 W) ?_
      rintro e w3 ⟨rfl, k3⟩
      exact ⟨_, rfl, hW.then k3 (fun _ _ h => h), rfl, trivial, planPerm_keeps⟩
    obtain rfl : v = Sp.sv r := hv'
    simp only [Act.put, List.setIfInBounds_toArray, List.set_cons_zero, List.set_cons_succ]
    refine wpPar_pure rfl (by rfl) _ (fun W hW => by
        go_simp
        exact rfl) ?_
    simp only [Act.put, List.setIfInBounds_toArray, List.set_cons_zero, List.set_cons_succ]
    refine wpPar_pure rfl (by rfl) _ (fun W hW => by
        go_simp
        exact rfl) ?_
    simp only [Act.put, List.setIfInBounds_toArray, List.set_cons_zero, List.set_cons_succ]
    refine wpPar_pure rfl (by rfl) _ (fun W hW => by
        have e4 := E4.out
        go_simp
        exact rfl) ?_
    simp only [Act.put, List.setIfInBounds_toArray, List.set_cons_zero, List.set_cons_succ]
    iterate 3 (refine wpPar_pure rfl (by rfl) _ (fun W hW => by
        go_simp
        exact rfl) ?_; simp only [Act.put, List.setIfInBounds_toArray, List.set_cons_zero, List.set_cons_succ])
    refine wpPar_nil (fun w3 hw3 _ => ?_)
    have k4 : Kept None w w3 := hk3.trans hw3
    go_wp2
    go_ret
    exact ⟨rfl, k4⟩
end Go.Proofs.Ytffmblafpkdhlaa
