/- postmarklaw4.SigsWhole: true. -/
import Derived.Test.YtpoaehhmahkeaaaKnown4
namespace Go.Proofs.Ytpoaehhmahkeaaa
open Go.RowKit Go.Pm

set_option maxHeartbeats 4000000 in
theorem sigsWhole (n : Nat) (v : Value) (lo hi : Nat) (m : List UInt8) (w : World) (hv : Bs w lo hi v m) : Calls Try.prog 6 #[.int .u64 n, v] w fun e w' => e = .returned (.bool true) ∧ Kept None w w' := by
  have HV := hid hv
  obtain ⟨a, cap, rfl, g1, g2, g3⟩ := hv.shape
  clear hv g3
  by_cases hl : 100 < m.length
  · go_enter Try.func6, Try.ntmps6
    go_wp2_with fail
    refine (known _).mono ?_
    rintro e w1 ⟨rfl, k1⟩
    go_wp2
    go_ret
    exact ⟨rfl, k1⟩
  · have hx0 : (n : Int) % 2305843009213693950 = ((n % order61 : Nat) : Int) := by rw [Int.natCast_emod]; rfl
    have lx : n % order61 < order61 := Nat.mod_lt n (by decide)
    obtain ⟨x, hx⟩ : ∃ x, x = n % order61 := ⟨_, rfl⟩
    rw [← hx] at hx0 lx
    clear hx
    have c1 := fun v lo hi w h => Sg.sign x v lo hi m w h (by omega)
    have c2 := fun v lo hi w h => Sg.sign (x + order61) v lo hi m w h (by omega)
    rw [sigR_more, sigS_more, show ((x + order61 : Nat) : Int) = (x : Int) + 2305843009213693950 by rw [Int.natCast_add]; rfl] at c2
    have c3 := fun w => Sg.pub x w
    have c4 := fun v lo hi w h => Sg.check (pubN x) (sigR x m) (sigS x m) v lo hi m w h (by omega)
    rw [check_sign] at c4
    have ew : IntKind.u64.wrap ((x : Int) + 2305843009213693950) = (x : Int) + 2305843009213693950 := by
      unfold order61 at lx
      rw [IntKind.wrap_u64]; exact Int.emod_eq_of_lt (by omega) (by omega)
    have l1 := sigR_pos x m
    have l2 := sigR_lt x m
    have l3 := sigS_lt x m
    obtain ⟨R, hR⟩ : ∃ R, R = sigR x m := ⟨_, rfl⟩
    obtain ⟨S, hS⟩ : ∃ S, S = sigS x m := ⟨_, rfl⟩
    obtain ⟨Y, hY⟩ : ∃ Y, Y = pubN x := ⟨_, rfl⟩
    rw [← hR, ← hS] at c1 c2 c4
    rw [← hR] at l1 l2
    rw [← hS] at l3
    rw [← hY] at c3 c4
    have e1 : decide ((1 : Int) ≤ (R : Int)) = true := decide_eq_true (by omega)
    have e2 : ∀ z, z = R → decide ((z : Int) < 2305843009213693951) = true := by
      rintro z rfl
      unfold prime61 at l2
      exact decide_eq_true (by omega)
    have e3 : ∀ z, z = S → decide ((z : Int) < 2305843009213693950) = true := by
      rintro z rfl
      unfold order61 at l3
      exact decide_eq_true (by omega)
    have C := hid (And.intro c1 (And.intro c2 (And.intro c3 c4)))
    clear c1 c2 c3 c4 hR hS hY lx l1 l2 l3
    go_enter Try.func6, Try.ntmps6
    go_wp2_with fail
    refine (known _).mono ?_
    rintro e w1 ⟨rfl, k1⟩
    have hv1 := HV.out.kept k1 (fun _ _ _ h => h)
    clear HV
    go_wp2_with fail
    refine (C.out.1 _ _ _ _ hv1).mono ?_
    rintro e w2 ⟨rfl, k2⟩
    have hv2 := hv1.kept k2 (fun _ _ _ h => h)
    have k02 := k1.trans k2
    clear hv1 k1 k2
    go_wp2_with fail
    refine (C.out.2.1 _ _ _ _ hv2).mono ?_
    rintro e w3 ⟨rfl, k3⟩
    have hv3 := hv2.kept k3 (fun _ _ _ h => h)
    have k03 := k02.trans k3
    clear hv2 k02 k3
    go_wp2_with fail
    obtain ⟨w4, hw4⟩ : ∃ w4, w4 = (w3.alloc (.cells #[.int .u64 (R : Int), .int .u64 (S : Int)] 25)).alloc (.cells #[.int .u64 (R : Int), .int .u64 (S : Int)] 25) := ⟨_, rfl⟩
    have hA : Blk w4 w3.heap.size #[.int .u64 (R : Int), .int .u64 (S : Int)] 25 := by rw [hw4]; exact (Blk.new w3 _ _).alloc _
    have hB : Blk w4 (w3.heap.size + 1) #[.int .u64 (R : Int), .int .u64 (S : Int)] 25 := by rw [hw4]; exact Blk.new2 w3 _ _ _
    have k4 : Kept None w3 w4 := by rw [hw4]; exact ((Kept.refl None w3).alloc _).alloc _
    have hv1 := hv3.kept k4 (fun _ _ _ h => h)
    have k04 := k03.trans k4
    rw [← hw4]
    have hc0 : ∀ W, Kept None w4 W → W.cell? ⟨w3.heap.size, 0, none⟩ = some (.int .u64 (R : Int)) := fun W hW => (hA.kept hW (fun h => h)).cell 0
    have hc1 : ∀ W, Kept None w4 W → W.cell? ⟨w3.heap.size, 1, none⟩ = some (.int .u64 (S : Int)) := fun W hW => (hA.kept hW (fun h => h)).cell 1
    have hd0 : ∀ W, Kept None w4 W → W.cell? ⟨w3.heap.size + 1, 0, none⟩ = some (.int .u64 (R : Int)) := fun W hW => (hB.kept hW (fun h => h)).cell 0
    have hd1 : ∀ W, Kept None w4 W → W.cell? ⟨w3.heap.size + 1, 1, none⟩ = some (.int .u64 (S : Int)) := fun W hW => (hB.kept hW (fun h => h)).cell 1
    clear hA hB hv3 k03 k4 hw4
    have hs : Steady [.val 7 (Sg.sigV R S), .val 12 (.int .u64 (Y : Int)), .val 15 (.bool true)] := Steady.val (Steady.val (Steady.val (Steady.nil)))
    refine wp_region_kn w4 _ hs (Kept.refl _ _) (by kernel_rfl) (by kernel_rfl) (by kernel_rfl) ?_
    iterate 7 (refine wpPar_pure rfl (by rfl) _ (fun W hW => by
        have c0 := hc0 W hW
        have c1 := hc1 W hW
        have d0 := hd0 W hW
        have d1 := hd1 W hW
        go_simp
        exact rfl) ?_; simp only [Act.put, List.setIfInBounds_toArray, List.set_cons_zero, List.set_cons_succ])
    refine wpKn_adds hs rfl (by rfl) (fun W hW hd => ?_) (fun v7 hv => ?_)
    · unfold Gives
      have hvW := hv1.kept hW (fun _ _ _ h => h)
      go_simp
      refine gives_call (C.out.1 _ _ _ W hvW) ?_
      rintro e w3 ⟨rfl, k3⟩
      exact ⟨_, rfl, k3, rfl, trivial⟩
    obtain rfl : v7 = Sg.sigV R S := hv
    simp only [Act.put, List.setIfInBounds_toArray, List.set_cons_zero, List.set_cons_succ]
    iterate 4 (refine wpPar_pure rfl (by rfl) _ (fun W hW => by
        go_simp
        exact rfl) ?_; simp only [Act.put, List.setIfInBounds_toArray, List.set_cons_zero, List.set_cons_succ])
    refine wpKn_adds hs rfl (by rfl) (fun W hW hd => ?_) (fun v12 hv => ?_)
    · unfold Gives
      go_simp
      refine gives_call (C.out.2.2.1 W) ?_
      rintro e w3 ⟨rfl, k3⟩
      exact ⟨_, rfl, k3, rfl, trivial⟩
    obtain rfl : v12 = .int .u64 (Y : Int) := hv
    simp only [Act.put, List.setIfInBounds_toArray, List.set_cons_zero, List.set_cons_succ]
    iterate 2 (refine wpPar_pure rfl (by rfl) _ (fun W hW => by
        have c0 := hc0 W hW
        have c1 := hc1 W hW
        have d0 := hd0 W hW
        have d1 := hd1 W hW
        go_simp
        exact rfl) ?_; simp only [Act.put, List.setIfInBounds_toArray, List.set_cons_zero, List.set_cons_succ])
    refine wpKn_adds hs rfl (by rfl) (fun W hW hd => ?_) (fun v15 hv => ?_)
    · unfold Gives
      have hvW := hv1.kept hW (fun _ _ _ h => h)
      go_simp
      refine gives_call (C.out.2.2.2 _ _ _ W hvW) ?_
      rintro e w3 ⟨rfl, k3⟩
      exact ⟨_, rfl, k3, rfl, trivial⟩
    obtain rfl : v15 = .bool true := hv
    simp only [Act.put, List.setIfInBounds_toArray, List.set_cons_zero, List.set_cons_succ]
    iterate 17 (refine wpPar_pure rfl (by rfl) _ (fun W hW => by
        have c0 := hc0 W hW
        have c1 := hc1 W hW
        have d0 := hd0 W hW
        have d1 := hd1 W hW
        go_simp
        exact rfl) ?_; simp only [Act.put, List.setIfInBounds_toArray, List.set_cons_zero, List.set_cons_succ])
    refine wpPar_nil (fun W hW _ => ?_)
    have k05 := k04.then hW (fun _ _ h => h)
    clear hc0 hc1 hd0 hd1 hs hW k04 hv1
    go_wp2
    go_ret
    exact ⟨rfl, k05⟩
end Go.Proofs.Ytpoaehhmahkeaaa
