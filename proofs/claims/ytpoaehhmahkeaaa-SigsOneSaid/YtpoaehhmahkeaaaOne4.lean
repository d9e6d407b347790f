/- postmarklaw4.SigsOne: true. -/
import Derived.Test.YtpoaehhmahkeaaaKnown4
import Derived.Test.YtpoaehhmahkeaaaRefSigs4
import Derived.Test.YtpoaehhmahkeaaaBounds4
namespace Go.Proofs.Ytpoaehhmahkeaaa
open Go.RowKit Go.Pm

set_option maxRecDepth 100000 in
set_option maxHeartbeats 8000000 in
theorem sigsOne (n : Nat) (v : Value) (lo hi : Nat) (m : List UInt8) (d : Nat) (w : World) (hv : Bs w lo hi v m) : Calls Try.prog 4 #[.int .u64 n, v, .int .u64 d] w fun e w' => e = .returned (.bool true) ∧ Kept None w w' := by
  have HV := hid hv
  obtain ⟨a, cap, rfl, g1, g2, g3⟩ := hv.shape
  clear hv g3
  by_cases hl : 60 < m.length
  · go_enter Try.func4, Try.ntmps4
    go_wp2_with fail
    refine (known _).mono ?_
    rintro e w1 ⟨rfl, k1⟩
    go_wp2
    go_ret
    exact ⟨rfl, k1⟩
  · have hl' : m.length ≤ 549755813888 := by omega
    have hd0 : (d : Int) % 2305843009213693950 = ((d % order61 : Nat) : Int) := by rw [Int.natCast_emod]; rfl
    have ld : d % order61 < order61 := Nat.mod_lt d (by decide)
    obtain ⟨j, hj⟩ : ∃ j, j = d % order61 := ⟨_, rfl⟩
    rw [← hj] at hd0 ld
    clear hj
    have c0 := fun w => Sg.pub n w
    have c1 := fun v lo hi w h => Sg.sign n v lo hi m w h hl'
    have c2 := fun v lo hi w h => Sg.check (pubN n) (sigR n m) (sigS n m) v lo hi m w h hl'
    rw [check_sign] at c2
    have c3 := fun v lo hi w h => Sg.check (pubN n) (sigR n m) ((sigS n m + j) % order61) v lo hi m w h hl'
    have c4 := fun v lo hi w h => Ref.check (pubN n) (sigR n m) ((sigS n m + j) % order61) v lo hi m w h hl'
    have c5 := fun v lo hi w h => not_fits (pubN n) (sigR n m + prime61) (sigS n m) v lo hi m w h hl' (check_r _ m _ (fits_great (Nat.le_add_left _ _)))
    have c6 := fun v lo hi w h => not_fits (pubN n) (sigR n m) (sigS n m + order61) v lo hi m w h hl' (check_s _ m _ (Nat.le_add_left _ _))
    have c7 := fun v lo hi w h => not_fits (pubN n + prime61) (sigR n m) (sigS n m) v lo hi m w h hl' (check_y m _ _ (fits_great (Nat.le_add_left _ _)))
    have c8 := fun v lo hi w h => not_fits (pubN n) 0 (sigS n m) v lo hi m w h hl' (check_r _ m _ fits_none)
    have l1 := sigR_lt n m
    have l2 := sigS_lt n m
    have l3 := pubN_lt n
    obtain ⟨R, hR⟩ : ∃ R, R = sigR n m := ⟨_, rfl⟩
    obtain ⟨S, hS⟩ : ∃ S, S = sigS n m := ⟨_, rfl⟩
    obtain ⟨Y, hY⟩ : ∃ Y, Y = pubN n := ⟨_, rfl⟩
    rw [← hY] at c0
    rw [← hR, ← hS] at c1
    rw [← hR, ← hS, ← hY] at c2 c3 c4 c5 c6 c7
    rw [← hS, ← hY] at c8
    rw [← hR] at l1
    rw [← hS] at l2
    rw [← hY] at l3
    obtain ⟨b, hb⟩ : ∃ b, b = checkN Y m R ((S + j) % order61) := ⟨_, rfl⟩
    rw [← hb] at c3 c4
    clear hb
    unfold order61 at ld l2
    unfold prime61 at l1 l3
    have ew1 : IntKind.u64.wrap ((S : Int) + (j : Int)) = (S : Int) + (j : Int) := by rw [IntKind.wrap_u64]; exact Int.emod_eq_of_lt (by omega) (by omega)
    have ez : ((S : Int) + (j : Int)) % 2305843009213693950 = (((S + j) % order61 : Nat) : Int) := by rw [Int.natCast_emod, Int.natCast_add]; rfl
    have ew2 : IntKind.u64.wrap ((R : Int) + 2305843009213693951) = ((R + prime61 : Nat) : Int) := by rw [Int.natCast_add, IntKind.wrap_u64]; exact Int.emod_eq_of_lt (by omega) (by omega)
    have ew3 : IntKind.u64.wrap ((S : Int) + 2305843009213693950) = ((S + order61 : Nat) : Int) := by rw [Int.natCast_add, IntKind.wrap_u64]; exact Int.emod_eq_of_lt (by omega) (by omega)
    have ew4 : IntKind.u64.wrap ((Y : Int) + 2305843009213693951) = ((Y + prime61 : Nat) : Int) := by rw [Int.natCast_add, IntKind.wrap_u64]; exact Int.emod_eq_of_lt (by omega) (by omega)
    obtain ⟨z, hz⟩ : ∃ z, z = (S + j) % order61 := ⟨_, rfl⟩
    obtain ⟨R2, hR2⟩ : ∃ R2, R2 = R + prime61 := ⟨_, rfl⟩
    obtain ⟨S2, hS2⟩ : ∃ S2, S2 = S + order61 := ⟨_, rfl⟩
    obtain ⟨Y2, hY2⟩ : ∃ Y2, Y2 = Y + prime61 := ⟨_, rfl⟩
    rw [← hz] at c3 c4 ez
    rw [← hR2] at c5 ew2
    rw [← hS2] at c6 ew3
    rw [← hY2] at c7 ew4
    have C := hid (And.intro c0 (And.intro c1 (And.intro c2 (And.intro c3 (And.intro c4 (And.intro c5 (And.intro c6 (And.intro c7 c8))))))))
    clear c0 c1 c2 c3 c4 c5 c6 c7 c8 hR hS hY ld l1 l2 l3 hz hR2 hS2 hY2 hl'
    go_enter Try.func4, Try.ntmps4
    go_wp2_with fail
    refine (known _).mono ?_
    rintro e w1 ⟨rfl, k1⟩
    have hv1 := HV.out.kept k1 (fun _ _ _ h => h)
    clear HV
    go_wp2_with fail
    refine (C.out.2.1 _ _ _ _ hv1).mono ?_
    rintro e w2 ⟨rfl, k2⟩
    have hv2 := hv1.kept k2 (fun _ _ _ h => h)
    have k02 := k1.trans k2
    clear hv1 k1 k2
    go_wp2_with fail
    refine (C.out.1 _).mono ?_
    rintro e w3 ⟨rfl, k3⟩
    have hA3 : Blk w3 w2.heap.size #[.int .u64 (R : Int), .int .u64 (S : Int)] 25 := (Blk.new w2 _ _).kept k3 (fun h => h)
    have kk := ((Kept.refl None w2).alloc _).trans k3
    have hv3 := hv2.kept kk (fun _ _ _ h => h)
    have k03 := k02.trans kk
    have hs3 := kk.size
    have hl3 := hA3.lt
    have p0 : w3.cell? ⟨w2.heap.size, 0, none⟩ = some (.int .u64 (R : Int)) := hA3.cell 0
    have p1 : w3.cell? ⟨w2.heap.size, 1, none⟩ = some (.int .u64 (S : Int)) := hA3.cell 1
    clear hv2 k02 k3 kk
    go_wp2_with fail
    obtain ⟨w4, hw4⟩ : ∃ w4, w4 = (w3.alloc (.cells #[.int .u64 (R : Int), .int .u64 (z : Int)] 25)).alloc (.cells #[.int .u64 (R2 : Int), .int .u64 (S : Int)] 25) := ⟨_, rfl⟩
    have k4 : Kept None w3 w4 := by rw [hw4]; exact ((Kept.refl None w3).alloc _).alloc _
    have hA4 := hA3.kept k4 (fun h => h)
    have hB4 : Blk w4 w3.heap.size #[.int .u64 (R : Int), .int .u64 (z : Int)] 25 := by rw [hw4]; exact (Blk.new w3 _ _).alloc _
    have hD4 : Blk w4 (w3.heap.size + 1) #[.int .u64 (R2 : Int), .int .u64 (S : Int)] 25 := by rw [hw4]; exact Blk.new2 w3 _ _ _
    have hv4 := hv3.kept k4 (fun _ _ _ h => h)
    have k04 := k03.trans k4
    rw [← hw4]
    have hA : ∀ W, Kept None w4 W → W.cell? ⟨w2.heap.size, 0, none⟩ = some (.int .u64 (R : Int)) := fun W hW => (hA4.kept hW (fun h => h)).cell 0
    have hA' : ∀ W, Kept None w4 W → W.cell? ⟨w2.heap.size, 1, none⟩ = some (.int .u64 (S : Int)) := fun W hW => (hA4.kept hW (fun h => h)).cell 1
    have hB : ∀ W, Kept None w4 W → W.cell? ⟨w3.heap.size, 0, none⟩ = some (.int .u64 (R : Int)) := fun W hW => (hB4.kept hW (fun h => h)).cell 0
    have hB' : ∀ W, Kept None w4 W → W.cell? ⟨w3.heap.size, 1, none⟩ = some (.int .u64 (z : Int)) := fun W hW => (hB4.kept hW (fun h => h)).cell 1
    have hD : ∀ W, Kept None w4 W → W.cell? ⟨w3.heap.size + 1, 0, none⟩ = some (.int .u64 (R2 : Int)) := fun W hW => (hD4.kept hW (fun h => h)).cell 0
    have hD' : ∀ W, Kept None w4 W → W.cell? ⟨w3.heap.size + 1, 1, none⟩ = some (.int .u64 (S : Int)) := fun W hW => (hD4.kept hW (fun h => h)).cell 1
    clear hA3 hA4 hB4 hD4 hv3 k03 k4 hw4 hs3 hl3 p0 p1
    have hs : Steady [.val 3 (.bool true), .val 8 (.bool b), .val 12 (.bool b), .val 19 (.bool false), .val 31 (.bool false), .val 39 (.bool false), .val 48 (.bool false)] := Steady.val (Steady.val (Steady.val (Steady.val (Steady.val (Steady.val (Steady.val (Steady.nil)))))))
    refine wp_region_kn w4 _ hs (Kept.refl _ _) (by kernel_rfl) (by kernel_rfl) (by kernel_rfl) ?_
    iterate 3 (refine wpPar_pure rfl (by rfl) _ (fun W hW => by
        have a0 := hA W hW
        have a1 := hA' W hW
        have b0 := hB W hW
        have b1 := hB' W hW
        have d0 := hD W hW
        have d1 := hD' W hW
        go_simp
        exact rfl) ?_; simp only [Act.put, List.setIfInBounds_toArray, List.set_cons_zero, List.set_cons_succ])
    refine wpKn_adds hs rfl (by rfl) (fun W hW hd => ?_) (fun v3 hv => ?_)
    · unfold Gives
      have hvW := hv4.kept hW (fun _ _ _ h => h)
      go_simp
      refine gives_call (C.out.2.2.1 _ _ _ W hvW) ?_
      rintro e w3 ⟨rfl, k3⟩
      exact ⟨_, rfl, k3, rfl, trivial⟩
    obtain rfl : v3 = .bool true := hv
    simp only [Act.put, List.setIfInBounds_toArray, List.set_cons_zero, List.set_cons_succ]
    iterate 4 (refine wpPar_pure rfl (by rfl) _ (fun W hW => by
        have a0 := hA W hW
        have a1 := hA' W hW
        have b0 := hB W hW
        have b1 := hB' W hW
        have d0 := hD W hW
        have d1 := hD' W hW
        go_simp
        exact rfl) ?_; simp only [Act.put, List.setIfInBounds_toArray, List.set_cons_zero, List.set_cons_succ])
    refine wpKn_adds hs rfl (by rfl) (fun W hW hd => ?_) (fun v8 hv => ?_)
    · unfold Gives
      have hvW := hv4.kept hW (fun _ _ _ h => h)
      go_simp
      refine gives_call (C.out.2.2.2.1 _ _ _ W hvW) ?_
      rintro e w3 ⟨rfl, k3⟩
      exact ⟨_, rfl, k3, rfl, trivial⟩
    obtain rfl : v8 = .bool b := hv
    simp only [Act.put, List.setIfInBounds_toArray, List.set_cons_zero, List.set_cons_succ]
    iterate 3 (refine wpPar_pure rfl (by rfl) _ (fun W hW => by
        have a0 := hA W hW
        have a1 := hA' W hW
        have b0 := hB W hW
        have b1 := hB' W hW
        have d0 := hD W hW
        have d1 := hD' W hW
        go_simp
        exact rfl) ?_; simp only [Act.put, List.setIfInBounds_toArray, List.set_cons_zero, List.set_cons_succ])
    refine wpKn_adds hs rfl (by rfl) (fun W hW hd => ?_) (fun v12 hv => ?_)
    · unfold Gives
      have hvW := hv4.kept hW (fun _ _ _ h => h)
      go_simp
      refine gives_call (C.out.2.2.2.2.1 _ _ _ W hvW) ?_
      rintro e w3 ⟨rfl, k3⟩
      exact ⟨_, rfl, k3, rfl, trivial⟩
    obtain rfl : v12 = .bool b := hv
    simp only [Act.put, List.setIfInBounds_toArray, List.set_cons_zero, List.set_cons_succ]
    iterate 6 (refine wpPar_pure rfl (by rfl) _ (fun W hW => by
        have a0 := hA W hW
        have a1 := hA' W hW
        have b0 := hB W hW
        have b1 := hB' W hW
        have d0 := hD W hW
        have d1 := hD' W hW
        go_simp
        exact rfl) ?_; simp only [Act.put, List.setIfInBounds_toArray, List.set_cons_zero, List.set_cons_succ])
    refine wpKn_adds hs rfl (by rfl) (fun W hW hd => ?_) (fun v19 hv => ?_)
    · unfold Gives
      have hvW := hv4.kept hW (fun _ _ _ h => h)
      go_simp
      refine gives_call (C.out.2.2.2.2.2.1 _ _ _ W hvW) ?_
      rintro e w3 ⟨rfl, k3⟩
      exact ⟨_, rfl, k3, rfl, trivial⟩
    obtain rfl : v19 = .bool false := hv
    simp only [Act.put, List.setIfInBounds_toArray, List.set_cons_zero, List.set_cons_succ]
    iterate 11 (refine wpPar_pure rfl (by rfl) _ (fun W hW => by
        have a0 := hA W hW
        have a1 := hA' W hW
        have b0 := hB W hW
        have b1 := hB' W hW
        have d0 := hD W hW
        have d1 := hD' W hW
        go_simp
        exact rfl) ?_; simp only [Act.put, List.setIfInBounds_toArray, List.set_cons_zero, List.set_cons_succ])
    refine wpKn_adds hs rfl (by rfl) (fun W hW hd => ?_) (fun v31 hv => ?_)
    · unfold Gives
      have hvW := hv4.kept hW (fun _ _ _ h => h)
      go_simp
      refine gives_call (C.out.2.2.2.2.2.2.1 _ _ _ W hvW) ?_
      rintro e w3 ⟨rfl, k3⟩
      exact ⟨_, rfl, k3, rfl, trivial⟩
    obtain rfl : v31 = .bool false := hv
    simp only [Act.put, List.setIfInBounds_toArray, List.set_cons_zero, List.set_cons_succ]
    iterate 7 (refine wpPar_pure rfl (by rfl) _ (fun W hW => by
        have a0 := hA W hW
        have a1 := hA' W hW
        have b0 := hB W hW
        have b1 := hB' W hW
        have d0 := hD W hW
        have d1 := hD' W hW
        go_simp
        exact rfl) ?_; simp only [Act.put, List.setIfInBounds_toArray, List.set_cons_zero, List.set_cons_succ])
    refine wpKn_adds hs rfl (by rfl) (fun W hW hd => ?_) (fun v39 hv => ?_)
    · unfold Gives
      have hvW := hv4.kept hW (fun _ _ _ h => h)
      go_simp
      refine gives_call (C.out.2.2.2.2.2.2.2.1 _ _ _ W hvW) ?_
      rintro e w3 ⟨rfl, k3⟩
      exact ⟨_, rfl, k3, rfl, trivial⟩
    obtain rfl : v39 = .bool false := hv
    simp only [Act.put, List.setIfInBounds_toArray, List.set_cons_zero, List.set_cons_succ]
    iterate 8 (refine wpPar_pure rfl (by rfl) _ (fun W hW => by
        have a0 := hA W hW
        have a1 := hA' W hW
        have b0 := hB W hW
        have b1 := hB' W hW
        have d0 := hD W hW
        have d1 := hD' W hW
        go_simp
        exact rfl) ?_; simp only [Act.put, List.setIfInBounds_toArray, List.set_cons_zero, List.set_cons_succ])
    refine wpKn_adds hs rfl (by rfl) (fun W hW hd => ?_) (fun v48 hv => ?_)
    · unfold Gives
      have hvW := hv4.kept hW (fun _ _ _ h => h)
      go_simp
      refine gives_call (C.out.2.2.2.2.2.2.2.2 _ _ _ W hvW) ?_
      rintro e w3 ⟨rfl, k3⟩
      exact ⟨_, rfl, k3, rfl, trivial⟩
    obtain rfl : v48 = .bool false := hv
    simp only [Act.put, List.setIfInBounds_toArray, List.set_cons_zero, List.set_cons_succ]
    iterate 3 (refine wpPar_pure rfl (by rfl) _ (fun W hW => by
        go_simp
        exact rfl) ?_; simp only [Act.put, List.setIfInBounds_toArray, List.set_cons_zero, List.set_cons_succ])
    refine wpPar_nil (fun W hW _ => ?_)
    have k05 := k04.then hW (fun _ _ h => h)
    clear hA hA' hB hB' hD hD' hs hW k04 hv4
    go_wp2
    go_ret
    exact ⟨rfl, k05⟩
end Go.Proofs.Ytpoaehhmahkeaaa
