/- postmarklaw4.SigsTell: true. -/
import Derived.Test.YtpoaehhmahkeaaaKnown4
import Derived.Test.YtpoaehhmahkeaaaRefSigs4
namespace Go.Proofs.Ytpoaehhmahkeaaa
open Go.RowKit Go.Pm

theorem xor_nat (a b : Int) : ∃ c : Nat, bits .xor .u64 a b = (c : Int) := by
  refine ⟨(bits .xor .u64 a b).toNat, (Int.toNat_of_nonneg ?_).symm⟩
  show 0 ≤ IntKind.u64.wrap ((BitVec.ofInt 64 a ^^^ BitVec.ofInt 64 b).toNat : Int)
  rw [IntKind.wrap_u64]
  exact Int.emod_nonneg _ (by decide)

set_option maxRecDepth 100000 in
set_option maxHeartbeats 16000000 in
theorem sigsTell (n : Nat) (v : Value) (lo hi : Nat) (m : List UInt8) (y rr rs : Nat) (what z : Nat) (w : World) (hv : Bs w lo hi v m) (hw : what < 256) :
    Calls Try.prog 3 #[.int .u64 n, v, .int .u64 y, Sg.sigV rr rs, .int .u8 what, .int .u64 z] w fun e w' => e = .returned (.bool true) ∧ Kept None w w' := by
  have hv0 := hv.kept ((Kept.refl None w).alloc (.cells #[.int .u64 rr, .int .u64 rs] 25)) (fun _ _ _ h => h)
  obtain ⟨a, cap, rfl, g1, g2, g3⟩ := hv.shape
  clear hv g3
  by_cases hl : 100 < m.length
  · go_enter Try.func3, Try.ntmps3
    go_wp2_with fail
    refine (known _).mono ?_
    rintro e w1 ⟨rfl, k1⟩
    go_wp2
    go_ret
    exact ⟨rfl, ((Kept.refl None w).alloc _).trans k1⟩
  · have hl' := hid (show m.length ≤ 549755813888 by omega)
    have hj : ((what : Int) % 4 = 0 ∨ (what : Int) % 4 = 1 ∨ (what : Int) % 4 = 2 ∨ (what : Int) % 4 = 3) := by omega
    have HJ := hid hj
    clear hj
    go_enter Try.func3, Try.ntmps3
    go_wp2_with fail
    refine (known _).mono ?_
    rintro e w1 ⟨rfl, k1⟩
    have hR1 : Blk w1 w.heap.size #[.int .u64 (rr : Int), .int .u64 (rs : Int)] 25 := (Blk.new w _ _).kept k1 (fun h => h)
    have hv1 := hv0.kept k1 (fun _ _ _ h => h)
    have k01 := ((Kept.refl None w).alloc (.cells #[.int .u64 (rr : Int), .int .u64 (rs : Int)] 25)).trans k1
    clear hv0 k1
    go_wp2
    go_loopw [31] (fun c wr => ∃ k : Nat, k ≤ 3 ∧ c = .int .i64 k ∧ Kept None w1 wr ∧ Blk wr w1.heap.size #[.int .u64 n, .int .u64 ((n : Int) % 1000), .int .u64 ((n : Int) % 2305843009213693950)] 22) (fun c _ => 3 - (intOf c).toNat)
    case atStart => exact ⟨0, Nat.zero_le _, rfl, (Kept.refl _ _).alloc _, Blk.new _ _ _⟩
    case round =>
      obtain ⟨k, hk, rfl, hkk, hL⟩ := hrel
      have hsz := hkk.size
      by_cases hlt : k < 3
      · obtain ⟨x, hx⟩ : ∃ x : Nat, wr.cell? ⟨w1.heap.size, k, none⟩ = some (.int .u64 x) := by
          rw [hL.cell]
          match k, hlt with
          | 0, _ => exact ⟨n, rfl⟩
          | 1, _ => exact ⟨n % 1000, by rw [Int.natCast_emod]; rfl⟩
          | 2, _ => exact ⟨n % 2305843009213693950, by rw [Int.natCast_emod]; rfl⟩
        have c0 := fun v lo hi w h => Sg.sign x v lo hi m w h hl'.out
        have c1 := fun v lo hi w h => Ref.sign x v lo hi m w h hl'.out
        have c2 := fun w => Sg.pub x w
        have c3 := fun w => Ref.pub x w
        have c4 := fun v lo hi w h => Sg.check (pubN x) (sigR x m) (sigS x m) v lo hi m w h hl'.out
        rw [check_sign] at c4
        have c5 := fun w => Sg.put (sigR x m) (sigS x m) w (Nat.lt_trans (sigR_lt x m) (by decide)) (Nat.lt_trans (sigS_lt x m) (by decide))
        have c6 := fun w => Ref.putSig (sigR x m) (sigS x m) w (Nat.lt_trans (sigR_lt x m) (by decide)) (Nat.lt_trans (sigS_lt x m) (by decide))
        have d0 := fun v lo hi w h => Sg.check y (sigR x m) (sigS x m) v lo hi m w h hl'.out
        have d1 := fun v lo hi w h => Ref.check y (sigR x m) (sigS x m) v lo hi m w h hl'.out
        have d2 := fun v lo hi w h => Sg.check (pubN x) rr rs v lo hi m w h hl'.out
        have d3 := fun v lo hi w h => Ref.check (pubN x) rr rs v lo hi m w h hl'.out
        have l2 := sigS_lt x m
        obtain ⟨R, hR⟩ : ∃ R, R = sigR x m := ⟨_, rfl⟩
        obtain ⟨S, hS⟩ : ∃ S, S = sigS x m := ⟨_, rfl⟩
        obtain ⟨Q, hQ⟩ : ∃ Q, Q = pubN x := ⟨_, rfl⟩
        rw [← hR, ← hS] at c0 c1 c5 c6 d0 d1
        rw [← hQ] at c2 c3 d2 d3
        rw [← hR, ← hS, ← hQ] at c4
        rw [← hS] at l2
        have ew3 : IntKind.u64.wrap ((S : Int) + 2305843009213693950) = ((S + order61 : Nat) : Int) := by
          unfold order61 at l2
          rw [Int.natCast_add, IntKind.wrap_u64]; exact Int.emod_eq_of_lt (by omega) (by omega)
        obtain ⟨S2, hS2⟩ : ∃ S2, S2 = S + order61 := ⟨_, rfl⟩
        rw [← hS2] at ew3
        obtain ⟨R2, ex⟩ := xor_nat (R : Int) (bits .and .u64 (z : Int) 1)
        obtain ⟨B, hBb⟩ : ∃ B, B = Sg.sigB R S := ⟨_, rfl⟩
        rw [← hBb] at c5 c6
        obtain ⟨q2, hq2⟩ : ∃ q2, q2 = checkN y m R S := ⟨_, rfl⟩
        obtain ⟨q3, hq3⟩ : ∃ q3, q3 = checkN Q m rr rs := ⟨_, rfl⟩
        rw [← hq2] at d0 d1
        rw [← hq3] at d2 d3
        have e1 := fun r s => And.intro (fun v lo hi w h => Sg.check Q r s v lo hi m w h hl'.out) (fun v lo hi w h => Ref.check Q r s v lo hi m w h hl'.out)
        have C := hid (And.intro c0 (And.intro c1 (And.intro c2 (And.intro c3 (And.intro c4 (And.intro c5 c6))))))
        have D := hid (And.intro d0 (And.intro d1 (And.intro d2 d3)))
        have E1 := hid e1
        clear c0 c1 c2 c3 c4 c5 c6 d0 d1 d2 d3 e1 l2 hR hS hQ hS2 hBb hq2 hq3
        obtain ⟨wx, hwx⟩ : ∃ wx, wx = wr := ⟨_, rfl⟩
        rw [← hwx] at hkk hL hx hsz ⊢
        clear hwx
        have hv3 := hv1.kept hkk (fun _ _ _ h => h)
        go_wp2_with fail
        refine (C.out.1 _ _ _ _ hv3).mono ?_
        rintro e w4 ⟨rfl, k4⟩
        have hv4 := hv3.kept k4 (fun _ _ _ h => h)
        have hs4 := k4.size
        clear hv3
        go_wp2_with fail
        have kk4 := k4.alloc (.cells #[.int .u64 (R : Int), .int .u64 (S : Int)] 25)
        have hv5 := hv4.kept ((Kept.refl None w4).alloc (.cells #[.int .u64 (R : Int), .int .u64 (S : Int)] 25)) (fun _ _ _ h => h)
        refine (C.out.2.1 _ _ _ _ hv5).mono ?_
        rintro e w5 ⟨rfl, k5⟩
        have hA5 : Blk w5 w4.heap.size #[.int .u64 (R : Int), .int .u64 (S : Int)] 25 := (Blk.new w4 _ _).kept k5 (fun h => h)
        have kk5 := kk4.trans k5
        have hv6 := hv5.kept k5 (fun _ _ _ h => h)
        have hl5 := hA5.lt
        clear hv4 hv5 k4 kk4 k5
        go_wp2_with fail
        have kk6 := kk5.alloc (.cells #[.int .u64 (R : Int), .int .u64 (S : Int)] 25)
        refine (C.out.2.2.2.1 _).mono ?_
        rintro e w7 ⟨rfl, k7⟩
        have hB7 : Blk w7 w5.heap.size #[.int .u64 (R : Int), .int .u64 (S : Int)] 25 := (Blk.new w5 _ _).kept k7 (fun h => h)
        have kk := ((Kept.refl None w5).alloc (.cells #[.int .u64 (R : Int), .int .u64 (S : Int)] 25)).trans k7
        have hA7 := hA5.kept kk (fun h => h)
        have hv7 := hv6.kept kk (fun _ _ _ h => h)
        have kk7 := kk5.trans kk
        clear kk6 kk5 kk hA5 hv6 k7
        go_wp2_with fail
        have hA : ∀ W, Kept None w7 W → W.cell? ⟨w4.heap.size, 0, none⟩ = some (.int .u64 (R : Int)) := fun W hW => (hA7.kept hW (fun h => h)).cell 0
        have hA' : ∀ W, Kept None w7 W → W.cell? ⟨w4.heap.size, 1, none⟩ = some (.int .u64 (S : Int)) := fun W hW => (hA7.kept hW (fun h => h)).cell 1
        have hB : ∀ W, Kept None w7 W → W.cell? ⟨w5.heap.size, 0, none⟩ = some (.int .u64 (R : Int)) := fun W hW => (hB7.kept hW (fun h => h)).cell 0
        have hB' : ∀ W, Kept None w7 W → W.cell? ⟨w5.heap.size, 1, none⟩ = some (.int .u64 (S : Int)) := fun W hW => (hB7.kept hW (fun h => h)).cell 1
        have hs : Steady [.val 5 (.int .u64 (Q : Int)), .val 13 (.bool true), .bytes 18 (B), .val 19 (.string ⟨B.toArray⟩) [18], .bytes 21 (B), .val 22 (.string ⟨B.toArray⟩) [21]] := Steady.val (Steady.val (Steady.bytes (Steady.val (Steady.bytes (Steady.val (Steady.nil))))))
        refine wp_region_kn w7 _ hs (Kept.refl _ _) (by kernel_rfl) (by kernel_rfl) (by kernel_rfl) ?_
        iterate 5 (refine wpPar_pure rfl (by rfl) _ (fun W hW => by
            have a0 := hA W hW
            have a1 := hA' W hW
            have b0 := hB W hW
            have b1 := hB' W hW
            go_simp
            exact rfl) ?_; simp only [Act.put, List.setIfInBounds_toArray, List.set_cons_zero, List.set_cons_succ])
        refine wpKn_adds hs rfl (by rfl) (fun W hW hd => ?_) (fun v5 hv => ?_)
        · unfold Gives
          go_simp
          refine gives_call (C.out.2.2.1 W) ?_
          rintro e w3 ⟨rfl, k3⟩
          exact ⟨_, rfl, k3, rfl, trivial⟩
        obtain rfl : v5 = .int .u64 (Q : Int) := hv
        simp only [Act.put, List.setIfInBounds_toArray, List.set_cons_zero, List.set_cons_succ]
        iterate 7 (refine wpPar_pure rfl (by rfl) _ (fun W hW => by
            have a0 := hA W hW
            have a1 := hA' W hW
            have b0 := hB W hW
            have b1 := hB' W hW
            go_simp
            exact rfl) ?_; simp only [Act.put, List.setIfInBounds_toArray, List.set_cons_zero, List.set_cons_succ])
        refine wpKn_adds hs rfl (by rfl) (fun W hW hd => ?_) (fun v13 hv => ?_)
        · unfold Gives
          have hvW := hv7.kept hW (fun _ _ _ h => h)
          go_simp
          refine gives_call (C.out.2.2.2.2.1 _ _ _ W hvW) ?_
          rintro e w3 ⟨rfl, k3⟩
          exact ⟨_, rfl, k3, rfl, trivial⟩
        obtain rfl : v13 = .bool true := hv
        simp only [Act.put, List.setIfInBounds_toArray, List.set_cons_zero, List.set_cons_succ]
        iterate 4 (refine wpPar_pure rfl (by rfl) _ (fun W hW => by
            have a0 := hA W hW
            have a1 := hA' W hW
            have b0 := hB W hW
            have b1 := hB' W hW
            go_simp
            exact rfl) ?_; simp only [Act.put, List.setIfInBounds_toArray, List.set_cons_zero, List.set_cons_succ])
        refine wpKn_adds hs rfl (by rfl) (fun W hW hd => ?_) (fun v18 hv => ?_)
        · unfold Gives
          go_simp
          refine gives_call (C.out.2.2.2.2.2.1 W) ?_
          rintro e w3 ⟨u, rfl, k3, b3⟩
          exact ⟨_, rfl, k3, b3.form, _, _, b3.bs (Nat.le_refl _)⟩
        obtain ⟨a18, c18, rfl⟩ := hv
        simp only [Act.put, List.setIfInBounds_toArray, List.set_cons_zero, List.set_cons_succ]
        refine wpKn_adds hs rfl (by rfl) (fun W hW hd => ?_) (fun v19 hv => ?_)
        · unfold Gives
          obtain ⟨lo1, hi1, h1⟩ : ∃ lo hi, Bs W lo hi (.slice a18 B.length c18) B := hd 18 (List.Mem.head _)
          have hcv := cvBytes h1
          go_simp
          exact ⟨Kept.refl _ _, rfl, trivial⟩
        obtain rfl : v19 = .string ⟨B.toArray⟩ := hv
        simp only [Act.put, List.setIfInBounds_toArray, List.set_cons_zero, List.set_cons_succ]
        iterate 1 (refine wpPar_pure rfl (by rfl) _ (fun W hW => by
            have a0 := hA W hW
            have a1 := hA' W hW
            have b0 := hB W hW
            have b1 := hB' W hW
            go_simp
            exact rfl) ?_; simp only [Act.put, List.setIfInBounds_toArray, List.set_cons_zero, List.set_cons_succ])
        refine wpKn_adds hs rfl (by rfl) (fun W hW hd => ?_) (fun v21 hv => ?_)
        · unfold Gives
          go_simp
          refine gives_call (C.out.2.2.2.2.2.2 W) ?_
          rintro e w3 ⟨u, rfl, k3, b3⟩
          exact ⟨_, rfl, k3, b3.form, _, _, b3.bs (Nat.le_refl _)⟩
        obtain ⟨a21, c21, rfl⟩ := hv
        simp only [Act.put, List.setIfInBounds_toArray, List.set_cons_zero, List.set_cons_succ]
        refine wpKn_adds hs rfl (by rfl) (fun W hW hd => ?_) (fun v22 hv => ?_)
        · unfold Gives
          obtain ⟨lo1, hi1, h1⟩ : ∃ lo hi, Bs W lo hi (.slice a21 B.length c21) B := hd 21 (List.Mem.head _)
          have hcv := cvBytes h1
          go_simp
          exact ⟨Kept.refl _ _, rfl, trivial⟩
        obtain rfl : v22 = .string ⟨B.toArray⟩ := hv
        simp only [Act.put, List.setIfInBounds_toArray, List.set_cons_zero, List.set_cons_succ]
        iterate 2 (refine wpPar_pure rfl (by rfl) _ (fun W hW => by
            go_simp
            exact rfl) ?_; simp only [Act.put, List.setIfInBounds_toArray, List.set_cons_zero, List.set_cons_succ])
        refine wpPar_nil (fun W hW _ => ?_)
        have hB8 := hB7.kept hW (fun h => h)
        have hv8 := hv7.kept hW (fun _ _ _ h => h)
        have kk8 := kk7.then hW (fun _ _ h => h)
        have p0 : W.cell? ⟨w5.heap.size, 0, none⟩ = some (.int .u64 (R : Int)) := hB8.cell 0
        have p1 : W.cell? ⟨w5.heap.size, 1, none⟩ = some (.int .u64 (S : Int)) := hB8.cell 1
        clear hA hA' hB hB' hs hA7 hB7 hv7 kk7 hW
        rcases HJ.out with hj | hj | hj | hj
        all_goals
          go_wp2_with fail
          first | (obtain ⟨w9, hw9⟩ : ∃ w9, w9 = W.alloc (.cells #[.int .u64 (z : Int), .int .u64 (S : Int)] 25) := ⟨_, rfl⟩; rw [← hw9]; obtain ⟨bR, bS, hw'⟩ : ∃ bR bS : Nat, w9 = W.alloc (.cells #[.int .u64 (bR : Int), .int .u64 (bS : Int)] 25) := ⟨z, S, hw9⟩; clear hw9) | (obtain ⟨w9, hw9⟩ : ∃ w9, w9 = W.alloc (.cells #[.int .u64 (R : Int), .int .u64 (z : Int)] 25) := ⟨_, rfl⟩; rw [← hw9]; obtain ⟨bR, bS, hw'⟩ : ∃ bR bS : Nat, w9 = W.alloc (.cells #[.int .u64 (bR : Int), .int .u64 (bS : Int)] 25) := ⟨R, z, hw9⟩; clear hw9) | (obtain ⟨w9, hw9⟩ : ∃ w9, w9 = W.alloc (.cells #[.int .u64 (R : Int), .int .u64 (S2 : Int)] 25) := ⟨_, rfl⟩; rw [← hw9]; obtain ⟨bR, bS, hw'⟩ : ∃ bR bS : Nat, w9 = W.alloc (.cells #[.int .u64 (bR : Int), .int .u64 (bS : Int)] 25) := ⟨R, S2, hw9⟩; clear hw9) | (obtain ⟨w9, hw9⟩ : ∃ w9, w9 = W.alloc (.cells #[.int .u64 (R2 : Int), .int .u64 (S : Int)] 25) := ⟨_, rfl⟩; rw [← hw9]; obtain ⟨bR, bS, hw'⟩ : ∃ bR bS : Nat, w9 = W.alloc (.cells #[.int .u64 (bR : Int), .int .u64 (bS : Int)] 25) := ⟨R2, S, hw9⟩; clear hw9)
          have k9 : Kept None W w9 := by rw [hw']; exact (Kept.refl None W).alloc _
          have hD9 : Blk w9 W.heap.size #[.int .u64 (bR : Int), .int .u64 (bS : Int)] 25 := by rw [hw']; exact Blk.new W _ _
          have hB9 := hB8.kept k9 (fun h => h)
          have hv9 := hv8.kept k9 (fun _ _ _ h => h)
          have kk9 := hkk.trans (kk8.trans k9)
          have hR9 := hR1.kept kk9 (fun h => h)
          have hL9 := hL.kept (kk8.trans k9) (fun h => h)
          have E := E1.out bR bS
          obtain ⟨q1, hq1⟩ : ∃ q1, q1 = checkN Q m bR bS := ⟨_, rfl⟩
          rw [← hq1] at E
          have E := hid E
          have hB : ∀ W, Kept None w9 W → W.cell? ⟨w5.heap.size, 0, none⟩ = some (.int .u64 (R : Int)) := fun W hW => (hB9.kept hW (fun h => h)).cell 0
          have hB' : ∀ W, Kept None w9 W → W.cell? ⟨w5.heap.size, 1, none⟩ = some (.int .u64 (S : Int)) := fun W hW => (hB9.kept hW (fun h => h)).cell 1
          have hD : ∀ Z, Kept None w9 Z → Z.cell? ⟨W.heap.size, 0, none⟩ = some (.int .u64 (bR : Int)) := fun Z hZ => (hD9.kept hZ (fun h => h)).cell 0
          have hD' : ∀ Z, Kept None w9 Z → Z.cell? ⟨W.heap.size, 1, none⟩ = some (.int .u64 (bS : Int)) := fun Z hZ => (hD9.kept hZ (fun h => h)).cell 1
          have hR : ∀ W, Kept None w9 W → W.cell? ⟨w.heap.size, 0, none⟩ = some (.int .u64 (rr : Int)) := fun W hW => (hR9.kept hW (fun h => h)).cell 0
          have hR' : ∀ W, Kept None w9 W → W.cell? ⟨w.heap.size, 1, none⟩ = some (.int .u64 (rs : Int)) := fun W hW => (hR9.kept hW (fun h => h)).cell 1
          clear hB8 hv8 kk8 p0 p1 hw' hD9 hB9 hq1 k9 hkk hL hx
          have hs : Steady [.val 3 (.bool q1), .val 7 (.bool q1), .val 13 (.bool q2), .val 17 (.bool q2), .val 24 (.bool q3), .val 28 (.bool q3)] := Steady.val (Steady.val (Steady.val (Steady.val (Steady.val (Steady.val (Steady.nil))))))
          refine wp_region_kn w9 _ hs (Kept.refl _ _) (by kernel_rfl) (by kernel_rfl) (by kernel_rfl) ?_
          iterate 3 (refine wpPar_pure rfl (by rfl) _ (fun W hW => by
              have b0 := hB W hW
              have b1 := hB' W hW
              have d0 := hD W hW
              have d1 := hD' W hW
              have r0 := hR W hW
              have r1 := hR' W hW
              go_simp
              exact rfl) ?_; simp only [Act.put, List.setIfInBounds_toArray, List.set_cons_zero, List.set_cons_succ])
          refine wpKn_adds hs rfl (by rfl) (fun W hW hd => ?_) (fun v3 hv => ?_)
          · unfold Gives
            have hvW := hv9.kept hW (fun _ _ _ h => h)
            go_simp
            refine gives_call (E.out.1 _ _ _ W hvW) ?_
            rintro e w3 ⟨rfl, k3⟩
            exact ⟨_, rfl, k3, rfl, trivial⟩
          obtain rfl : v3 = .bool q1 := hv
          simp only [Act.put, List.setIfInBounds_toArray, List.set_cons_zero, List.set_cons_succ]
          iterate 3 (refine wpPar_pure rfl (by rfl) _ (fun W hW => by
              have b0 := hB W hW
              have b1 := hB' W hW
              have d0 := hD W hW
              have d1 := hD' W hW
              have r0 := hR W hW
              have r1 := hR' W hW
              go_simp
              exact rfl) ?_; simp only [Act.put, List.setIfInBounds_toArray, List.set_cons_zero, List.set_cons_succ])
          refine wpKn_adds hs rfl (by rfl) (fun W hW hd => ?_) (fun v7 hv => ?_)
          · unfold Gives
            have hvW := hv9.kept hW (fun _ _ _ h => h)
            go_simp
            refine gives_call (E.out.2 _ _ _ W hvW) ?_
            rintro e w3 ⟨rfl, k3⟩
            exact ⟨_, rfl, k3, rfl, trivial⟩
          obtain rfl : v7 = .bool q1 := hv
          simp only [Act.put, List.setIfInBounds_toArray, List.set_cons_zero, List.set_cons_succ]
          iterate 5 (refine wpPar_pure rfl (by rfl) _ (fun W hW => by
              have b0 := hB W hW
              have b1 := hB' W hW
              have d0 := hD W hW
              have d1 := hD' W hW
              have r0 := hR W hW
              have r1 := hR' W hW
              go_simp
              exact rfl) ?_; simp only [Act.put, List.setIfInBounds_toArray, List.set_cons_zero, List.set_cons_succ])
          refine wpKn_adds hs rfl (by rfl) (fun W hW hd => ?_) (fun v13 hv => ?_)
          · unfold Gives
            have hvW := hv9.kept hW (fun _ _ _ h => h)
            go_simp
            refine gives_call (D.out.1 _ _ _ W hvW) ?_
            rintro e w3 ⟨rfl, k3⟩
            exact ⟨_, rfl, k3, rfl, trivial⟩
          obtain rfl : v13 = .bool q2 := hv
          simp only [Act.put, List.setIfInBounds_toArray, List.set_cons_zero, List.set_cons_succ]
          iterate 3 (refine wpPar_pure rfl (by rfl) _ (fun W hW => by
              have b0 := hB W hW
              have b1 := hB' W hW
              have d0 := hD W hW
              have d1 := hD' W hW
              have r0 := hR W hW
              have r1 := hR' W hW
              go_simp
              exact rfl) ?_; simp only [Act.put, List.setIfInBounds_toArray, List.set_cons_zero, List.set_cons_succ])
          refine wpKn_adds hs rfl (by rfl) (fun W hW hd => ?_) (fun v17 hv => ?_)
          · unfold Gives
            have hvW := hv9.kept hW (fun _ _ _ h => h)
            go_simp
            refine gives_call (D.out.2.1 _ _ _ W hvW) ?_
            rintro e w3 ⟨rfl, k3⟩
            exact ⟨_, rfl, k3, rfl, trivial⟩
          obtain rfl : v17 = .bool q2 := hv
          simp only [Act.put, List.setIfInBounds_toArray, List.set_cons_zero, List.set_cons_succ]
          iterate 6 (refine wpPar_pure rfl (by rfl) _ (fun W hW => by
              have b0 := hB W hW
              have b1 := hB' W hW
              have d0 := hD W hW
              have d1 := hD' W hW
              have r0 := hR W hW
              have r1 := hR' W hW
              go_simp
              exact rfl) ?_; simp only [Act.put, List.setIfInBounds_toArray, List.set_cons_zero, List.set_cons_succ])
          refine wpKn_adds hs rfl (by rfl) (fun W hW hd => ?_) (fun v24 hv => ?_)
          · unfold Gives
            have hvW := hv9.kept hW (fun _ _ _ h => h)
            go_simp
            refine gives_call (D.out.2.2.1 _ _ _ W hvW) ?_
            rintro e w3 ⟨rfl, k3⟩
            exact ⟨_, rfl, k3, rfl, trivial⟩
          obtain rfl : v24 = .bool q3 := hv
          simp only [Act.put, List.setIfInBounds_toArray, List.set_cons_zero, List.set_cons_succ]
          iterate 3 (refine wpPar_pure rfl (by rfl) _ (fun W hW => by
              have b0 := hB W hW
              have b1 := hB' W hW
              have d0 := hD W hW
              have d1 := hD' W hW
              have r0 := hR W hW
              have r1 := hR' W hW
              go_simp
              exact rfl) ?_; simp only [Act.put, List.setIfInBounds_toArray, List.set_cons_zero, List.set_cons_succ])
          refine wpKn_adds hs rfl (by rfl) (fun W hW hd => ?_) (fun v28 hv => ?_)
          · unfold Gives
            have hvW := hv9.kept hW (fun _ _ _ h => h)
            go_simp
            refine gives_call (D.out.2.2.2 _ _ _ W hvW) ?_
            rintro e w3 ⟨rfl, k3⟩
            exact ⟨_, rfl, k3, rfl, trivial⟩
          obtain rfl : v28 = .bool q3 := hv
          simp only [Act.put, List.setIfInBounds_toArray, List.set_cons_zero, List.set_cons_succ]
          iterate 2 (refine wpPar_pure rfl (by rfl) _ (fun W hW => by
              go_simp
              exact rfl) ?_; simp only [Act.put, List.setIfInBounds_toArray, List.set_cons_zero, List.set_cons_succ])
          refine wpPar_nil (fun W2 hW2 _ => ?_)
          have k10 := kk9.trans hW2
          have hL10 := hL9.kept hW2 (fun h => h)
          clear hB hB' hD hD' hR hR' hs hR9 hL9 kk9 hv9 hW2
          go_wp2
          go_roundw
          case rel => exact ⟨k + 1, by omega, by go_num, k10, hL10⟩
          case measure => simp [intOf]; omega
      · have f1 := fun v lo hi w h => Sg.check y rr rs v lo hi m w h hl'.out
        have f2 := fun v lo hi w h => Ref.check y rr rs v lo hi m w h hl'.out
        obtain ⟨q4, hq4⟩ : ∃ q4, q4 = checkN y m rr rs := ⟨_, rfl⟩
        rw [← hq4] at f1 f2
        have F := hid (And.intro f1 f2)
        clear f1 f2 hq4 hL
        obtain ⟨wx, hwx⟩ : ∃ wx, wx = wr := ⟨_, rfl⟩
        rw [← hwx] at hkk hsz ⊢
        clear hwx
        have hR2 := hR1.kept hkk (fun h => h)
        have hvr := hv1.kept hkk (fun _ _ _ h => h)
        have k02 := k01.then hkk (fun _ _ h => h)
        have hR : ∀ W, Kept None wx W → W.cell? ⟨w.heap.size, 0, none⟩ = some (.int .u64 (rr : Int)) := fun W hW => (hR2.kept hW (fun h => h)).cell 0
        have hR' : ∀ W, Kept None wx W → W.cell? ⟨w.heap.size, 1, none⟩ = some (.int .u64 (rs : Int)) := fun W hW => (hR2.kept hW (fun h => h)).cell 1
        clear hR1 hv1 hkk k01
        go_wp2_with fail
        have hs : Steady [.val 3 (.bool q4), .val 7 (.bool q4)] := Steady.val (Steady.val (Steady.nil))
        refine wp_region_kn wx _ hs (Kept.refl _ _) (by kernel_rfl) (by kernel_rfl) (by kernel_rfl) ?_
        iterate 3 (refine wpPar_pure rfl (by rfl) _ (fun W hW => by
            have r0 := hR W hW
            have r1 := hR' W hW
            go_simp
            exact rfl) ?_; simp only [Act.put, List.setIfInBounds_toArray, List.set_cons_zero, List.set_cons_succ])
        refine wpKn_adds hs rfl (by rfl) (fun W hW hd => ?_) (fun v3 hv => ?_)
        · unfold Gives
          have hvW := hvr.kept hW (fun _ _ _ h => h)
          go_simp
          refine gives_call (F.out.1 _ _ _ W hvW) ?_
          rintro e w3 ⟨rfl, k3⟩
          exact ⟨_, rfl, k3, rfl, trivial⟩
        obtain rfl : v3 = .bool q4 := hv
        simp only [Act.put, List.setIfInBounds_toArray, List.set_cons_zero, List.set_cons_succ]
        iterate 3 (refine wpPar_pure rfl (by rfl) _ (fun W hW => by
            have r0 := hR W hW
            have r1 := hR' W hW
            go_simp
            exact rfl) ?_; simp only [Act.put, List.setIfInBounds_toArray, List.set_cons_zero, List.set_cons_succ])
        refine wpKn_adds hs rfl (by rfl) (fun W hW hd => ?_) (fun v7 hv => ?_)
        · unfold Gives
          have hvW := hvr.kept hW (fun _ _ _ h => h)
          go_simp
          refine gives_call (F.out.2 _ _ _ W hvW) ?_
          rintro e w3 ⟨rfl, k3⟩
          exact ⟨_, rfl, k3, rfl, trivial⟩
        obtain rfl : v7 = .bool q4 := hv
        simp only [Act.put, List.setIfInBounds_toArray, List.set_cons_zero, List.set_cons_succ]
        iterate 2 (refine wpPar_pure rfl (by rfl) _ (fun W hW => by
            go_simp
            exact rfl) ?_; simp only [Act.put, List.setIfInBounds_toArray, List.set_cons_zero, List.set_cons_succ])
        refine wpPar_nil (fun W hW _ => ?_)
        have k03 := k02.then hW (fun _ _ h => h)
        clear hR hR' hs hW hR2 hvr k02
        go_wp2
        go_ret
        exact ⟨rfl, k03⟩
end Go.Proofs.Ytpoaehhmahkeaaa
