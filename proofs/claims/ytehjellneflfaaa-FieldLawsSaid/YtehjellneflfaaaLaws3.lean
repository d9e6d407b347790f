/- postmarklaw3.FieldLaws: true. -/
import Derived.Test.YtehjellneflfaaaKnown3
namespace Go.Proofs.Ytehjellneflfaaa
open Go.RowKit Go.Pm

set_option maxRecDepth 100000 in
set_option maxHeartbeats 4000000 in
theorem fieldLaws (a b z i j : Nat) (w : World) (ha : a < 18446744073709551616) (hb : b < 18446744073709551616) (hz : z < 18446744073709551616) (hi : i < 256) (hj : j < 256) :
    Calls Try.prog 4 #[.int .u64 a, .int .u64 b, .int .u64 z, .int .u8 i, .int .u8 j] w fun e w' => e = .returned (.bool true) ∧ Kept None w w' := by
  have E1 := hid (fun w => edge a i w ha hi)
  have E2 := hid (fun w => edge b j w hb hj)
  clear ha hb hi hj
  go_enter Try.func4, Try.ntmps4
  go_wp2_with fail
  refine (known _).mono ?_
  rintro e w1 ⟨rfl, k1⟩
  go_wp2_with fail
  refine (E1.out _).mono ?_
  rintro e w2 ⟨x, hx, rfl, k2⟩
  go_wp2_with fail
  refine (E2.out _).mono ?_
  rintro e w3 ⟨y, hy, rfl, k3⟩
  have k03 := (k1.trans k2).trans k3
  have HX := hid (And.intro hx (And.intro hy hz))
  clear k1 k2 k3 hx hy hz
  go_wp2
  go_loopw [28] (fun c wr => ∃ k : Nat, k ≤ 2 ∧ c = .int .i64 k ∧ Kept None w wr ∧ Blk wr w3.heap.size #[.int .u64 2305843009213693951, .int .u64 2305843009213693950] 22) (fun c _ => 2 - (intOf c).toNat)
  case atStart => exact ⟨0, Nat.zero_le _, rfl, k03.alloc _, Blk.new _ _ _⟩
  case round =>
    clear k03
    obtain ⟨k, hk, rfl, hkk, hB⟩ := hrel
    by_cases hlt : k < 2
    · obtain ⟨m, hm, hmm⟩ : ∃ m : Nat, wr.cell? ⟨w3.heap.size, k, none⟩ = some (.int .u64 m) ∧ Ref.modOf m = m := by
        rw [hB.cell]
        match k, hlt with
        | 0, _ => exact ⟨2305843009213693951, rfl, modP⟩
        | 1, _ => exact ⟨2305843009213693950, rfl, modO⟩
      have hM : ∀ n, n % m < 18446744073709551616 := fun n => by rw [← hmm]; exact w_mod n m
      have c1 := fun w => Fd.mul x y m w HX.out.1 HX.out.2.1
      have c2 := fun w => Fd.mul y x m w HX.out.2.1 HX.out.1
      have c3 := fun w => Fd.mul y z m w HX.out.2.1 HX.out.2.2
      have c4 := fun w => Fd.mul x (y * z % m) m w HX.out.1 (hM _)
      have c5 := fun w => Fd.mul (x * y % m) z m w (hM _) HX.out.2.2
      have c6 := fun w => Fd.add y z m w
      have c7 := fun w => Fd.mul x ((y + z) % m) m w HX.out.1 (hM _)
      have c8 := fun w => Fd.mul x z m w HX.out.1 HX.out.2.2
      have c9 := fun w => Fd.add (x * y % m) (x * z % m) m w
      simp only [hmm] at c1 c2 c3 c4 c5 c6 c7 c8 c9
      rw [Nat.mul_comm y x] at c2
      rw [mulm_assoc] at c4
      rw [mulm_dist] at c7
      obtain ⟨p, hp⟩ : ∃ p, p = x * y % m := ⟨_, rfl⟩
      obtain ⟨q, hq⟩ : ∃ q, q = y * z % m := ⟨_, rfl⟩
      obtain ⟨r, hr⟩ : ∃ r, r = p * z % m := ⟨_, rfl⟩
      obtain ⟨s, hs⟩ : ∃ s, s = (y + z) % m := ⟨_, rfl⟩
      obtain ⟨t, ht⟩ : ∃ t, t = x * z % m := ⟨_, rfl⟩
      obtain ⟨v, hv⟩ : ∃ v, v = (p + t) % m := ⟨_, rfl⟩
      simp only [← hp, ← hq, ← hs, ← ht] at c1 c2 c3 c4 c5 c6 c7 c8 c9
      simp only [← hr, ← hv] at c4 c5 c7 c9
      have C := hid (And.intro c1 (And.intro c2 (And.intro c3 (And.intro c4 (And.intro c5 (And.intro c6 (And.intro c7 (And.intro c8 c9))))))))
      clear hM c1 c2 c3 c4 c5 c6 c7 c8 c9 hp hq hr hs ht hv hmm
      have hB' := fun (w' : World) (h : Kept None wr w') => hB.kept h (fun h => h)
      have kr : Kept None wr wr := Kept.refl _ _
      clear hB
      go_wp2_with fail
      refine (C.out.1 _).mono ?_
      rintro e w11 ⟨rfl, kk⟩
      have k11 := kr.then kk (fun _ _ h => h)
      clear kk kr
      go_wp2_with fail
      refine (C.out.2.1 _).mono ?_
      rintro e w12 ⟨rfl, kk⟩
      have k12 := k11.then kk (fun _ _ h => h)
      clear kk k11
      go_wp2_with fail
      refine (C.out.2.2.1 _).mono ?_
      rintro e w13 ⟨rfl, kk⟩
      have k13 := k12.then kk (fun _ _ h => h)
      clear kk k12
      go_wp2_with fail
      refine (C.out.2.2.2.1 _).mono ?_
      rintro e w14 ⟨rfl, kk⟩
      have k14 := k13.then kk (fun _ _ h => h)
      clear kk k13
      go_wp2_with fail
      refine (C.out.1 _).mono ?_
      rintro e w15 ⟨rfl, kk⟩
      have k15 := k14.then kk (fun _ _ h => h)
      clear kk k14
      go_wp2_with fail
      refine (C.out.2.2.2.2.1 _).mono ?_
      rintro e w16 ⟨rfl, kk⟩
      have k16 := k15.then kk (fun _ _ h => h)
      clear kk k15
      go_wp2_with fail
      refine (C.out.2.2.2.2.2.1 _).mono ?_
      rintro e w17 ⟨rfl, kk⟩
      have k17 := k16.then kk (fun _ _ h => h)
      clear kk k16
      go_wp2_with fail
      refine (C.out.2.2.2.2.2.2.1 _).mono ?_
      rintro e w18 ⟨rfl, kk⟩
      have k18 := k17.then kk (fun _ _ h => h)
      clear kk k17
      go_wp2_with fail
      refine (C.out.1 _).mono ?_
      rintro e w19 ⟨rfl, kk⟩
      have k19 := k18.then kk (fun _ _ h => h)
      clear kk k18
      go_wp2_with fail
      refine (C.out.2.2.2.2.2.2.2.1 _).mono ?_
      rintro e w20 ⟨rfl, kk⟩
      have k20 := k19.then kk (fun _ _ h => h)
      clear kk k19
      go_wp2_with fail
      refine (C.out.2.2.2.2.2.2.2.2 _).mono ?_
      rintro e w21 ⟨rfl, kk⟩
      have k21 := k20.then kk (fun _ _ h => h)
      clear kk k20
      have hB2 := hB' _ k21
      have hk2 := hkk.then k21 (fun _ _ h => h)
      clear hB' hkk k21
      go_wp2
      go_roundw
      case rel => exact ⟨k + 1, by omega, by go_num, hk2, hB2⟩
      case measure => simp [intOf]; omega
    · have c1 := fun w => Fd.inv x w HX.out.1
      have c2 := fun w => Fd.mul x (invm x) 2305843009213693951 w HX.out.1 (w_invm x)
      rw [modP] at c2
      have hxp : ((x % prime61 : Nat) : Int) = (x : Int) % 2305843009213693951 := by rw [Int.natCast_emod]; rfl
      have hul : ((invm x : Nat) : Int) < 2305843009213693951 := by have := invm_lt x; unfold prime61 at this; omega
      have hio := invm_iff x
      have hz := invm_zero x
      obtain ⟨u, hu⟩ : ∃ u, u = invm x := ⟨_, rfl⟩
      obtain ⟨o, ho⟩ : ∃ o, o = x * u % prime61 := ⟨_, rfl⟩
      simp only [← hu] at c1 c2 hul hio hz
      rw [← ho] at c2 hio
      have hcase : (((o : Int) == 1) = true ∧ ((x : Int) % 2305843009213693951 == 0) = false ∧ ((x : Int) % 2305843009213693951 != 0) = true) ∨ (((o : Int) == 1) = false ∧ ((x : Int) % 2305843009213693951 == 0) = true ∧ ((x : Int) % 2305843009213693951 != 0) = false ∧ u = 0) := by
        rw [← hxp]
        by_cases h : x % prime61 = 0
        · right
          have h1 : o ≠ 1 := fun e => (hio.1 e) h
          refine ⟨?_, ?_, ?_, hz h⟩
          · simp; omega
          · simp [h]
          · simp [h]
        · left
          have h1 : o = 1 := hio.2 h
          refine ⟨by simp [h1], ?_, ?_⟩
          · simp only [beq_eq_false_iff_ne, ne_eq]; omega
          · simp only [bne_iff_ne, ne_eq]; omega
      have C := hid (And.intro c1 c2)
      have KK := hkk
      have HU := hid hul
      have hk2 : k = 2 := by omega
      subst hk2
      clear hul
      clear c1 c2 hu ho hxp hio hz hB hkk
      rcases hcase with ⟨d1, d2, d3⟩ | ⟨d1, d2, d3, d4⟩
      · go_wp2_with fail
        refine (C.out.1 _).mono ?_
        rintro e w21 ⟨rfl, ka⟩
        have hul := HU.out
        go_wp2_with fail
        refine (C.out.2 _).mono ?_
        rintro e w22 ⟨rfl, kb⟩
        have kc := (KK.then ka (fun _ _ h => h)).then kb (fun _ _ h => h)
        clear KK ka kb
        go_wp2
        go_ret
        exact ⟨rfl, kc⟩
      · subst d4
        go_wp2_with fail
        refine (C.out.1 _).mono ?_
        rintro e w21 ⟨rfl, ka⟩
        have hul := HU.out
        go_wp2_with fail
        refine (C.out.2 _).mono ?_
        rintro e w22 ⟨rfl, kb⟩
        have kc := (KK.then ka (fun _ _ h => h)).then kb (fun _ _ h => h)
        clear KK ka kb
        go_wp2
        go_ret
        exact ⟨rfl, kc⟩
end Go.Proofs.Ytehjellneflfaaa
