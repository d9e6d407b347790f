/- postmarklaw3.FieldTells: true. -/
import Derived.Test.YtehjellneflfaaaKnown3
namespace Go.Proofs.Ytehjellneflfaaa
open Go.RowKit Go.Pm

set_option maxHeartbeats 2000000 in
theorem fieldTells (a b m i j o : Nat) (w : World) (ha : a < 18446744073709551616) (hb : b < 18446744073709551616) (hm : m < 18446744073709551616) (hi : i < 256) (hj : j < 256) (ho : o < 256) :
    Calls Try.prog 3 #[.int .u64 a, .int .u64 b, .int .u64 m, .int .u8 i, .int .u8 j, .int .u8 o] w fun e w' => e = .returned (.bool true) ∧ Kept None w w' := by
  have E1 := hid (fun w => edge a i w ha hi)
  have E2 := hid (fun w => edge b j w hb hj)
  have E3 := hid (fun w => edge m o w hm ho)
  clear ha hb hm hi hj ho
  go_enter Try.func3, Try.ntmps3
  go_wp2_with fail
  refine (known _).mono ?_
  rintro e w1 ⟨rfl, k1⟩
  go_wp2_with fail
  refine (E1.out _).mono ?_
  rintro e w2 ⟨x, hx, rfl, k2⟩
  go_wp2_with fail
  refine (E2.out _).mono ?_
  rintro e w3 ⟨y, hy, rfl, k3⟩
  go_wp2_with fail
  refine (E3.out _).mono ?_
  rintro e w4 ⟨t, ht, rfl, k4⟩
  have k04 := ((k1.trans k2).trans k3).trans k4
  have HX := hid (And.intro hx hy)
  clear k1 k2 k3 k4 hx hy ht
  go_wp2
  go_loopw [30] (fun c wr => ∃ k : Nat, k ≤ 3 ∧ c = .int .i64 k ∧ Kept None w wr ∧ Blk wr w4.heap.size #[.int .u64 2305843009213693951, .int .u64 2305843009213693950, .int .u64 t] 22) (fun c _ => 3 - (intOf c).toNat)
  case atStart => exact ⟨0, Nat.zero_le _, rfl, k04.alloc _, Blk.new _ _ _⟩
  case round =>
    clear k04
    obtain ⟨k, hk, rfl, hkk, hB⟩ := hrel
    by_cases hlt : k < 3
    · obtain ⟨z, hz⟩ : ∃ z : Nat, wr.cell? ⟨w4.heap.size, k, none⟩ = some (.int .u64 z) := by
        rw [hB.cell]
        match k, hlt with
        | 0, _ => exact ⟨2305843009213693951, rfl⟩
        | 1, _ => exact ⟨2305843009213693950, rfl⟩
        | 2, _ => exact ⟨t, rfl⟩
      have c1 := fun w => Fd.add x y z w
      have c2 := fun w => Ref.add x y z w
      have c3 := fun w => Fd.mul x y z w HX.out.1 HX.out.2
      have c4 := fun w => Ref.mul x y z w
      have c5 := fun w => Fd.pow x y z w HX.out.1
      have c6 := fun w => Ref.pow x y z w
      obtain ⟨s, hs⟩ : ∃ s, s = (x + y) % Ref.modOf z := ⟨_, rfl⟩
      obtain ⟨p, hp⟩ : ∃ p, p = x * y % Ref.modOf z := ⟨_, rfl⟩
      obtain ⟨q, hq⟩ : ∃ q, q = powm (Ref.modOf z) x y := ⟨_, rfl⟩
      simp only [← hs, ← hp, ← hq] at c1 c2 c3 c4 c5 c6
      have C := hid (And.intro c1 (And.intro c2 (And.intro c3 (And.intro c4 (And.intro c5 c6)))))
      clear c1 c2 c3 c4 c5 c6 hs hp hq
      have hB' := fun (w' : World) (h : Kept None wr w') => hB.kept h (fun h => h)
      have kr : Kept None wr wr := Kept.refl _ _
      clear hB
      go_wp2_with fail
      refine (C.out.1 _).mono ?_
      rintro e w11 ⟨rfl, kk⟩
      have k11 := kr.then kk (fun _ _ h => h)
      clear kk kr
      go_wp2_with fail
      refine (C.out.2.1 _).mono ?_
      rintro e w12 ⟨rfl, kk⟩
      have k12 := k11.then kk (fun _ _ h => h)
      clear kk k11
      go_wp2_with fail
      refine (C.out.2.2.1 _).mono ?_
      rintro e w13 ⟨rfl, kk⟩
      have k13 := k12.then kk (fun _ _ h => h)
      clear kk k12
      go_wp2_with fail
      refine (C.out.2.2.2.1 _).mono ?_
      rintro e w14 ⟨rfl, kk⟩
      have k14 := k13.then kk (fun _ _ h => h)
      clear kk k13
      go_wp2_with fail
      refine (C.out.2.2.2.2.1 _).mono ?_
      rintro e w15 ⟨rfl, kk⟩
      have k15 := k14.then kk (fun _ _ h => h)
      clear kk k14
      go_wp2_with fail
      refine (C.out.2.2.2.2.2 _).mono ?_
      rintro e w16 ⟨rfl, kk⟩
      have k16 := k15.then kk (fun _ _ h => h)
      clear kk k15
      have hB2 := hB' _ k16
      have hk2 := hkk.then k16 (fun _ _ h => h)
      clear hB' hkk k16
      go_wp2
      go_roundw
      case rel => exact ⟨k + 1, by omega, by go_num, hk2, hB2⟩
      case measure => simp [intOf]; omega
    · have c1 := fun w => Fd.inv x w HX.out.1
      have c2 := fun w => Ref.inv x w
      obtain ⟨u, hu⟩ : ∃ u, u = invm x := ⟨_, rfl⟩
      simp only [← hu] at c1 c2
      have C := hid (And.intro c1 c2)
      clear c1 c2 hu hB
      go_wp2_with fail
      refine (C.out.1 _).mono ?_
      rintro e w21 ⟨rfl, kk⟩
      have k21 := hkk.then kk (fun _ _ h => h)
      clear kk hkk
      go_wp2_with fail
      refine (C.out.2 _).mono ?_
      rintro e w22 ⟨rfl, kk⟩
      have k22 := k21.then kk (fun _ _ h => h)
      clear kk k21
      go_wp2
      go_ret
      exact ⟨rfl, k22⟩
end Go.Proofs.Ytehjellneflfaaa
