/- postmarklaw3.FieldInverts: true. -/
import Derived.Test.YtehjellneflfaaaKnown3
namespace Go.Proofs.Ytehjellneflfaaa
open Go.RowKit Go.Pm

set_option maxHeartbeats 1000000 in
theorem fieldInverts (a b i j : Nat) (w : World) (ha : a < 18446744073709551616) (hb : b < 18446744073709551616) (hi : i < 256) (hj : j < 256) :
    Calls Try.prog 7 #[.int .u64 a, .int .u64 b, .int .u8 i, .int .u8 j] w fun e w' => e = .returned (.bool true) ∧ Kept None w w' := by
  have E1 := hid (fun w => edge a i w ha hi)
  have E2 := hid (fun w => edge b j w hb hj)
  clear ha hb hi hj
  go_enter Try.func7, Try.ntmps7
  go_wp2_with fail
  refine (known _).mono ?_
  rintro e w1 ⟨rfl, k1⟩
  go_wp2_with fail
  refine (E1.out _).mono ?_
  rintro e w2 ⟨x, hx, rfl, k2⟩
  go_wp2_with fail
  refine (E2.out _).mono ?_
  rintro e w3 ⟨y, hy, rfl, k3⟩
  have k03 := (k1.trans k2).trans k3
  clear k1 k2 k3
  -- what the calls come to, under names
  have c1 := fun w => Fd.inv x w hx
  have c2 := fun w => Fd.inv (invm x) w (w_invm x)
  have c3 := fun w => Fd.mul x y 2305843009213693951 w hx hy
  have c4 := fun w => Fd.inv (x * y % prime61) w (w_modP _)
  have c5 := fun w => Fd.inv y w hy
  have c6 := fun w => Fd.mul (invm x) (invm y) 2305843009213693951 w (w_invm x) (w_invm y)
  have c7 := fun w => Fd.pow (invm x) 3 2305843009213693951 w (w_invm x)
  have c8 := fun w => Fd.pow x 3 2305843009213693951 w hx
  have c9 := fun w => Fd.inv (powm prime61 x 3) w (w_powm _ _)
  simp only [modP, invm_twice, invm_prod, invm_pow] at c2 c3 c4 c6 c7 c8
  obtain ⟨u, hu⟩ : ∃ u, u = invm x := ⟨_, rfl⟩
  obtain ⟨v, hv⟩ : ∃ v, v = invm y := ⟨_, rfl⟩
  obtain ⟨p, hp⟩ : ∃ p, p = powm prime61 x 3 := ⟨_, rfl⟩
  obtain ⟨q, hq⟩ : ∃ q, q = invm p := ⟨_, rfl⟩
  obtain ⟨m, hm⟩ : ∃ m, m = x * y % prime61 := ⟨_, rfl⟩
  obtain ⟨n, hn⟩ : ∃ n, n = u * v % prime61 := ⟨_, rfl⟩
  simp only [← hu, ← hv, ← hp, ← hq, ← hm, ← hn] at c1 c2 c3 c4 c5 c6 c7 c8 c9
  have hxp : ((x % prime61 : Nat) : Int) = (x : Int) % 2305843009213693951 := by rw [Int.natCast_emod]; rfl
  rw [hxp] at c2
  have C := hid (And.intro c1 (And.intro c2 (And.intro c3 (And.intro c4 (And.intro c5 (And.intro c6 (And.intro c7 (And.intro c8 c9))))))))
  clear c1 c2 c3 c4 c5 c6 c7 c8 c9 hu hv hp hq hm hn hxp hx hy
  go_wp2_with fail
  refine (C.out.1 _).mono ?_
  rintro e w4 ⟨rfl, k4⟩
  go_wp2_with fail
  refine (C.out.2.1 _).mono ?_
  rintro e w5 ⟨rfl, k5⟩
  have k05 := (k03.trans k4).trans k5
  clear k03 k4 k5
  go_wp2_with fail
  refine (C.out.2.2.1 _).mono ?_
  rintro e w6 ⟨rfl, k6⟩
  go_wp2_with fail
  refine (C.out.2.2.2.1 _).mono ?_
  rintro e w7 ⟨rfl, k7⟩
  have k07 := (k05.trans k6).trans k7
  clear k05 k6 k7
  go_wp2_with fail
  refine (C.out.1 _).mono ?_
  rintro e w8 ⟨rfl, k8⟩
  go_wp2_with fail
  refine (C.out.2.2.2.2.1 _).mono ?_
  rintro e w9 ⟨rfl, k9⟩
  have k09 := (k07.trans k8).trans k9
  clear k07 k8 k9
  go_wp2_with fail
  refine (C.out.2.2.2.2.2.1 _).mono ?_
  rintro e w10 ⟨rfl, k10⟩
  go_wp2_with fail
  refine (C.out.1 _).mono ?_
  rintro e w11 ⟨rfl, k11⟩
  have k011 := (k09.trans k10).trans k11
  clear k09 k10 k11
  go_wp2_with fail
  refine (C.out.2.2.2.2.2.2.1 _).mono ?_
  rintro e w12 ⟨rfl, k12⟩
  go_wp2_with fail
  refine (C.out.2.2.2.2.2.2.2.1 _).mono ?_
  rintro e w13 ⟨rfl, k13⟩
  have k013 := (k011.trans k12).trans k13
  clear k011 k12 k13
  go_wp2_with fail
  refine (C.out.2.2.2.2.2.2.2.2 _).mono ?_
  rintro e w14 ⟨rfl, k14⟩
  have k014 := k013.trans k14
  clear k013 k14
  go_wp2
  go_ret
  exact ⟨rfl, k014⟩
end Go.Proofs.Ytehjellneflfaaa
