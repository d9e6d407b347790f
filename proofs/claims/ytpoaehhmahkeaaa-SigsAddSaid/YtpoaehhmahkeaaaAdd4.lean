/- postmarklaw4.SigsAdd: true. -/
import Derived.Test.YtpoaehhmahkeaaaKnown4
namespace Go.Proofs.Ytpoaehhmahkeaaa
open Go.RowKit Go.Pm

set_option maxHeartbeats 2000000 in
theorem sigsAdd (a b : Nat) (w : World) : Calls Try.prog 5 #[.int .u64 a, .int .u64 b] w fun e w' => e = .returned (.bool true) ∧ Kept None w w' := by
  have hx0 : (a : Int) % 2305843009213693950 = ((a % order61 : Nat) : Int) := by rw [Int.natCast_emod]; rfl
  have hy0 : (b : Int) % 2305843009213693950 = ((b % order61 : Nat) : Int) := by rw [Int.natCast_emod]; rfl
  have lx : a % order61 < order61 := Nat.mod_lt a (by decide)
  have ly : b % order61 < order61 := Nat.mod_lt b (by decide)
  have c5 := fun w => Sg.pub a w
  rw [← pubN_mod a] at c5
  obtain ⟨x, hx⟩ : ∃ x, x = a % order61 := ⟨_, rfl⟩
  obtain ⟨y, hy⟩ : ∃ y, y = b % order61 := ⟨_, rfl⟩
  rw [← hx] at hx0 lx c5
  rw [← hy] at hy0 ly
  clear hx hy
  have c1 := fun w => Sg.pub ((x + y) % order61) w
  rw [pubN_add] at c1
  have hz : (((x + y) % order61 : Nat) : Int) = ((x : Int) + (y : Int)) % 2305843009213693950 := by rw [Int.natCast_emod, Int.natCast_add]; rfl
  rw [hz] at c1
  clear hz
  have c2 := fun w => Sg.pub x w
  have c3 := fun w => Sg.pub y w
  have c4 := fun w => Ref.mul (pubN x) (pubN y) 2305843009213693951 w
  rw [show Ref.modOf 2305843009213693951 = prime61 by decide] at c4
  have h1 := pubN_pos x
  have h2 := pubN_lt x
  have ew : IntKind.u64.wrap ((x : Int) + (y : Int)) = (x : Int) + (y : Int) := by
    unfold order61 at lx ly
    rw [IntKind.wrap_u64]; exact Int.emod_eq_of_lt (by omega) (by omega)
  obtain ⟨q, hq⟩ : ∃ q, q = pubN x * pubN y % prime61 := ⟨_, rfl⟩
  rw [← hq] at c1 c4
  obtain ⟨p, hp⟩ : ∃ p, p = pubN x := ⟨_, rfl⟩
  obtain ⟨r, hr⟩ : ∃ r, r = pubN y := ⟨_, rfl⟩
  rw [← hp] at c2 c4 c5 h1 h2
  rw [← hr] at c3 c4
  have e1 : decide ((1 : Int) ≤ (p : Int)) = true := decide_eq_true (by omega)
  have e2 : ∀ z, z = p → decide ((z : Int) < 2305843009213693951) = true := by
    rintro z rfl
    unfold prime61 at h2
    exact decide_eq_true (by omega)
  have C := hid (And.intro c1 (And.intro c2 (And.intro c3 (And.intro c4 c5))))
  clear c1 c2 c3 c4 c5 hq hp hr lx ly h1 h2
  go_enter Try.func5, Try.ntmps5
  go_wp2_with fail
  refine (known _).mono ?_
  rintro e w1 ⟨rfl, k1⟩
  go_wp2_with fail
  refine (C.out.1 _).mono ?_
  rintro e w2 ⟨rfl, kk⟩
  have k02 := k1.then kk (fun _ _ h => h)
  clear kk k1
  go_wp2_with fail
  refine (C.out.2.1 _).mono ?_
  rintro e w3 ⟨rfl, kk⟩
  have k03 := k02.then kk (fun _ _ h => h)
  clear kk k02
  go_wp2_with fail
  refine (C.out.2.2.1 _).mono ?_
  rintro e w4 ⟨rfl, kk⟩
  have k04 := k03.then kk (fun _ _ h => h)
  clear kk k03
  go_wp2_with fail
  refine (C.out.2.2.2.1 _).mono ?_
  rintro e w5 ⟨rfl, kk⟩
  have k05 := k04.then kk (fun _ _ h => h)
  clear kk k04
  go_wp2_with fail
  refine (C.out.2.2.2.2 _).mono ?_
  rintro e w6 ⟨rfl, kk⟩
  have k06 := k05.then kk (fun _ _ h => h)
  clear kk k05
  go_wp2_with fail
  refine (C.out.2.1 _).mono ?_
  rintro e w7 ⟨rfl, kk⟩
  have k07 := k06.then kk (fun _ _ h => h)
  clear kk k06
  go_wp2_with fail
  refine (C.out.2.1 _).mono ?_
  rintro e w8 ⟨rfl, kk⟩
  have k08 := k07.then kk (fun _ _ h => h)
  clear kk k07
  go_wp2_with fail
  refine (C.out.2.1 _).mono ?_
  rintro e w9 ⟨rfl, kk⟩
  have k09 := k08.then kk (fun _ _ h => h)
  clear kk k08
  go_wp2
  go_ret
  exact ⟨rfl, k09⟩
end Go.Proofs.Ytpoaehhmahkeaaa
