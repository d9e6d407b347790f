/- sigs.Check, by its contract. -/
import Derived.Test.YtbckjkfdkgomiaaSigs4
namespace Go.Proofs.Ytbckjkfdkgomiaa
open Go.RowKit Go.Pm
namespace Sg

theorem fits_word {n : Nat} (h : fitsN n = true) : n < 18446744073709551616 := by
  unfold fitsN at h
  rw [Bool.and_eq_true] at h
  exact Nat.lt_trans (of_decide_eq_true h.2) (by decide)
theorem order_ge (s : Nat) (b : Bool) (h : decide (order61 ≤ s) = b) : ∀ z, z = s → decide ((2305843009213693950 : Int) ≤ (z : Int)) = b := by
  rintro z rfl
  rw [← h, decide_eq_decide]
  unfold order61
  omega
theorem nat_eq (a b : Nat) : ((a : Int) == (b : Int)) = (a == b) := by
  rw [Bool.eq_iff_iff, beq_iff_eq, beq_iff_eq]
  omega

set_option maxRecDepth 100000 in
set_option maxHeartbeats 2000000 in
theorem check (y r s : Nat) (v : Value) (lo hi : Nat) (m : List UInt8) (w : World) (hv : Bs w lo hi v m) (hl : m.length ≤ 549755813888) :
    Calls Try.prog 39 #[.int .u64 y, v, sigV r s] w fun e w' => e = .returned (.bool (checkN y m r s)) ∧ Kept None w w' := by
  have hfy := fun w => fits y w
  have hfr := fun w => fits r w
  have HV := hid hv
  obtain ⟨a, cap, rfl, g1, g2, g3⟩ := hv.shape
  clear hv g3
  cases hy : fitsN y
  · rw [check_y m r s hy]
    rw [hy] at hfy
    have HY := hid hfy
    clear hfy hfr hy
    go_enter Try.func39, Try.ntmps39
    go_wp2_with fail
    refine (HY.out _).mono ?_
    rintro e w1 ⟨rfl, rfl⟩
    go_wp2
    go_ret
    exact ⟨rfl, (Kept.refl _ _).alloc _⟩
  · cases hr : fitsN r
    · rw [check_r y m s hr]
      rw [hy] at hfy
      rw [hr] at hfr
      have HY := hid (And.intro hfy hfr)
      clear hfy hfr hy hr
      go_enter Try.func39, Try.ntmps39
      go_wp2_with fail
      refine (HY.out.1 _).mono ?_
      rintro e w1 ⟨rfl, rfl⟩
      go_wp2_with fail
      refine (HY.out.2 _).mono ?_
      rintro e w1 ⟨rfl, rfl⟩
      go_wp2
      go_ret
      exact ⟨rfl, (Kept.refl _ _).alloc _⟩
    · by_cases hs : order61 ≤ s
      · rw [check_s y m r hs]
        rw [hy] at hfy
        rw [hr] at hfr
        have HY := hid (And.intro hfy hfr)
        have hb := order_ge s true (decide_eq_true hs)
        clear hfy hfr hy hr hs
        go_enter Try.func39, Try.ntmps39
        go_wp2_with fail
        refine (HY.out.1 _).mono ?_
        rintro e w1 ⟨rfl, rfl⟩
        go_wp2_with fail
        refine (HY.out.2 _).mono ?_
        rintro e w1 ⟨rfl, rfl⟩
        go_wp2
        go_ret
        exact ⟨rfl, (Kept.refl _ _).alloc _⟩
      · have hb := order_ge s false (decide_eq_false hs)
        have hres : checkN y m r s = (powm prime61 7 s == r * powm prime61 y (chN r y m) % prime61) := by
          unfold checkN
          rw [hy, hr, decide_eq_true (by omega : s < order61)]
          rfl
        have hry : r < 18446744073709551616 ∧ y < 18446744073709551616 := ⟨fits_word hr, fits_word hy⟩
        have hc := fun w lo hi v hv => challenge r y v lo hi m w hry.1 hry.2 hv hl
        have hp := fun w => Fd.pow y (chN r y m) 2305843009213693951 w hry.2
        have hm := fun w => Fd.mul r (powm prime61 y (chN r y m)) 2305843009213693951 w hry.1 (Nat.lt_trans (powm_lt _ _ _ (by decide)) (by decide))
        have h7 := fun w => Fd.pow 7 s 2305843009213693951 w (by decide)
        rw [show Ref.modOf 2305843009213693951 = prime61 by decide] at hp hm h7
        rw [hres]
        rw [hy] at hfy
        rw [hr] at hfr
        obtain ⟨c, hcc⟩ : ∃ c, c = chN r y m := ⟨_, rfl⟩
        rw [← hcc] at hc hp hm ⊢
        obtain ⟨p, hpp⟩ : ∃ p, p = powm prime61 y c := ⟨_, rfl⟩
        rw [← hpp] at hp hm ⊢
        obtain ⟨q, hqq⟩ : ∃ q, q = r * p % prime61 := ⟨_, rfl⟩
        rw [← hqq] at hm ⊢
        obtain ⟨t, htt⟩ : ∃ t, t = powm prime61 7 s := ⟨_, rfl⟩
        rw [← htt] at h7 ⊢
        have HY := hid (And.intro hfy hfr)
        have HP := hid (And.intro hc (And.intro hp (And.intro hm h7)))
        clear hfy hfr hy hr hs hres hry hc hp hm h7 hcc hpp hqq htt
        go_enter Try.func39, Try.ntmps39
        go_wp2_with fail
        refine (HY.out.1 _).mono ?_
        rintro e w1 ⟨rfl, rfl⟩
        go_wp2_with fail
        refine (HY.out.2 _).mono ?_
        rintro e w1 ⟨rfl, rfl⟩
        have hB := Blk.new w #[.int .u64 (r : Int), .int .u64 (s : Int)] 24
        have k0 : Kept None w (w.alloc (.cells #[.int .u64 (r : Int), .int .u64 (s : Int)] 24)) := (Kept.refl _ _).alloc _
        have hv0 := HV.out.kept k0 (fun _ _ _ h => h)
        clear HV
        go_wp2_with fail
        refine (HP.out.1 _ _ _ _ hv0).mono ?_
        rintro e w1 ⟨rfl, k1⟩
        have hB1 := hB.kept k1 (fun h => h)
        have k01 := k0.trans k1
        clear hB k0 hv0 k1
        go_wp2_with fail
        have hc0 : ∀ W, Kept None w1 W → W.cell? ⟨w.heap.size, 0, none⟩ = some (.int .u64 (r : Int)) := fun W hW => (hB1.kept hW (fun h => h)).cell 0
        have hs : Steady [Fct.val 4 (.int .u64 (p : Int)), Fct.val 5 (.int .u64 (q : Int))] := Steady.val (Steady.val Steady.nil)
        refine wp_region_kn w1 _ hs (Kept.refl _ _) (by kernel_rfl) (by kernel_rfl) (by kernel_rfl) ?_
        iterate 4 (refine wpPar_pure rfl (by rfl) _ (fun W hW => by
            have c0 := hc0 W hW
            go_simp
            exact rfl) ?_; simp only [Act.put, List.setIfInBounds_toArray, List.set_cons_zero, List.set_cons_succ])
        refine wpKn_adds hs rfl (by rfl) (fun W hW hd => ?_) (fun v4 hv => ?_)
        · unfold Gives
          go_simp
          refine gives_call (HP.out.2.1 W) ?_
          rintro e w3 ⟨rfl, k3⟩
          exact ⟨_, rfl, k3, rfl, trivial⟩
        obtain rfl : v4 = .int .u64 (p : Int) := hv
        simp only [Act.put, List.setIfInBounds_toArray, List.set_cons_zero, List.set_cons_succ]
        refine wpKn_adds hs rfl (by rfl) (fun W hW hd => ?_) (fun v5 hv => ?_)
        · unfold Gives
          go_simp
          refine gives_call (HP.out.2.2.1 W) ?_
          rintro e w3 ⟨rfl, k3⟩
          exact ⟨_, rfl, k3, rfl, trivial⟩
        obtain rfl : v5 = .int .u64 (q : Int) := hv
        simp only [Act.put, List.setIfInBounds_toArray, List.set_cons_zero, List.set_cons_succ]
        iterate 1 (refine wpPar_pure rfl (by rfl) _ (fun W hW => by
            go_simp
            exact rfl) ?_; simp only [Act.put, List.setIfInBounds_toArray, List.set_cons_zero, List.set_cons_succ])
        refine wpPar_nil (fun W hW _ => ?_)
        have hB2 := hB1.kept hW (fun h => h)
        have k02 := k01.then hW (fun _ _ h => h)
        have c1 : W.cell? ⟨w.heap.size, 1, none⟩ = some (.int .u64 (s : Int)) := hB2.cell 1
        clear hc0 hs
        go_wp2_with fail
        refine (HP.out.2.2.2 _).mono ?_
        rintro e w3 ⟨rfl, k3⟩
        have k03 := k02.then k3 (fun _ _ h => h)
        have he := nat_eq t q
        go_wp2
        go_ret
        exact ⟨rfl, k03⟩
end Sg
end Go.Proofs.Ytbckjkfdkgomiaa
