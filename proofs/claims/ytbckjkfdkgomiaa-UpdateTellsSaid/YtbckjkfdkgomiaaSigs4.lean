/- Package sigs: each function by its contract, over the plain functions of Num4. -/
import Derived.Test.YtbckjkfdkgomiaaText
import Derived.Test.YtbckjkfdkgomiaaField
import Derived.Test.YtbckjkfdkgomiaaNum4
import Derived.Test.YtbckjkfdkgomiaaKn
namespace Go.Proofs.Ytbckjkfdkgomiaa
open Go.RowKit Go.Pm
namespace Sg

set_option maxRecDepth 100000 in
set_option maxHeartbeats 400000 in
theorem pub (x : Nat) (w : World) : Calls Try.prog 52 #[.int .u64 x] w fun e w' => e = .returned (.int .u64 (pubN x : Nat)) ∧ Kept None w w' := by
  have hp := fun w => Fd.pow 7 (x % order61) 2305843009213693951 w (by decide)
  rw [show Ref.modOf 2305843009213693951 = prime61 by decide, show powm prime61 7 (x % order61) = pubN x from rfl, show ((x % order61 : Nat) : Int) = (x : Int) % 2305843009213693950 by rw [Int.natCast_emod]; rfl] at hp
  generalize pubN x = p at *
  have HP := hid hp
  clear hp
  go_enter Try.func52, Try.ntmps52
  go_wp2_with fail
  refine (HP.out _).mono ?_
  rintro e w1 ⟨rfl, k1⟩
  go_wp2
  go_ret
  exact ⟨rfl, k1⟩

theorem fits_lt (n : Nat) (h1 : 1 ≤ n) : ∀ z, z = n → decide ((z : Int) < 2305843009213693951) = fitsN n := by
  rintro z rfl
  unfold fitsN prime61
  rw [decide_eq_true h1, Bool.true_and, decide_eq_decide]
  omega
set_option maxRecDepth 100000 in
set_option maxHeartbeats 400000 in
theorem fits (n : Nat) (w : World) : Calls Try.prog 60 #[.int .u64 n] w fun e w' => e = .returned (.bool (fitsN n)) ∧ w = w' := by
  go_enter Try.func60, Try.ntmps60
  by_cases h1 : 1 ≤ n
  · have h2 := fits_lt n h1
    go_wp2
    go_ret
    exact ⟨rfl, rfl⟩
  · have e1 : fitsN n = false := by unfold fitsN; simp; omega
    rw [e1]
    clear e1
    go_wp2
    go_ret
    exact ⟨rfl, rfl⟩

theorem box_cell (w : World) (h : List UInt8) (t : TypeId) (i : Nat) (hi : i < h.length) : (w.alloc (.cells (h.map u8v).toArray t)).cell? ⟨w.heap.size, i, none⟩ = some (.int .u8 (bAt h i)) := by
  rw [World.cell?_alloc_new]
  simp [u8v, bAt, List.getD, List.getElem?_eq_getElem hi]
theorem num_end (h : List UInt8) : leV (h.take 8) % 2305843009213693950 = (numB h : Nat) := by
  unfold numB
  rw [Int.natCast_emod, leV_nat, leV_take]
  rfl

set_option maxRecDepth 100000 in
set_option maxHeartbeats 1000000 in
theorem number (h : List UInt8) (hl : h.length = 32) (w : World) : Calls Try.prog 70 #[hashV h] w fun e w' => e = .returned (.int .u64 (numB h : Nat)) ∧ Kept None w w' := by
  have hc := fun i (hi : i < 8) => box_cell w h 83 i (by omega)
  have k1 : Kept None w (w.alloc (.cells (h.map u8v).toArray 83)) := (Kept.refl _ _).alloc _
  have HC := hid hc
  have HE := hid (num_end h)
  clear hc
  go_enter Try.func70, Try.ntmps70
  go_wp2_with fail
  go_loop [3, 8] (fun x i => ∃ k : Nat, k ≤ 8 ∧ i = .int .i64 k ∧ x = .int .u64 (leV (h.take k))) (fun _ i => 8 - (intOf i).toNat)
  case atStart => exact ⟨0, Nat.zero_le _, rfl, by rw [leV_zero]⟩
  case round =>
    obtain ⟨k, hk, rfl, rfl⟩ := hrel
    by_cases hlt : k < 8
    · have hc' := HC.out k hlt
      have c0 := bAt_ge h k
      have c1 := bAt_lt h k
      have HS := hid (word_step h k hlt)
      generalize bAt h k = c at *
      go_wp2
      go_round
      case rel => exact ⟨k + 1, by omega, by go_num, by rw [HS.out]⟩
      case measure => simp [intOf]; omega
    · obtain rfl : k = 8 := by omega
      have g0 := leV_ge (h.take 8)
      go_wp2
      go_ret
      exact ⟨by rw [HE.out]; rfl, k1⟩

/-- A signature. -/
abbrev sigV (r s : Nat) : Value := .agg #[.int .u64 r, .int .u64 s]

set_option maxRecDepth 100000 in
set_option maxHeartbeats 1000000 in
theorem challenge (r y : Nat) (v : Value) (lo hi : Nat) (m : List UInt8) (w : World) (hr : r < 18446744073709551616) (hy : y < 18446744073709551616) (hv : Bs w lo hi v m) (hl : m.length ≤ 549755813888) :
    Calls Try.prog 51 #[.int .u64 r, .int .u64 y, v] w fun e w' => e = .returned (.int .u64 (chN r y m : Nat)) ∧ Kept None w w' := by
  have ht := fun v lo hi lo' hi' w hv => Sp.tag 101 v lo hi lo' hi' [leB r, leB y, m] w (by decide) (by decide) hv (by simp) (by simp [total, leB_length]; omega)
  have hn := fun w => number (sumB (textB 101 [leB r, leB y, m])) (sumB_len _) w
  rw [show numB (sumB (textB 101 [leB r, leB y, m])) = chN r y m from rfl] at hn
  obtain ⟨h, hh⟩ : ∃ h, h = sumB (textB 101 [leB r, leB y, m]) := ⟨_, rfl⟩
  obtain ⟨c, hc⟩ : ∃ c, c = chN r y m := ⟨_, rfl⟩
  rw [← hh] at ht hn
  rw [← hc] at hn ⊢
  have HT := hid ht
  have HN := hid hn
  clear ht hn hh hc
  obtain ⟨a, cap, rfl, g1, g2, g3⟩ := hv.shape
  clear g3
  go_enter Try.func51, Try.ntmps51
  go_wp2_with fail
  refine (Bin.num r _ (by omega) (by omega)).mono ?_
  rintro e w1 ⟨v1, rfl, k1, b1⟩
  have b1' := b1.bs (Nat.le_refl _)
  obtain ⟨a1, c1, rfl⟩ := b1.form
  rw [leB_length] at b1' ⊢
  clear b1
  go_wp2_with fail
  refine (Bin.num y _ (by omega) (by omega)).mono ?_
  rintro e w2 ⟨v2, rfl, k2, b2⟩
  have b2' := b2.bs (Nat.le_refl _)
  obtain ⟨a2, c2, rfl⟩ := b2.form
  rw [leB_length] at b2' ⊢
  have b1'' := b1'.kept k2 (fun _ _ _ h => h)
  have hv2 := (hv.kept k1 (fun _ _ _ h => h)).kept k2 (fun _ _ _ h => h)
  have k02 := k1.trans k2
  clear b2 hv b1' k1 k2
  go_wp2_with fail
  have hbs := Bss.new w2 #[.slice a1 8 c1, .slice a2 8 c2, .slice a m.length cap] 32 [leB r, leB y, m] 3 rfl (by decide) ⟨b1''.all, b2'.all, hv2.all, trivial⟩
  refine (HT.out _ _ _ _ _ _ hbs).mono ?_
  rintro e w3 ⟨rfl, k3⟩
  have k03 := (k02.alloc _).then k3 (fun _ _ h => h)
  clear hbs k02 k3 b1'' b2' hv2
  go_wp2_with fail
  refine (HN.out _).mono ?_
  rintro e w4 ⟨rfl, k4⟩
  have k04 := k03.then k4 (fun _ _ h => h)
  go_wp2
  go_ret
  exact ⟨rfl, k04⟩

set_option maxRecDepth 100000 in
set_option maxHeartbeats 1000000 in
theorem start (x : Nat) (v : Value) (lo hi : Nat) (m : List UInt8) (w : World) (hx : x < 18446744073709551616) (hv : Bs w lo hi v m) (hl : m.length ≤ 549755813888) :
    Calls Try.prog 50 #[.int .u64 x, v] w fun e w' => e = .returned (.tuple #[.int .u64 (keyN x m : Nat), .int .u64 (powm prime61 7 (keyN x m) : Nat)]) ∧ Kept None w w' := by
  have ht := fun v lo hi lo' hi' w hv => Sp.tag 107 v lo hi lo' hi' [leB x, m] w (by decide) (by decide) hv (by simp) (by simp [total, leB_length]; omega)
  have hn := fun w => number (sumB (textB 107 [leB x, m])) (sumB_len _) w
  have hp := fun w => Fd.pow 7 (keyN x m) 2305843009213693951 w (by decide)
  rw [show Ref.modOf 2305843009213693951 = prime61 by decide] at hp
  rw [show numB (sumB (textB 107 [leB x, m])) = keyN x m from rfl] at hn
  obtain ⟨h, hh⟩ : ∃ h, h = sumB (textB 107 [leB x, m]) := ⟨_, rfl⟩
  obtain ⟨c, hc⟩ : ∃ c, c = keyN x m := ⟨_, rfl⟩
  rw [← hh] at ht hn
  rw [← hc] at hn hp ⊢
  obtain ⟨p, hpp⟩ : ∃ p, p = powm prime61 7 c := ⟨_, rfl⟩
  rw [← hpp] at hp ⊢
  have HT := hid ht
  have HN := hid hn
  have HP := hid hp
  clear ht hn hp hh hc hpp
  obtain ⟨a, cap, rfl, g1, g2, g3⟩ := hv.shape
  clear g3
  go_enter Try.func50, Try.ntmps50
  go_wp2_with fail
  refine (Bin.num x _ (by omega) (by omega)).mono ?_
  rintro e w1 ⟨v1, rfl, k1, b1⟩
  have b1' := b1.bs (Nat.le_refl _)
  obtain ⟨a1, c1, rfl⟩ := b1.form
  rw [leB_length] at b1' ⊢
  have hv1 := hv.kept k1 (fun _ _ _ h => h)
  clear b1 hv
  go_wp2_with fail
  have hbs := Bss.new w1 #[.slice a1 8 c1, .slice a m.length cap] 32 [leB x, m] 2 rfl (by decide) ⟨b1'.all, hv1.all, trivial⟩
  refine (HT.out _ _ _ _ _ _ hbs).mono ?_
  rintro e w3 ⟨rfl, k3⟩
  have k03 := (k1.alloc _).then k3 (fun _ _ h => h)
  clear hbs k1 k3 b1' hv1
  go_wp2_with fail
  refine (HN.out _).mono ?_
  rintro e w4 ⟨rfl, k4⟩
  have k04 := k03.then k4 (fun _ _ h => h)
  clear k03 k4
  go_wp2_with fail
  refine (HP.out _).mono ?_
  rintro e w5 ⟨rfl, k5⟩
  have k05 := k04.then k5 (fun _ _ h => h)
  go_wp2
  go_ret2
  exact ⟨rfl, k05⟩

theorem AggTy.of {P : Program} {t : TypeId} {n : Nat} (h : (P.underlying t).map aggD = some true) (h2 : (P.info? t).map (·.size) = some n) : AggTy P t n := by
  cases hu : P.underlying t with
  | none => rw [hu] at h; cases h
  | some d => rw [hu] at h; exact ⟨⟨d, hu, by simpa using h⟩, h2⟩
theorem aSig : AggTy Try.prog 24 2 := AggTy.of (by kernel_rfl) (by kernel_rfl)
theorem sig_all (r s : Nat) : (#[.int .u64 (r : Int), .int .u64 (s : Int)] : Array Value).all (·.oneCell') = true := by simp [Value.oneCell']

set_option maxRecDepth 100000 in
set_option maxHeartbeats 1000000 in
theorem sign (x : Nat) (v : Value) (lo hi : Nat) (m : List UInt8) (w : World) (hv : Bs w lo hi v m) (hl : m.length ≤ 549755813888) :
    Calls Try.prog 37 #[.int .u64 x, v] w fun e w' => e = .returned (sigV (sigR x m) (sigS x m)) ∧ Kept None w w' := by
  have hs := fun w hv => start (x % order61) v lo hi m w (Nat.lt_trans (Nat.mod_lt x (by decide)) (by decide)) hv hl
  have hp := fun w => pub (x % order61) w
  have hc := fun w hv => challenge (sigR x m) (pubN x) v lo hi m w (Nat.lt_trans (sigR_lt x m) (by decide)) (Nat.lt_trans (pubN_lt x) (by decide)) hv hl
  have hm := fun w => Fd.mul (x % order61) (chN (sigR x m) (pubN x) m) 2305843009213693950 w (Nat.lt_trans (Nat.mod_lt x (by decide)) (by decide)) (Nat.lt_trans (chN_lt _ _ _) (by decide))
  have ha := fun w => Fd.add (keyN (x % order61) m) ((x % order61) * chN (sigR x m) (pubN x) m % order61) 2305843009213693950 w
  rw [show Ref.modOf 2305843009213693950 = order61 by decide] at hm ha
  rw [show (keyN (x % order61) m + (x % order61) * chN (sigR x m) (pubN x) m % order61) % order61 = sigS x m from rfl] at ha
  rw [show powm prime61 7 (keyN (x % order61) m) = sigR x m from rfl] at hs
  rw [pubN_mod] at hp
  obtain ⟨R, hR⟩ : ∃ R, R = sigR x m := ⟨_, rfl⟩
  obtain ⟨S, hS⟩ : ∃ S, S = sigS x m := ⟨_, rfl⟩
  obtain ⟨Y, hY⟩ : ∃ Y, Y = pubN x := ⟨_, rfl⟩
  rw [← hR] at hs hc hm ha ⊢
  rw [← hS] at ha ⊢
  rw [← hY] at hp hc hm ha
  obtain ⟨K, hK⟩ : ∃ K, K = keyN (x % order61) m := ⟨_, rfl⟩
  obtain ⟨C, hC⟩ : ∃ C, C = chN R Y m := ⟨_, rfl⟩
  rw [← hK] at hs ha
  rw [← hC] at hc hm ha
  have hx : ((x % order61 : Nat) : Int) = (x : Int) % 2305843009213693950 := by rw [Int.natCast_emod]; rfl
  obtain ⟨M, hM⟩ : ∃ M, M = x % order61 * C % order61 := ⟨_, rfl⟩
  rw [← hM] at hm ha
  rw [hx] at hs hp hm
  have HS := hid hs
  have HA := hid (And.intro hp (And.intro hc (And.intro hm ha)))
  clear hs hp hc hm ha hR hS hY hK hC hM hx
  obtain ⟨a, cap, rfl, g1, g2, g3⟩ := hv.shape
  clear g3
  go_enter Try.func37, Try.ntmps37
  go_wp2_with fail
  have hv1 := hv.kept ((Kept.refl None w).alloc (.cells #[.int .u64 0, .int .u64 0] 24)) (fun _ _ _ h => h)
  refine (HS.out _ hv1).mono ?_
  rintro e w1 ⟨rfl, k1⟩
  have hB1 : Blk w1 w.heap.size #[.int .u64 0, .int .u64 0] 24 := (Blk.new w _ _).kept k1 (fun h => h)
  have k01 : Kept None w w1 := ((Kept.refl None w).alloc _).trans k1
  have hv2 := hv1.kept k1 (fun _ _ _ h => h)
  clear hv hv1 k1
  go_wp2_with fail
  refine (HA.out.1 _).mono ?_
  rintro e w2 ⟨rfl, k2⟩
  have hB2 := hB1.kept k2 (fun h => h)
  have k02 := k01.trans k2
  have hv3 := hv2.kept k2 (fun _ _ _ h => h)
  clear hB1 k01 hv2 k2
  go_wp2_with fail
  refine (HA.out.2.1 _ hv3).mono ?_
  rintro e w3 ⟨rfl, k3⟩
  have hB3 := hB2.kept k3 (fun h => h)
  have k03 := k02.trans k3
  clear hB2 k02 hv3 k3
  go_wp2_with fail
  refine (HA.out.2.2.1 _).mono ?_
  rintro e w4 ⟨rfl, k4⟩
  have hB4 := hB3.kept k4 (fun h => h)
  have k04 := k03.trans k4
  clear hB3 k03 k4
  go_wp2_with fail
  refine (HA.out.2.2.2 _).mono ?_
  rintro e w5 ⟨rfl, k5⟩
  have hB5 := hB4.kept k5 (fun h => h)
  have k05 := k04.trans k5
  clear hB4 k04 k5
  go_wp2_with (first | (refine wpList_store_blk rfl _ _ _ rfl rfl rfl hB5 aSig rfl (sig_all _ _) ?_; intro w6 hR6 k6) | fail)
  exact bodyPost_ret (v := sigV R S) (results_blk rfl _ rfl hR6 aSig) rfl ⟨rfl, k05.then k6 (fun i hi (h : i = w.heap.size) => by omega)⟩
end Sg
end Go.Proofs.Ytbckjkfdkgomiaa
