/- Package sigs, the reference's signatures. -/
import Derived.Test.YtibkijloibnkfaaLowSponge
import Derived.Test.YtibkijloibnkfaaLowField
import Derived.Test.YtibkijloibnkfaaLow
import Derived.Test.YtibkijloibnkfaaLowRefSponge
/- Package sigs: each function by its contract, over the plain functions of Num4. -/
namespace Go.Proofs.Ytibkijloibnkfaa
open Go.RowKit Go.Pm
namespace Sg

set_option maxRecDepth 100000 in
set_option maxHeartbeats 400000 in
theorem pub (x : Nat) (w : World) : Calls Try.prog 68 #[.int .u64 x] w fun e w' => e = .returned (.int .u64 (pubN x : Nat)) ∧ Kept None w w' := by
  have hp := fun w => Fd.pow 7 (x % order61) 2305843009213693951 w (by decide)
  rw [show Ref.modOf 2305843009213693951 = prime61 by decide, show powm prime61 7 (x % order61) = pubN x from rfl, show ((x % order61 : Nat) : Int) = (x : Int) % 2305843009213693950 by rw [Int.natCast_emod]; rfl] at hp
  generalize pubN x = p at *
  have HP := hid hp
  clear hp
  go_enter Try.func68, Try.ntmps68
  go_wp2_with fail
  refine (HP.out _).mono ?_
  rintro e w1 ⟨rfl, k1⟩
  go_wp2
  go_ret
  exact ⟨rfl, k1⟩

theorem fits_lt (n : Nat) (h1 : 1 ≤ n) : ∀ z, z = n → decide ((z : Int) < 2305843009213693951) = fitsN n := by
  rintro z rfl
  unfold fitsN prime61
  rw [decide_eq_true h1, Bool.true_and, decide_eq_decide]
  omega
set_option maxRecDepth 100000 in
set_option maxHeartbeats 400000 in
theorem fits (n : Nat) (w : World) : Calls Try.prog 72 #[.int .u64 n] w fun e w' => e = .returned (.bool (fitsN n)) ∧ w = w' := by
  go_enter Try.func72, Try.ntmps72
  by_cases h1 : 1 ≤ n
  · have h2 := fits_lt n h1
    go_wp2
    go_ret
    exact ⟨rfl, rfl⟩
  · have e1 : fitsN n = false := by unfold fitsN; simp; omega
    rw [e1]
    clear e1
    go_wp2
    go_ret
    exact ⟨rfl, rfl⟩

theorem box_cell (w : World) (h : List UInt8) (t : TypeId) (i : Nat) (hi : i < h.length) : (w.alloc (.cells (h.map u8v).toArray t)).cell? ⟨w.heap.size, i, none⟩ = some (.int .u8 (bAt h i)) := by
  rw [World.cell?_alloc_new]
  simp [u8v, bAt, List.getD, List.getElem?_eq_getElem hi]
theorem num_end (h : List UInt8) : leV (h.take 8) % 2305843009213693950 = (numB h : Nat) := by
  unfold numB
  rw [Int.natCast_emod, leV_nat, leV_take]
  rfl

set_option maxRecDepth 100000 in
set_option maxHeartbeats 1000000 in
theorem number (h : List UInt8) (hl : h.length = 32) (w : World) : Calls Try.prog 91 #[hashV h] w fun e w' => e = .returned (.int .u64 (numB h : Nat)) ∧ Kept None w w' := by
  have hc := fun i (hi : i < 8) => box_cell w h 23 i (by omega)
  have k1 : Kept None w (w.alloc (.cells (h.map u8v).toArray 23)) := (Kept.refl _ _).alloc _
  have HC := hid hc
  have HE := hid (num_end h)
  clear hc
  go_enter Try.func91, Try.ntmps91
  go_wp2_with fail
  go_loop [3, 8] (fun x i => ∃ k : Nat, k ≤ 8 ∧ i = .int .i64 k ∧ x = .int .u64 (leV (h.take k))) (fun _ i => 8 - (intOf i).toNat)
  case atStart => exact ⟨0, Nat.zero_le _, rfl, by rw [leV_zero]⟩
  case round =>
    obtain ⟨k, hk, rfl, rfl⟩ := hrel
    by_cases hlt : k < 8
    · have hc' := HC.out k hlt
      have c0 := bAt_ge h k
      have c1 := bAt_lt h k
      have HS := hid (word_step h k hlt)
      generalize bAt h k = c at *
      go_wp2
      go_round
      case rel => exact ⟨k + 1, by omega, by go_num, by rw [HS.out]⟩
      case measure => simp [intOf]; omega
    · obtain rfl : k = 8 := by omega
      have g0 := leV_ge (h.take 8)
      go_wp2
      go_ret
      exact ⟨by rw [HE.out]; rfl, k1⟩

/-- A signature. -/
abbrev sigV (r s : Nat) : Value := .agg #[.int .u64 r, .int .u64 s]

set_option maxRecDepth 100000 in
set_option maxHeartbeats 1000000 in
theorem challenge (r y : Nat) (v : Value) (lo hi : Nat) (m : List UInt8) (w : World) (hr : r < 18446744073709551616) (hy : y < 18446744073709551616) (hv : Bs w lo hi v m) (hl : m.length ≤ 549755813888) :
    Calls Try.prog 67 #[.int .u64 r, .int .u64 y, v] w fun e w' => e = .returned (.int .u64 (chN r y m : Nat)) ∧ Kept None w w' := by
  have ht := fun v lo hi lo' hi' w hv => Sp.tag 101 v lo hi lo' hi' [leB r, leB y, m] w (by decide) (by decide) hv (by simp) (by simp [total, leB_length]; omega)
  have hn := fun w => number (sumB (textB 101 [leB r, leB y, m])) (sumB_len _) w
  rw [show numB (sumB (textB 101 [leB r, leB y, m])) = chN r y m from rfl] at hn
  obtain ⟨h, hh⟩ : ∃ h, h = sumB (textB 101 [leB r, leB y, m]) := ⟨_, rfl⟩
  obtain ⟨c, hc⟩ : ∃ c, c = chN r y m := ⟨_, rfl⟩
  rw [← hh] at ht hn
  rw [← hc] at hn ⊢
  have HT := hid ht
  have HN := hid hn
  clear ht hn hh hc
  obtain ⟨a, cap, rfl, g1, g2, g3⟩ := hv.shape
  clear g3
  go_enter Try.func67, Try.ntmps67
  go_wp2_with fail
  refine (Bin.num r _ (by omega) (by omega)).mono ?_
  rintro e w1 ⟨v1, rfl, k1, b1⟩
  have b1' := b1.bs (Nat.le_refl _)
  obtain ⟨a1, c1, rfl⟩ := b1.form
  rw [leB_length] at b1' ⊢
  clear b1
  go_wp2_with fail
  refine (Bin.num y _ (by omega) (by omega)).mono ?_
  rintro e w2 ⟨v2, rfl, k2, b2⟩
  have b2' := b2.bs (Nat.le_refl _)
  obtain ⟨a2, c2, rfl⟩ := b2.form
  rw [leB_length] at b2' ⊢
  have b1'' := b1'.kept k2 (fun _ _ _ h => h)
  have hv2 := (hv.kept k1 (fun _ _ _ h => h)).kept k2 (fun _ _ _ h => h)
  have k02 := k1.trans k2
  clear b2 hv b1' k1 k2
  go_wp2_with fail
  have hbs := Bss.new w2 #[.slice a1 8 c1, .slice a2 8 c2, .slice a m.length cap] 29 [leB r, leB y, m] 3 rfl (by decide) ⟨b1''.all, b2'.all, hv2.all, trivial⟩
  refine (HT.out _ _ _ _ _ _ hbs).mono ?_
  rintro e w3 ⟨rfl, k3⟩
  have k03 := (k02.alloc _).then k3 (fun _ _ h => h)
  clear hbs k02 k3 b1'' b2' hv2
  go_wp2_with fail
  refine (HN.out _).mono ?_
  rintro e w4 ⟨rfl, k4⟩
  have k04 := k03.then k4 (fun _ _ h => h)
  go_wp2
  go_ret
  exact ⟨rfl, k04⟩

set_option maxRecDepth 100000 in
set_option maxHeartbeats 1000000 in
theorem start (x : Nat) (v : Value) (lo hi : Nat) (m : List UInt8) (w : World) (hx : x < 18446744073709551616) (hv : Bs w lo hi v m) (hl : m.length ≤ 549755813888) :
    Calls Try.prog 66 #[.int .u64 x, v] w fun e w' => e = .returned (.tuple #[.int .u64 (keyN x m : Nat), .int .u64 (powm prime61 7 (keyN x m) : Nat)]) ∧ Kept None w w' := by
  have ht := fun v lo hi lo' hi' w hv => Sp.tag 107 v lo hi lo' hi' [leB x, m] w (by decide) (by decide) hv (by simp) (by simp [total, leB_length]; omega)
  have hn := fun w => number (sumB (textB 107 [leB x, m])) (sumB_len _) w
  have hp := fun w => Fd.pow 7 (keyN x m) 2305843009213693951 w (by decide)
  rw [show Ref.modOf 2305843009213693951 = prime61 by decide] at hp
  rw [show numB (sumB (textB 107 [leB x, m])) = keyN x m from rfl] at hn
  obtain ⟨h, hh⟩ : ∃ h, h = sumB (textB 107 [leB x, m]) := ⟨_, rfl⟩
  obtain ⟨c, hc⟩ : ∃ c, c = keyN x m := ⟨_, rfl⟩
  rw [← hh] at ht hn
  rw [← hc] at hn hp ⊢
  obtain ⟨p, hpp⟩ : ∃ p, p = powm prime61 7 c := ⟨_, rfl⟩
  rw [← hpp] at hp ⊢
  have HT := hid ht
  have HN := hid hn
  have HP := hid hp
  clear ht hn hp hh hc hpp
  obtain ⟨a, cap, rfl, g1, g2, g3⟩ := hv.shape
  clear g3
  go_enter Try.func66, Try.ntmps66
  go_wp2_with fail
  refine (Bin.num x _ (by omega) (by omega)).mono ?_
  rintro e w1 ⟨v1, rfl, k1, b1⟩
  have b1' := b1.bs (Nat.le_refl _)
  obtain ⟨a1, c1, rfl⟩ := b1.form
  rw [leB_length] at b1' ⊢
  have hv1 := hv.kept k1 (fun _ _ _ h => h)
  clear b1 hv
  go_wp2_with fail
  have hbs := Bss.new w1 #[.slice a1 8 c1, .slice a m.length cap] 29 [leB x, m] 2 rfl (by decide) ⟨b1'.all, hv1.all, trivial⟩
  refine (HT.out _ _ _ _ _ _ hbs).mono ?_
  rintro e w3 ⟨rfl, k3⟩
  have k03 := (k1.alloc _).then k3 (fun _ _ h => h)
  clear hbs k1 k3 b1' hv1
  go_wp2_with fail
  refine (HN.out _).mono ?_
  rintro e w4 ⟨rfl, k4⟩
  have k04 := k03.then k4 (fun _ _ h => h)
  clear k03 k4
  go_wp2_with fail
  refine (HP.out _).mono ?_
  rintro e w5 ⟨rfl, k5⟩
  have k05 := k04.then k5 (fun _ _ h => h)
  go_wp2
  go_ret2
  exact ⟨rfl, k05⟩

theorem AggTy.of {P : Program} {t : TypeId} {n : Nat} (h : (P.underlying t).map aggD = some true) (h2 : (P.info? t).map (·.size) = some n) : AggTy P t n := by
  cases hu : P.underlying t with
  | none => rw [hu] at h; cases h
  | some d => rw [hu] at h; exact ⟨⟨d, hu, by simpa using h⟩, h2⟩
theorem aSig : AggTy Try.prog 26 2 := AggTy.of (by kernel_rfl) (by kernel_rfl)
theorem sig_all (r s : Nat) : (#[.int .u64 (r : Int), .int .u64 (s : Int)] : Array Value).all (·.oneCell') = true := by simp [Value.oneCell']

set_option maxRecDepth 100000 in
set_option maxHeartbeats 1000000 in
theorem sign (x : Nat) (v : Value) (lo hi : Nat) (m : List UInt8) (w : World) (hv : Bs w lo hi v m) (hl : m.length ≤ 549755813888) :
    Calls Try.prog 37 #[.int .u64 x, v] w fun e w' => e = .returned (sigV (sigR x m) (sigS x m)) ∧ Kept None w w' := by
  have hs := fun w hv => start (x % order61) v lo hi m w (Nat.lt_trans (Nat.mod_lt x (by decide)) (by decide)) hv hl
  have hp := fun w => pub (x % order61) w
  have hc := fun w hv => challenge (sigR x m) (pubN x) v lo hi m w (Nat.lt_trans (sigR_lt x m) (by decide)) (Nat.lt_trans (pubN_lt x) (by decide)) hv hl
  have hm := fun w => Fd.mul (x % order61) (chN (sigR x m) (pubN x) m) 2305843009213693950 w (Nat.lt_trans (Nat.mod_lt x (by decide)) (by decide)) (Nat.lt_trans (chN_lt _ _ _) (by decide))
  have ha := fun w => Fd.add (keyN (x % order61) m) ((x % order61) * chN (sigR x m) (pubN x) m % order61) 2305843009213693950 w
  rw [show Ref.modOf 2305843009213693950 = order61 by decide] at hm ha
  rw [show (keyN (x % order61) m + (x % order61) * chN (sigR x m) (pubN x) m % order61) % order61 = sigS x m from rfl] at ha
  rw [show powm prime61 7 (keyN (x % order61) m) = sigR x m from rfl] at hs
  rw [pubN_mod] at hp
  obtain ⟨R, hR⟩ : ∃ R, R = sigR x m := ⟨_, rfl⟩
  obtain ⟨S, hS⟩ : ∃ S, S = sigS x m := ⟨_, rfl⟩
  obtain ⟨Y, hY⟩ : ∃ Y, Y = pubN x := ⟨_, rfl⟩
  rw [← hR] at hs hc hm ha ⊢
  rw [← hS] at ha ⊢
  rw [← hY] at hp hc hm ha
  obtain ⟨K, hK⟩ : ∃ K, K = keyN (x % order61) m := ⟨_, rfl⟩
  obtain ⟨C, hC⟩ : ∃ C, C = chN R Y m := ⟨_, rfl⟩
  rw [← hK] at hs ha
  rw [← hC] at hc hm ha
  have hx : ((x % order61 : Nat) : Int) = (x : Int) % 2305843009213693950 := by rw [Int.natCast_emod]; rfl
  obtain ⟨M, hM⟩ : ∃ M, M = x % order61 * C % order61 := ⟨_, rfl⟩
  rw [← hM] at hm ha
  rw [hx] at hs hp hm
  have HS := hid hs
  have HA := hid (And.intro hp (And.intro hc (And.intro hm ha)))
  clear hs hp hc hm ha hR hS hY hK hC hM hx
  obtain ⟨a, cap, rfl, g1, g2, g3⟩ := hv.shape
  clear g3
  go_enter Try.func37, Try.ntmps37
  go_wp2_with fail
  have hv1 := hv.kept ((Kept.refl None w).alloc (.cells #[.int .u64 0, .int .u64 0] 26)) (fun _ _ _ h => h)
  refine (HS.out _ hv1).mono ?_
  rintro e w1 ⟨rfl, k1⟩
  have hB1 : Blk w1 w.heap.size #[.int .u64 0, .int .u64 0] 26 := (Blk.new w _ _).kept k1 (fun h => h)
  have k01 : Kept None w w1 := ((Kept.refl None w).alloc _).trans k1
  have hv2 := hv1.kept k1 (fun _ _ _ h => h)
  clear hv hv1 k1
  go_wp2_with fail
  refine (HA.out.1 _).mono ?_
  rintro e w2 ⟨rfl, k2⟩
  have hB2 := hB1.kept k2 (fun h => h)
  have k02 := k01.trans k2
  have hv3 := hv2.kept k2 (fun _ _ _ h => h)
  clear hB1 k01 hv2 k2
  go_wp2_with fail
  refine (HA.out.2.1 _ hv3).mono ?_
  rintro e w3 ⟨rfl, k3⟩
  have hB3 := hB2.kept k3 (fun h => h)
  have k03 := k02.trans k3
  clear hB2 k02 hv3 k3
  go_wp2_with fail
  refine (HA.out.2.2.1 _).mono ?_
  rintro e w4 ⟨rfl, k4⟩
  have hB4 := hB3.kept k4 (fun h => h)
  have k04 := k03.trans k4
  clear hB3 k03 k4
  go_wp2_with fail
  refine (HA.out.2.2.2 _).mono ?_
  rintro e w5 ⟨rfl, k5⟩
  have hB5 := hB4.kept k5 (fun h => h)
  have k05 := k04.trans k5
  clear hB4 k04 k5
  go_wp2_with (first | (refine wpList_store_blk rfl _ _ _ rfl rfl rfl hB5 aSig rfl (sig_all _ _) ?_; intro w6 hR6 k6) | fail)
  exact bodyPost_ret (v := sigV R S) (results_blk rfl _ rfl hR6 aSig) rfl ⟨rfl, k05.then k6 (fun i hi (h : i = w.heap.size) => by omega)⟩
end Sg
end Go.Proofs.Ytibkijloibnkfaa

/- sigs.Check, by its contract. -/
namespace Go.Proofs.Ytibkijloibnkfaa
open Go.RowKit Go.Pm
namespace Sg

theorem fits_word {n : Nat} (h : fitsN n = true) : n < 18446744073709551616 := by
  unfold fitsN at h
  rw [Bool.and_eq_true] at h
  exact Nat.lt_trans (of_decide_eq_true h.2) (by decide)
theorem order_ge (s : Nat) (b : Bool) (h : decide (order61 ≤ s) = b) : ∀ z, z = s → decide ((2305843009213693950 : Int) ≤ (z : Int)) = b := by
  rintro z rfl
  rw [← h, decide_eq_decide]
  unfold order61
  omega
theorem nat_eq (a b : Nat) : ((a : Int) == (b : Int)) = (a == b) := by
  rw [Bool.eq_iff_iff, beq_iff_eq, beq_iff_eq]
  omega

set_option maxRecDepth 100000 in
set_option maxHeartbeats 2000000 in
theorem check (y r s : Nat) (v : Value) (lo hi : Nat) (m : List UInt8) (w : World) (hv : Bs w lo hi v m) (hl : m.length ≤ 549755813888) :
    Calls Try.prog 39 #[.int .u64 y, v, sigV r s] w fun e w' => e = .returned (.bool (checkN y m r s)) ∧ Kept None w w' := by
  have hfy := fun w => fits y w
  have hfr := fun w => fits r w
  have HV := hid hv
  obtain ⟨a, cap, rfl, g1, g2, g3⟩ := hv.shape
  clear hv g3
  cases hy : fitsN y
  · rw [check_y m r s hy]
    rw [hy] at hfy
    have HY := hid hfy
    clear hfy hfr hy
    go_enter Try.func39, Try.ntmps39
    go_wp2_with fail
    refine (HY.out _).mono ?_
    rintro e w1 ⟨rfl, rfl⟩
    go_wp2
    go_ret
    exact ⟨rfl, (Kept.refl _ _).alloc _⟩
  · cases hr : fitsN r
    · rw [check_r y m s hr]
      rw [hy] at hfy
      rw [hr] at hfr
      have HY := hid (And.intro hfy hfr)
      clear hfy hfr hy hr
      go_enter Try.func39, Try.ntmps39
      go_wp2_with fail
      refine (HY.out.1 _).mono ?_
      rintro e w1 ⟨rfl, rfl⟩
      go_wp2_with fail
      refine (HY.out.2 _).mono ?_
      rintro e w1 ⟨rfl, rfl⟩
      go_wp2
      go_ret
      exact ⟨rfl, (Kept.refl _ _).alloc _⟩
    · by_cases hs : order61 ≤ s
      · rw [check_s y m r hs]
        rw [hy] at hfy
        rw [hr] at hfr
        have HY := hid (And.intro hfy hfr)
        have hb := order_ge s true (decide_eq_true hs)
        clear hfy hfr hy hr hs
        go_enter Try.func39, Try.ntmps39
        go_wp2_with fail
        refine (HY.out.1 _).mono ?_
        rintro e w1 ⟨rfl, rfl⟩
        go_wp2_with fail
        refine (HY.out.2 _).mono ?_
        rintro e w1 ⟨rfl, rfl⟩
        go_wp2
        go_ret
        exact ⟨rfl, (Kept.refl _ _).alloc _⟩
      · have hb := order_ge s false (decide_eq_false hs)
        have hres : checkN y m r s = (powm prime61 7 s == r * powm prime61 y (chN r y m) % prime61) := by
          unfold checkN
          rw [hy, hr, decide_eq_true (by omega : s < order61)]
          rfl
        have hry : r < 18446744073709551616 ∧ y < 18446744073709551616 := ⟨fits_word hr, fits_word hy⟩
        have hc := fun w lo hi v hv => challenge r y v lo hi m w hry.1 hry.2 hv hl
        have hp := fun w => Fd.pow y (chN r y m) 2305843009213693951 w hry.2
        have hm := fun w => Fd.mul r (powm prime61 y (chN r y m)) 2305843009213693951 w hry.1 (Nat.lt_trans (powm_lt _ _ _ (by decide)) (by decide))
        have h7 := fun w => Fd.pow 7 s 2305843009213693951 w (by decide)
        rw [show Ref.modOf 2305843009213693951 = prime61 by decide] at hp hm h7
        rw [hres]
        rw [hy] at hfy
        rw [hr] at hfr
        obtain ⟨c, hcc⟩ : ∃ c, c = chN r y m := ⟨_, rfl⟩
        rw [← hcc] at hc hp hm ⊢
        obtain ⟨p, hpp⟩ : ∃ p, p = powm prime61 y c := ⟨_, rfl⟩
        rw [← hpp] at hp hm ⊢
        obtain ⟨q, hqq⟩ : ∃ q, q = r * p % prime61 := ⟨_, rfl⟩
        rw [← hqq] at hm ⊢
        obtain ⟨t, htt⟩ : ∃ t, t = powm prime61 7 s := ⟨_, rfl⟩
        rw [← htt] at h7 ⊢
        have HY := hid (And.intro hfy hfr)
        have HP := hid (And.intro hc (And.intro hp (And.intro hm h7)))
        clear hfy hfr hy hr hs hres hry hc hp hm h7 hcc hpp hqq htt
        go_enter Try.func39, Try.ntmps39
        go_wp2_with fail
        refine (HY.out.1 _).mono ?_
        rintro e w1 ⟨rfl, rfl⟩
        go_wp2_with fail
        refine (HY.out.2 _).mono ?_
        rintro e w1 ⟨rfl, rfl⟩
        have hB := Blk.new w #[.int .u64 (r : Int), .int .u64 (s : Int)] 26
        have k0 : Kept None w (w.alloc (.cells #[.int .u64 (r : Int), .int .u64 (s : Int)] 26)) := (Kept.refl _ _).alloc _
        have hv0 := HV.out.kept k0 (fun _ _ _ h => h)
        clear HV
        go_wp2_with fail
        refine (HP.out.1 _ _ _ _ hv0).mono ?_
        rintro e w1 ⟨rfl, k1⟩
        have hB1 := hB.kept k1 (fun h => h)
        have k01 := k0.trans k1
        clear hB k0 hv0 k1
        go_wp2_with fail
        have hc0 : ∀ W, Kept None w1 W → W.cell? ⟨w.heap.size, 0, none⟩ = some (.int .u64 (r : Int)) := fun W hW => (hB1.kept hW (fun h => h)).cell 0
        have hs : Steady [Fct.val 4 (.int .u64 (p : Int)), Fct.val 5 (.int .u64 (q : Int))] := Steady.val (Steady.val Steady.nil)
        refine wp_region_kn w1 _ hs (Kept.refl _ _) (by kernel_rfl) (by kernel_rfl) (by kernel_rfl) ?_
        iterate 4 (refine wpPar_pure rfl (by rfl) _ (fun W hW => by
            have c0 := hc0 W hW
            go_simp
            exact rfl) ?_; simp only [Act.put, List.setIfInBounds_toArray, List.set_cons_zero, List.set_cons_succ])
        refine wpKn_adds hs rfl (by rfl) (fun W hW hd => ?_) (fun v4 hv => ?_)
        · unfold Gives
          go_simp
          refine gives_call (HP.out.2.1 W) ?_
          rintro e w3 ⟨rfl, k3⟩
          exact ⟨_, rfl, k3, rfl, trivial⟩
        obtain rfl : v4 = .int .u64 (p : Int) := hv
        simp only [Act.put, List.setIfInBounds_toArray, List.set_cons_zero, List.set_cons_succ]
        refine wpKn_adds hs rfl (by rfl) (fun W hW hd => ?_) (fun v5 hv => ?_)
        · unfold Gives
          go_simp
          refine gives_call (HP.out.2.2.1 W) ?_
          rintro e w3 ⟨rfl, k3⟩
          exact ⟨_, rfl, k3, rfl, trivial⟩
        obtain rfl : v5 = .int .u64 (q : Int) := hv
        simp only [Act.put, List.setIfInBounds_toArray, List.set_cons_zero, List.set_cons_succ]
        iterate 1 (refine wpPar_pure rfl (by rfl) _ (fun W hW => by
            go_simp
            exact rfl) ?_; simp only [Act.put, List.setIfInBounds_toArray, List.set_cons_zero, List.set_cons_succ])
        refine wpPar_nil (fun W hW _ => ?_)
        have hB2 := hB1.kept hW (fun h => h)
        have k02 := k01.then hW (fun _ _ h => h)
        have c1 : W.cell? ⟨w.heap.size, 1, none⟩ = some (.int .u64 (s : Int)) := hB2.cell 1
        clear hc0 hs
        go_wp2_with fail
        refine (HP.out.2.2.2 _).mono ?_
        rintro e w3 ⟨rfl, k3⟩
        have k03 := k02.then k3 (fun _ _ h => h)
        have he := nat_eq t q
        go_wp2
        go_ret
        exact ⟨rfl, k03⟩
end Sg
end Go.Proofs.Ytibkijloibnkfaa

/- sigs.Put, by its contract. -/
namespace Go.Proofs.Ytibkijloibnkfaa
open Go.RowKit Go.Pm
namespace Sg

/-- A signature's bytes. -/
def sigB (r s : Nat) : List UInt8 := leB r ++ leB s
theorem sigB_len (r s : Nat) : (sigB r s).length = 16 := by simp [sigB, leB_length]

set_option maxRecDepth 100000 in
set_option maxHeartbeats 1000000 in
theorem put (r s : Nat) (w : World) (hr : r < 18446744073709551616) (hs0 : s < 18446744073709551616) :
    Calls Try.prog 33 #[sigV r s] w fun e w' => ∃ v, e = .returned v ∧ Kept None w w' ∧ Ob w' w.heap.size v (sigB r s) := by
  go_enter Try.func33, Try.ntmps33
  go_wp2_with fail
  obtain ⟨w1, hw1⟩ : ∃ w1, w1 = w.alloc (.cells #[.int .u64 (r : Int), .int .u64 (s : Int)] 26) := ⟨_, rfl⟩
  have hB := Blk.new w #[.int .u64 (r : Int), .int .u64 (s : Int)] 26
  have k0 : Kept None w (w.alloc (.cells #[.int .u64 (r : Int), .int .u64 (s : Int)] 26)) := (Kept.refl _ _).alloc _
  rw [← hw1] at hB k0 ⊢
  clear hw1
  have hc0 : ∀ W, Kept None w1 W → W.cell? ⟨w.heap.size, 0, none⟩ = some (.int .u64 (r : Int)) := fun W hW => (hB.kept hW (fun h => h)).cell 0
  have hc1 : ∀ W, Kept None w1 W → W.cell? ⟨w.heap.size, 1, none⟩ = some (.int .u64 (s : Int)) := fun W hW => (hB.kept hW (fun h => h)).cell 1
  clear hB
  have hs : Steady [.bytes 2 (leB r), .bytes 5 (leB s), .lists 6 ([leB r, leB s]) [2, 5], .own 5 7 (w1.heap.size) (sigB r s) [6]] := Steady.bytes (Steady.bytes (Steady.lists (Steady.own (Steady.nil))))
  refine wp_region_kn w1 _ hs (Kept.refl _ _) (by kernel_rfl) (by kernel_rfl) (by kernel_rfl) ?_
  iterate 2 (refine wpPar_pure rfl (by rfl) _ (fun W hW => by
      have c0 := hc0 W hW
      have c1 := hc1 W hW
      go_simp
      exact rfl) ?_; simp only [Act.put, List.setIfInBounds_toArray, List.set_cons_zero, List.set_cons_succ])
  refine wpKn_adds hs rfl (by rfl) (fun W hW hd => ?_) (fun v2 hv => ?_)
  · unfold Gives
    go_simp
    refine gives_call (Bin.num r W (by omega) (by omega)) ?_
    rintro e w3 ⟨u, rfl, k3, b3⟩
    exact ⟨_, rfl, k3, b3.form, _, _, b3.bs (Nat.le_refl _)⟩
  obtain ⟨a2, c2, rfl⟩ := hv
  simp only [Act.put, List.setIfInBounds_toArray, List.set_cons_zero, List.set_cons_succ]
  iterate 2 (refine wpPar_pure rfl (by rfl) _ (fun W hW => by
      have c0 := hc0 W hW
      have c1 := hc1 W hW
      go_simp
      exact rfl) ?_; simp only [Act.put, List.setIfInBounds_toArray, List.set_cons_zero, List.set_cons_succ])
  refine wpKn_adds hs rfl (by rfl) (fun W hW hd => ?_) (fun v5 hv => ?_)
  · unfold Gives
    go_simp
    refine gives_call (Bin.num s W (by omega) (by omega)) ?_
    rintro e w3 ⟨u, rfl, k3, b3⟩
    exact ⟨_, rfl, k3, b3.form, _, _, b3.bs (Nat.le_refl _)⟩
  obtain ⟨a5, c5, rfl⟩ := hv
  simp only [Act.put, List.setIfInBounds_toArray, List.set_cons_zero, List.set_cons_succ]
  refine wpKn_adds hs rfl (by rfl) (fun W hW hd => ?_) (fun v6 hv => ?_)
  · unfold Gives
    obtain ⟨lo1, hi1, h1⟩ : ∃ lo hi, Bs W lo hi (.slice a2 (leB r).length c2) (leB r) := hd 2 (List.Mem.head _)
    obtain ⟨lo2, hi2, h2⟩ : ∃ lo hi, Bs W lo hi (.slice a5 (leB s).length c5) (leB s) := hd 5 (List.Mem.tail _ (List.Mem.head _))
    go_simp
    exact ⟨(Kept.refl None W).alloc _, ⟨_, _, rfl⟩, _, _, _, _, Bss.new W #[.slice a2 (leB r).length c2, .slice a5 (leB s).length c5] 29 [leB r, leB s] 2 rfl (by decide) ⟨h1.all, h2.all, trivial⟩⟩
  obtain ⟨a6, c6, rfl⟩ := hv
  simp only [Act.put, List.setIfInBounds_toArray, List.set_cons_zero, List.set_cons_succ]
  refine wpKn_adds hs rfl (by rfl) (fun W hW hd => ?_) (fun v7 hv => ?_)
  · unfold Gives
    obtain ⟨lo1, hi1, lo2, hi2, h1⟩ : ∃ lo hi lo' hi', Bss W lo hi lo' hi' (.slice a6 [leB r, leB s].length c6) [leB r, leB s] := hd 6 (List.Mem.head _)
    go_simp
    refine gives_call (Bin.join _ _ _ _ _ _ W h1 (by simp [total, leB_length])) ?_
    rintro e w3 ⟨u, rfl, k3, b3⟩
    have b4 := b3.base hW.size
    rw [show [leB (r : Int), leB (s : Int)].flatten = sigB r s by simp [sigB]] at b4
    exact ⟨_, rfl, k3, b4.form, b4⟩
  obtain ⟨a7, c7, rfl⟩ := hv
  simp only [Act.put, List.setIfInBounds_toArray, List.set_cons_zero, List.set_cons_succ]
  iterate 1 (refine wpPar_pure rfl (by rfl) _ (fun W hW => by
      go_simp
      exact rfl) ?_; simp only [Act.put, List.setIfInBounds_toArray, List.set_cons_zero, List.set_cons_succ])
  refine wpPar_nil (fun W hW hG => ?_)
  have hb : Ob W w1.heap.size (.slice a7 (sigB r s).length c7) (sigB r s) := hG 7
  have hb1 := hb.base k0.size
  have k01 := k0.then hW (fun _ _ h => h)
  clear hG hb hc0 hc1 hs k0 hW
  go_wp2
  go_ret
  exact ⟨_, rfl, k01, hb1⟩
end Sg
end Go.Proofs.Ytibkijloibnkfaa

/- postmarkref1: number, Public, point, Sign, PutSig, Check, by their contracts. -/
namespace Go.Proofs.Ytibkijloibnkfaa
open Go.RowKit Go.Pm
namespace Ref

theorem box_bs (w : World) (h : List UInt8) (t : TypeId) (hl : h.length = 32) : Bs (w.alloc (.cells (h.map u8v).toArray t)) w.heap.size (w.heap.size + 1) (.slice (some ⟨w.heap.size, 0, none⟩) 8 32) (h.take 8) := by
  have h0 := Vs.new w (h.map u8v).toArray t 32 (by simp [hl]) (by decide)
  rw [show (h.map u8v).toArray.size = 32 by simp [hl]] at h0
  have h1 := h0.sliced 0 8 (by decide) (by decide)
  unfold Bs
  simpa [List.map_take, Addr.add_zero'] using h1

set_option maxRecDepth 100000 in
set_option maxHeartbeats 400000 in
theorem number (h : List UInt8) (hl : h.length = 32) (w : World) : Calls Try.prog 58 #[hashV h] w fun e w' => e = .returned (.int .u64 (numB h : Nat)) ∧ Kept None w w' := by
  have hb := box_bs w h 23 hl
  have k1 : Kept None w (w.alloc (.cells (h.map u8v).toArray 23)) := (Kept.refl _ _).alloc _
  have HE := hid (Sg.num_end h)
  have g0 := leV_ge (h.take 8)
  go_enter Try.func58, Try.ntmps58
  go_wp2_with fail
  refine (word _ _ _ (h.take 8) _ hb (by simp [hl])).mono ?_
  rintro e w1 ⟨rfl, rfl⟩
  go_wp2
  go_ret
  exact ⟨by rw [HE.out]; rfl, k1⟩

set_option maxRecDepth 100000 in
set_option maxHeartbeats 400000 in
theorem pub (x : Nat) (w : World) : Calls Try.prog 17 #[.int .u64 x] w fun e w' => e = .returned (.int .u64 (pubN x : Nat)) ∧ Kept None w w' := by
  have hp := fun w => pow 7 (x % order61) 2305843009213693951 w
  rw [show modOf 2305843009213693951 = prime61 by decide, show powm prime61 7 (x % order61) = pubN x from rfl, show ((x % order61 : Nat) : Int) = (x : Int) % 2305843009213693950 by rw [Int.natCast_emod]; rfl] at hp
  generalize pubN x = p at *
  have HP := hid hp
  clear hp
  go_enter Try.func17, Try.ntmps17
  go_wp2_with fail
  refine (HP.out _).mono ?_
  rintro e w1 ⟨rfl, k1⟩
  go_wp2
  go_ret
  exact ⟨rfl, k1⟩

set_option maxRecDepth 100000 in
set_option maxHeartbeats 1000000 in
theorem point (r y : Nat) (v : Value) (lo hi : Nat) (m : List UInt8) (w : World) (hr : r < 18446744073709551616) (hy : y < 18446744073709551616) (hv : Bs w lo hi v m) (hl : m.length ≤ 549755813888) :
    Calls Try.prog 60 #[.int .u64 r, .int .u64 y, v] w fun e w' => e = .returned (.int .u64 (chN r y m : Nat)) ∧ Kept None w w' := by
  have ht := fun v lo hi lo' hi' w hv => tag 101 v lo hi lo' hi' [leB r, leB y, m] w (by decide) (by decide) hv (by simp) (by simp [total, leB_length]; omega)
  have hn := fun w => number (sumB (textB 101 [leB r, leB y, m])) (sumB_len _) w
  rw [show numB (sumB (textB 101 [leB r, leB y, m])) = chN r y m from rfl] at hn
  obtain ⟨h, hh⟩ : ∃ h, h = sumB (textB 101 [leB r, leB y, m]) := ⟨_, rfl⟩
  obtain ⟨c, hc⟩ : ∃ c, c = chN r y m := ⟨_, rfl⟩
  rw [← hh] at ht hn
  rw [← hc] at hn ⊢
  have HT := hid ht
  have HN := hid hn
  clear ht hn hh hc
  obtain ⟨a, cap, rfl, g1, g2, g3⟩ := hv.shape
  clear g3
  go_enter Try.func60, Try.ntmps60
  go_wp2_with fail
  refine (num r _ (by omega) (by omega)).mono ?_
  rintro e w1 ⟨v1, rfl, k1, b1⟩
  have b1' := b1.bs (Nat.le_refl _)
  obtain ⟨a1, c1, rfl⟩ := b1.form
  rw [leB_length] at b1' ⊢
  clear b1
  go_wp2_with fail
  refine (num y _ (by omega) (by omega)).mono ?_
  rintro e w2 ⟨v2, rfl, k2, b2⟩
  have b2' := b2.bs (Nat.le_refl _)
  obtain ⟨a2, c2, rfl⟩ := b2.form
  rw [leB_length] at b2' ⊢
  have b1'' := b1'.kept k2 (fun _ _ _ h => h)
  have hv2 := (hv.kept k1 (fun _ _ _ h => h)).kept k2 (fun _ _ _ h => h)
  have k02 := k1.trans k2
  clear b2 hv b1' k1 k2
  go_wp2_with fail
  have hbs := Bss.new w2 #[.slice a1 8 c1, .slice a2 8 c2, .slice a m.length cap] 29 [leB r, leB y, m] 3 rfl (by decide) ⟨b1''.all, b2'.all, hv2.all, trivial⟩
  refine (HT.out _ _ _ _ _ _ hbs).mono ?_
  rintro e w3 ⟨rfl, k3⟩
  have k03 := (k02.alloc _).then k3 (fun _ _ h => h)
  clear hbs k02 k3 b1'' b2' hv2
  go_wp2_with fail
  refine (HN.out _).mono ?_
  rintro e w4 ⟨rfl, k4⟩
  have k04 := k03.then k4 (fun _ _ h => h)
  go_wp2
  go_ret
  exact ⟨rfl, k04⟩

set_option maxRecDepth 100000 in
set_option maxHeartbeats 1000000 in
theorem sign (x : Nat) (v : Value) (lo hi : Nat) (m : List UInt8) (w : World) (hv : Bs w lo hi v m) (hl : m.length ≤ 549755813888) :
    Calls Try.prog 29 #[.int .u64 x, v] w fun e w' => e = .returned (Sg.sigV (sigR x m) (sigS x m)) ∧ Kept None w w' := by
  have hx : ((x % order61 : Nat) : Int) = (x : Int) % 2305843009213693950 := by rw [Int.natCast_emod]; rfl
  have hx1 : x % order61 < 18446744073709551616 := Nat.lt_trans (Nat.mod_lt x (by decide)) (by decide)
  have hnum := fun w => num ((x % order61 : Nat) : Int) w (by omega) (by omega)
  have ht := fun v lo hi lo' hi' w hv => tag 107 v lo hi lo' hi' [leB ((x % order61 : Nat) : Int), m] w (by decide) (by decide) hv (by simp) (by simp [total, leB_length]; omega)
  have hn := fun w => number (sumB (textB 107 [leB ((x % order61 : Nat) : Int), m])) (sumB_len _) w
  rw [show numB (sumB (textB 107 [leB ((x % order61 : Nat) : Int), m])) = keyN (x % order61) m from rfl] at hn
  have h7 := fun w => pow 7 (keyN (x % order61) m) 2305843009213693951 w
  have hp := fun w => pub (x % order61) w
  have hc := fun w hv => point (sigR x m) (pubN x) v lo hi m w (Nat.lt_trans (sigR_lt x m) (by decide)) (Nat.lt_trans (pubN_lt x) (by decide)) hv hl
  have hm := fun w => mul (x % order61) (chN (sigR x m) (pubN x) m) 2305843009213693950 w
  have ha := fun w => add (keyN (x % order61) m) ((x % order61) * chN (sigR x m) (pubN x) m % order61) 2305843009213693950 w
  rw [show modOf 2305843009213693950 = order61 by decide] at hm ha
  rw [show modOf 2305843009213693951 = prime61 by decide] at h7
  rw [show (keyN (x % order61) m + (x % order61) * chN (sigR x m) (pubN x) m % order61) % order61 = sigS x m from rfl] at ha
  rw [show powm prime61 7 (keyN (x % order61) m) = sigR x m from rfl] at h7
  rw [pubN_mod] at hp
  obtain ⟨R, hR⟩ : ∃ R, R = sigR x m := ⟨_, rfl⟩
  obtain ⟨S, hS⟩ : ∃ S, S = sigS x m := ⟨_, rfl⟩
  obtain ⟨Y, hY⟩ : ∃ Y, Y = pubN x := ⟨_, rfl⟩
  rw [← hR] at h7 hc hm ha ⊢
  rw [← hS] at ha ⊢
  rw [← hY] at hp hc hm ha
  obtain ⟨K, hK⟩ : ∃ K, K = keyN (x % order61) m := ⟨_, rfl⟩
  obtain ⟨C, hC⟩ : ∃ C, C = chN R Y m := ⟨_, rfl⟩
  obtain ⟨h, hh⟩ : ∃ h, h = sumB (textB 107 [leB ((x % order61 : Nat) : Int), m]) := ⟨_, rfl⟩
  obtain ⟨B, hB⟩ : ∃ B, B = leB ((x % order61 : Nat) : Int) := ⟨_, rfl⟩
  have l8 : B.length = 8 := by rw [hB]; exact leB_length _
  rw [← hh] at ht hn
  rw [← hB] at ht hnum
  rw [← hK] at hn h7 ha
  rw [← hC] at hc hm ha
  obtain ⟨M, hM⟩ : ∃ M, M = x % order61 * C % order61 := ⟨_, rfl⟩
  rw [← hM] at hm ha
  rw [hx] at hp hm hnum
  have HU := hid hnum
  have HT := hid ht
  have HA := hid (And.intro hp (And.intro hc (And.intro hm (And.intro ha (And.intro hn h7)))))
  clear hp hc hm ha hn h7 ht hnum hR hS hY hK hC hM hh hB hx hx1
  obtain ⟨a, cap, rfl, g1, g2, g3⟩ := hv.shape
  clear g3
  go_enter Try.func29, Try.ntmps29
  go_wp2_with fail
  have hv1 := hv.kept ((Kept.refl None w).alloc (.cells #[.int .u64 0, .int .u64 0] 26)) (fun _ _ _ h => h)
  refine (HU.out _).mono ?_
  rintro e w1 ⟨v1, rfl, k1, b1⟩
  have b1' := b1.bs (Nat.le_refl _)
  obtain ⟨a1, c1, rfl⟩ := b1.form
  rw [l8] at b1' ⊢
  have hB1 : Blk w1 w.heap.size #[.int .u64 0, .int .u64 0] 26 := (Blk.new w _ _).kept k1 (fun h => h)
  have k01 : Kept None w w1 := ((Kept.refl None w).alloc _).trans k1
  have hv2 := hv1.kept k1 (fun _ _ _ h => h)
  clear hv hv1 k1 b1
  go_wp2_with fail
  have hbs := Bss.new w1 #[.slice a1 8 c1, .slice a m.length cap] 29 [B, m] 2 rfl (by decide) ⟨b1'.all, hv2.all, trivial⟩
  refine (HT.out _ _ _ _ _ _ hbs).mono ?_
  rintro e w2 ⟨rfl, k2⟩
  have kk := ((Kept.refl None w1).alloc _).trans k2
  have hB2 := hB1.kept kk (fun h => h)
  have k02 := k01.trans kk
  have hv3 := hv2.kept kk (fun _ _ _ h => h)
  clear hB1 k01 hv2 k2 kk hbs b1'
  go_wp2_with fail
  refine (HA.out.2.2.2.2.1 _).mono ?_
  rintro e w3 ⟨rfl, kk⟩
  have hB3 := hB2.kept kk (fun h => h)
  have k03 := k02.trans kk
  have hv4 := hv3.kept kk (fun _ _ _ h => h)
  clear hB2 k02 hv3 kk
  go_wp2_with fail
  refine (HA.out.2.2.2.2.2 _).mono ?_
  rintro e w4 ⟨rfl, kk⟩
  have hB4 := hB3.kept kk (fun h => h)
  have k04 := k03.trans kk
  have hv5 := hv4.kept kk (fun _ _ _ h => h)
  clear hB3 k03 hv4 kk
  go_wp2_with fail
  refine (HA.out.1 _).mono ?_
  rintro e w5 ⟨rfl, kk⟩
  have hB5 := hB4.kept kk (fun h => h)
  have k05 := k04.trans kk
  have hv6 := hv5.kept kk (fun _ _ _ h => h)
  clear hB4 k04 hv5 kk
  go_wp2_with fail
  refine (HA.out.2.1 _ hv6).mono ?_
  rintro e w6 ⟨rfl, kk⟩
  have hB6 := hB5.kept kk (fun h => h)
  have k06 := k05.trans kk
  clear hB5 k05 hv6 kk
  go_wp2_with fail
  refine (HA.out.2.2.1 _).mono ?_
  rintro e w7 ⟨rfl, kk⟩
  have hB7 := hB6.kept kk (fun h => h)
  have k07 := k06.trans kk
  clear hB6 k06 kk
  go_wp2_with fail
  refine (HA.out.2.2.2.1 _).mono ?_
  rintro e w8 ⟨rfl, kk⟩
  have hB8 := hB7.kept kk (fun h => h)
  have k08 := k07.trans kk
  clear hB7 k07 kk
  go_wp2_with (first | (refine wpList_store_blk rfl _ _ _ rfl rfl rfl hB8 Sg.aSig rfl (Sg.sig_all _ _) ?_; intro w9 hR9 k9) | fail)
  exact bodyPost_ret (v := Sg.sigV R S) (results_blk rfl _ rfl hR9 Sg.aSig) rfl ⟨rfl, k08.then k9 (fun i hi (h : i = w.heap.size) => by omega)⟩

set_option maxRecDepth 100000 in
set_option maxHeartbeats 1000000 in
theorem putSig (r s : Nat) (w : World) (hr : r < 18446744073709551616) (hs0 : s < 18446744073709551616) :
    Calls Try.prog 48 #[Sg.sigV r s] w fun e w' => ∃ v, e = .returned v ∧ Kept None w w' ∧ Ob w' w.heap.size v (Sg.sigB r s) := by
  go_enter Try.func48, Try.ntmps48
  go_wp2_with fail
  obtain ⟨w1, hw1⟩ : ∃ w1, w1 = w.alloc (.cells #[.int .u64 (r : Int), .int .u64 (s : Int)] 26) := ⟨_, rfl⟩
  have hB := Blk.new w #[.int .u64 (r : Int), .int .u64 (s : Int)] 26
  have k0 : Kept None w (w.alloc (.cells #[.int .u64 (r : Int), .int .u64 (s : Int)] 26)) := (Kept.refl _ _).alloc _
  rw [← hw1] at hB k0 ⊢
  clear hw1
  have hc0 : ∀ W, Kept None w1 W → W.cell? ⟨w.heap.size, 0, none⟩ = some (.int .u64 (r : Int)) := fun W hW => (hB.kept hW (fun h => h)).cell 0
  have hc1 : ∀ W, Kept None w1 W → W.cell? ⟨w.heap.size, 1, none⟩ = some (.int .u64 (s : Int)) := fun W hW => (hB.kept hW (fun h => h)).cell 1
  clear hB
  have hs : Steady [.own 5 2 (w1.heap.size) (leB r), .own 5 5 (w1.heap.size) (leB s), .own 5 6 (w1.heap.size) (Sg.sigB r s) [2, 5] [2, 5]] := Steady.own (Steady.own (Steady.own (Steady.nil)))
  refine wp_region_kn w1 _ hs (Kept.refl _ _) (by kernel_rfl) (by kernel_rfl) (by kernel_rfl) ?_
  iterate 2 (refine wpPar_pure rfl (by rfl) _ (fun W hW => by
      have c0 := hc0 W hW
      have c1 := hc1 W hW
      go_simp
      exact rfl) ?_; simp only [Act.put, List.setIfInBounds_toArray, List.set_cons_zero, List.set_cons_succ])
  refine wpKn_adds hs rfl (by rfl) (fun W hW hd => ?_) (fun v2 hv => ?_)
  · unfold Gives
    go_simp
    refine gives_call (Ref.num r W (by omega) (by omega)) ?_
    rintro e w3 ⟨u, rfl, k3, b3⟩
    exact ⟨_, rfl, k3, b3.form, b3.base hW.size⟩
  obtain ⟨a2, c2, rfl⟩ : ∃ a c, v2 = .slice a 8 c := hv
  simp only [Act.put, List.setIfInBounds_toArray, List.set_cons_zero, List.set_cons_succ]
  iterate 2 (refine wpPar_pure rfl (by rfl) _ (fun W hW => by
      have c0 := hc0 W hW
      have c1 := hc1 W hW
      go_simp
      exact rfl) ?_; simp only [Act.put, List.setIfInBounds_toArray, List.set_cons_zero, List.set_cons_succ])
  refine wpKn_adds hs rfl (by rfl) (fun W hW hd => ?_) (fun v5 hv => ?_)
  · unfold Gives
    go_simp
    refine gives_call (Ref.num s W (by omega) (by omega)) ?_
    rintro e w3 ⟨u, rfl, k3, b3⟩
    exact ⟨_, rfl, k3, b3.form, b3.base hW.size⟩
  obtain ⟨a5, c5, rfl⟩ : ∃ a c, v5 = .slice a 8 c := hv
  simp only [Act.put, List.setIfInBounds_toArray, List.set_cons_zero, List.set_cons_succ]
  refine wpPar_adds rfl (by rfl) (fun W hW hd => ?_) (fun v6 hv => ?_)
  · have h1 : Ob W w1.heap.size (.slice a2 8 c2) (leB r) := hd 2 (List.Mem.head _)
    have h2 : Ob W w1.heap.size (.slice a5 8 c5) (leB s) := hd 5 (List.Mem.tail _ (List.Mem.head _))
    refine gives_append_bo _ _ 29 rfl rtBytes rfl rfl h1 (h2.bs (Nat.le_refl _)) (by simp [leB_length]) hW.size ?_
    intro a' n' c' W' h3 h4 _
    refine ⟨Kept.own hW h4 (fun k hk => (h1.own k hk).1), h3.form, h3, keeps_of fun f hf hs _ hne u hfu => ?_⟩
    simp only [List.mem_cons, List.not_mem_nil, or_false] at hf
    rcases hf with rfl | rfl | rfl
    · exact absurd (List.Mem.head _) hs
    · exact absurd (List.Mem.tail _ (List.Mem.head _)) hs
    · exact absurd rfl hne
  obtain ⟨a6, c6, rfl⟩ : ∃ a c, v6 = .slice a (Sg.sigB r s).length c := hv
  simp only [Act.put, List.setIfInBounds_toArray, List.set_cons_zero, List.set_cons_succ]
  iterate 1 (refine wpPar_pure rfl (by rfl) _ (fun W hW => by
      go_simp
      exact rfl) ?_; simp only [Act.put, List.setIfInBounds_toArray, List.set_cons_zero, List.set_cons_succ])
  refine wpPar_nil (fun W hW hG => ?_)
  have hb : Ob W w1.heap.size (.slice a6 (Sg.sigB r s).length c6) (Sg.sigB r s) := hG 6
  have hb1 := hb.base k0.size
  have k01 := k0.then hW (fun _ _ h => h)
  clear hG hb hc0 hc1 hs k0 hW
  go_wp2
  go_ret
  exact ⟨_, rfl, k01, hb1⟩

theorem prime_ge (s : Nat) (b : Bool) (h : decide (prime61 ≤ s) = b) : ∀ z, z = s → decide ((2305843009213693951 : Int) ≤ (z : Int)) = b := by
  rintro z rfl
  rw [← h, decide_eq_decide]
  unfold prime61
  omega
theorem fits_under {n : Nat} (h : n < 1) : fitsN n = false := by
  have : n = 0 := by omega
  rw [this]
  exact fits_none

set_option maxRecDepth 100000 in
set_option maxHeartbeats 2000000 in
theorem check (y r s : Nat) (v : Value) (lo hi : Nat) (m : List UInt8) (w : World) (hv : Bs w lo hi v m) (hl : m.length ≤ 549755813888) :
    Calls Try.prog 40 #[.int .u64 y, v, Sg.sigV r s] w fun e w' => e = .returned (.bool (checkN y m r s)) ∧ Kept None w w' := by
  have HV := hid hv
  obtain ⟨a, cap, rfl, g1, g2, g3⟩ := hv.shape
  clear hv g3
  by_cases y0 : y < 1
  · rw [check_y m r s (fits_under y0)]
    go_enter Try.func40, Try.ntmps40
    go_wp2
    go_ret
    exact ⟨rfl, (Kept.refl _ _).alloc _⟩
  by_cases y1 : prime61 ≤ y
  · rw [check_y m r s (fits_great y1)]
    have hb1 := prime_ge y true (decide_eq_true y1)
    clear y1
    go_enter Try.func40, Try.ntmps40
    go_wp2
    go_ret
    exact ⟨rfl, (Kept.refl _ _).alloc _⟩
  have hb1 := prime_ge y false (decide_eq_false y1)
  by_cases r0 : r < 1
  · rw [check_r y m s (fits_under r0)]
    clear y1
    go_enter Try.func40, Try.ntmps40
    go_wp2
    go_ret
    exact ⟨rfl, (Kept.refl _ _).alloc _⟩
  by_cases r1 : prime61 ≤ r
  · rw [check_r y m s (fits_great r1)]
    have hb2 := prime_ge r true (decide_eq_true r1)
    clear y1 r1
    go_enter Try.func40, Try.ntmps40
    go_wp2
    go_ret
    exact ⟨rfl, (Kept.refl _ _).alloc _⟩
  have hb2 := prime_ge r false (decide_eq_false r1)
  by_cases s1 : order61 ≤ s
  · rw [check_s y m r s1]
    have hb3 := Sg.order_ge s true (decide_eq_true s1)
    clear y1 r1 s1
    go_enter Try.func40, Try.ntmps40
    go_wp2
    go_ret
    exact ⟨rfl, (Kept.refl _ _).alloc _⟩
  have hb3 := Sg.order_ge s false (decide_eq_false s1)
  have hres : checkN y m r s = (powm prime61 7 s == r * powm prime61 y (chN r y m) % prime61) := by
    unfold checkN fitsN
    rw [decide_eq_true (show 1 ≤ y by omega), decide_eq_true (show y < prime61 by omega), decide_eq_true (show 1 ≤ r by omega), decide_eq_true (show r < prime61 by omega), decide_eq_true (show s < order61 by omega)]
    rfl
  have hc := fun w lo hi v hv => point r y v lo hi m w (Nat.lt_trans (Nat.lt_of_not_le r1) (by decide)) (Nat.lt_trans (Nat.lt_of_not_le y1) (by decide)) hv hl
  have hp := fun w => pow y (chN r y m) 2305843009213693951 w
  have hm := fun w => mul r (powm prime61 y (chN r y m)) 2305843009213693951 w
  have h7 := fun w => pow 7 s 2305843009213693951 w
  rw [show modOf 2305843009213693951 = prime61 by decide] at hp hm h7
  rw [hres]
  obtain ⟨c, hcc⟩ : ∃ c, c = chN r y m := ⟨_, rfl⟩
  rw [← hcc] at hc hp hm ⊢
  obtain ⟨p, hpp⟩ : ∃ p, p = powm prime61 y c := ⟨_, rfl⟩
  rw [← hpp] at hp hm ⊢
  obtain ⟨q, hqq⟩ : ∃ q, q = r * p % prime61 := ⟨_, rfl⟩
  rw [← hqq] at hm ⊢
  obtain ⟨t, htt⟩ : ∃ t, t = powm prime61 7 s := ⟨_, rfl⟩
  rw [← htt] at h7 ⊢
  have HP := hid (And.intro hc (And.intro hp (And.intro hm h7)))
  clear y1 r1 s1 hres hc hp hm h7 hcc hpp hqq htt
  go_enter Try.func40, Try.ntmps40
  have hB := Blk.new w #[.int .u64 (r : Int), .int .u64 (s : Int)] 26
  have k0 : Kept None w (w.alloc (.cells #[.int .u64 (r : Int), .int .u64 (s : Int)] 26)) := (Kept.refl _ _).alloc _
  have hv0 := HV.out.kept k0 (fun _ _ _ h => h)
  clear HV
  go_wp2_with fail
  refine (HP.out.1 _ _ _ _ hv0).mono ?_
  rintro e w1 ⟨rfl, k1⟩
  have hB1 := hB.kept k1 (fun h => h)
  have k01 := k0.trans k1
  clear hB k0 hv0 k1
  go_wp2_with fail
  have hc0 : ∀ W, Kept None w1 W → W.cell? ⟨w.heap.size, 0, none⟩ = some (.int .u64 (r : Int)) := fun W hW => (hB1.kept hW (fun h => h)).cell 0
  have hc1 : ∀ W, Kept None w1 W → W.cell? ⟨w.heap.size, 1, none⟩ = some (.int .u64 (s : Int)) := fun W hW => (hB1.kept hW (fun h => h)).cell 1
  have he := Sg.nat_eq t q
  have hs : Steady [.val 2 (.int .u64 (t : Int)), .val 7 (.int .u64 (p : Int)), .val 8 (.int .u64 (q : Int))] := Steady.val (Steady.val (Steady.val (Steady.nil)))
  refine wp_region_kn w1 _ hs (Kept.refl _ _) (by kernel_rfl) (by kernel_rfl) (by kernel_rfl) ?_
  iterate 2 (refine wpPar_pure rfl (by rfl) _ (fun W hW => by
      have c0 := hc0 W hW
      have c1 := hc1 W hW
      go_simp
      exact rfl) ?_; simp only [Act.put, List.setIfInBounds_toArray, List.set_cons_zero, List.set_cons_succ])
  refine wpKn_adds hs rfl (by rfl) (fun W hW hd => ?_) (fun v2 hv => ?_)
  · unfold Gives
    go_simp
    refine gives_call (HP.out.2.2.2 W) ?_
    rintro e w3 ⟨rfl, k3⟩
    exact ⟨_, rfl, k3, rfl, trivial⟩
  obtain rfl : v2 = .int .u64 (t : Int) := hv
  simp only [Act.put, List.setIfInBounds_toArray, List.set_cons_zero, List.set_cons_succ]
  iterate 4 (refine wpPar_pure rfl (by rfl) _ (fun W hW => by
      have c0 := hc0 W hW
      have c1 := hc1 W hW
      go_simp
      exact rfl) ?_; simp only [Act.put, List.setIfInBounds_toArray, List.set_cons_zero, List.set_cons_succ])
  refine wpKn_adds hs rfl (by rfl) (fun W hW hd => ?_) (fun v7 hv => ?_)
  · unfold Gives
    go_simp
    refine gives_call (HP.out.2.1 W) ?_
    rintro e w3 ⟨rfl, k3⟩
    exact ⟨_, rfl, k3, rfl, trivial⟩
  obtain rfl : v7 = .int .u64 (p : Int) := hv
  simp only [Act.put, List.setIfInBounds_toArray, List.set_cons_zero, List.set_cons_succ]
  refine wpKn_adds hs rfl (by rfl) (fun W hW hd => ?_) (fun v8 hv => ?_)
  · unfold Gives
    go_simp
    refine gives_call (HP.out.2.2.1 W) ?_
    rintro e w3 ⟨rfl, k3⟩
    exact ⟨_, rfl, k3, rfl, trivial⟩
  obtain rfl : v8 = .int .u64 (q : Int) := hv
  simp only [Act.put, List.setIfInBounds_toArray, List.set_cons_zero, List.set_cons_succ]
  iterate 2 (refine wpPar_pure rfl (by rfl) _ (fun W hW => by
      go_simp
      exact rfl) ?_; simp only [Act.put, List.setIfInBounds_toArray, List.set_cons_zero, List.set_cons_succ])
  refine wpPar_nil (fun W hW _ => ?_)
  have k02 := k01.then hW (fun _ _ h => h)
  clear hc0 hc1 hs hB1 k01 hW
  go_wp2
  go_ret
  exact ⟨rfl, k02⟩
end Ref
end Go.Proofs.Ytibkijloibnkfaa
