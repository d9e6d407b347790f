/- Texts joined: DirA16, DirM16, DirAd16, Fin16, TreeItem6, TreeCat6, StSwap6, StMrg6, StSort6, TreeCmp6, TreeSet6. -/
import Derived.Test.YtglibdggoobocaaPk6
import Derived.Test.YtglibdggoobocaaPk5
import Derived.OwnWalk
import Derived.Test.YtglibdggoobocaaPk2
import Derived.Test.YtglibdggoobocaaPk4
import Derived.Test.YtglibdggoobocaaPk3
import Derived.Deep.LoopGhost
import Derived.Test.YtglibdggoobocaaPk1
import Derived.Test.YtglibdggoobocaaProg
import Derived.Shelf.SlSortCmp.KitK
import Derived.Shelf.RegionOpenPlain
import Derived.Deep.DeepCutAuto
import Derived.Deep.CutBlock
import Derived.Deep.CutRange
import Derived.Lib.Bytealg
import Derived.BigQuiet
import Derived.Deep.QuietTactic
namespace Go.Proofs.Ytglibdggoobocaa
open Go.RowKit Go.Pm
namespace Dr
set_option maxRecDepth 100000 in
set_option maxHeartbeats 8000000 in
/-- isAbove. -/
theorem isAbove (p : Int) (v : Value) (lo hi : Nat) (l : List Kno) (w : World) (hv : Ps 4 w lo hi v (knosC l)) (hlen : l.length ≤ 1000000) :
    Calls Try.prog 29 #[.int .i64 p, v] w fun e w' => e = .returned (.bool (abvF l p)) ∧ Kept None w w' := by
  obtain ⟨a, cap, rfl, g1, g2, g3⟩ := hv.form
  rw [knosC_len] at g1 hv ⊢
  obtain ⟨n, hn⟩ : ∃ n, n = l.length := ⟨_, rfl⟩
  rw [← hn] at g1 hlen hv ⊢
  have HV := hid hv
  have HN := hid (And.intro hn hlen)
  clear hv hn g3
  have K0 := hid (Kept.refl None w)
  go_enter Try.func29, Try.ntmps29
  go_wp2_with fail
  go_loopg [9] n (fun kx s9 wr => ∃ (k : Nat), s9 = .int .i64 (k : Int) ∧ k ≤ n ∧ n - k ≤ kx ∧ Hid (Kept None w wr) ∧ Hid (∀ j (h : j < l.length), j < k → ¬ p ≤ l[j].p))
  case atStart => exact ⟨0, rfl, Nat.zero_le _, Nat.le_refl _, K0, hid (fun j _ h => absurd h (Nat.not_lt_zero j))⟩
  case round =>
    obtain ⟨k, rfl, hk, hkx, HK, HT⟩ := hrel
    by_cases hlt : k < n
    · have hz : (k : Int) < (n : Int) := by omega
      have wk : IntKind.i64.wrap ((k : Int) + 1) = (k : Int) + 1 := by rw [IntKind.wrap_i64]; have := HN.out.2; omega
      have kl : k < l.length := by have := HN.out.1; omega
      obtain ⟨bb, o, q1, hc⟩ := (HV.out.kept HK.out (fun _ _ _ h => h)).kno (by omega)
      obtain rfl := q1
      have rX := (hc k kl).2.2.2.2.1
      obtain ⟨x, hx⟩ : ∃ x, x = l[k] := ⟨_, rfl⟩
      rw [← hx] at rX
      have HX := hid (show ∃ h : k < l.length, x = l[k] from ⟨kl, hx⟩)
      clear hc hx kl
      obtain ⟨G, hG⟩ : ∃ z, z = wr.heap.size := ⟨_, rfl⟩
      have z4 := Blk.new wr #[.string ⟨#[]⟩, .int .i64 0, .int .u64 0, .int .i64 0] 31
      have HK4 := hid (show Kept None wr (wr.alloc (.cells #[.string ⟨#[]⟩, .int .i64 0, .int .u64 0, .int .i64 0] 31)) from (Kept.refl _ _).alloc _)
      go_upto_region 4 with (first | (refine wpList_load_at (.refl _) _ _ rfl rfl rX aKno ?_) | (refine wpList_store_blk (.refl _) _ _ _ rfl rfl rfl z4 aKno rfl (kno_all _) ?_; intro w4 x4 k4) | fail)
      obtain ⟨xp, hxp⟩ : ∃ z, z = x.p := ⟨_, rfl⟩
      have cx3 : w4.cell? ⟨wr.heap.size, 3, none⟩ = some (.int .i64 xp) := by rw [hxp]; exact x4.cell 3
      have K4 := hid ((HK.out.trans HK4.out).then k4 (fun i hi (h : i = wr.heap.size) => by have := HK.out.size; omega))
      have HXP := hid hxp
      rw [← hG] at cx3 ⊢
      clear rX z4 x4 k4 HK HK4 hG hxp
      by_cases hp : p ≤ xp
      · have HF : Hid (abvF l p = false) := hid (by
          obtain ⟨h1, h2⟩ := HX.out
          unfold abvF
          rw [List.any_eq_true.2 ⟨l[k], List.getElem_mem h1, by rw [← h2, ← HXP.out]; exact decide_eq_true hp⟩]
          simp)
        have d1 : decide (p ≤ xp) = true := decide_eq_true hp
        clear HT
        go_wp2_with fail
        go_ret
        exact ⟨by rw [HF.out]; rfl, K4.out⟩
      · have d1 : decide (p ≤ xp) = false := decide_eq_false hp
        have HT2 : Hid (∀ j (h : j < l.length), j < k + 1 → ¬ p ≤ l[j].p) := hid (fun j hj hjk => by
          rcases Nat.lt_or_ge j k with g | g
          · exact HT.out j hj g
          · obtain rfl : j = k := by omega
            obtain ⟨h1, h2⟩ := HX.out
            rw [← h2, ← HXP.out]
            exact hp)
        clear HT
        go_wp2_with fail
        go_roundg (n - (k + 1))
        case measure => omega
        case rel => exact ⟨k + 1, by go_num, by omega, Nat.le_refl _, K4, HT2⟩
    · have hz : ¬ (k : Int) < (n : Int) := by omega
      obtain rfl : k = n := by omega
      have HF : Hid (abvF l p = decide (1 ≤ p)) := hid (by
        unfold abvF
        rw [show (l.any fun y => decide (p ≤ y.p)) = false from List.any_eq_false.2 (fun y hy hc => by
          obtain ⟨j, hj, rfl⟩ := List.getElem_of_mem hy
          exact HT.out j hj (by have := HN.out.1; omega) (of_decide_eq_true hc))]
        simp)
      clear HT
      go_wp2
      go_ret
      exact ⟨by rw [HF.out]; rfl, HK.out⟩
set_option maxRecDepth 100000 in
set_option maxHeartbeats 8000000 in
/-- mayCome. -/
theorem mayCome (v u : Value) (lo hi lo' hi' : Nat) (l : List Kno) (b : List Ent) (w : World) (hv : Ps 4 w lo hi v (knosC l)) (hu : Ps 3 w lo' hi' u (entsC b)) (hrt : RtK l) (hlen : l.length ≤ 1000000) (hblen : b.length ≤ 1000000) :
    Calls Try.prog 30 #[v, u] w fun e w' => e = .returned (.bool (comeF l b)) ∧ Kept None w w' := by
  have hLat := fun W (hW : Kept None w W) nm => latest v lo hi l nm W (hv.kept hW (fun _ _ _ h => h)) hrt hlen
  have hver := fun nm => ver_le hrt nm
  obtain ⟨av, cv, rfl, _, _, _⟩ := hv.form
  rw [knosC_len] at hLat ⊢
  obtain ⟨a, cap, rfl, g1, g2, g3⟩ := hu.form
  rw [entsC_len] at g1 hu ⊢
  obtain ⟨n, hn⟩ : ∃ n, n = b.length := ⟨_, rfl⟩
  rw [← hn] at g1 hblen hu ⊢
  obtain ⟨N, hN⟩ : ∃ N, N = l.length := ⟨_, rfl⟩
  rw [← hN] at hLat ⊢
  have HL := hid hLat
  have HVR := hid hver
  have HU := hid hu
  have HN := hid (And.intro hn hblen)
  clear hv hu hn g3 hLat hver hrt hlen hN
  have K0 := hid (Kept.refl None w)
  go_enter Try.func30, Try.ntmps30
  go_wp2_with fail
  go_loopg [11] n (fun kx s11 wr => ∃ (k : Nat), s11 = .int .i64 (k : Int) ∧ k ≤ n ∧ n - k ≤ kx ∧ Hid (Kept None w wr) ∧ Hid (∀ j, j < k → comeB l b j = true))
  case atStart => exact ⟨0, rfl, Nat.zero_le _, Nat.le_refl _, K0, hid (fun j h => absurd h (Nat.not_lt_zero j))⟩
  case round =>
    obtain ⟨k, rfl, hk, hkx, HK, HT⟩ := hrel
    by_cases hlt : k < n
    · have hz : (k : Int) < (n : Int) := by omega
      have wk : IntKind.i64.wrap ((k : Int) + 1) = (k : Int) + 1 := by rw [IntKind.wrap_i64]; have := HN.out.2; omega
      have kl : k < b.length := by have := HN.out.1; omega
      have HC := hid ((HU.out.kept HK.out (fun _ _ _ h => h)).ent (by omega))
      obtain ⟨bb, o, q1, hc⟩ := HC.out
      obtain rfl := q1
      have rX := (hc k kl).2.2.2
      obtain ⟨x, hx⟩ : ∃ x, x = b[k] := ⟨_, rfl⟩
      rw [← hx] at rX
      have HX := hid (show ∃ h : k < b.length, x = b[k] from ⟨kl, hx⟩)
      clear hc hx HC
      obtain ⟨G, hG⟩ : ∃ z, z = wr.heap.size := ⟨_, rfl⟩
      have z4 := Blk.new wr #[.string ⟨#[]⟩, .int .i64 0, .int .u64 0] 29
      have HK4 := hid (show Kept None wr (wr.alloc (.cells #[.string ⟨#[]⟩, .int .i64 0, .int .u64 0] 29)) from (Kept.refl _ _).alloc _)
      go_upto_region 4 with (first | (refine wpList_load_at (.refl _) _ _ rfl rfl rX aEnt ?_) | (refine wpList_store_blk (.refl _) _ _ _ rfl rfl rfl z4 aEnt rfl (ent_all _) ?_; intro w4 x4 k4) | fail)
      have HX4 := hid x4
      have K4 := hid ((HK.out.trans HK4.out).then k4 (fun i hi (h : i = wr.heap.size) => by have := HK.out.size; omega))
      rw [← hG] at HX4 ⊢
      clear rX z4 x4 k4 HK HK4 hG
      obtain ⟨xn, hxn⟩ : ∃ z, z = x.n := ⟨_, rfl⟩
      have cx0 : w4.cell? ⟨G, 0, none⟩ = some (.string xn) := by rw [hxn]; exact HX4.out.cell 0
      have HXN := hid hxn
      clear hxn
      by_cases hk0 : 0 < k
      · have hkz : (0 : Int) < (k : Int) := by omega
        have hkd : decide ((0 : Int) < (k : Int)) = true := decide_eq_true hkz
        obtain ⟨m, hm⟩ : ∃ m, k = m + 1 := ⟨k - 1, by omega⟩
        have wm : IntKind.i64.wrap ((k : Int) - 1) = (m : Int) := by rw [IntKind.wrap_i64]; omega
        have hzm : (m : Int) < (n : Int) := by omega
        have ml : m < b.length := by omega
        have ca : ∃ an, w4.cell? ⟨bb, o + m * 3, none⟩ = some (.string an) ∧ sameB b k = (an.toList == xn.toList) := by
          obtain ⟨b5, o5, q5, hc5⟩ := (HU.out.kept K4.out (fun _ _ _ h => h)).ent (by omega)
          obtain ⟨rfl, rfl⟩ : bb = b5 ∧ o = o5 := by simpa using q5
          obtain ⟨h1, h2⟩ := HX.out
          refine ⟨_, (hc5 m ml).1, ?_⟩
          subst hm
          show eqN ((b[m]?).getD Ent.none).n ((b[m + 1]?).getD Ent.none).n = _
          rw [List.getElem?_eq_getElem ml, List.getElem?_eq_getElem h1, Option.getD_some, Option.getD_some, ← h2, HXN.out]
          rfl
        obtain ⟨an, ca, hS0⟩ := ca
        obtain ⟨S, hS⟩ : ∃ S, S = sameB b k := ⟨_, rfl⟩
        have e1 : (an.toList == xn.toList) = S := by rw [hS, hS0]
        have HS := hid hS
        clear hS hS0 hm ml
        go_quiet (fail)
        obtain ⟨w5, hw⟩ : ∃ z, z = w4.drewN nq := ⟨_, rfl⟩
        rw [← hw]
        have K5 := hid (show Kept None w w5 from K4.out.trans (hw ▸ Kept.toDrewN _ _ _))
        have HX5 := hid (show Blk w5 G (entC x).toArray 29 from HX4.out.kept (show Kept None w4 w5 from hw ▸ Kept.toDrewN _ _ _) (fun h => h))
        clear hw ca e1 wm hzm hkz hkd K4 HX4 cx0
        cases S with
        | true =>
          have HF : Hid (comeF l b = false) := hid (comeF_no kl (by unfold comeB; rw [← HS.out]; rfl))
          clear HT
          go_wp2_with fail
          go_ret
          exact ⟨by rw [HF.out]; rfl, K5.out⟩
        | false =>
          have cx0 : w5.cell? ⟨G, 0, none⟩ = some (.string xn) := by rw [HXN.out]; exact HX5.out.cell 0
          have hl5 := HL.out w5 K5.out xn
          have hvr := HVR.out xn
          obtain ⟨R, hR⟩ : ∃ R, R = latF l xn := ⟨_, rfl⟩
          rw [← hR] at hl5 hvr
          obtain ⟨⟨⟨rn, rv, rk⟩, rp⟩, rb⟩ := R
          have HL5 := hid hl5
          have hrv : 0 ≤ rv ∧ rv ≤ 1073741824 := hvr
          obtain ⟨yv, hyv⟩ : ∃ z : Int, z = rv + 1 := ⟨_, rfl⟩
          have hwy : IntKind.i64.wrap (rv + 1) = yv := by rw [IntKind.wrap_i64]; omega
          have hM := fun W => mayFollow rv yv x W hwy
          obtain ⟨B, hB⟩ : ∃ B, B = (decide (x.v = yv) && entR x.n.size x.v x.k) := ⟨_, rfl⟩
          rw [← hB] at hM
          have HM := hid hM
          have HCO := hid (show comeB l b k = B by
            obtain ⟨h1, h2⟩ := HX.out
            unfold comeB
            rw [← HS.out, List.getElem?_eq_getElem h1, Option.getD_some, ← h2, hB]
            unfold goodB
            rw [← HXN.out, ← hR, hyv]
            rfl)
          clear hl5 hvr hR hrv hwy hM hB hyv
          go_wp2_with fail
          refine HL5.out.mono ?_
          rintro e w6 ⟨rfl, k6⟩
          have K6 := hid (K5.out.trans k6)
          have HX6 := hid (HX5.out.kept k6 (fun h => h))
          obtain ⟨H, hH⟩ : ∃ z, z = w6.heap.size := ⟨_, rfl⟩
          have HGH := hid (show G < H from by rw [hH]; exact HX6.out.lt)
          have z6 := Blk.new w6 #[.string ⟨#[]⟩, .int .i64 0, .int .u64 0, .int .i64 0] 31
          have HK7 := hid (show Kept None w6 (w6.alloc (.cells #[.string ⟨#[]⟩, .int .i64 0, .int .u64 0, .int .i64 0] 31)) from (Kept.refl _ _).alloc _)
          clear k6 HL5 K5 HX5 cx0
          go_upto_region 7 with (first | (refine wpList_store_blk (.refl _) _ _ _ rfl rfl rfl z6 aKno rfl (kno_all (⟨⟨rn, rv, rk⟩, rp⟩ : Kno)) ?_; intro w7 y7 k7) | fail)
          have K7 := hid ((K6.out.trans HK7.out).then k7 (fun i hi (h : i = w6.heap.size) => by have := K6.out.size; omega))
          have HX7 := hid ((HX6.out.kept HK7.out (fun h => h)).kept k7 (fun (h : G = w6.heap.size) => by have := HGH.out; omega))
          have cy1 : w7.cell? ⟨w6.heap.size, 1, none⟩ = some (.int .i64 rv) := y7.cell 1
          rw [← hH] at cy1 ⊢
          have x7 := HX7.out
          clear z6 HK7 y7 k7 hH K6 HX6
          go_wp2_with (first | (refine wpList_load_blk rfl _ _ rfl rfl x7 aEnt ?_) | fail)
          refine (HM.out _).mono ?_
          rintro e w8 ⟨rfl, k8⟩
          have K8 := hid (K7.out.trans k8)
          clear k8 x7 cy1 K7 HX7 HM
          cases B with
          | false =>
            have HF : Hid (comeF l b = false) := hid (comeF_no kl HCO.out)
            clear HT
            go_wp2_with fail
            go_ret
            exact ⟨by rw [HF.out]; rfl, K8.out⟩
          | true =>
            have HT2 : Hid (∀ j, j < k + 1 → comeB l b j = true) := hid (fun j hj => by
              rcases Nat.lt_or_ge j k with g | g
              · exact HT.out j g
              · obtain rfl : j = k := by omega
                exact HCO.out)
            clear HT
            go_wp2_with fail
            go_roundg (n - (k + 1))
            case measure => omega
            case rel => exact ⟨k + 1, by go_num, by omega, Nat.le_refl _, K8, HT2⟩
      · obtain ⟨E, hE⟩ : ∃ E, E = decide ((0 : Int) < (k : Int)) := ⟨_, rfl⟩
        have HE : Hid (E = false) := hid (by rw [hE]; exact decide_eq_false (by omega))
        have hE' : decide (0 < k) = E := by rw [hE]; exact decide_eq_decide.2 (by omega)
        have HS : Hid (false = sameB b k) := hid (by rw [show k = 0 by omega]; rfl)
        clear hE hk0 cx0
        refine wp_region_kn w4 _ Go.Pm.Steady.nil (Kept.refl _ _) (by kernel_rfl) (by kernel_rfl) (by kernel_rfl) ?_
        refine wpPar_pure rfl (by kernel_rfl) (.int .i64 (k : Int)) (fun W hW => by go_simp) ?_; simp only [Act.put, List.setIfInBounds_toArray, List.set_cons_zero, List.set_cons_succ]
        refine wpPar_pure rfl (by kernel_rfl) (.bool E) (fun W hW => by go_simp) ?_; simp only [Act.put, List.setIfInBounds_toArray, List.set_cons_zero, List.set_cons_succ]
        refine wpPar_pure rfl (by kernel_rfl) (.bool E) (fun W hW => by go_simp) ?_; simp only [Act.put, List.setIfInBounds_toArray, List.set_cons_zero, List.set_cons_succ]
        iterate 9 (refine wpPar_skip (by rw [HE.out]; kernel_rfl) ?_; simp only [Act.put, List.setIfInBounds_toArray, List.set_cons_zero, List.set_cons_succ])
        refine wpPar_pure rfl (by kernel_rfl) (.bool false) (fun W hW => by
            have q := HE.out
            subst q
            go_simp) ?_; simp only [Act.put, List.setIfInBounds_toArray, List.set_cons_zero, List.set_cons_succ]
        refine wpPar_nil (fun w5 hW hG => ?_)
        have K5 := hid (K4.out.trans hW)
        have HX5 := hid (HX4.out.kept hW (fun h => h))
        clear hG hW hE' K4 HX4
        have cx0 : w5.cell? ⟨G, 0, none⟩ = some (.string xn) := by rw [HXN.out]; exact HX5.out.cell 0
        have hl5 := HL.out w5 K5.out xn
        have hvr := HVR.out xn
        obtain ⟨R, hR⟩ : ∃ R, R = latF l xn := ⟨_, rfl⟩
        rw [← hR] at hl5 hvr
        obtain ⟨⟨⟨rn, rv, rk⟩, rp⟩, rb⟩ := R
        have HL5 := hid hl5
        have hrv : 0 ≤ rv ∧ rv ≤ 1073741824 := hvr
        obtain ⟨yv, hyv⟩ : ∃ z : Int, z = rv + 1 := ⟨_, rfl⟩
        have hwy : IntKind.i64.wrap (rv + 1) = yv := by rw [IntKind.wrap_i64]; omega
        have hM := fun W => mayFollow rv yv x W hwy
        obtain ⟨B, hB⟩ : ∃ B, B = (decide (x.v = yv) && entR x.n.size x.v x.k) := ⟨_, rfl⟩
        rw [← hB] at hM
        have HM := hid hM
        have HCO := hid (show comeB l b k = B by
          obtain ⟨h1, h2⟩ := HX.out
          unfold comeB
          rw [← HS.out, List.getElem?_eq_getElem h1, Option.getD_some, ← h2, hB]
          unfold goodB
          rw [← HXN.out, ← hR, hyv]
          rfl)
        clear hl5 hvr hR hrv hwy hM hB hyv
        go_wp2_with fail
        refine HL5.out.mono ?_
        rintro e w6 ⟨rfl, k6⟩
        have K6 := hid (K5.out.trans k6)
        have HX6 := hid (HX5.out.kept k6 (fun h => h))
        obtain ⟨H, hH⟩ : ∃ z, z = w6.heap.size := ⟨_, rfl⟩
        have HGH := hid (show G < H from by rw [hH]; exact HX6.out.lt)
        have z6 := Blk.new w6 #[.string ⟨#[]⟩, .int .i64 0, .int .u64 0, .int .i64 0] 31
        have HK7 := hid (show Kept None w6 (w6.alloc (.cells #[.string ⟨#[]⟩, .int .i64 0, .int .u64 0, .int .i64 0] 31)) from (Kept.refl _ _).alloc _)
        clear k6 HL5 K5 HX5 cx0
        go_upto_region 7 with (first | (refine wpList_store_blk (.refl _) _ _ _ rfl rfl rfl z6 aKno rfl (kno_all (⟨⟨rn, rv, rk⟩, rp⟩ : Kno)) ?_; intro w7 y7 k7) | fail)
        have K7 := hid ((K6.out.trans HK7.out).then k7 (fun i hi (h : i = w6.heap.size) => by have := K6.out.size; omega))
        have HX7 := hid ((HX6.out.kept HK7.out (fun h => h)).kept k7 (fun (h : G = w6.heap.size) => by have := HGH.out; omega))
        have cy1 : w7.cell? ⟨w6.heap.size, 1, none⟩ = some (.int .i64 rv) := y7.cell 1
        rw [← hH] at cy1 ⊢
        have x7 := HX7.out
        clear z6 HK7 y7 k7 hH K6 HX6
        go_wp2_with (first | (refine wpList_load_blk rfl _ _ rfl rfl x7 aEnt ?_) | fail)
        refine (HM.out _).mono ?_
        rintro e w8 ⟨rfl, k8⟩
        have K8 := hid (K7.out.trans k8)
        clear k8 x7 cy1 K7 HX7 HM
        cases B with
        | false =>
          have HF : Hid (comeF l b = false) := hid (comeF_no kl HCO.out)
          clear HT
          go_wp2_with fail
          go_ret
          exact ⟨by rw [HF.out]; rfl, K8.out⟩
        | true =>
          have HT2 : Hid (∀ j, j < k + 1 → comeB l b j = true) := hid (fun j hj => by
            rcases Nat.lt_or_ge j k with g | g
            · exact HT.out j g
            · obtain rfl : j = k := by omega
              exact HCO.out)
          clear HT
          go_wp2_with fail
          go_roundg (n - (k + 1))
          case measure => omega
          case rel => exact ⟨k + 1, by go_num, by omega, Nat.le_refl _, K8, HT2⟩
    · have hz : ¬ (k : Int) < (n : Int) := by omega
      obtain rfl : k = n := by omega
      have HF : Hid (comeF l b = true) := hid (comeF_all (fun i hi => HT.out i (by have := HN.out.1; omega)))
      clear HT
      go_wp2
      go_ret
      exact ⟨by rw [HF.out]; rfl, HK.out⟩
end Dr
end Go.Proofs.Ytglibdggoobocaa
namespace Go.Pm
open Go Go.RowKit
theorem Mg.step' {l : List Kno} (hl : RtK l) {p : Int} {b : List Ent} (hs : StrN b) (hg : ∀ e ∈ b, goodE l e) {k : Nat} {o r : List Kno} (h : Mg l p b k o r) (hk : k < b.length) {x : Ent} (hx : x = b[k]) {m : Nat} (hm : Beh r x.n m) : Mg l p b (k + 1) (o ++ r.take m ++ [⟨x, p⟩]) (r.drop m) := by
  subst hx
  exact h.step hl hs hg hk hm
end Go.Pm
namespace Go.Proofs.Ytglibdggoobocaa
open Go.RowKit Go.Pm
namespace Dr
set_option maxRecDepth 100000 in
set_option maxHeartbeats 16000000 in
/-- merge. -/
theorem merge (v u : Value) (lo hi lo' hi' : Nat) (l : List Kno) (p : Int) (b : List Ent) (w : World) (hv : Ps 4 w lo hi v (knosC l)) (hu : Ps 3 w lo' hi' u (entsC b)) (hrt : RtK l) (hs : StrN b) (hg : ∀ e ∈ b, goodE l e) (hlen : l.length ≤ 1000000) (hblen : b.length ≤ 1000000) :
    Calls Try.prog 31 #[v, .int .i64 p, u] w fun e w' => ∃ y o r, e = .returned y ∧ Mg l p b b.length o r ∧ Kept None w w' ∧ Ps 4 w' 0 w'.heap.size y (knosC (o ++ r)) := by
  obtain ⟨av, cv, rfl, gv1, gv2, gv3⟩ := hv.form
  rw [knosC_len] at hv ⊢
  obtain ⟨a, cap, rfl, g1, g2, g3⟩ := hu.form
  rw [entsC_len] at g1 hu ⊢
  obtain ⟨n, hn⟩ : ∃ n, n = b.length := ⟨_, rfl⟩
  rw [← hn] at g1 hu ⊢
  have HM0 := hid (Mg.zero hrt p b)
  have HST := hid (And.intro hrt (And.intro hs hg))
  have HU := hid hu
  have HN := hid (And.intro hn (And.intro hblen hlen))
  obtain ⟨h0, hh0⟩ : ∃ z, z = min hi w.heap.size := ⟨_, rfl⟩
  have hv0 := hv.lt
  rw [← hh0] at hv0
  have HHI := hid (show h0 ≤ w.heap.size by rw [hh0]; exact Nat.min_le_right _ _)
  have HV0 := hid hv0
  clear hv0 hh0 hu hn g3 gv1 gv2 gv3 hrt hs hg hlen hblen hv
  have K0 := hid (Kept.refl None w)
  obtain ⟨N0, hN0⟩ : ∃ N, N = l.length := ⟨_, rfl⟩
  rw [← hN0] at HV0 ⊢
  clear hN0
  go_enter Try.func31, Try.ntmps31
  go_wp2_with fail
  go_loopg [0, 7, 13] n (fun kx s0 s7 s13 wr => ∃ (k : Nat) (o r : List Kno) (ar : Option Addr) (nr cr : Nat) (ao : Option Addr) (no co : Nat), s0 = .slice ar nr cr ∧ s7 = .slice ao no co ∧ s13 = .int .i64 (k : Int) ∧ k ≤ n ∧ n - k ≤ kx ∧ Hid (Kept None w wr) ∧ Hid (Mg l p b k o r) ∧ Hid (Ps 4 w lo h0 (.slice ar nr cr) (knosC r)) ∧ Hid (Po 4 31 wr w.heap.size (.slice ao no co) (knosC o)))
  case atStart => exact ⟨0, [], l, av, N0, cv, none, 0, 0, rfl, rfl, rfl, Nat.zero_le _, Nat.le_refl _, K0, HM0, HV0, hid (Po.nil _ _ _ _)⟩
  case round =>
    obtain ⟨k, o, r, ar, nr, cr, ao, no, co, rfl, rfl, rfl, hk, hkx, HK, HMG, HR, HO⟩ := hrel
    by_cases hlt : k < n
    · have hz : (k : Int) < (n : Int) := by omega
      have wk : IntKind.i64.wrap ((k : Int) + 1) = (k : Int) + 1 := by rw [IntKind.wrap_i64]; have := HN.out.2.1; omega
      have kl : k < b.length := by have := HN.out.1; omega
      obtain ⟨bb, oo, q1, hc⟩ := (HU.out.kept HK.out (fun _ _ _ h => h)).ent (by omega)
      obtain rfl := q1
      have rX := (hc k kl).2.2.2
      obtain ⟨x, hx⟩ : ∃ x, x = b[k] := ⟨_, rfl⟩
      rw [← hx] at rX
      have HX := hid (show ∃ h : k < b.length, x = b[k] from ⟨kl, hx⟩)
      clear hc hx
      obtain ⟨G, hG⟩ : ∃ z, z = wr.heap.size := ⟨_, rfl⟩
      have z4 := Blk.new wr #[.string ⟨#[]⟩, .int .i64 0, .int .u64 0] 29
      have HK4 := hid (show Kept None wr (wr.alloc (.cells #[.string ⟨#[]⟩, .int .i64 0, .int .u64 0] 29)) from (Kept.refl _ _).alloc _)
      go_upto_region 5 with (first | (refine wpList_load_at (.refl _) _ _ rfl rfl rX aEnt ?_) | (refine wpList_store_blk (.refl _) _ _ _ rfl rfl rfl z4 aEnt rfl (ent_all _) ?_; intro w4 x4 k4) | fail)
      have HX4 := hid x4
      have K4 := hid ((HK.out.trans HK4.out).then k4 (fun i hi (h : i = wr.heap.size) => by have := HK.out.size; omega))
      have HO4 := hid ((HO.out.kept HK4.out (fun _ _ h => h)).kept k4 (fun q hq (h : q = wr.heap.size) => by have := (HO.out.own q hq).2; omega))
      have HOG := hid (show ∀ q, (Value.slice ao no co).ownBlock = some q → w.heap.size ≤ q ∧ q < G from fun q hq => by rw [hG]; exact HO.out.own q hq)
      rw [← hG] at HX4 ⊢
      clear rX z4 x4 k4 HK HK4 hG HO
      obtain ⟨xn, hxn⟩ : ∃ z, z = x.n := ⟨_, rfl⟩
      have cx0 : w4.cell? ⟨G, 0, none⟩ = some (.string xn) := by rw [hxn]; exact HX4.out.cell 0
      have hlr : r.length ≤ 1000000000 := by have := HMG.out.len (by have := HN.out; omega); have := HN.out; omega
      have hB := behind (.slice ar nr cr) lo h0 r xn w4 (HR.out.kept K4.out (fun _ _ _ h => h)) HMG.out.rlt hlr
      have HB := hid hB
      have HXN := hid hxn
      clear hB hxn hlr
      go_wp2_with fail
      refine HB.out.mono ?_
      rintro e w5 ⟨m, rfl, hbeh, k5⟩
      have K5 := hid (K4.out.trans k5)
      have HX5 := hid (HX4.out.kept k5 (fun h => h))
      have HO5 := hid (HO4.out.kept k5 (fun _ _ h => h))
      have HBE := hid hbeh
      have hPR := HR.out.kept K5.out (fun _ _ _ h => h)
      have hnr : nr = r.length := by
        obtain ⟨a', c', hv', _⟩ := hPR.form
        injection hv' with _ e2 _
        rw [e2, knosC_len]
      obtain ⟨aT, sT, pT⟩ := ps_to R16.tKnown R16.zKnown hPR .i64 m (by have := HBE.out.le; omega)
      obtain ⟨aD, sD, pD⟩ := ps_from R16.tKnown R16.zKnown (HR.out) .i64 m (by have := HBE.out.le; omega)
      rw [← knosC_take] at pT
      rw [← knosC_drop] at pD
      have HSL := hid (And.intro sT (And.intro pT (And.intro sD pD)))
      have HLN := hid (show o.length + r.length ≤ 3000000 by have := HMG.out.len (by have := HN.out; omega); have := HN.out; omega)
      have HMS := hid (show Mg l p b (k + 1) (o ++ r.take m ++ [⟨x, p⟩]) (r.drop m) from by
        obtain ⟨h1, h2⟩ := HX.out
        exact HMG.out.step' HST.out.1 HST.out.2.1 HST.out.2.2 h1 h2 (by rw [← HXN.out]; exact HBE.out))
      have HZ := hid K5.out.size
      have HGZ := hid HX5.out.lt
      have HML := hid (show m ≤ nr by have := HBE.out.le; omega)
      clear hbeh k5 hPR hnr sT pT sD pD HX4 HO4 K4 HB cx0 HBE
      go_upto_region 6 with fail
      refine wp_region_plan (Kept (fun q => (Value.slice ao no co).ownBlock = some q) w5) [{ k := 4, uses := [100], spends := [100], later := [9], pure := fun u => ∃ a n c, u = .slice a n c, fact := fun u W => Po 4 31 W w.heap.size u (knosC (o ++ r.take m)) ∧ ∀ q, u.ownBlock = some q → (Value.slice ao no co).ownBlock = some q ∨ w5.heap.size ≤ q }, { k := 8, uses := [], pure := fun u => ∃ g, u = .slice (some ⟨g, 0, none⟩) 1 1, fact := fun u W => ∃ g, u = .slice (some ⟨g, 0, none⟩) 1 1 ∧ w5.heap.size ≤ g ∧ Blk W g #[.string x.n, .int .i64 x.v, .int .u64 (x.k : Int), .int .i64 p] 31 }, { k := 9, uses := [4, 8, 100], spends := [4, 8, 100], pure := fun u => ∃ a n c, u = .slice a n c, fact := fun u W => Po 4 31 W w.heap.size u (knosC (o ++ r.take m ++ [⟨x, p⟩])) }, { k := 100, uses := [], fact := fun u W => Po 4 31 W w.heap.size (.slice ao no co) (knosC o) }] [100] (by kernel_rfl) (by kernel_rfl) (by kernel_rfl) (by rfl) ?pures ((Kept.refl _ w5).drew) ?starts ?walk
      case pures =>
        intro f hf
        simp only [List.mem_cons, List.not_mem_nil, or_false] at hf
        rcases hf with rfl | rfl | rfl | rfl
        · exact ⟨_, none, 0, 0, rfl⟩
        · exact ⟨_, 0, rfl⟩
        · exact ⟨_, none, 0, 0, rfl⟩
        · exact ⟨undef, trivial⟩
      case starts =>
        intro k hk
        have hk : k = 100 := by simpa using hk
        subst hk
        exact HO5.out.kept ((Kept.refl None w5).drew) (fun _ _ h => h)
      iterate 3 (refine wpPar_pure rfl (by rfl) _ (fun W hW => by
          go_simp
          exact rfl) ?_; simp only [Act.put, List.setIfInBounds_toArray, List.set_cons_zero, List.set_cons_succ])
      refine wpPar_pure rfl (by rfl) (.slice aT m cr) (fun W hW => by have q := HSL.out.1 W; go_simp) ?_; simp only [Act.put, List.setIfInBounds_toArray, List.set_cons_zero, List.set_cons_succ]
      refine wpPar_adds rfl (by rfl) (fun W hW hd => ?_) (fun v4 hv => ?_)
      · have hO : Po 4 31 W w.heap.size (.slice ao no co) (knosC o) := hd 100 (List.Mem.head _)
        have hPT : Ps 4 W lo h0 (.slice aT m cr) (knosC (r.take m)) := HSL.out.2.1.kept hW (fun q h1 h2 hq => by have := (HOG.out q hq).1; have := HHI.out; omega)
        refine gives_append_po _ _ 23 rfl R16.rtKnown (by decide) rfl rfl hO hPT (knosC_one _) (by rw [knosC_len, knosC_len, List.length_take]; have := HLN.out; omega) (Nat.le_trans HZ.out hW.size) ?_
        intro a' n' c' W' hP kS o9
        rw [← knosC_app] at hP
        have hz5 := hW.size
        refine ⟨hW.then kS (fun i hi h => h), ⟨_, _, _, rfl⟩, ⟨hP, fun q hq => by rcases o9 q hq with g | g; exact .inl g; exact .inr (by omega)⟩, keeps_of fun f hf hs hl hne u hfu => ?_⟩
        simp only [List.mem_cons, List.not_mem_nil, or_false] at hf
        rcases hf with rfl | rfl | rfl | rfl
        · exact absurd rfl hne
        · (obtain ⟨g, e1, e2, e3⟩ := hfu; exact ⟨g, e1, e2, e3.kept kS (fun h => by have := (HOG.out g h).2; have := HGZ.out; omega)⟩)
        · exact absurd (List.Mem.head _) hl
        · exact absurd (List.Mem.head _) hs
      obtain ⟨a4, n4, c4, rfl⟩ : ∃ a n c, v4 = .slice a n c := hv
      simp only [Act.put, List.setIfInBounds_toArray, List.set_cons_zero, List.set_cons_succ]
      refine wpPar_pure rfl (by rfl) _ (fun W hW => by first | exact exec_load_blk _ _ rfl rfl (HX5.out.kept hW (fun h => by have := (HOG.out G h).2; omega)) aEnt | (go_simp; exact rfl)) ?_; simp only [Act.put, List.setIfInBounds_toArray, List.set_cons_zero, List.set_cons_succ]
      iterate 2 (refine wpPar_pure rfl (by rfl) _ (fun W hW => by
          go_simp
          exact rfl) ?_; simp only [Act.put, List.setIfInBounds_toArray, List.set_cons_zero, List.set_cons_succ])
      refine wpPar_adds rfl (by rfl) (fun W hW hd => ?_) (fun v8 hv => ?_)
      · unfold Gives
        rw [exec_one_item 23 (.tmp 28) rfl R16.rtKnown (by decide) (A := #[.string x.n, .int .i64 x.v, .int .u64 (x.k : Int), .int .i64 p]) rfl rfl]
        have kN : Kept None W (W.alloc (.cells #[.string x.n, .int .i64 x.v, .int .u64 (x.k : Int), .int .i64 p] 31)) := (Kept.refl None W).alloc _
        refine ⟨hW.then kN (fun _ _ h => h.elim), ⟨_, rfl⟩, ⟨_, rfl, hW.size, Blk.new _ _ _⟩, keeps_of fun f hf hs hl hne u hfu => ?_⟩
        simp only [List.mem_cons, List.not_mem_nil, or_false] at hf
        rcases hf with rfl | rfl | rfl | rfl
        · exact ⟨hfu.1.kept kN (fun _ _ h => h), hfu.2⟩
        · exact absurd rfl hne
        · exact Po.kept hfu kN (fun _ _ h => h)
        · exact Po.kept hfu kN (fun _ _ h => h)
      obtain ⟨g8, rfl⟩ : ∃ g, v8 = .slice (some ⟨g, 0, none⟩) 1 1 := hv
      simp only [Act.put, List.setIfInBounds_toArray, List.set_cons_zero, List.set_cons_succ]
      refine wpPar_adds rfl (by rfl) (fun W hW hd => ?_) (fun v9 hv => ?_)
      · obtain ⟨hO, hOo⟩ : Po 4 31 W w.heap.size (.slice a4 n4 c4) (knosC (o ++ r.take m)) ∧ ∀ q, (Value.slice a4 n4 c4).ownBlock = some q → (Value.slice ao no co).ownBlock = some q ∨ w5.heap.size ≤ q := hd 4 (List.Mem.head _)
        obtain ⟨g, hgg, _, hg3⟩ : ∃ g, Value.slice (some ⟨g8, 0, none⟩) 1 1 = .slice (some ⟨g, 0, none⟩) 1 1 ∧ w5.heap.size ≤ g ∧ Blk W g #[.string x.n, .int .i64 x.v, .int .u64 (x.k : Int), .int .i64 p] 31 := hd 8 (List.Mem.tail _ (List.Mem.head _))
        obtain rfl : g8 = g := by simpa using hgg
        have hu : Ps 4 W 0 W.heap.size (.slice (some ⟨g8, 0, none⟩) 1 1) (knosC [⟨x, p⟩]) := R16.ps_blk (x := knoC ⟨x, p⟩) hg3 rfl
        refine gives_append_po _ _ 23 rfl R16.rtKnown (by decide) rfl rfl hO hu (knosC_one _) (by rw [knosC_len, knosC_len, List.length_append, List.length_take]; have := HLN.out; simp; omega) (Nat.le_trans HZ.out hW.size) ?_
        intro a' n' c' W' hP kS o9
        rw [← knosC_app] at hP
        refine ⟨hW.then kS (fun i hi h => by rcases hOo i h with q | q; exact q; exact absurd hi (by omega)), ⟨_, _, _, rfl⟩, hP, keeps_of fun f hf hs hl hne u hfu => ?_⟩
        simp only [List.mem_cons, List.not_mem_nil, or_false] at hf
        rcases hf with rfl | rfl | rfl | rfl
        · exact absurd (List.Mem.head _) hs
        · exact absurd (List.Mem.tail _ (List.Mem.head _)) hs
        · exact absurd rfl hne
        · exact absurd (List.Mem.tail _ (List.Mem.tail _ (List.Mem.head _))) hs
      obtain ⟨a9, n9, c9, rfl⟩ : ∃ a n c, v9 = .slice a n c := hv
      simp only [Act.put, List.setIfInBounds_toArray, List.set_cons_zero, List.set_cons_succ]
      iterate 1 (refine wpPar_pure rfl (by rfl) _ (fun W hW => by
          go_simp
          exact rfl) ?_; simp only [Act.put, List.setIfInBounds_toArray, List.set_cons_zero, List.set_cons_succ])
      refine wpPar_nil (fun w6 hW hG => ?_)
      have hP9 : Po 4 31 w6 w.heap.size (.slice a9 n9 c9) (knosC (o ++ r.take m ++ [⟨x, p⟩])) := hG 9
      have K6 := hid (K5.out.then hW (fun q hq hh => by have := (HOG.out q hh).1; omega))
      have HP9 := hid hP9
      have HPD := hid HSL.out.2.2.2
      have qD := HSL.out.2.2.1
      clear hG hW hP9 K5 HX5 HO5
      go_wp2_with fail
      go_roundg (n - (k + 1))
      case measure => omega
      case rel => exact ⟨k + 1, _, _, _, _, _, _, _, _, rfl, rfl, by go_num, by omega, Nat.le_refl _, K6, HMS, HPD, HP9⟩
    · have hz : ¬ (k : Int) < (n : Int) := by omega
      obtain rfl : k = n := by omega
      have hlr : o.length + r.length ≤ 2000000 := by have := HMG.out.len (by have := HN.out; omega); have := HN.out; omega
      have hO := HO.out
      have hR := HR.out.kept HK.out (fun _ _ _ h => h)
      have hSz := HK.out.size
      go_wp2_with (first | (at_builtin; refine wpList_append_po (v := .slice ao no co) (u := .slice ar nr cr) rfl _ _ 23 rfl R16.rtKnown (by decide) rfl rfl hO hR (knosC_one _) (by rw [knosC_len, knosC_len]; omega) hSz ?_; intro a5 n5 c5 w5 o5 k5 _) | fail)
      have K5 := hid (HK.out.then k5 (fun q hq hh => by have := (hO.own q hh).1; omega))
      have hP5 := o5.ps (Nat.le_refl _)
      rw [← knosC_app] at hP5
      have HP5 := hid (hP5.wider (Nat.zero_le _) (Nat.le_refl _))
      clear hO hR o5 k5 hP5
      go_wp2
      go_ret
      exact ⟨_, rfl, o, r, HMG.out, K5.out, HP5.out⟩
end Dr
end Go.Proofs.Ytglibdggoobocaa
namespace Go.Proofs.Ytglibdggoobocaa
open Go.RowKit Go.Pm
namespace Dr
theorem add_no {l : List Kno} (hl : RtK l) {p : Int} {b r : List Ent} (hp : r.Perm b) (hb : ByN r) (h : (abvF l p && comeF l r) = false) : addF l p b = (l, false) := by
  rw [addF_perm hl hp.symm]
  have h2 : (addF l p r).2 = false := by rw [addF_two hl hb]; exact h
  exact Prod.ext (addF_no h2) h2
theorem add_yes {l : List Kno} (hl : RtK l) {p : Int} {b r : List Ent} (hp : r.Perm b) (hb : ByN r) (h1 : abvF l p = true) (h2 : comeF l r = true) {o q : List Kno} (hm : Mg l p r r.length o q) : addF l p b = (o ++ q, true) := by
  rw [addF_perm hl hp.symm]
  have h3 : (addF l p r).2 = true := by rw [addF_two hl hb, h1, h2]; rfl
  exact Prod.ext (hm.done hl h3).symm h3
set_option maxRecDepth 100000 in
set_option maxHeartbeats 16000000 in
/-- Add. -/
theorem add : AddC := by
  intro v u lo hi lo' hi' l p b w hv hu hrt _ _ hlen hblen
  obtain ⟨av, cv, rfl, gv1, gv2, gv3⟩ := hv.form
  rw [knosC_len] at hv ⊢
  obtain ⟨a, cap, rfl, g1, g2, g3⟩ := hu.form
  rw [entsC_len] at g1 hu ⊢
  obtain ⟨n, hn⟩ : ∃ n, n = b.length := ⟨_, rfl⟩
  rw [← hn] at g1 hu ⊢
  obtain ⟨N, hN⟩ : ∃ N, N = l.length := ⟨_, rfl⟩
  rw [← hN] at hv ⊢
  have HV := hid hv
  have HN := hid (And.intro hn (And.intro hblen (And.intro hN hlen)))
  have HRT := hid hrt
  obtain ⟨RS, hRS⟩ : ∃ R, R = addF l p b := ⟨_, rfl⟩
  rw [← hRS]
  have HRS := hid hRS
  clear gv1 gv2 gv3 g1 g2 g3 hv hn hN hrt hlen hRS
  go_enter Try.func15, Try.ntmps15
  go_upto_region 2 with (first | (at_builtin; refine wpList_append_po (v := .slice none 0 0) (l := []) (m := entsC b) (base := w.heap.size) rfl _ _ 24 rfl Es.rtEnt16 (by decide) rfl rfl (Po.nil _ _ _ _) hu (entsC_one _) (by rw [entsC_len]; simp; omega) (Nat.le_refl _) ?_; intro a1 n1 c1 w1 o1 k1 _) | fail)
  have K1 := hid (show Kept None w w1 from (Kept.refl None w).then k1 (fun i hi h => by cases h))
  rw [List.nil_append] at o1
  have hS := sortEnts o1 (by omega)
  have HS := hid hS
  have HO1 := hid o1.own
  clear hS o1 k1 hu hblen
  go_wp2_with fail
  refine HS.out.mono ?_
  rintro e w2 ⟨rfl, r, hp, hbn, o2, k2⟩
  have K2 := hid (K1.out.then k2 (fun q hq hh => by have := (HO1.out q hh).1; omega))
  have HO2 := hid o2
  have HP := hid (And.intro hp hbn)
  have hrl : r.length ≤ 1000000 := by rw [hp.length_eq]; exact HN.out.2.1
  have HRL := hid hrl
  have HAB := hid (isAbove p _ lo hi l w2 (HV.out.kept K2.out (fun _ _ _ h => h)) HN.out.2.2.2)
  clear hp hbn o2 k2 hrl HS K1 HO1
  go_wp2_with fail
  refine HAB.out.mono ?_
  rintro e w3 ⟨rfl, k3⟩
  have K3 := hid (K2.out.trans k3)
  have HO3 := hid (HO2.out.kept k3 (fun _ _ h => h))
  clear k3 K2 HO2 HAB
  obtain ⟨B1, hB1⟩ : ∃ B, B = abvF l p := ⟨_, rfl⟩
  rw [← hB1]
  have HB1 := hid hB1
  clear hB1
  cases B1 with
  | false =>
    have HF := hid (HRS.out.trans (add_no HRT.out HP.out.1 HP.out.2 (by rw [← HB1.out]; rfl)))
    have hv3 := HV.out.kept K3.out (fun _ _ _ h => h)
    have hl3 := HN.out.2.2.2
    go_wp2_with (first | (at_builtin; refine wpList_append_po (v := .slice none 0 0) (l := []) (m := knosC l) (base := w3.heap.size) rfl _ _ 23 rfl R16.rtKnown (by decide) rfl rfl (Po.nil _ _ _ _) hv3 (knosC_one _) (by rw [knosC_len]; simp; omega) (Nat.le_refl _) ?_; intro a5 n5 c5 w5 o5 k5 _) | go_skip | fail)
    have K5 := hid (K3.out.then k5 (fun i hi h => by cases h))
    have hP5 := o5.ps (Nat.le_refl _)
    rw [List.nil_append] at hP5
    have HP5 := hid (hP5.wider (Nat.zero_le _) (Nat.le_refl _))
    clear o5 k5 hP5 hv3
    go_ret2
    exact ⟨_, by rw [HF.out]; rfl, K5.out, by rw [HF.out]; exact HP5.out⟩
  | true =>
    have HMC := hid (mayCome _ _ lo hi _ _ l r w3 (HV.out.kept K3.out (fun _ _ _ h => h)) (HO3.out.ps (Nat.le_refl _)) HRT.out HN.out.2.2.2 HRL.out)
    go_wp2_with fail
    refine HMC.out.mono ?_
    rintro e w4 ⟨rfl, k4⟩
    have K4 := hid (K3.out.trans k4)
    have HO4 := hid (HO3.out.kept k4 (fun _ _ h => h))
    clear k4 K3 HO3 HMC
    obtain ⟨B2, hB2⟩ : ∃ B, B = comeF l r := ⟨_, rfl⟩
    rw [← hB2]
    have HB2 := hid hB2
    clear hB2
    cases B2 with
    | false =>
      have HF := hid (HRS.out.trans (add_no HRT.out HP.out.1 HP.out.2 (by rw [← HB1.out, ← HB2.out]; rfl)))
      have hv3 := HV.out.kept K4.out (fun _ _ _ h => h)
      have hl3 := HN.out.2.2.2
      go_wp2_with (first | (at_builtin; refine wpList_append_po (v := .slice none 0 0) (l := []) (m := knosC l) (base := w4.heap.size) rfl _ _ 23 rfl R16.rtKnown (by decide) rfl rfl (Po.nil _ _ _ _) hv3 (knosC_one _) (by rw [knosC_len]; simp; omega) (Nat.le_refl _) ?_; intro a5 n5 c5 w5 o5 k5 _) | go_skip | fail)
      have K5 := hid (K4.out.then k5 (fun i hi h => by cases h))
      have hP5 := o5.ps (Nat.le_refl _)
      rw [List.nil_append] at hP5
      have HP5 := hid (hP5.wider (Nat.zero_le _) (Nat.le_refl _))
      clear o5 k5 hP5 hv3
      go_ret2
      exact ⟨_, by rw [HF.out]; rfl, K5.out, by rw [HF.out]; exact HP5.out⟩
    | true =>
      have HMR := hid (merge _ _ lo hi _ _ l p r w4 (HV.out.kept K4.out (fun _ _ _ h => h)) (HO4.out.ps (Nat.le_refl _)) HRT.out (strN_of HP.out.2 HB2.out.symm) (come_good HRT.out HB2.out.symm) HN.out.2.2.2 HRL.out)
      go_wp2_with fail
      refine HMR.out.mono ?_
      rintro e w5 ⟨y, o, q, rfl, hmg, k5, p5⟩
      have K5 := hid (K4.out.trans k5)
      have HF := hid (HRS.out.trans (add_yes HRT.out HP.out.1 HP.out.2 HB1.out.symm HB2.out.symm hmg))
      have HP5 := hid p5
      obtain ⟨ay, cy, rfl, _⟩ := p5.form
      clear hmg k5 p5
      go_wp2
      go_ret2
      exact ⟨_, by rw [HF.out]; rfl, K5.out, by rw [HF.out]; exact HP5.out⟩
end Dr
end Go.Proofs.Ytglibdggoobocaa
namespace Go.Pm
open Go Go.RowKit
/-- Is x the last one of its name up to epoch p, where l stands behind it? -/
def nextB (p : Int) (x : Kno) : List Kno → Bool
  | [] => false
  | y :: _ => eqN y.e.n x.e.n && decide (y.p ≤ p)
def finB (p : Int) (x : Kno) (l : List Kno) : Bool := decide (x.p ≤ p) && !nextB p x l
def finL (p : Int) : List Kno → List Kno
  | [] => []
  | x :: l => if finB p x l = true then x :: finL p l else finL p l
theorem finL_cons (p : Int) (x : Kno) (l : List Kno) : finL p (x :: l) = if finB p x l = true then x :: finL p l else finL p l := rfl
def Chn (l : List Kno) : Prop := l.Pairwise (fun a b => KLt a b ∧ (a.e.n.toList = b.e.n.toList → a.p ≤ b.p))
theorem RtK.chn {l : List Kno} (h : RtK l) : Chn l := by
  refine List.Pairwise.imp_of_mem (fun {a b} ha hb hk => ⟨hk, fun hn => ?_⟩) h.lt
  have hv : a.e.v < b.e.v := by
    rcases hk with hk | hk
    · unfold ltN at hk
      rw [hn, less_irrefl] at hk
      cases hk
    · exact hk.2
  have h1 := (headK_v (h.head a ha)).1
  obtain ⟨y, hy, hyn, hyv, hyp⟩ := chain_down h (b.e.v - a.e.v).toNat hb a.e.v h1 (by omega)
  rw [key_one h.lt ha hy (hn.trans hyn.symm) hyv.symm]
  exact hyp
theorem head_same {x y w : Kno} {l : List Kno} (h : Chn (x :: y :: l)) (hw : w ∈ y :: l) (hn : w.e.n.toList = x.e.n.toList) : y.e.n.toList = x.e.n.toList ∧ y.p ≤ w.p := by
  obtain ⟨hx, hr⟩ := List.pairwise_cons.1 h
  obtain ⟨hy, _⟩ := List.pairwise_cons.1 hr
  rcases List.mem_cons.1 hw with rfl | hw
  · exact ⟨hn, Int.le_refl _⟩
  · have h1 := (hx y (List.mem_cons_self ..)).1
    have h2 := hy w hw
    have e : y.e.n.toList = x.e.n.toList := by
      rcases h1 with h1 | h1
      · rcases h2.1 with h3 | h3
        · have := less_trans h1 h3
          rw [hn, less_irrefl] at this
          cases this
        · unfold ltN at h1
          rw [h3.1, hn, less_irrefl] at h1
          cases h1
      · exact h1.1.symm
    exact ⟨e, h2.2 (e.trans hn.symm)⟩
theorem lastI_none_iff {l : List It} {i : List UInt8} : lastI l i = none ↔ ∀ z ∈ l, z.i ≠ i := by
  unfold lastI
  rw [List.find?_eq_none]
  simp
/-- No two names have one index. -/
def InjK (l : List Kno) : Prop := ∀ a ∈ l, ∀ b ∈ l, (itemK a).i = (itemK b).i → a.e.n.toList = b.e.n.toList
theorem itemsF_cons (x : Kno) (l : List Kno) (p : Int) : itemsF (x :: l) p = if x.p ≤ p then itemK x :: itemsF l p else itemsF l p := by
  unfold itemsF
  by_cases h : x.p ≤ p
  · rw [if_pos h, List.filter_cons_of_pos (by simpa using h), List.map_cons]
  · rw [if_neg h, List.filter_cons_of_neg (by simpa using h)]
theorem mem_itemsF {l : List Kno} {p : Int} {z : It} : z ∈ itemsF l p ↔ ∃ x ∈ l, x.p ≤ p ∧ itemK x = z := by
  unfold itemsF
  rw [List.mem_map]
  simp only [List.mem_filter, decide_eq_true_eq, and_assoc]
theorem itemK_i {x y : Kno} (h : x.e.n.toList = y.e.n.toList) : (itemK x).i = (itemK y).i := by
  show indexH x.e.n = indexH y.e.n
  rw [toList_iff.1 h]
theorem fin_key {x : Kno} {l : List Kno} {p : Int} (hc : Chn (x :: l)) (hi : InjK (x :: l)) (hx : x.p ≤ p) : finB p x l = true ↔ lastI (itemsF l p) (itemK x).i = none := by
  rw [lastI_none_iff]
  unfold finB
  rw [decide_eq_true hx, Bool.true_and, Bool.not_eq_true']
  cases l with
  | nil => exact ⟨fun _ z hz => (by obtain ⟨w, hw, _⟩ := mem_itemsF.1 hz; cases hw), fun _ => rfl⟩
  | cons y l =>
    constructor
    · intro h z hz he
      obtain ⟨w, hw, hwp, rfl⟩ := mem_itemsF.1 hz
      have hn := hi w (List.mem_cons_of_mem _ hw) x (List.mem_cons_self ..) he
      obtain ⟨q1, q2⟩ := head_same hc hw hn
      have : nextB p x (y :: l) = true := by
        unfold nextB
        rw [Bool.and_eq_true, decide_eq_true_eq]
        exact ⟨eqN_iff.2 q1, by omega⟩
      rw [this] at h
      cases h
    · intro h
      cases hb : nextB p x (y :: l) with
      | false => rfl
      | true =>
        unfold nextB at hb
        rw [Bool.and_eq_true, decide_eq_true_eq] at hb
        exact absurd (itemK_i (eqN_iff.1 hb.1)) (h (itemK y) (mem_itemsF.2 ⟨y, List.mem_cons_self .., hb.2, rfl⟩))
theorem Chn.tail {x : Kno} {l : List Kno} (h : Chn (x :: l)) : Chn l := (List.pairwise_cons.1 h).2
theorem InjK.tail {x : Kno} {l : List Kno} (h : InjK (x :: l)) : InjK l := fun a ha b hb => h a (List.mem_cons_of_mem _ ha) b (List.mem_cons_of_mem _ hb)
theorem fin_last {p : Int} : ∀ {l : List Kno}, Chn l → InjK l → ∀ z, z ∈ (finL p l).map itemK ↔ lastI (itemsF l p) z.i = some z
  | [], _, _, z => by simp [finL, itemsF, lastI]
  | x :: l, hc, hi, z => by
    have ih := fin_last (p := p) hc.tail hi.tail z
    rw [itemsF_cons]
    by_cases hx : x.p ≤ p
    · have hk := fin_key hc hi hx
      rw [if_pos hx, lastI_cons]
      unfold finL
      cases hL : lastI (itemsF l p) z.i with
      | some y =>
        rw [hL] at ih
        rw [Option.some_or]
        have hne : ¬ (finB p x l = true ∧ z = itemK x) := fun h => by
          rw [h.2, hk.1 h.1] at hL
          cases hL
        by_cases hf : finB p x l = true
        · rw [if_pos hf, List.map_cons, List.mem_cons, ← ih]
          exact ⟨fun h => h.elim (fun e => absurd ⟨hf, e⟩ hne) id, .inr⟩
        · rw [if_neg hf]
          exact ih
      | none =>
        rw [hL] at ih
        rw [Option.none_or]
        have hno : ¬ z ∈ (finL p l).map itemK := fun h => by cases ih.1 h
        by_cases hf : finB p x l = true
        · rw [if_pos hf, List.map_cons, List.mem_cons]
          constructor
          · rintro (rfl | h)
            · rw [if_pos rfl]
            · exact absurd h hno
          · intro h
            split at h
            · exact .inl (Option.some.inj h).symm
            · cases h
        · rw [if_neg hf]
          constructor
          · exact fun h => absurd h hno
          · intro h
            split at h
            · rename_i he
              rw [← he] at hL
              exact absurd (hk.2 hL) hf
            · cases h
    · rw [if_neg hx]
      have hf : ¬ finB p x l = true := by
        unfold finB
        rw [decide_eq_false hx]
        simp
      unfold finL
      rw [if_neg hf]
      exact ih
theorem fin_nodup {p : Int} : ∀ {l : List Kno}, Chn l → InjK l → ((finL p l).map itemK).Nodup
  | [], _, _ => List.nodup_nil
  | x :: l, hc, hi => by
    have ih := fin_nodup (p := p) hc.tail hi.tail
    unfold finL
    by_cases hf : finB p x l = true
    · rw [if_pos hf, List.map_cons, List.nodup_cons]
      refine ⟨fun h => ?_, ih⟩
      have hx : x.p ≤ p := by
        unfold finB at hf
        rw [Bool.and_eq_true, decide_eq_true_eq] at hf
        exact hf.1
      have h1 := (fin_last hc.tail hi.tail (itemK x)).1 h
      rw [(fin_key hc hi hx).1 hf] at h1
      cases h1
    · rw [if_neg hf]
      exact ih
theorem srt_nodup {l : List It} (h : Srt l) : l.Nodup := by
  unfold List.Nodup
  exact List.Pairwise.imp (fun {a b} hab (e : a = b) => less_ne hab (congrArg It.i e)) h
/-- As many items as there are last ones. -/
theorem fin_len {p : Int} {l : List Kno} (hc : Chn l) (hi : InjK l) : (setI (itemsF l p)).length = (finL p l).length := by
  have h : (setI (itemsF l p)).Perm ((finL p l).map itemK) := (List.perm_ext_iff_of_nodup (srt_nodup (srt_setI _)) (fin_nodup hc hi)).2 fun z => (mem_setI z _).trans (fin_last hc hi z).symm
  rw [h.length_eq, List.length_map]
theorem fin_in {p : Int} {l : List Kno} (hc : Chn l) (hi : InjK l) {x : Kno} (hx : x ∈ finL p l) : itemK x ∈ setI (itemsF l p) := (mem_setI _ _).2 ((fin_last hc hi _).1 (List.mem_map_of_mem hx))
theorem fin_drop (p : Int) (l : List Kno) : ∀ k, k ≤ l.length → ∃ q, finL p l = q ++ finL p (l.drop k)
  | 0, _ => ⟨[], rfl⟩
  | k + 1, h => by
    obtain ⟨q, e⟩ := fin_drop p l k (by omega)
    rw [List.drop_eq_getElem_cons (show k < l.length by omega)] at e
    rw [e, finL_cons]
    split
    · exact ⟨q ++ [l[k]], by simp⟩
    · exact ⟨q, rfl⟩
theorem fin_at (p : Int) (l : List Kno) (k : Nat) (h : k < l.length) : finL p (l.drop k) = (if finB p l[k] (l.drop (k + 1)) = true then [l[k]] else []) ++ finL p (l.drop (k + 1)) := by
  rw [List.drop_eq_getElem_cons h, finL_cons]
  split <;> rfl
theorem fin_mem {p : Int} {l : List Kno} {k : Nat} (h : k < l.length) (hf : finB p l[k] (l.drop (k + 1)) = true) : l[k] ∈ finL p l := by
  obtain ⟨q, e⟩ := fin_drop p l k (by omega)
  rw [e, fin_at p l k h, if_pos hf]
  simp
/-- The next one, by its place. -/
theorem nextB_at (p : Int) (x : Kno) (l : List Kno) (k : Nat) : nextB p x (l.drop (k + 1)) = if h : k + 1 < l.length then eqN l[k + 1].e.n x.e.n && decide (l[k + 1].p ≤ p) else false := by
  by_cases h : k + 1 < l.length
  · rw [dif_pos h, List.drop_eq_getElem_cons h]
    rfl
  · rw [dif_neg h, List.drop_of_length_le (by omega)]
    rfl
end Go.Pm
namespace Go.Proofs.Ytglibdggoobocaa
open Go.RowKit Go.Pm
namespace Tr
set_option maxRecDepth 100000 in
set_option maxHeartbeats 2000000 in
/-- Index. -/
theorem index (n : ByteArray) (w : World) (hn : n.size ≤ 274877906944) : Calls Try.prog 49 #[.string n] w fun e w' => e = .returned (hashV (indexH n)) ∧ Kept None w w' := by
  have hsn := strB_len n
  have hs := fun v lo hi lo' hi' w hv => Sp.tag 105 v lo hi lo' hi' [strB n] w (by decide) (by decide) hv (by simp) (by simp [total]; omega)
  have e32 := indexH_len n
  rw [show sumB (textB 105 [strB n]) = indexH n from rfl] at hs
  obtain ⟨res, hres⟩ : ∃ res, res = indexH n := ⟨_, rfl⟩
  rw [← hres] at hs e32 ⊢
  have HS := hid hs
  have H32 := hid e32
  have HN := hid hn
  clear hs e32 hres hn
  have k0 : Kept None w (w.alloc (.cells (Array.replicate 32 (.int .u8 0)) 52)) := (Kept.refl _ _).alloc _
  have v0 := Blk.new w (Array.replicate 32 (.int .u8 0)) 52
  go_enter Try.func49, Try.ntmps49
  go_wp2_with (first | (refine wpList_bytes rfl 9 22 5 _ rfl tString tBytes' tByte rfl (by have := HN.out; omega) ?k1) | fail)
  case k1 =>
    intro gB cB w2 hgB kB bB
    have k02 := k0.trans kB
    have v2 := v0.kept kB (fun h => h)
    obtain ⟨z, hz, hR⟩ : ∃ z : Array Value, z.size = 32 ∧ Blk w2 w.heap.size z 52 := ⟨_, by simp, v2⟩
    have hbs := Bss.new w2 #[.slice (some ⟨gB, 0, none⟩) n.size cB] 22 [strB n] 1 rfl (by decide) ⟨bB.all, trivial⟩
    have k03 := k02.alloc (.cells #[.slice (some ⟨gB, 0, none⟩) n.size cB] 22)
    have hR3 := hR.alloc (.cells #[.slice (some ⟨gB, 0, none⟩) n.size cB] 22)
    clear k0 v0 kB bB k02 v2 hR
    go_wp2_with fail
    refine (HS.out _ _ _ _ _ _ hbs).mono ?_
    rintro e w4 ⟨rfl, k4⟩
    have k04 := k03.trans k4
    have hR4 := hR3.kept k4 (fun h => h)
    clear k03 k4 hR3 hbs
    have e32' : (res.map u8v).toArray.size = 32 := by simpa using H32.out
    have aH' : AggTy Try.prog 52 (res.map u8v).toArray.size := by rw [e32']; exact Sp.aH
    have E := hid (hz.trans e32'.symm)
    clear e32' hz
    go_wp2_with (first | (refine wpList_store_blk rfl _ _ _ rfl rfl rfl hR4 aH' E.out (u8v_all _) ?_; intro w6 hR6 k6) | fail)
    exact bodyPost_ret (v := hashV res) (results_blk rfl _ rfl hR6 aH') rfl ⟨rfl, k04.then k6 (fun i hi (h : i = w.heap.size) => by omega)⟩

set_option maxRecDepth 100000 in
set_option maxHeartbeats 2000000 in
/-- Value. -/
theorem value (a : Int) (k : Nat) (w : World) (hk : k < 18446744073709551616) : Calls Try.prog 50 #[.int .i64 a, .int .u64 k] w fun e w' => e = .returned (hashV (valueH a k)) ∧ Kept None w w' := by
  have hw1 : IntKind.u64.wrap a = U6 a := by rw [IntKind.wrap_u64]
  have hs := fun v lo hi lo' hi' w hv => Sp.tag 118 v lo hi lo' hi' [leB (U6 a), leB k] w (by decide) (by decide) hv (by simp) (by simp [total, leB_length])
  have e32 := valueH_len a k
  rw [show sumB (textB 118 [leB (U6 a), leB k]) = valueH a k from rfl] at hs
  obtain ⟨res, hres⟩ : ∃ res, res = valueH a k := ⟨_, rfl⟩
  rw [← hres] at hs e32 ⊢
  have hV := And.intro (U6_ge a) (And.intro (U6_lt a) hk)
  obtain ⟨V, hVV⟩ : ∃ V, V = U6 a := ⟨_, rfl⟩
  rw [← hVV] at hw1 hs hV
  have HS := hid hs
  have H32 := hid e32
  have HV := hid hV
  clear hs e32 hres hV hVV hk
  have k0 : Kept None w (w.alloc (.cells (Array.replicate 32 (.int .u8 0)) 52)) := (Kept.refl _ _).alloc _
  have v0 := Blk.new w (Array.replicate 32 (.int .u8 0)) 52
  obtain ⟨z, hz, hR⟩ : ∃ z : Array Value, z.size = 32 ∧ Blk (w.alloc (.cells (Array.replicate 32 (.int .u8 0)) 52)) w.heap.size z 52 := ⟨_, by simp, v0⟩
  clear v0
  go_enter Try.func50, Try.ntmps50
  go_wp2_with fail
  refine (Bin.num V _ HV.out.1 HV.out.2.1).mono ?_
  rintro e w1 ⟨u1, rfl, k1, b1⟩
  have k01 := k0.trans k1
  have hR1 := hR.kept k1 (fun h => h)
  have d1 := b1.bs (Nat.le_refl _)
  obtain ⟨a1, c1, rfl⟩ := b1.form
  rw [leB_length] at d1 ⊢
  clear k0 k1 hR b1
  go_wp2_with fail
  refine (Bin.num k _ (by omega) (by have := HV.out; omega)).mono ?_
  rintro e w2 ⟨u2, rfl, k2, b2⟩
  have k02 := k01.trans k2
  have hR2 := hR1.kept k2 (fun h => h)
  have d1' := d1.kept k2 (fun _ _ _ h => h)
  have d2 := b2.bs (Nat.le_refl _)
  obtain ⟨a2, c2, rfl⟩ := b2.form
  rw [leB_length] at d2 ⊢
  have hbs := Bss.new w2 #[.slice a1 8 c1, .slice a2 8 c2] 22 [leB V, leB k] 2 rfl (by decide) ⟨d1'.all, d2.all, trivial⟩
  have k03 := k02.alloc (.cells #[.slice a1 8 c1, .slice a2 8 c2] 22)
  have hR3 := hR2.alloc (.cells #[.slice a1 8 c1, .slice a2 8 c2] 22)
  clear k01 k2 hR1 d1 b2 k02 hR2 d1' d2
  go_wp2_with fail
  refine (HS.out _ _ _ _ _ _ hbs).mono ?_
  rintro e w4 ⟨rfl, k4⟩
  have k04 := k03.trans k4
  have hR4 := hR3.kept k4 (fun h => h)
  clear k03 k4 hR3 hbs
  have e32' : (res.map u8v).toArray.size = 32 := by simpa using H32.out
  have aH' : AggTy Try.prog 52 (res.map u8v).toArray.size := by rw [e32']; exact Sp.aH
  have E := hid (hz.trans e32'.symm)
  clear e32' hz
  go_wp2_with (first | (refine wpList_store_blk rfl _ _ _ rfl rfl rfl hR4 aH' E.out (u8v_all _) ?_; intro w6 hR6 k6) | fail)
  exact bodyPost_ret (v := hashV res) (results_blk rfl _ rfl hR6 aH') rfl ⟨rfl, k04.then k6 (fun i hi (h : i = w.heap.size) => by omega)⟩
set_option maxRecDepth 100000 in
set_option maxHeartbeats 4000000 in
/-- Item. -/
theorem item (n : ByteArray) (a : Int) (k : Nat) (w : World) (hn : n.size ≤ 274877906944) (hk : k < 18446744073709551616) : Calls Try.prog 36 #[entV n a k] w fun e w' => e = .returned (itemV ⟨indexH n, valueH a k⟩) ∧ Kept None w w' := by
  have j0 := fun w => index n w hn
  have j1 := fun w => value a k w hk
  have i32 := indexH_len n
  have v32 := valueH_len a k
  obtain ⟨I, hI⟩ : ∃ I, I = indexH n := ⟨_, rfl⟩
  obtain ⟨V, hV⟩ : ∃ V, V = valueH a k := ⟨_, rfl⟩
  rw [← hI] at j0 i32 ⊢
  rw [← hV] at j1 v32 ⊢
  have J := hid (And.intro j0 j1)
  have h64 : ((I ++ V).map u8v).toArray.size = 64 := by simp [i32, v32]
  have aI' : AggTy Try.prog 54 ((I ++ V).map u8v).toArray.size := by rw [h64]; exact RTr.aI
  have HB := hid (fun W => build_item W I V i32 v32)
  have H64 := hid h64
  clear j0 j1 i32 v32 hI hV hn hk h64
  have k0 : Kept None w ((w.alloc (.cells #[.string n, .int .i64 a, .int .u64 (k : Int)] 29)).alloc (.cells #[.int .u8 0, .int .u8 0, .int .u8 0, .int .u8 0, .int .u8 0, .int .u8 0, .int .u8 0, .int .u8 0, .int .u8 0, .int .u8 0, .int .u8 0, .int .u8 0, .int .u8 0, .int .u8 0, .int .u8 0, .int .u8 0, .int .u8 0, .int .u8 0, .int .u8 0, .int .u8 0, .int .u8 0, .int .u8 0, .int .u8 0, .int .u8 0, .int .u8 0, .int .u8 0, .int .u8 0, .int .u8 0, .int .u8 0, .int .u8 0, .int .u8 0, .int .u8 0, .int .u8 0, .int .u8 0, .int .u8 0, .int .u8 0, .int .u8 0, .int .u8 0, .int .u8 0, .int .u8 0, .int .u8 0, .int .u8 0, .int .u8 0, .int .u8 0, .int .u8 0, .int .u8 0, .int .u8 0, .int .u8 0, .int .u8 0, .int .u8 0, .int .u8 0, .int .u8 0, .int .u8 0, .int .u8 0, .int .u8 0, .int .u8 0, .int .u8 0, .int .u8 0, .int .u8 0, .int .u8 0, .int .u8 0, .int .u8 0, .int .u8 0, .int .u8 0] 54)) := ((Kept.refl _ _).alloc _).alloc _
  have hB : Blk ((w.alloc (.cells #[.string n, .int .i64 a, .int .u64 (k : Int)] 29)).alloc (.cells #[.int .u8 0, .int .u8 0, .int .u8 0, .int .u8 0, .int .u8 0, .int .u8 0, .int .u8 0, .int .u8 0, .int .u8 0, .int .u8 0, .int .u8 0, .int .u8 0, .int .u8 0, .int .u8 0, .int .u8 0, .int .u8 0, .int .u8 0, .int .u8 0, .int .u8 0, .int .u8 0, .int .u8 0, .int .u8 0, .int .u8 0, .int .u8 0, .int .u8 0, .int .u8 0, .int .u8 0, .int .u8 0, .int .u8 0, .int .u8 0, .int .u8 0, .int .u8 0, .int .u8 0, .int .u8 0, .int .u8 0, .int .u8 0, .int .u8 0, .int .u8 0, .int .u8 0, .int .u8 0, .int .u8 0, .int .u8 0, .int .u8 0, .int .u8 0, .int .u8 0, .int .u8 0, .int .u8 0, .int .u8 0, .int .u8 0, .int .u8 0, .int .u8 0, .int .u8 0, .int .u8 0, .int .u8 0, .int .u8 0, .int .u8 0, .int .u8 0, .int .u8 0, .int .u8 0, .int .u8 0, .int .u8 0, .int .u8 0, .int .u8 0, .int .u8 0] 54)) w.heap.size #[.string n, .int .i64 a, .int .u64 (k : Int)] 29 := (Blk.new w _ _).alloc _
  have v0 := Blk.new2 w (.cells #[.string n, .int .i64 a, .int .u64 (k : Int)] 29) #[.int .u8 0, .int .u8 0, .int .u8 0, .int .u8 0, .int .u8 0, .int .u8 0, .int .u8 0, .int .u8 0, .int .u8 0, .int .u8 0, .int .u8 0, .int .u8 0, .int .u8 0, .int .u8 0, .int .u8 0, .int .u8 0, .int .u8 0, .int .u8 0, .int .u8 0, .int .u8 0, .int .u8 0, .int .u8 0, .int .u8 0, .int .u8 0, .int .u8 0, .int .u8 0, .int .u8 0, .int .u8 0, .int .u8 0, .int .u8 0, .int .u8 0, .int .u8 0, .int .u8 0, .int .u8 0, .int .u8 0, .int .u8 0, .int .u8 0, .int .u8 0, .int .u8 0, .int .u8 0, .int .u8 0, .int .u8 0, .int .u8 0, .int .u8 0, .int .u8 0, .int .u8 0, .int .u8 0, .int .u8 0, .int .u8 0, .int .u8 0, .int .u8 0, .int .u8 0, .int .u8 0, .int .u8 0, .int .u8 0, .int .u8 0, .int .u8 0, .int .u8 0, .int .u8 0, .int .u8 0, .int .u8 0, .int .u8 0, .int .u8 0, .int .u8 0] 54
  go_enter Try.func36, Try.ntmps36
  go_wp2_with fail
  obtain ⟨wB, hwB⟩ : ∃ wB, wB = (w.alloc (.cells #[.string n, .int .i64 a, .int .u64 (k : Int)] 29)).alloc (.cells #[.int .u8 0, .int .u8 0, .int .u8 0, .int .u8 0, .int .u8 0, .int .u8 0, .int .u8 0, .int .u8 0, .int .u8 0, .int .u8 0, .int .u8 0, .int .u8 0, .int .u8 0, .int .u8 0, .int .u8 0, .int .u8 0, .int .u8 0, .int .u8 0, .int .u8 0, .int .u8 0, .int .u8 0, .int .u8 0, .int .u8 0, .int .u8 0, .int .u8 0, .int .u8 0, .int .u8 0, .int .u8 0, .int .u8 0, .int .u8 0, .int .u8 0, .int .u8 0, .int .u8 0, .int .u8 0, .int .u8 0, .int .u8 0, .int .u8 0, .int .u8 0, .int .u8 0, .int .u8 0, .int .u8 0, .int .u8 0, .int .u8 0, .int .u8 0, .int .u8 0, .int .u8 0, .int .u8 0, .int .u8 0, .int .u8 0, .int .u8 0, .int .u8 0, .int .u8 0, .int .u8 0, .int .u8 0, .int .u8 0, .int .u8 0, .int .u8 0, .int .u8 0, .int .u8 0, .int .u8 0, .int .u8 0, .int .u8 0, .int .u8 0, .int .u8 0] 54) := ⟨_, rfl⟩
  rw [← hwB] at k0 hB v0 ⊢
  clear hwB
  have hc0 : ∀ W, Kept None wB W → W.cell? ⟨w.heap.size, 0, none⟩ = some (.string n) := fun W hW => (hB.kept hW (fun h => h)).cell 0
  have hc1 : ∀ W, Kept None wB W → W.cell? ⟨w.heap.size, 1, none⟩ = some (.int .i64 a) := fun W hW => (hB.kept hW (fun h => h)).cell 1
  have hc2 : ∀ W, Kept None wB W → W.cell? ⟨w.heap.size, 2, none⟩ = some (.int .u64 (k : Int)) := fun W hW => (hB.kept hW (fun h => h)).cell 2
  have hs : Steady [.val 2 (hashV I), .val 7 (hashV V)] := Steady.val (Steady.val (Steady.nil))
  refine wp_region_kn_tail 9 wB _ hs (Kept.refl _ _) (by kernel_rfl) (by kernel_rfl) (by kernel_rfl) ?_
  simp only [List.take_succ_cons, List.take_zero, List.drop_succ_cons, List.drop_zero]
  iterate 2 (refine wpPar_pure rfl (by rfl) _ (fun W hW => by
      have c0 := hc0 W hW
      have c1 := hc1 W hW
      have c2 := hc2 W hW
      go_simp
      exact rfl) ?_; simp only [Act.put, List.setIfInBounds_toArray, List.set_cons_zero, List.set_cons_succ])
  refine wpKn_adds hs rfl (by rfl) (fun W hW hd => ?_) (fun v2 hv => ?_)
  · unfold Gives
    go_simp
    refine gives_call (J.out.1 W) ?_
    rintro e w3 ⟨rfl, k3⟩
    exact ⟨_, rfl, k3, rfl, trivial⟩
  obtain rfl : v2 = hashV I := hv
  simp only [Act.put, List.setIfInBounds_toArray, List.set_cons_zero, List.set_cons_succ]
  iterate 4 (refine wpPar_pure rfl (by rfl) _ (fun W hW => by
      have c0 := hc0 W hW
      have c1 := hc1 W hW
      have c2 := hc2 W hW
      go_simp
      exact rfl) ?_; simp only [Act.put, List.setIfInBounds_toArray, List.set_cons_zero, List.set_cons_succ])
  refine wpKn_adds hs rfl (by rfl) (fun W hW hd => ?_) (fun v7 hv => ?_)
  · unfold Gives
    go_simp
    refine gives_call (J.out.2 W) ?_
    rintro e w3 ⟨rfl, k3⟩
    exact ⟨_, rfl, k3, rfl, trivial⟩
  obtain rfl : v7 = hashV V := hv
  simp only [Act.put, List.setIfInBounds_toArray, List.set_cons_zero, List.set_cons_succ]
  refine wpPar_pure rfl (by rfl) (itemV ⟨I, V⟩) (fun W hW => by
      have hbd := HB.out W
      refine run_execOp_build rfl ?_
      simp only [List.map_toArray, List.map_cons, List.map_nil]
      exact hbd) ?_
  simp only [Act.put, List.setIfInBounds_toArray, List.set_cons_zero, List.set_cons_succ]
  refine wpPar_nil (fun W hW hG => ?_)
  have k04 := k0.trans hW
  have v4 := v0.kept hW (fun h => h)
  obtain ⟨z, hz, hR4⟩ : ∃ z : Array Value, z.size = 64 ∧ Blk W (w.heap.size + 1) z 54 := ⟨_, by rfl, v4⟩
  clear hG hs hW k0 v0 v4 hc0 hc1 hc2 hB
  have E := hid (hz.trans H64.out.symm)
  clear hz
  go_wp2_with (first | (refine wpList_store_blk rfl _ _ _ rfl rfl rfl hR4 aI' E.out (u8v_all _) ?_; intro w6 hR6 k6) | fail)
  exact bodyPost_ret (v := itemV ⟨I, V⟩) (results_blk rfl _ rfl hR6 aI') rfl ⟨rfl, k04.then k6 (fun i hi (h : i = w.heap.size + 1) => by omega)⟩
end Tr
end Go.Proofs.Ytglibdggoobocaa
namespace Go.Proofs.Ytglibdggoobocaa
open Go.RowKit Go.Pm

namespace Tr
set_option maxRecDepth 100000 in
set_option maxHeartbeats 4000000 in
/-- slices.Grow(nil, n). -/
theorem grow (n : Nat) (w : World) (hn : n ≤ 1099511627776) : Calls Try.prog 71 #[.slice none 0 0, .int .i64 n] w fun e w' => ∃ v, e = .returned v ∧ Ito 54 w' w.heap.size v [] ∧ Kept None w w' := by
  by_cases h0 : n = 0
  · subst h0
    go_enter Try.func71, Try.ntmps71
    go_wp2
    go_ret
    exact ⟨_, rfl, Ito.nil _ _ _, Kept.refl _ _⟩
  · have hp : 0 < n := by omega
    have hpz : (0 : Int) < (n : Int) := by omega
    clear h0
    go_enter Try.func71, Try.ntmps71
    go_wp2_with (first | (at_builtin; refine wpList_make_items (.refl _) _ _ 46 3 rfl RTr.rtItems Try.underlying3 rfl n rfl hp hn ?_; intro cap w1 hO hcap hmax k1) | fail)
    have hcap' : 0 ≤ cap := Nat.zero_le _
    go_wp2
    go_ret
    exact ⟨_, rfl, hO, k1⟩
set_option maxRecDepth 100000 in
set_option maxHeartbeats 8000000 in
/-- slices.Concat of two. -/
theorem concat (g : Nat) (t : TypeId) (v1 v2 : Value) (lo hi lo' hi' : Nat) (l m : List It) (w : World) (hg : Blk w g #[v1, v2] t) (h1 : Its w lo hi v1 l) (h2 : Its w lo' hi' v2 m) (hl : l.length + m.length ≤ 1099511627776) :
    Calls Try.prog 51 #[.slice (some ⟨g, 0, none⟩) 2 2] w fun e w' => ∃ v, e = .returned v ∧ Ito 54 w' w.heap.size v (l ++ m) ∧ Kept None w w' := by
  obtain ⟨a1, c1, rfl, p1, p2, p3⟩ := h1.form
  obtain ⟨a2, c2, rfl, p4, p5, p6⟩ := h2.form
  obtain ⟨n1, hn1⟩ : ∃ n, n = l.length := ⟨_, rfl⟩
  obtain ⟨n2, hn2⟩ : ∃ n, n = m.length := ⟨_, rfl⟩
  rw [← hn1] at hg h1 hl p1
  rw [← hn2] at hg h2 hl p4
  have p2' : c1 ≤ 9223372036854775807 := p2
  have p5' : c2 ≤ 9223372036854775807 := p5
  have HN := hid (And.intro hn1 hn2)
  have H1 := hid h1
  have H2 := hid h2
  clear hn1 hn2 h1 h2 p2 p5 p3 p6
  have q0 := hg.cell 0
  have q1 := hg.cell 1
  simp only [List.getElem?_toArray, List.getElem?_cons_zero, List.getElem?_cons_succ] at q0 q1
  have HG := hid hg
  clear hg
  go_enter Try.func51, Try.ntmps51
  go_wp2
  go_loopg [3, 5, 11] 2 (fun kx s3 s5 s11 wr => ∃ (i S : Nat) (v5 : Value), s3 = .int .i64 S ∧ s5 = v5 ∧ s11 = .int .i64 i ∧ 2 - i ≤ kx ∧ w = wr ∧ (i = 0 ∧ S = 0 ∨ i = 1 ∧ S = n1 ∨ i = 2 ∧ S = n1 + n2))
  case atStart => exact ⟨0, 0, _, rfl, rfl, rfl, Nat.le_refl _, rfl, .inl ⟨rfl, rfl⟩⟩
  case round =>
    obtain ⟨i, S, v5, rfl, rfl, rfl, hkx, rfl, hi⟩ := hrel
    rcases hi with ⟨rfl, rfl⟩ | ⟨rfl, rfl⟩ | ⟨rfl, rfl⟩
    · go_wp2
      go_roundg 1
      case measure => omega
      case rel => exact ⟨1, n1, _, rfl, rfl, rfl, Nat.le_refl _, rfl, .inr (.inl ⟨rfl, rfl⟩)⟩
    · go_wp2
      go_roundg 0
      case measure => omega
      case rel => exact ⟨2, S + n2, _, by go_num, rfl, rfl, Nat.le_refl _, rfl, .inr (.inr ⟨rfl, rfl⟩)⟩
    · go_wp2_with (first | (go_at_call 71; rw [show (n1 : Int) + (n2 : Int) = ((n1 + n2 : Nat) : Int) by omega]; refine (grow (n1 + n2) _ hl).mono ?_; rintro e w1 ⟨v, rfl, hO, k1⟩))
      obtain ⟨av, cv, rfl⟩ := hO.form
      have HO := hid hO
      have K1 := hid k1
      clear q0 q1 hO k1
      go_loopg [6, 8, 27] 2 (fun kx s6 s8 s27 wr => ∃ (i : Nat) (v8 : Value) (a6 : Option Addr) (n6 c6 : Nat), s6 = .slice a6 n6 c6 ∧ s8 = v8 ∧ s27 = .int .i64 i ∧ i ≤ 2 ∧ 2 - i ≤ kx ∧ Hid (Kept None wr wr ∧ Kept None w wr ∧ (i = 0 ∧ Ito 54 wr w.heap.size (.slice a6 n6 c6) [] ∨ i = 1 ∧ Ito 54 wr w.heap.size (.slice a6 n6 c6) l ∨ i = 2 ∧ Ito 54 wr w.heap.size (.slice a6 n6 c6) (l ++ m))))
      case atStart => exact ⟨0, _, _, _, _, rfl, rfl, rfl, by omega, Nat.le_refl _, ⟨Kept.refl _ _, K1.out, .inl ⟨rfl, HO.out⟩⟩⟩
      case round =>
        obtain ⟨i, v8, a6, n6, c6, rfl, rfl, rfl, hi2, hkx, HR⟩ := hrel
        clear HO K1
        have hk := HR.out.2.1
        have q0 := (HG.out.kept hk (fun h => h)).cell 0
        have q1 := (HG.out.kept hk (fun h => h)).cell 1
        simp only [List.getElem?_toArray, List.getElem?_cons_zero, List.getElem?_cons_succ] at q0 q1
        have hsz := hk.size
        have i1 := H1.out.kept hk (fun _ _ _ h => h)
        have i2 := H2.out.kept hk (fun _ _ _ h => h)
        have HK := hid hk
        clear hk
        rcases HR.out.2.2 with ⟨rfl, hO⟩ | ⟨rfl, hO⟩ | ⟨rfl, hO⟩
        · have hll : ([] : List It).length + l.length ≤ 1099511627776 := by have := HN.out.1; simp; omega
          clear HR
          go_wp2_with (first | (at_builtin; refine wpList_append_ito (v := .slice a6 n6 c6) (u := .slice a1 n1 c1) (.refl _) _ _ 46 rfl RTr.rtItems rfl rfl hO i1 hll hsz ?_; intro a7 n7 c7 w7 hO7 k7 f7) | fail)
          go_roundg 1
          case measure => omega
          case rel => exact ⟨1, _, _, _, _, rfl, rfl, rfl, by omega, Nat.le_refl _, ⟨Kept.refl _ _, Kept.own HK.out k7 (fun q hq => (hO.own q hq).1), .inr (.inl ⟨rfl, by simpa using hO7⟩)⟩⟩
        · have hll : l.length + m.length ≤ 1099511627776 := by have := HN.out; omega
          clear HR
          go_wp2_with (first | (at_builtin; refine wpList_append_ito (v := .slice a6 n6 c6) (u := .slice a2 n2 c2) (.refl _) _ _ 46 rfl RTr.rtItems rfl rfl hO i2 hll hsz ?_; intro a7 n7 c7 w7 hO7 k7 f7) | fail)
          go_roundg 0
          case measure => omega
          case rel => exact ⟨2, _, _, _, _, rfl, rfl, rfl, by omega, Nat.le_refl _, ⟨Kept.refl _ _, Kept.own HK.out k7 (fun q hq => (hO.own q hq).1), .inr (.inr ⟨rfl, hO7⟩)⟩⟩
        · clear HR
          go_wp2
          go_ret
          exact ⟨_, rfl, hO, HK.out⟩
end Tr
end Go.Proofs.Ytglibdggoobocaa
namespace Go.Proofs.Ytglibdggoobocaa
open Go.Shelf Go.RowKit Go.Lib Go.Sort Go.Pm
variable {α : Type} [Inhabited α]

namespace SoI
/-- What a program has that bears these bodies, an item being of k cells. -/
structure LayS (P : Program) (k : Nat) : Prop where
  mixed : P.follows .mixedOrders = true
  fSwap : P.funcs[99]? = some Try.f99
  fRot : P.funcs[96]? = some Try.f96
  fMrg : P.funcs[85]? = some Try.f85
  tUnit : P.underlying 0 = some (TypeDesc.tuple #[])
  aUnit : ∀ w, (isAgg 0).run P w = .ok false w
  zUnit : ∀ w, (Go.sizeOf 0).run P w = .ok 1 w
  vUnit : ∀ w, (zeroValue 0).run P w = .ok (Value.tuple #[]) w
  tInt : P.underlying 3 = some (TypeDesc.int IntKind.i64)
  aInt : ∀ w, (isAgg 3).run P w = .ok false w
  zInt : ∀ w, (Go.sizeOf 3).run P w = .ok 1 w
  vInt : ∀ w, (zeroValue 3).run P w = .ok (Value.int IntKind.i64 0) w
  tBool : P.underlying 4 = some (TypeDesc.bool)
  aBool : ∀ w, (isAgg 4).run P w = .ok false w
  zBool : ∀ w, (Go.sizeOf 4).run P w = .ok 1 w
  vBool : ∀ w, (zeroValue 4).run P w = .ok (Value.bool false) w
  tUint : P.underlying 80 = some (TypeDesc.int IntKind.u64)
  aUint : ∀ w, (isAgg 80).run P w = .ok false w
  zUint : ∀ w, (Go.sizeOf 80).run P w = .ok 1 w
  vUint : ∀ w, (zeroValue 80).run P w = .ok (Value.int IntKind.u64 0) w
  tSl : P.underlying 46 = some (TypeDesc.slice 54)
  aSl : ∀ w, (isAgg 46).run P w = .ok false w
  zSl : ∀ w, (Go.sizeOf 46).run P w = .ok 1 w
  vSl : ∀ w, (zeroValue 46).run P w = .ok (Value.slice none 0 0) w
  tFn : P.underlying 88 = some (TypeDesc.func #[54, 54] #[3] false)
  aFn : ∀ w, (isAgg 88).run P w = .ok false w
  zFn : ∀ w, (Go.sizeOf 88).run P w = .ok 1 w
  vFn : ∀ w, (zeroValue 88).run P w = .ok (Value.nilFunc) w
  aE : ∀ w, (isAgg 54).run P w = .ok true w
  zE : ∀ w, (Go.sizeOf 54).run P w = .ok k w
theorem layS : LayS Try.prog 64 where
  mixed := by kernel_rfl
  fSwap := Try.func99
  fRot := Try.func96
  fMrg := Try.func85
  tUnit := Try.underlying0
  aUnit := Try.isAgg0
  zUnit := Try.sizeOf0
  vUnit := Try.zeroValue0
  tInt := Try.underlying3
  aInt := Try.isAgg3
  zInt := Try.sizeOf3
  vInt := Try.zeroValue3
  tBool := Try.underlying4
  aBool := Try.isAgg4
  zBool := Try.sizeOf4
  vBool := Try.zeroValue4
  tUint := Try.underlying80
  aUint := Try.isAgg80
  zUint := Try.sizeOf80
  vUint := Try.zeroValue80
  tSl := Try.underlying46
  aSl := Try.isAgg46
  zSl := Try.sizeOf46
  vSl := Try.zeroValue46
  tFn := Try.underlying88
  aFn := Try.isAgg88
  zFn := Try.sizeOf88
  vFn := Try.zeroValue88
  aE := Try.isAgg54
  zE := Try.sizeOf54
set_option maxHeartbeats 4000000 in
set_option maxRecDepth 1000000 in
/-- swapRangeCmpFunc. -/
theorem swapRange {P : Program} {k : Nat} (L : LayS P k) {enc : α → List Value} {w0 : World} {blk off : Nat} {d0 : Array α} (R : RowK enc k w0 blk off d0) (cap a b n : Nat) (fv : Value) (d : Array α) (w : World) (hs : d.size = d0.size) (S : SWK enc k w0 blk off d w)
    (hab : a + n ≤ b) (hb : b + n ≤ d.size) (hsz : d.size < 4611686018427387904) :
    Calls P 99 #[.slice (some ⟨blk, off, none⟩) d.size cap, .int .i64 a, .int .i64 b, .int .i64 n, fv] w fun e w' =>
      e = .returned (.tuple #[]) ∧ ∃ d', SwapR a b n d d' ∧ SWK enc k w0 blk off d' w' := by
  have mixed := L.mixed; have tUnit := L.tUnit; have aUnit := L.aUnit; have zUnit := L.zUnit; have vUnit := L.vUnit; have tInt := L.tInt; have aInt := L.aInt; have zInt := L.zInt; have vInt := L.vInt; have tBool := L.tBool; have aBool := L.aBool; have zBool := L.zBool; have vBool := L.vBool; have tUint := L.tUint; have aUint := L.aUint; have zUint := L.zUint; have vUint := L.vUint; have tSl := L.tSl; have aSl := L.aSl; have zSl := L.zSl; have vSl := L.vSl; have tFn := L.tFn; have aFn := L.aFn; have zFn := L.zFn; have vFn := L.vFn; have aE := L.aE; have zE := L.zE
  have F := L.fSwap
  clear L
  have S0 : Aside _ := S
  clear S
  go_enter F, Try.ntmps99
  go_wp2
  go_loopg [10] n (fun kx s10 wr => ∃ (i : Nat) (dk : Array α), s10 = .int .i64 i ∧ i ≤ n ∧ n - i ≤ kx ∧ Aside (SWK enc k w0 blk off dk wr) ∧ Hid (SwapR a b i d dk))
  case atStart => exact ⟨0, d, rfl, by omega, Nat.le_refl _, S0, SwapR.start a b d⟩
  case round =>
    obtain ⟨i, dk, rfl, hi, hkx, S1, HE⟩ := hrel
    clear S0
    have hds : dk.size = d.size := HE.out.size
    by_cases h0 : i < n
    · have h0z : (i : Int) < (n : Int) := by omega
      obtain ⟨x, hx⟩ : ∃ x : Nat, x = a + i := ⟨_, rfl⟩
      obtain ⟨y, hy⟩ : ∃ y : Nat, y = b + i := ⟨_, rfl⟩
      have rx : IntKind.i64.wrap ((a : Int) + (i : Int)) = (x : Int) := by rw [IntKind.wrap_i64]; omega
      have ry : IntKind.i64.wrap ((b : Int) + (i : Int)) = (y : Int) := by rw [IntKind.wrap_i64]; omega
      have bx : (x : Int) < (d.size : Int) := by omega
      have by_ : (y : Int) < (d.size : Int) := by omega
      have S4 : Aside (SWK enc k w0 blk off (swp dk x y) ((wr.drew.setCells blk (off + x * k) (enc dk[y]!)).setCells blk (off + y * k) (enc dk[x]!))) := S1.out.swapped R x y (by omega) (by omega)
      have la := S1.out.ld1 R (by omega) P x (by omega)
      have lb := S1.out.ld1 R (by omega) P y (by omega)
      have sa := S1.out.st1 R (by omega) P x (by omega) dk[y]!
      have sb := S1.out.st2 R (by omega) P x y (by omega) (by omega) dk[y]! dk[x]!
      have na : (enc dk[x]!).length = k := R.hk _
      have nb : (enc dk[y]!).length = k := R.hk _
      have HE2 := hid (show SwapR a b (i + 1) d (swp dk x y) from by subst hx hy; exact HE.out.step (by omega) (by omega))
      generalize enc dk[x]! = cI at S4 la sb na
      generalize enc dk[y]! = cJ at S4 lb sa sb nb
      clear S1 HE
      have HX := hid (And.intro hx hy)
      clear hx hy
      go_wp2_with fail
      go_big_region_o
      clear la lb sa sb
      generalize (wr.drew.setCells blk (off + x * k) cJ).setCells blk (off + y * k) cI = w4 at S4 ⊢
      go_wp2
      go_roundg (n - (i + 1))
      case measure => omega
      case rel => exact ⟨i + 1, swp dk x y, by go_num, by omega, Nat.le_refl _, S4, HE2⟩
    · have h0z : ¬ (i : Int) < (n : Int) := by omega
      go_wp2
      go_end0
      obtain rfl : i = n := by omega
      exact ⟨rfl, dk, HE.out, S1.out⟩
set_option maxHeartbeats 4000000 in
set_option maxRecDepth 1000000 in
/-- rotateCmpFunc. -/
theorem rotate {P : Program} {k : Nat} (L : LayS P k) {enc : α → List Value} {w0 : World} {blk off : Nat} {d0 : Array α} (R : RowK enc k w0 blk off d0) (cap a m b : Nat) (fv : Value) (d : Array α) (w : World) (hs : d.size = d0.size) (S : SWK enc k w0 blk off d w)
    (ham : a < m) (hmb : m < b) (hb : b ≤ d.size) (hsz : d.size < 4611686018427387904) :
    Calls P 96 #[.slice (some ⟨blk, off, none⟩) d.size cap, .int .i64 a, .int .i64 m, .int .i64 b, fv] w fun e w' =>
      e = .returned (.tuple #[]) ∧ ∃ d', Rot a m b d d' ∧ SWK enc k w0 blk off d' w' := by
  have mixed := L.mixed; have tUnit := L.tUnit; have aUnit := L.aUnit; have zUnit := L.zUnit; have vUnit := L.vUnit; have tInt := L.tInt; have aInt := L.aInt; have zInt := L.zInt; have vInt := L.vInt; have tBool := L.tBool; have aBool := L.aBool; have zBool := L.zBool; have vBool := L.vBool; have tUint := L.tUint; have aUint := L.aUint; have zUint := L.zUint; have vUint := L.vUint; have tSl := L.tSl; have aSl := L.aSl; have zSl := L.zSl; have vSl := L.vSl; have tFn := L.tFn; have aFn := L.aFn; have zFn := L.zFn; have vFn := L.vFn; have aE := L.aE; have zE := L.zE
  have F := L.fRot
  have eS : ∀ args w, (callFunc 99 args).run P w = .ok (.enter 99 args) w := enters_of L.fSwap (by kernel_rfl) rfl
  have hC : ∀ (a b n : Nat) (dk : Array α) (w : World), dk.size = d.size → SWK enc k w0 blk off dk w → a + n ≤ b → b + n ≤ d.size → Calls P 99 #[.slice (some ⟨blk, off, none⟩) d.size cap, .int .i64 a, .int .i64 b, .int .i64 n, fv] w fun e w' =>
      e = .returned (.tuple #[]) ∧ ∃ d', SwapR a b n dk d' ∧ SWK enc k w0 blk off d' w' := fun a b n dk w h1 h2 h3 h4 => by
    have h := swapRange L R cap a b n fv dk w (h1.trans hs) h2 h3 (by omega) (by omega)
    rwa [h1] at h
  have HC := hid hC
  clear L hC hs
  have S0 : Aside _ := S
  clear S
  go_enter F, Try.ntmps96
  have w1 : IntKind.i64.wrap ((m : Int) - (a : Int)) = ((m - a : Nat) : Int) := by rw [IntKind.wrap_i64]; omega
  have w2 : IntKind.i64.wrap ((b : Int) - (m : Int)) = ((b - m : Nat) : Int) := by rw [IntKind.wrap_i64]; omega
  go_wp2
  go_loopg [10, 11] (b - a) (fun kx s10 s11 wr => ∃ (i j : Nat) (dk : Array α), s10 = .int .i64 i ∧ s11 = .int .i64 j ∧ 0 < i ∧ 0 < j ∧ i ≤ m - a ∧ j ≤ b - m ∧ i + j ≤ kx ∧ dk.size = d.size ∧ Aside (SWK enc k w0 blk off dk wr) ∧ Hid (∀ d', Rot (m - i) m (m + j) dk d' → Rot a m b d d'))
  case atStart => exact ⟨m - a, b - m, d, by go_num, by go_num, by omega, by omega, Nat.le_refl _, Nat.le_refl _, by omega, rfl, S0, fun d' h => by
    rwa [show m - (m - a) = a by omega, show m + (b - m) = b by omega] at h⟩
  case round =>
    obtain ⟨i, j, dk, rfl, rfl, hi, hj, him, hjb, hkx, hds, S1, HE⟩ := hrel
    clear S0 w1 w2
    have rx : IntKind.i64.wrap ((m : Int) - (i : Int)) = ((m - i : Nat) : Int) := by rw [IntKind.wrap_i64]; omega
    by_cases h0 : i = j
    · subst h0
      have h0z : ((i : Int) != (i : Int)) = false := by simp
      go_wp2_with (first | (go_at_fn 99; refine (HC.out (m - i) m i dk _ hds S1.out (by omega) (by omega)).mono ?_; rintro e w' ⟨rfl, d', hd, S2⟩))
      go_end0
      exact ⟨rfl, d', HE.out d' (Rot.last hd (by omega) (by omega)), S2⟩
    · by_cases h1 : j < i
      · have h1z : (j : Int) < (i : Int) := by omega
        have r1 : IntKind.i64.wrap ((i : Int) - (j : Int)) = ((i - j : Nat) : Int) := by rw [IntKind.wrap_i64]; omega
        have n1 : ¬ ((i : Int) = (j : Int)) := by omega
        go_wp2_with (first | (go_at_fn 99; refine (HC.out (m - i) m j dk _ hds S1.out (by omega) (by omega)).mono ?_; rintro e w' ⟨rfl, d', hd, S2⟩))
        go_roundg (i - j + j)
        case measure => omega
        case rel => exact ⟨i - j, j, d', by go_num, rfl, by omega, hj, by omega, hjb, Nat.le_refl _, hd.size.trans hds, S2, fun d2 h2 => HE.out d2 (by
              exact Rot.more_left hd h1 (by omega) (by omega) h2)⟩
      · have h1z : ¬ (j : Int) < (i : Int) := by omega
        have r1 : IntKind.i64.wrap ((j : Int) - (i : Int)) = ((j - i : Nat) : Int) := by rw [IntKind.wrap_i64]; omega
        have n1 : ¬ ((i : Int) = (j : Int)) := by omega
        go_wp2_with (first | (go_at_fn 99; rw [show (m : Int) + (j : Int) - (i : Int) = ((m + j - i : Nat) : Int) by omega]; refine (HC.out (m - i) (m + j - i) i dk _ hds S1.out (by omega) (by omega)).mono ?_; rintro e w' ⟨rfl, d', hd, S2⟩))
        go_roundg (i + (j - i))
        case measure => omega
        case rel => exact ⟨i, j - i, d', rfl, by go_num, hi, by omega, him, by omega, Nat.le_refl _, hd.size.trans hds, S2, fun d2 h2 => HE.out d2 (by
          exact Rot.more_right hd (by omega) (by omega) (by omega) h2)⟩
end SoI
end Go.Proofs.Ytglibdggoobocaa
namespace Go.Proofs.Ytglibdggoobocaa
open Go.Shelf Go.RowKit Go.Lib Go.Sort Go.Pm
variable {α : Type} [Inhabited α]

namespace SoI
theorem wrap_sub {m a : Nat} (h : a ≤ m) (h2 : m < 4611686018427387904) : IntKind.i64.wrap ((m : Int) - (a : Int)) = ((m - a : Nat) : Int) := by rw [IntKind.wrap_i64]; omega

set_option maxHeartbeats 8000000 in
set_option maxRecDepth 1000000 in
/-- One at the left. -/
theorem symMerge_left {P : Program} {k : Nat} (L : LayS P k) {enc : α → List Value} {w0 : World} {blk off : Nat} {d0 : Array α} (R : RowK enc k w0 blk off d0) {cf : α → α → Int} {s : α → α → Prop} (hS : ∀ x y z, s x y → s y z → s x z) {g : Nat} {cb : Array Value} (eg : ∀ args w, (callFunc g args).run P w = .ok (.enter g args) w) (hcmp : CmpLays P g cb enc k cf blk off d0.size w0)
    (cap a m b : Nat) (d : Array α) (w : World) (hs : d.size = d0.size) (S : SWK enc k w0 blk off d w) (hm : m = a + 1) (hmb : m < b) (hb : b ≤ d.size) (hsz : d.size < 4611686018427387904) (hM : Mrg (ltOf cf) s a m b d) :
    Calls P 85 #[.slice (some ⟨blk, off, none⟩) d.size cap, .int .i64 a, .int .i64 m, .int .i64 b, .func (.func g) #[] cb] w fun e w' =>
      e = .returned (.tuple #[]) ∧ ∃ d', Mrgd s a b d d' ∧ SWK enc k w0 blk off d' w' := by
  have mixed := L.mixed; have tUnit := L.tUnit; have aUnit := L.aUnit; have zUnit := L.zUnit; have vUnit := L.vUnit; have tInt := L.tInt; have aInt := L.aInt; have zInt := L.zInt; have vInt := L.vInt; have tBool := L.tBool; have aBool := L.aBool; have zBool := L.zBool; have vBool := L.vBool; have tUint := L.tUint; have aUint := L.aUint; have zUint := L.zUint; have vUint := L.vUint; have tSl := L.tSl; have aSl := L.aSl; have zSl := L.zSl; have vSl := L.vSl; have tFn := L.tFn; have aFn := L.aFn; have zFn := L.zFn; have vFn := L.vFn; have aE := L.aE; have zE := L.zE
  have u3 := run_underlying L.tInt
  have u48 := run_underlying L.tUint
  have F := L.fMrg
  have hm1 : m ≤ a + 1 := by omega
  have hm2 : a + 1 ≤ m := by omega
  have HE := hid hm
  have r0 : IntKind.i64.wrap ((m : Int) - (a : Int)) = 1 := by rw [IntKind.wrap_i64]; omega
  clear hm
  have HC : Aside _ := hcmp
  have S0 : Aside _ := S
  have HM := hid hM
  have hds := hid hs
  have HSS := hid hS
  clear hcmp S hM hs hS L
  go_enter F, Try.ntmps85
  go_wp2
  go_loopg [10, 11] (b - m) (fun kx s10 s11 wr => ∃ (i j : Nat), s10 = .int .i64 i ∧ s11 = .int .i64 j ∧ m ≤ i ∧ i ≤ j ∧ j ≤ b ∧ j - i ≤ kx ∧ Hid (Srch (fun t => ltOf cf d[t]! d[a]!) m b i j) ∧ Aside (SWK enc k w0 blk off d wr))
  case atStart => exact ⟨m, b, rfl, rfl, Nat.le_refl _, by omega, Nat.le_refl _, Nat.le_refl _, Srch.start _ _ _ (by omega), S0⟩
  case round =>
    obtain ⟨i, j, rfl, rfl, hmi, hij, hjb, hkx, HI, S1⟩ := hrel
    clear S0 r0
    by_cases h0 : i < j
    · have h0z : (i : Int) < (j : Int) := by omega
      obtain ⟨h, hh⟩ : ∃ h : Nat, h = (i + j) / 2 := ⟨_, rfl⟩
      have eh : ((i : Int) + (j : Int)) / 2 = (h : Int) := by omega
      have h1 : i ≤ h := by omega
      have h2 : h < j := by omega
      have bh : (h : Int) < (d.size : Int) := by omega
      have ba : (a : Int) < (d.size : Int) := by omega
      have HH := hid hh
      clear hh
      cases hL : ltOf cf d[h]! d[a]! with
      | true =>
        obtain ⟨x1, hx1⟩ : ∃ x, x = d[h]! := ⟨_, rfl⟩
        obtain ⟨y1, hy1⟩ : ∃ x, x = d[a]! := ⟨_, rfl⟩
        have l1a := S1.out.ld R hds.out P (h) (by omega)
        have l1b := S1.out.ld R hds.out P (a) (by omega)
        rw [← hx1] at l1a
        rw [← hy1] at l1b
        have hc1 := S1.out.cmp HC.out hds.out x1 y1
        have hv1 : cf x1 y1 < 0 := by rw [hx1, hy1]; exact of_decide_eq_true hL
        have hd1 : decide (cf x1 y1 < 0) = true := decide_eq_true hv1
        have HL1 := hid hL
        clear hx1 hy1 hL
        go_wp2_with fail
        go_quiet_grown (first | (go_at_fn g; refine Calls.grown_of (hc1 _ _)))
        have S2 : Aside (SWK enc k w0 blk off d (grow (wr.drewN nq) osq)) := S1.out.grown nq osq
        clear l1a l1b hc1 S1
        generalize grow (wr.drewN nq) osq = w2 at S2 ⊢
        clear nq osq hv1 hd1
        go_wp2
        go_roundg (j - (h + 1))
        case measure => omega
        case rel => exact ⟨h + 1, j, by go_num, rfl, by omega, by omega, hjb, Nat.le_refl _, (show Hid _ from by rw [HH.out]; exact HI.out.up h0 (by rw [← HH.out]; exact HL1.out)), S2⟩
      | false =>
        obtain ⟨x2, hx2⟩ : ∃ x, x = d[h]! := ⟨_, rfl⟩
        obtain ⟨y2, hy2⟩ : ∃ x, x = d[a]! := ⟨_, rfl⟩
        have l2a := S1.out.ld R hds.out P (h) (by omega)
        have l2b := S1.out.ld R hds.out P (a) (by omega)
        rw [← hx2] at l2a
        rw [← hy2] at l2b
        have hc2 := S1.out.cmp HC.out hds.out x2 y2
        have hv2 : ¬ cf x2 y2 < 0 := by rw [hx2, hy2]; exact of_decide_eq_false hL
        have hd2 : decide (cf x2 y2 < 0) = false := decide_eq_false hv2
        have HL2 := hid hL
        clear hx2 hy2 hL
        go_wp2_with fail
        go_quiet_grown (first | (go_at_fn g; refine Calls.grown_of (hc2 _ _)))
        have S2 : Aside (SWK enc k w0 blk off d (grow (wr.drewN nq) osq)) := S1.out.grown nq osq
        clear l2a l2b hc2 S1
        generalize grow (wr.drewN nq) osq = w2 at S2 ⊢
        clear nq osq hv2 hd2
        go_wp2
        go_roundg (h - i)
        case measure => omega
        case rel => exact ⟨i, h, rfl, rfl, hmi, by omega, by omega, Nat.le_refl _, (show Hid _ from by rw [HH.out]; exact HI.out.down h0 (by rw [← HH.out]; exact HL2.out)), S2⟩
    · have h0z : ¬ (i : Int) < (j : Int) := by omega
      obtain rfl : i = j := by omega
      have ri : IntKind.i64.wrap ((i : Int) - 1) = (i : Int) - 1 := by rw [IntKind.wrap_i64]; omega
      go_wp2
      go_loopg [13] (i - a) (fun kx s13 wr => ∃ (t : Nat) (dk : Array α), s13 = .int .i64 t ∧ a ≤ t ∧ t + 1 ≤ i ∧ i - t ≤ kx ∧ Hid (Rot a (a + 1) (t + 1) d dk) ∧ Aside (SWK enc k w0 blk off dk wr))
      case atStart => exact ⟨a, d, rfl, Nat.le_refl _, by omega, Nat.le_refl _, Rot.none_right a (a + 1) d (by omega), S1⟩
      case round =>
        obtain ⟨t, dk, rfl, hat, hti, hky, HR, S3⟩ := hrel
        clear S1
        have hdk : dk.size = d.size := HR.out.size
        have hdz := hid (hdk.trans hds.out)
        by_cases h3 : t + 1 < i
        · have h3z : (t : Int) < (i : Int) - 1 := by omega
          obtain ⟨y, hy⟩ : ∃ y : Nat, y = t + 1 := ⟨_, rfl⟩
          have ry : IntKind.i64.wrap ((t : Int) + 1) = (y : Int) := by rw [IntKind.wrap_i64]; omega
          have bt : (t : Int) < (d.size : Int) := by omega
          have by_ : (y : Int) < (d.size : Int) := by omega
          have HR2 := hid (show Rot a (a + 1) (t + 2) d (swp dk t y) from by subst hy; exact HR.out.right hat (by omega))
          have hy1 : y ≤ t + 1 := by omega
          have hy2 : t + 1 ≤ y := by omega
          have hyd : y < dk.size := by omega
          have htd : t < dk.size := by omega
          have HY := hid hy
          clear hy hdk HR
          have S4 : Aside (SWK enc k w0 blk off (swp dk t y) ((wr.drew.setCells blk (off + t * k) (enc dk[y]!)).setCells blk (off + y * k) (enc dk[t]!))) := S3.out.swapped R t y (by omega) (by omega)
          have l3a := S3.out.ld1 R hdz.out P t (by omega)
          have l3b := S3.out.ld1 R hdz.out P y (by omega)
          have s3a := S3.out.st1 R hdz.out P t (by omega) dk[y]!
          have s3b := S3.out.st2 R hdz.out P t y (by omega) (by omega) dk[y]! dk[t]!
          have n3a : (enc dk[t]!).length = k := R.hk _
          have n3b : (enc dk[y]!).length = k := R.hk _
          generalize enc dk[t]! = cI3 at S4 l3a s3b n3a
          generalize enc dk[y]! = cJ3 at S4 l3b s3a s3b n3b
          clear S3
          go_wp2_with fail
          go_big_region_o
          clear l3a l3b s3a s3b
          generalize (wr.drew.setCells blk (off + t * k) cJ3).setCells blk (off + y * k) cI3 = w3 at S4 ⊢
          go_wp2
          go_roundg (i - (t + 1))
          case measure => omega
          case rel => exact ⟨y, swp dk t y, rfl, by omega, by omega, by omega, (show Hid _ from by rw [HY.out] at HR2 ⊢; exact HR2.out), S4⟩
        · have h3z : ¬ (t : Int) < (i : Int) - 1 := by omega
          go_wp2
          (try simp only [Exit.inBlock, Exit.then]); refine bodyPost_ret (results_none rfl _ _ _) rfl ?_
          obtain rfl : i = t + 1 := by omega
          have e := HE.out
          subst e
          exact ⟨rfl, dk, mrg_one_left HSS.out HM.out (by omega) HI.out HR.out, S3.out⟩

set_option maxHeartbeats 8000000 in
set_option maxRecDepth 1000000 in
/-- One at the right. -/
theorem symMerge_right {P : Program} {k : Nat} (L : LayS P k) {enc : α → List Value} {w0 : World} {blk off : Nat} {d0 : Array α} (R : RowK enc k w0 blk off d0) {cf : α → α → Int} {s : α → α → Prop} (hS : ∀ x y z, s x y → s y z → s x z) {g : Nat} {cb : Array Value} (eg : ∀ args w, (callFunc g args).run P w = .ok (.enter g args) w) (hcmp : CmpLays P g cb enc k cf blk off d0.size w0)
    (cap a m b : Nat) (d : Array α) (w : World) (hs : d.size = d0.size) (S : SWK enc k w0 blk off d w) (ham : a < m) (hm : b = m + 1) (hn : m ≠ a + 1) (hb : b ≤ d.size) (hsz : d.size < 4611686018427387904) (hM : Mrg (ltOf cf) s a m b d) :
    Calls P 85 #[.slice (some ⟨blk, off, none⟩) d.size cap, .int .i64 a, .int .i64 m, .int .i64 b, .func (.func g) #[] cb] w fun e w' =>
      e = .returned (.tuple #[]) ∧ ∃ d', Mrgd s a b d d' ∧ SWK enc k w0 blk off d' w' := by
  have mixed := L.mixed; have tUnit := L.tUnit; have aUnit := L.aUnit; have zUnit := L.zUnit; have vUnit := L.vUnit; have tInt := L.tInt; have aInt := L.aInt; have zInt := L.zInt; have vInt := L.vInt; have tBool := L.tBool; have aBool := L.aBool; have zBool := L.zBool; have vBool := L.vBool; have tUint := L.tUint; have aUint := L.aUint; have zUint := L.zUint; have vUint := L.vUint; have tSl := L.tSl; have aSl := L.aSl; have zSl := L.zSl; have vSl := L.vSl; have tFn := L.tFn; have aFn := L.aFn; have zFn := L.zFn; have vFn := L.vFn; have aE := L.aE; have zE := L.zE
  have u3 := run_underlying L.tInt
  have u48 := run_underlying L.tUint
  have F := L.fMrg
  have hm1 : b ≤ m + 1 := by omega
  have hm2 : m + 1 ≤ b := by omega
  have HE := hid hm
  have rN : IntKind.i64.wrap ((m : Int) - (a : Int)) = ((m - a : Nat) : Int) := by rw [IntKind.wrap_i64]; omega
  have nN : ((((m - a : Nat) : Int)) == 1) = false := by simp; omega
  have r0 : IntKind.i64.wrap ((b : Int) - (m : Int)) = 1 := by rw [IntKind.wrap_i64]; omega
  have n1 : ¬ ((m : Int) - (a : Int) = 1) := by omega
  clear hm
  have HC : Aside _ := hcmp
  have S0 : Aside _ := S
  have HM := hid hM
  have hds := hid hs
  have HSS := hid hS
  clear hcmp S hM hs hS L
  go_enter F, Try.ntmps85
  go_wp2
  go_loopg [14, 15] (m - a) (fun kx s14 s15 wr => ∃ (i j : Nat), s14 = .int .i64 i ∧ s15 = .int .i64 j ∧ a ≤ i ∧ i ≤ j ∧ j ≤ m ∧ j - i ≤ kx ∧ Hid (Srch (fun t => !ltOf cf d[m]! d[t]!) a m i j) ∧ Aside (SWK enc k w0 blk off d wr))
  case atStart => exact ⟨a, m, rfl, rfl, Nat.le_refl _, by omega, Nat.le_refl _, Nat.le_refl _, Srch.start _ _ _ (by omega), S0⟩
  case round =>
    obtain ⟨i, j, rfl, rfl, hmi, hij, hjb, hkx, HI, S1⟩ := hrel
    clear S0 r0 rN nN n1
    by_cases h0 : i < j
    · have h0z : (i : Int) < (j : Int) := by omega
      obtain ⟨h, hh⟩ : ∃ h : Nat, h = (i + j) / 2 := ⟨_, rfl⟩
      have eh : ((i : Int) + (j : Int)) / 2 = (h : Int) := by omega
      have h1 : i ≤ h := by omega
      have h2 : h < j := by omega
      have bh : (h : Int) < (d.size : Int) := by omega
      have ba : (m : Int) < (d.size : Int) := by omega
      have HH := hid hh
      clear hh
      cases hL : ltOf cf d[m]! d[h]! with
      | true =>
        obtain ⟨x1, hx1⟩ : ∃ x, x = d[m]! := ⟨_, rfl⟩
        obtain ⟨y1, hy1⟩ : ∃ x, x = d[h]! := ⟨_, rfl⟩
        have l1a := S1.out.ld R hds.out P (m) (by omega)
        have l1b := S1.out.ld R hds.out P (h) (by omega)
        rw [← hx1] at l1a
        rw [← hy1] at l1b
        have hc1 := S1.out.cmp HC.out hds.out x1 y1
        have hv1 : cf x1 y1 < 0 := by rw [hx1, hy1]; exact of_decide_eq_true hL
        have hd1 : decide (cf x1 y1 < 0) = true := decide_eq_true hv1
        have HL1 := hid hL
        clear hx1 hy1 hL
        go_wp2_with fail
        go_quiet_grown (first | (go_at_fn g; refine Calls.grown_of (hc1 _ _)))
        have S2 : Aside (SWK enc k w0 blk off d (grow (wr.drewN nq) osq)) := S1.out.grown nq osq
        clear l1a l1b hc1 S1
        generalize grow (wr.drewN nq) osq = w2 at S2 ⊢
        clear nq osq hv1 hd1
        go_wp2
        go_roundg (h - i)
        case measure => omega
        case rel => exact ⟨i, h, rfl, rfl, hmi, by omega, by omega, Nat.le_refl _, (show Hid _ from by rw [HH.out]; exact HI.out.down h0 (by rw [← HH.out, HL1.out]; rfl)), S2⟩
      | false =>
        obtain ⟨x2, hx2⟩ : ∃ x, x = d[m]! := ⟨_, rfl⟩
        obtain ⟨y2, hy2⟩ : ∃ x, x = d[h]! := ⟨_, rfl⟩
        have l2a := S1.out.ld R hds.out P (m) (by omega)
        have l2b := S1.out.ld R hds.out P (h) (by omega)
        rw [← hx2] at l2a
        rw [← hy2] at l2b
        have hc2 := S1.out.cmp HC.out hds.out x2 y2
        have hv2 : ¬ cf x2 y2 < 0 := by rw [hx2, hy2]; exact of_decide_eq_false hL
        have hd2 : decide (cf x2 y2 < 0) = false := decide_eq_false hv2
        have HL2 := hid hL
        clear hx2 hy2 hL
        go_wp2_with fail
        go_quiet_grown (first | (go_at_fn g; refine Calls.grown_of (hc2 _ _)))
        have S2 : Aside (SWK enc k w0 blk off d (grow (wr.drewN nq) osq)) := S1.out.grown nq osq
        clear l2a l2b hc2 S1
        generalize grow (wr.drewN nq) osq = w2 at S2 ⊢
        clear nq osq hv2 hd2
        go_wp2
        go_roundg (j - (h + 1))
        case measure => omega
        case rel => exact ⟨h + 1, j, by go_num, rfl, by omega, by omega, hjb, Nat.le_refl _, (show Hid _ from by rw [HH.out]; exact HI.out.up h0 (by rw [← HH.out, HL2.out]; rfl)), S2⟩
    · have h0z : ¬ (i : Int) < (j : Int) := by omega
      obtain rfl : i = j := by omega
      go_wp2
      go_loopg [17] (m - i) (fun kx s17 wr => ∃ (t : Nat) (dk : Array α), s17 = .int .i64 t ∧ i ≤ t ∧ t ≤ m ∧ t - i ≤ kx ∧ Hid (Rot t m (m + 1) d dk) ∧ Aside (SWK enc k w0 blk off dk wr))
      case atStart => exact ⟨m, d, rfl, by omega, Nat.le_refl _, Nat.le_refl _, Rot.none_left m (m + 1) d, S1⟩
      case round =>
        obtain ⟨t, dk, rfl, hat, hti, hky, HR, S3⟩ := hrel
        clear S1
        have hdk : dk.size = d.size := HR.out.size
        have hdz := hid (hdk.trans hds.out)
        by_cases h3 : i < t
        · have h3z : (i : Int) < (t : Int) := by omega
          obtain ⟨y, hy⟩ : ∃ y : Nat, t = y + 1 := ⟨t - 1, by omega⟩
          have ry : IntKind.i64.wrap ((t : Int) - 1) = (y : Int) := by rw [IntKind.wrap_i64]; omega
          have bt : (t : Int) < (d.size : Int) := by omega
          have by_ : (y : Int) < (d.size : Int) := by omega
          have HR2 := hid (show Rot y m (m + 1) d (swp dk t y) from by subst hy; exact HR.out.left (by omega) (by omega))
          have hy1 : t ≤ y + 1 := by omega
          have hy2 : y + 1 ≤ t := by omega
          have hyd : y < dk.size := by omega
          have htd : t < dk.size := by omega
          clear hy hdk HR
          have S4 : Aside (SWK enc k w0 blk off (swp dk t y) ((wr.drew.setCells blk (off + t * k) (enc dk[y]!)).setCells blk (off + y * k) (enc dk[t]!))) := S3.out.swapped R t y (by omega) (by omega)
          have l3a := S3.out.ld1 R hdz.out P t (by omega)
          have l3b := S3.out.ld1 R hdz.out P y (by omega)
          have s3a := S3.out.st1 R hdz.out P t (by omega) dk[y]!
          have s3b := S3.out.st2 R hdz.out P t y (by omega) (by omega) dk[y]! dk[t]!
          have n3a : (enc dk[t]!).length = k := R.hk _
          have n3b : (enc dk[y]!).length = k := R.hk _
          generalize enc dk[t]! = cI3 at S4 l3a s3b n3a
          generalize enc dk[y]! = cJ3 at S4 l3b s3a s3b n3b
          clear S3
          go_wp2_with fail
          go_big_region_o
          clear l3a l3b s3a s3b
          generalize (wr.drew.setCells blk (off + t * k) cJ3).setCells blk (off + y * k) cI3 = w3 at S4 ⊢
          go_wp2
          go_roundg (y - i)
          case measure => omega
          case rel => exact ⟨y, swp dk t y, rfl, by omega, by omega, Nat.le_refl _, HR2, S4⟩
        · have h3z : ¬ (i : Int) < (t : Int) := by omega
          go_wp2
          (try simp only [Exit.inBlock, Exit.then]); refine bodyPost_ret (results_none rfl _ _ _) rfl ?_
          obtain rfl : i = t := by omega
          have e := HE.out
          subst e
          exact ⟨rfl, dk, mrg_one_right HSS.out HM.out (by omega) HI.out HR.out, S3.out⟩

set_option maxHeartbeats 8000000 in
set_option maxRecDepth 1000000 in
/-- Both parts longer than one, the halves by contract. -/
theorem symMerge_more {P : Program} {k : Nat} (L : LayS P k) {enc : α → List Value} {w0 : World} {blk off : Nat} {d0 : Array α} (R : RowK enc k w0 blk off d0) {cf : α → α → Int} {s : α → α → Prop} (hS : ∀ x y z, s x y → s y z → s x z) {g : Nat} {cb : Array Value} (eg : ∀ args w, (callFunc g args).run P w = .ok (.enter g args) w) (hcmp : CmpLays P g cb enc k cf blk off d0.size w0)
    (cap a m b : Nat) (d : Array α) (w : World) (hs : d.size = d0.size) (S : SWK enc k w0 blk off d w) (ham : a < m) (hmb : m < b) (hn1 : m ≠ a + 1) (hn2 : b ≠ m + 1) (hb : b ≤ d.size) (hsz : d.size < 4611686018427387904) (hM : Mrg (ltOf cf) s a m b d)
    (ih : ∀ (a' m' b' : Nat) (d' : Array α) (w' : World), b' - a' < b - a → d'.size = d.size → SWK enc k w0 blk off d' w' → a' < m' → m' < b' → b' ≤ d.size → Mrg (ltOf cf) s a' m' b' d' →
      Calls P 85 #[.slice (some ⟨blk, off, none⟩) d.size cap, .int .i64 a', .int .i64 m', .int .i64 b', .func (.func g) #[] cb] w' fun e w2 => e = .returned (.tuple #[]) ∧ ∃ d2, Mrgd s a' b' d' d2 ∧ SWK enc k w0 blk off d2 w2) :
    Calls P 85 #[.slice (some ⟨blk, off, none⟩) d.size cap, .int .i64 a, .int .i64 m, .int .i64 b, .func (.func g) #[] cb] w fun e w' =>
      e = .returned (.tuple #[]) ∧ ∃ d', Mrgd s a b d d' ∧ SWK enc k w0 blk off d' w' := by
  have mixed := L.mixed; have tUnit := L.tUnit; have aUnit := L.aUnit; have zUnit := L.zUnit; have vUnit := L.vUnit; have tInt := L.tInt; have aInt := L.aInt; have zInt := L.zInt; have vInt := L.vInt; have tBool := L.tBool; have aBool := L.aBool; have zBool := L.zBool; have vBool := L.vBool; have tUint := L.tUint; have aUint := L.aUint; have zUint := L.zUint; have vUint := L.vUint; have tSl := L.tSl; have aSl := L.aSl; have zSl := L.zSl; have vSl := L.vSl; have tFn := L.tFn; have aFn := L.aFn; have zFn := L.zFn; have vFn := L.vFn; have aE := L.aE; have zE := L.zE
  have u3 := run_underlying L.tInt
  have u48 := run_underlying L.tUint
  have F := L.fMrg
  have eR : ∀ args w, (callFunc 96 args).run P w = .ok (.enter 96 args) w := enters_of L.fRot (by kernel_rfl) rfl
  have eM : ∀ args w, (callFunc 85 args).run P w = .ok (.enter 85 args) w := enters_of L.fMrg (by kernel_rfl) rfl
  have hC : ∀ (a m b : Nat) (w : World), SWK enc k w0 blk off d w → a < m → m < b → b ≤ d.size → Calls P 96 #[.slice (some ⟨blk, off, none⟩) d.size cap, .int .i64 a, .int .i64 m, .int .i64 b, .func (.func g) #[] cb] w fun e w' =>
      e = .returned (.tuple #[]) ∧ ∃ d', Rot a m b d d' ∧ SWK enc k w0 blk off d' w' := fun a m b w h1 h2 h3 h4 => rotate L R cap a m b _ d w hs h1 h2 h3 h4 (by omega)
  have HROT := hid hC
  have IH := hid ih
  have n1 : ¬ ((m : Int) - (a : Int) = 1) := by omega
  have n2 : ¬ ((b : Int) - (m : Int) = 1) := by omega
  have w1 : IntKind.i64.wrap ((m : Int) - (a : Int)) = (m : Int) - (a : Int) := by rw [IntKind.wrap_i64]; omega
  have w2 : IntKind.i64.wrap ((b : Int) - (m : Int)) = (b : Int) - (m : Int) := by rw [IntKind.wrap_i64]; omega
  obtain ⟨mid, hmid⟩ : ∃ mid : Nat, mid = (a + b) / 2 := ⟨_, rfl⟩
  have em : ((a : Int) + (b : Int)) / 2 = (mid : Int) := by omega
  have m1 : a < mid := by omega
  have m2 : mid < b := by omega
  obtain ⟨n, hn⟩ : ∃ n : Nat, n = mid + m := ⟨_, rfl⟩
  have en : IntKind.i64.wrap ((mid : Int) + (m : Int)) = (n : Int) := by rw [IntKind.wrap_i64]; omega
  have hab1 : a + b ≤ 2 * mid + 1 := by omega
  have hab2 : 2 * mid ≤ a + b := by omega
  have hn3 : n ≤ mid + m := by omega
  have hn4 : mid + m ≤ n := by omega
  have rp : IntKind.i64.wrap ((n : Int) - 1) = ((n - 1 : Nat) : Int) := by rw [IntKind.wrap_i64]; omega
  have HMID := hid hmid
  have HN := hid hn
  clear hC ih hmid hn hn1 hn2
  have HC : Aside _ := hcmp
  have S0 : Aside _ := S
  have HM := hid hM
  have hds := hid hs
  have HSS := hid hS
  clear hcmp S hM hs hS L
  go_enter F, Try.ntmps85
  go_upto_if 140 with fail
  clear n1 n2 w1 w2
  go_cut [20, 21] (fun s20 s21 wx => ∃ lo hi : Nat, s20 = .int .i64 lo ∧ s21 = .int .i64 hi ∧ Hid (lo = cutLo a m b ∧ hi = cutHi a m b) ∧ Aside (SWK enc k w0 blk off d wx))
  case first =>
    by_cases c : mid < m
    · have cz : (mid : Int) < (m : Int) := by omega
      have r1 : IntKind.i64.wrap ((n : Int) - (b : Int)) = ((n - b : Nat) : Int) := by rw [IntKind.wrap_i64]; omega
      go_wp2_with fail
      go_meet
      exact ⟨n - b, mid, by go_num, rfl, ⟨by unfold cutLo; rw [← HMID.out, if_pos c, HN.out], by unfold cutHi; rw [← HMID.out, if_pos c]⟩, S0⟩
    · have cz : ¬ (mid : Int) < (m : Int) := by omega
      go_wp2_with fail
      go_meet
      exact ⟨a, m, rfl, rfl, ⟨by unfold cutLo; rw [← HMID.out, if_neg c], by unfold cutHi; rw [← HMID.out, if_neg c]⟩, S0⟩
  case rest =>
    obtain ⟨lo, hi, rfl, rfl, HLH, S1⟩ := hcut
    clear S0
    have q : a ≤ lo ∧ lo ≤ hi ∧ hi ≤ mid ∧ hi ≤ m ∧ n ≤ b + lo ∧ hi ≤ n := by
      obtain ⟨q1, q2⟩ := HLH.out
      rw [q1, q2]
      unfold cutLo cutHi
      rw [← HMID.out]
      by_cases c : m > mid
      · rw [if_pos c, if_pos c]; omega
      · rw [if_neg c, if_neg c]; omega
    obtain ⟨q1, q2, q3, q4, q5, q6⟩ := q
    go_wp2
    go_loopg [20, 21] (hi - lo) (fun kx s20 s21 wr => ∃ (i j : Nat), s20 = .int .i64 i ∧ s21 = .int .i64 j ∧ lo ≤ i ∧ i ≤ j ∧ j ≤ hi ∧ j - i ≤ kx ∧ Hid (Srch (fun c => !ltOf cf d[n - 1 - c]! d[c]!) lo hi i j) ∧ Aside (SWK enc k w0 blk off d wr))
    case atStart => exact ⟨lo, hi, rfl, rfl, Nat.le_refl _, q2, Nat.le_refl _, Nat.le_refl _, Srch.start _ _ _ q2, S1⟩
    case round =>
      obtain ⟨i, j, rfl, rfl, hli, hij, hjh, hkx, HI, S2⟩ := hrel
      clear S1
      by_cases h0 : i < j
      · have h0z : (i : Int) < (j : Int) := by omega
        obtain ⟨h, hh⟩ : ∃ h : Nat, h = (i + j) / 2 := ⟨_, rfl⟩
        have eh : ((i : Int) + (j : Int)) / 2 = (h : Int) := by omega
        have h1 : i ≤ h := by omega
        have h2 : h < j := by omega
        obtain ⟨p, hp⟩ : ∃ p : Nat, p = n - 1 - h := ⟨_, rfl⟩
        have rq : IntKind.i64.wrap (((n - 1 : Nat) : Int) - (h : Int)) = (p : Int) := by rw [IntKind.wrap_i64]; omega
        have rq2 : IntKind.i64.wrap ((n : Int) - 1 - (h : Int)) = (p : Int) := by rw [IntKind.wrap_i64]; omega
        have hpd : p < d.size := by omega
        have bp : (p : Int) < (d.size : Int) := by omega
        have bh : (h : Int) < (d.size : Int) := by omega
        have HH := hid (And.intro hh hp)
        clear hh hp
        cases hL : ltOf cf d[p]! d[h]! with
        | true =>
          obtain ⟨x1, hx1⟩ : ∃ x, x = d[p]! := ⟨_, rfl⟩
          obtain ⟨y1, hy1⟩ : ∃ x, x = d[h]! := ⟨_, rfl⟩
          have l1a := S2.out.ld R hds.out P (p) (by omega)
          have l1b := S2.out.ld R hds.out P (h) (by omega)
          rw [← hx1] at l1a
          rw [← hy1] at l1b
          have hc1 := S2.out.cmp HC.out hds.out x1 y1
          have hv1 : cf x1 y1 < 0 := by rw [hx1, hy1]; exact of_decide_eq_true hL
          have hd1 : decide (cf x1 y1 < 0) = true := decide_eq_true hv1
          have HL1 := hid hL
          clear hx1 hy1 hL
          go_wp2_with fail
          go_quiet_grown (first | (go_at_fn g; refine Calls.grown_of (hc1 _ _)))
          have S3 : Aside (SWK enc k w0 blk off d (grow (wr.drewN nq) osq)) := S2.out.grown nq osq
          clear l1a l1b hc1 S2
          generalize grow (wr.drewN nq) osq = w2 at S3 ⊢
          clear nq osq hv1 hd1
          go_wp2
          go_roundg (h - i)
          case measure => omega
          case rel => exact ⟨i, h, rfl, rfl, hli, by omega, by omega, Nat.le_refl _, (show Hid _ from by
            have e := HL1.out
            rw [HH.out.2, HH.out.1] at e
            rw [HH.out.1]; exact HI.out.down h0 (by rw [e]; rfl)), S3⟩
        | false =>
          obtain ⟨x2, hx2⟩ : ∃ x, x = d[p]! := ⟨_, rfl⟩
          obtain ⟨y2, hy2⟩ : ∃ x, x = d[h]! := ⟨_, rfl⟩
          have l2a := S2.out.ld R hds.out P (p) (by omega)
          have l2b := S2.out.ld R hds.out P (h) (by omega)
          rw [← hx2] at l2a
          rw [← hy2] at l2b
          have hc2 := S2.out.cmp HC.out hds.out x2 y2
          have hv2 : ¬ cf x2 y2 < 0 := by rw [hx2, hy2]; exact of_decide_eq_false hL
          have hd2 : decide (cf x2 y2 < 0) = false := decide_eq_false hv2
          have HL2 := hid hL
          clear hx2 hy2 hL
          go_wp2_with fail
          go_quiet_grown (first | (go_at_fn g; refine Calls.grown_of (hc2 _ _)))
          have S3 : Aside (SWK enc k w0 blk off d (grow (wr.drewN nq) osq)) := S2.out.grown nq osq
          clear l2a l2b hc2 S2
          generalize grow (wr.drewN nq) osq = w2 at S3 ⊢
          clear nq osq hv2 hd2
          go_wp2
          go_roundg (j - (h + 1))
          case measure => omega
          case rel => exact ⟨h + 1, j, by go_num, rfl, by omega, by omega, hjh, Nat.le_refl _, (show Hid _ from by
            have e := HL2.out
            rw [HH.out.2, HH.out.1] at e
            rw [HH.out.1]; exact HI.out.up h0 (by rw [e]; rfl)), S3⟩
      · have h0z : ¬ (i : Int) < (j : Int) := by omega
        obtain rfl : i = j := by omega
        obtain ⟨en', hen⟩ : ∃ e : Nat, e = n - i := ⟨_, rfl⟩
        have re : IntKind.i64.wrap ((n : Int) - (i : Int)) = (en' : Int) := by rw [IntKind.wrap_i64]; omega
        have v1 : a ≤ i := by omega
        have v2 : i ≤ m := by omega
        have v3 : i ≤ mid := by omega
        have v4 : m ≤ en' := by omega
        have v5 : mid ≤ en' := by omega
        have v6 : en' ≤ b := by omega
        have v7 : en' + i ≤ n := by omega
        have v8 : n ≤ en' + i := by omega
        have HEN := hid hen
        clear hen
        go_upto_region 39 with fail
        go_cut [185] from 178 to 184 (fun s185 wx => ∃ c : Bool, s185 = .bool c ∧ Hid (c = decide (i < m ∧ m < en')) ∧ Aside (SWK enc k w0 blk off d wx))
        case first =>
          by_cases c1 : i < m
          · have c1z : (i : Int) < (m : Int) := by omega
            by_cases c2 : m < en'
            · have c2z : (m : Int) < (en' : Int) := by omega
              go_wp2_with fail
              go_meet
              exact ⟨true, rfl, (decide_eq_true (And.intro c1 c2)).symm, S2⟩
            · have c2z : ¬ (m : Int) < (en' : Int) := by omega
              go_wp2_with fail
              go_meet
              exact ⟨false, rfl, (decide_eq_false (fun h => c2 h.2)).symm, S2⟩
          · have c1z : ¬ (i : Int) < (m : Int) := by omega
            go_wp2_with fail
            go_meet
            exact ⟨false, rfl, (decide_eq_false (fun h => c1 h.1)).symm, S2⟩
        obtain ⟨c, rfl, HC1, S3⟩ := hcut
        clear S2
        go_upto_if 185 with fail
        go_cut [20] from 186 to 191 (fun s20 wx => ∃ d1 : Array α, s20 = .int .i64 i ∧ Hid (Rot i m en' d d1) ∧ Aside (SWK enc k w0 blk off d1 wx))
        case first =>
          cases c with
          | true =>
            have hc := of_decide_eq_true HC1.out.symm
            have HCC := hid hc
            clear hc HC1
            go_wp2_with (first | (go_at_fn 96; refine (HROT.out i m en' _ S3.out HCC.out.1 HCC.out.2 (by omega)).mono ?_; rintro e w' ⟨rfl, d1, hd1, S4⟩))
            go_meet
            exact ⟨d1, rfl, hd1, S4⟩
          | false =>
            have hc := of_decide_eq_false HC1.out.symm
            go_wp2_with fail
            go_meet
            exact ⟨d, rfl, (show Hid _ from by
              by_cases c1 : i < m
              · rw [show en' = m by omega]; exact Rot.none_right i m d v2
              · rw [show i = m by omega]; exact Rot.none_left m en' d), S3⟩
        case rest =>
          obtain ⟨d1, rfl, HR1, S3'⟩ := hcut
          clear S3 HC1
          have S3 := S3'
          clear S3'
          have hd1 := hid HR1.out.size
          have HP := hid (show Parted (ltOf cf) s a i mid en' b d1 from by
            have h1 := HI.out
            have h2 := HR1.out
            rw [HLH.out.1, HLH.out.2, HN.out, HMID.out] at h1
            rw [HEN.out, HN.out, HMID.out] at h2
            have h3 := mrg_cut HSS.out HM.out ham hmb h1 h2
            rwa [← HMID.out, ← HN.out, ← HEN.out] at h3)
          go_upto_region 41 with fail
          go_cut [199] from 192 to 198 (fun s199 wx => ∃ c : Bool, s199 = .bool c ∧ Hid (c = decide (a < i ∧ i < mid)) ∧ Aside (SWK enc k w0 blk off d1 wx))
          case first =>
            by_cases c1 : a < i
            · have c1z : (a : Int) < (i : Int) := by omega
              by_cases c2 : i < mid
              · have c2z : (i : Int) < (mid : Int) := by omega
                go_wp2_with fail
                go_meet
                exact ⟨true, rfl, (decide_eq_true (And.intro c1 c2)).symm, S3⟩
              · have c2z : ¬ (i : Int) < (mid : Int) := by omega
                go_wp2_with fail
                go_meet
                exact ⟨false, rfl, (decide_eq_false (fun h => c2 h.2)).symm, S3⟩
            · have c1z : ¬ (a : Int) < (i : Int) := by omega
              go_wp2_with fail
              go_meet
              exact ⟨false, rfl, (decide_eq_false (fun h => c1 h.1)).symm, S3⟩
          obtain ⟨c, rfl, HC2, S4⟩ := hcut
          clear S3
          go_upto_if 199 with fail
          go_cut [20] from 200 to 205 (fun s20 wx => ∃ d2 : Array α, s20 = .int .i64 i ∧ Hid (Mrgd s a mid d1 d2) ∧ Aside (SWK enc k w0 blk off d2 wx))
          case first =>
            cases c with
            | true =>
              have hc := of_decide_eq_true HC2.out.symm
              have HCC := hid hc
              clear hc HC2
              go_wp2_with (first | (go_at_fn 85; refine (IH.out a i mid d1 _ (by omega) hd1.out S4.out HCC.out.1 HCC.out.2 (by omega) HP.out.one).mono ?_; rintro e w' ⟨rfl, d2, hd2, S5⟩))
              go_meet
              exact ⟨d2, rfl, hd2, S5⟩
            | false =>
              have hc := of_decide_eq_false HC2.out.symm
              go_wp2_with fail
              go_meet
              exact ⟨d1, rfl, mrg_idle HP.out.one hc v1 v3, S4⟩
          case rest =>
            obtain ⟨d2, rfl, HM2, S5⟩ := hcut
            clear S4 HC2
            have S4 := S5
            clear S5
            have hmd : mid ≤ d1.size := by have := hd1.out; omega
            have HF := hid (HP.out.first hmd HM2.out v5)
            have hd2 := hid (HM2.out.perm.1.trans hd1.out)
            have fin : ∀ d3, Mrgd s mid b d2 d3 → Mrgd s a b d d3 := fun d3 h3 => by
              have hbd : b ≤ d1.size := by have := hd1.out; omega
              have h := mrgd_both (by omega) (by omega) hbd HM2.out HF.out.2 h3
              exact ⟨permIn_trans _ _ _ _ _ (permIn_wide HR1.out.perm v1 v6 hb) h.perm, h.sorted⟩
            have FIN := hid fin
            clear fin hmd
            by_cases c1 : mid < en'
            · have c1z : (mid : Int) < (en' : Int) := by omega
              by_cases c2 : en' < b
              · have c2z : (en' : Int) < (b : Int) := by omega
                go_wp2_with (first | (go_at_fn 85; refine (IH.out mid en' b d2 _ (by omega) hd2.out S4.out c1 c2 hb HF.out.1).mono ?_; rintro e w' ⟨rfl, d3, hd3, S5⟩))
                go_end0
                exact ⟨rfl, d3, FIN.out d3 hd3, S5⟩
              · have c2z : ¬ (en' : Int) < (b : Int) := by omega
                go_wp2
                go_end0
                exact ⟨rfl, d2, FIN.out d2 (mrg_idle HF.out.1 (fun h => c2 h.2) v5 v6), S4.out⟩
            · have c1z : ¬ (mid : Int) < (en' : Int) := by omega
              go_wp2
              go_end0
              exact ⟨rfl, d2, FIN.out d2 (mrg_idle HF.out.1 (fun h => c1 h.1) v5 v6), S4.out⟩
end SoI
end Go.Proofs.Ytglibdggoobocaa
namespace Go.Proofs.Ytglibdggoobocaa
open Go.Shelf Go.RowKit Go.Lib Go.Sort Go.Pm
variable {α : Type} [Inhabited α]

namespace SoI
/-- symMergeCmpFunc. -/
theorem symMerge {P : Program} {k : Nat} (L : LayS P k) {enc : α → List Value} {w0 : World} {blk off : Nat} {d0 : Array α} (R : RowK enc k w0 blk off d0) {cf : α → α → Int} {s : α → α → Prop} (hS : ∀ x y z, s x y → s y z → s x z) {g : Nat} {cb : Array Value} (eg : ∀ args w, (callFunc g args).run P w = .ok (.enter g args) w) (hcmp : CmpLays P g cb enc k cf blk off d0.size w0) (cap : Nat) (hsz : d0.size < 4611686018427387904) :
    ∀ (n a m b : Nat) (d : Array α) (w : World), b - a ≤ n → d.size = d0.size → SWK enc k w0 blk off d w → a < m → m < b → b ≤ d0.size → Mrg (ltOf cf) s a m b d →
      Calls P 85 #[.slice (some ⟨blk, off, none⟩) d0.size cap, .int .i64 a, .int .i64 m, .int .i64 b, .func (.func g) #[] cb] w fun e w' => e = .returned (.tuple #[]) ∧ ∃ d', Mrgd s a b d d' ∧ SWK enc k w0 blk off d' w' := by
  intro n
  induction n with
  | zero => intro a m b d w h1 h2 h3 h4 h5; omega
  | succ n ih =>
    intro a m b d w h1 h2 h3 h4 h5 h6 h7
    by_cases c1 : m = a + 1
    · have h := symMerge_left L R hS eg hcmp cap a m b d w h2 h3 c1 h5 (by omega) (by omega) h7
      rwa [h2] at h
    by_cases c2 : b = m + 1
    · have h := symMerge_right L R hS eg hcmp cap a m b d w h2 h3 h4 c2 c1 (by omega) (by omega) h7
      rwa [h2] at h
    have h := symMerge_more L R hS eg hcmp cap a m b d w h2 h3 h4 h5 c1 c2 (by omega) (by omega) h7 (fun a' m' b' d' w' q1 q2 q3 q4 q5 q6 q7 => by
      have h := ih a' m' b' d' w' (by omega) (q2.trans h2) q3 q4 q5 (by omega) q7
      rwa [← h2] at h)
    rwa [h2] at h
def insRen : Ren := ⟨fun | 20 => 84 | n => n, fun | 0 => 0 | 3 => 3 | 4 => 4 | 22 => 46 | 24 => 54 | 25 => 88 | n => n, fun n => n⟩
theorem insLays : SlLaysF0.n20 Try.prog insRen := {
  mixed := by kernel_rfl
  f20 := ⟨Try.f84.name, by decide, Try.func84.trans (by kernel_rfl)⟩
  t0 := Try.underlying0
  a0 := Try.isAgg0
  z0 := Try.sizeOf0
  v0 := Try.zeroValue0
  t3 := Try.underlying3
  a3 := Try.isAgg3
  z3 := Try.sizeOf3
  v3 := Try.zeroValue3
  t4 := Try.underlying4
  a4 := Try.isAgg4
  z4 := Try.sizeOf4
  v4 := Try.zeroValue4
  t22 := Try.underlying46
  a22 := Try.isAgg46
  z22 := Try.sizeOf46
  v22 := Try.zeroValue46
  t25 := Try.underlying88
  a25 := Try.isAgg88
  z25 := Try.sizeOf88
  v25 := Try.zeroValue88 }
/-- insertionSortCmpFunc. -/
theorem insertion {enc : α → List Value} {w0 : World} {blk off : Nat} {d0 : Array α} (R : RowK enc 64 w0 blk off d0) {cf : α → α → Int} {s : α → α → Prop} (hS : ∀ x y z, s x y → s y z → s x z) {g : Nat} {cb : Array Value} (eg : ∀ args w, (callFunc g args).run Try.prog w = .ok (.enter g args) w) (hcmp : CmpLays Try.prog g cb enc 64 cf blk off d0.size w0) (cap : Nat) (hsz : d0.size < 4611686018427387904)
    (a b : Nat) (d : Array α) (w : World) (hs : d.size = d0.size) (S : SWK enc 64 w0 blk off d w) (hab : a ≤ b) (hb : b ≤ d0.size) (hC : CrossAll (ltOf cf) s a b d) :
    Calls Try.prog 84 #[.slice (some ⟨blk, off, none⟩) d0.size cap, .int .i64 a, .int .i64 b, .func (.func g) #[] cb] w fun e w' => e = .returned (.tuple #[]) ∧ ∃ d', Mrgd s a b d d' ∧ SWK enc 64 w0 blk off d' w' := by
  have hm := insertionSort_s (lt := ltOf cf) hS d a b (by omega) hab hC
  have hc : CmpLays Try.prog g cb enc 64 cf blk off d.size w := fun m os dk hdk x y => by
    obtain ⟨n0, os0, rfl⟩ := S
    rw [sortWorldK_on enc 64 w0 blk off n0 m d dk os0 os R.hblk hdk]
    exact hcmp _ _ dk (by omega) x y
  have h := AnyQ.insertionSortCmpFunc insLays 64 Try.isAgg54 Try.sizeOf54 enc R.hk R.h1 cf g cb blk off cap a b d w eg hc (S.holds R.hblk R.hH hs) (S.lt R.hblk) hab (by omega) (by omega)
  rw [hs] at h
  refine Calls.mono (f := 84) h ?_
  rintro e w' ⟨rfl, n, os, rfl⟩
  exact ⟨rfl, _, hm, S.on R.hblk n _ os hm.perm.1⟩

set_option maxHeartbeats 8000000 in
set_option maxRecDepth 1000000 in
/-- stableCmpFunc. -/
theorem stable {enc : α → List Value} {w0 : World} {blk off : Nat} {d0 : Array α} (R : RowK enc 64 w0 blk off d0) {cf : α → α → Int} {s : α → α → Prop} (hS : ∀ x y z, s x y → s y z → s x z) {g : Nat} {cb : Array Value} (eg : ∀ args w, (callFunc g args).run Try.prog w = .ok (.enter g args) w) (hcmp : CmpLays Try.prog g cb enc 64 cf blk off d0.size w0) (cap : Nat) (hsz : d0.size ≤ 1152921504606846976)
    (T : α → Nat) (hT : ∀ x y, T x < T y → (ltOf cf y x = true → s y x) ∧ (ltOf cf y x = false → s x y)) (h0 : ∀ x, x < d0.size → T d0[x]! = x) :
    Calls Try.prog 72 #[.slice (some ⟨blk, off, none⟩) d0.size cap, .int .i64 d0.size, .func (.func g) #[] cb] w0 fun e w' => e = .returned (.tuple #[]) ∧ ∃ d', Mrgd s 0 d0.size d0 d' ∧ SWK enc 64 w0 blk off d' w' := by
  obtain ⟨n, hn⟩ : ∃ n, n = d0.size := ⟨_, rfl⟩
  have hI := insertion R hS eg hcmp cap (by omega)
  have hM := fun a m b => symMerge layS R hS eg hcmp cap (by omega) (b - a) a m b
  rw [← hn] at hI hM h0 hsz ⊢
  have HI := hid hI
  have HM := hid hM
  have HT := hid hT
  have HN := hid hn
  have hF : Firsts T s 20 n 0 d0 := ⟨fun x _ h => by omega, fun i j _ h1 h2 => by omega, fun x _ h => h0 x h⟩
  have HF0 := hid hF
  have S0 : Aside (SWK enc 64 w0 blk off d0 w0) := SWK.start R.hH
  clear hI hM hT h0 hF hcmp hn hS
  go_enter Try.func72, Try.ntmps72
  go_wp2
  go_loopg [7, 8] n (fun kx s7 s8 wr => ∃ (a b : Nat) (dk : Array α), s7 = .int .i64 a ∧ s8 = .int .i64 b ∧ a + 20 ≤ b ∧ b ≤ a + 20 ∧ a ≤ n ∧ n - a ≤ kx ∧ Hid (∃ q, a = q * 20) ∧ Hid (Firsts T s 20 n a dk) ∧ Hid (PermIn 0 n d0 dk) ∧ Aside (SWK enc 64 w0 blk off dk wr))
  case atStart => exact ⟨0, 20, d0, rfl, rfl, Nat.le_refl _, Nat.le_refl _, Nat.zero_le _, Nat.le_refl _, ⟨0, rfl⟩, HF0, permIn_refl _ _ _, S0⟩
  case round =>
    obtain ⟨a, b, dk, rfl, rfl, hab1, hab2, han, hkx, HQ, HF, HP, S1⟩ := hrel
    clear S0 HF0
    have hsz1 := hid (HP.out.1.trans HN.out.symm)
    by_cases c : b ≤ n
    · have cz : (b : Int) ≤ (n : Int) := by omega
      have rb : IntKind.i64.wrap ((b : Int) + 20) = (b : Int) + 20 := by rw [IntKind.wrap_i64]; omega
      go_wp2_with (first | (go_at_call 84; refine (HI.out a b dk _ hsz1.out S1.out (by omega) c (HF.out.cross HT.out c)).mono ?_; rintro e w' ⟨rfl, d', hd, S2⟩))
      go_roundg (n - b)
      case measure => omega
      case rel =>
        have hd1 : n ≤ dk.size := by have := hsz1.out; omega
        obtain ⟨q, hq⟩ := HQ.out
        refine ⟨b, b + 20, d', rfl, by go_num, Nat.le_refl _, Nat.le_refl _, c, Nat.le_refl _, ⟨q + 1, by omega⟩, (show Hid _ from ?_), permIn_trans _ _ _ _ _ HP.out (permIn_wide hd.perm (Nat.zero_le _) c hd1), S2⟩
        have h1 := HF.out
        rw [hq] at h1 hd
        exact h1.next (by decide) (by omega) (by omega) c hd1 hd
    · have cz : ¬ (b : Int) ≤ (n : Int) := by omega
      go_wp2_with (first | (go_at_call 84; refine (HI.out a n dk _ hsz1.out S1.out han (Nat.le_refl _) (HF.out.cross HT.out (Nat.le_refl _))).mono ?_; rintro e w' ⟨rfl, d', hd, S2⟩))
      have hfin : Firsts T s 20 n n d' ∧ PermIn 0 n d0 d' := by
        have hd1 : n ≤ dk.size := by have := hsz1.out; omega
        obtain ⟨q, hq⟩ := HQ.out
        have h1 := HF.out
        refine ⟨?_, permIn_trans _ _ _ _ _ HP.out (permIn_wide hd.perm (Nat.zero_le _) (Nat.le_refl _) hd1)⟩
        rw [hq] at h1 hd
        exact h1.next (by decide) (by omega) (by omega) (Nat.le_refl _) hd1 hd
      have HF2 := hid hfin
      have S3 : Aside _ := S2
      clear S1 HF HP HQ hfin hd S2 hsz1
      go_loopg [6, 7, 8, 9] n (fun kx s6 s7 s8 s9 wr => ∃ (bs : Nat) (v7 v8 v9 : Value) (dk : Array α), s6 = .int .i64 bs ∧ s7 = v7 ∧ s8 = v8 ∧ s9 = v9 ∧ 20 ≤ bs ∧ bs ≤ 2 * n + 20 ∧ n - bs ≤ kx ∧ Hid (Own T bs 0 n dk ∧ BlkS s bs 0 n dk ∧ PermIn 0 n d0 dk) ∧ Aside (SWK enc 64 w0 blk off dk wr))
      case atStart => exact ⟨20, _, _, _, d', rfl, rfl, rfl, rfl, Nat.le_refl _, by omega, by omega, ⟨HF2.out.1.own, HF2.out.1.blk, HF2.out.2⟩, S3⟩
      case round =>
        obtain ⟨bs, v7, v8, v9, dk, rfl, rfl, rfl, rfl, hb1, hb2, hkx, HB, S4⟩ := hrel
        clear HF2 S3
        by_cases c2 : bs < n
        · have c2z : (bs : Int) < (n : Int) := by omega
          have r2 : IntKind.i64.wrap (2 * (bs : Int)) = 2 * (bs : Int) := by rw [IntKind.wrap_i64]; omega
          have r3 : IntKind.i64.wrap ((bs : Int) * 2) = (bs : Int) * 2 := by rw [IntKind.wrap_i64]; omega
          go_wp2
          go_loopg [7, 8] n (fun kx s7 s8 wr => ∃ (a b : Nat) (dk : Array α), s7 = .int .i64 a ∧ s8 = .int .i64 b ∧ a + 2 * bs ≤ b ∧ b ≤ a + 2 * bs ∧ a ≤ n ∧ n - a ≤ kx ∧ Hid (∃ q, a = 2 * q * bs) ∧ Hid (Half T s bs n a dk ∧ PermIn 0 n d0 dk) ∧ Aside (SWK enc 64 w0 blk off dk wr))
          case atStart => exact ⟨0, 2 * bs, dk, rfl, by go_num, by omega, by omega, Nat.zero_le _, Nat.le_refl _, ⟨0, by omega⟩, ⟨Half.start HB.out.1 HB.out.2.1, HB.out.2.2⟩, S4⟩
          case round =>
            obtain ⟨a, b, dk, rfl, rfl, hab1, hab2, han, hky, HQ, HH, S5⟩ := hrel
            clear S4 HB
            have hsz1 := hid (HH.out.2.1.trans HN.out.symm)
            obtain ⟨m, hm⟩ : ∃ m : Nat, m = a + bs := ⟨_, rfl⟩
            have rm : IntKind.i64.wrap ((a : Int) + (bs : Int)) = (m : Int) := by rw [IntKind.wrap_i64]; omega
            have hm1 : a + bs ≤ m := by omega
            have hm2 : m ≤ a + bs := by omega
            have HMM := hid hm
            clear hm
            by_cases c3 : b ≤ n
            · have c3z : (b : Int) ≤ (n : Int) := by omega
              have rb : IntKind.i64.wrap ((b : Int) + 2 * (bs : Int)) = (b : Int) + 2 * (bs : Int) := by rw [IntKind.wrap_i64]; omega
              have hMg : Mrg (ltOf cf) s a m b dk := by
                obtain ⟨q, hq⟩ := HQ.out
                have h1 := HH.out.1
                rw [hq] at h1
                have := h1.mrg HT.out (b := b) (m := m) (by omega) (by rw [← hq]; exact HMM.out) (by omega) (by omega) c3
                rwa [← hq] at this
              have HMG := hid hMg
              clear hMg
              go_wp2_with (first | (go_at_call 85; refine (HM.out a m b dk _ (Nat.le_refl _) hsz1.out S5.out (by omega) (by omega) c3 HMG.out).mono ?_; rintro e w' ⟨rfl, d2, hd, S6⟩))
              go_roundg (n - b)
              case measure => omega
              case rel =>
                have hd1 : n ≤ dk.size := by have := hsz1.out; omega
                obtain ⟨q, hq⟩ := HQ.out
                refine ⟨b, b + 2 * bs, d2, rfl, by go_num, Nat.le_refl _, Nat.le_refl _, c3, Nat.le_refl _, ⟨q + 1, by rw [Nat.mul_add, Nat.add_mul]; omega⟩, ⟨?_, permIn_trans _ _ _ _ _ HH.out.2 (permIn_wide hd.perm (Nat.zero_le _) c3 hd1)⟩, S6⟩
                have h1 := HH.out.1
                rw [hq] at h1 hd
                exact h1.next (by omega) (by omega) (by omega) c3 hd1 hd
            · have c3z : ¬ (b : Int) ≤ (n : Int) := by omega
              by_cases c4 : m < n
              · have c4z : (m : Int) < (n : Int) := by omega
                have hMg : Mrg (ltOf cf) s a m n dk := by
                  obtain ⟨q, hq⟩ := HQ.out
                  have h1 := HH.out.1
                  rw [hq] at h1
                  have := h1.mrg HT.out (b := n) (m := m) (by omega) (by rw [← hq]; exact HMM.out) (by omega) (by omega) (Nat.le_refl _)
                  rwa [← hq] at this
                have HMG := hid hMg
                clear hMg
                go_wp2_with (first | (go_at_call 85; refine (HM.out a m n dk _ (Nat.le_refl _) hsz1.out S5.out (by omega) c4 (Nat.le_refl _) HMG.out).mono ?_; rintro e w' ⟨rfl, d2, hd, S6⟩))
                go_roundg (n - 2 * bs)
                case measure => omega
                case rel =>
                  have hd1 : n ≤ dk.size := by have := hsz1.out; omega
                  have hp := permIn_trans _ _ _ _ _ HH.out.2 (permIn_wide hd.perm (Nat.zero_le _) (Nat.le_refl _) hd1)
                  obtain ⟨q, hq⟩ := HQ.out
                  have h1 := HH.out.1
                  rw [hq] at h1 hd
                  have h2 := (h1.next (by omega) (by omega) (by omega) (Nat.le_refl _) hd1 hd).full
                  exact ⟨2 * bs, _, _, _, d2, by go_num, rfl, rfl, rfl, by omega, by omega, Nat.le_refl _, ⟨h2.1, h2.2, hp⟩, S6⟩
              · have c4z : ¬ (m : Int) < (n : Int) := by omega
                go_wp2
                go_roundg (n - 2 * bs)
                case measure => omega
                case rel =>
                  obtain ⟨q, hq⟩ := HQ.out
                  have h1 := HH.out.1
                  rw [hq] at h1
                  have h2 := h1.last (by omega) (by omega) (by omega)
                  exact ⟨2 * bs, _, _, _, dk, by go_num, rfl, rfl, rfl, by omega, by omega, Nat.le_refl _, ⟨h2.1, h2.2, HH.out.2⟩, S5⟩
        · have c2z : ¬ (bs : Int) < (n : Int) := by omega
          go_wp2
          go_end0
          exact ⟨rfl, dk, ⟨HB.out.2.2, HB.out.2.1.whole (by omega)⟩, S4.out⟩

set_option maxHeartbeats 4000000 in
set_option maxRecDepth 1000000 in
/-- SortStableFunc. -/
theorem sortStable {enc : α → List Value} {w0 : World} {blk off : Nat} {d0 : Array α} (R : RowK enc 64 w0 blk off d0) {cf : α → α → Int} {s : α → α → Prop} (hS : ∀ x y z, s x y → s y z → s x z) {g : Nat} {cb : Array Value} (eg : ∀ args w, (callFunc g args).run Try.prog w = .ok (.enter g args) w) (hcmp : CmpLays Try.prog g cb enc 64 cf blk off d0.size w0) (cap : Nat) (hsz : d0.size ≤ 1152921504606846976)
    (T : α → Nat) (hT : ∀ x y, T x < T y → (ltOf cf y x = true → s y x) ∧ (ltOf cf y x = false → s x y)) (h0 : ∀ x, x < d0.size → T d0[x]! = x) :
    Calls Try.prog 52 #[.slice (some ⟨blk, off, none⟩) d0.size cap, .func (.func g) #[] cb] w0 fun e w' => e = .returned (.tuple #[]) ∧ ∃ d', Mrgd s 0 d0.size d0 d' ∧ SWK enc 64 w0 blk off d' w' := by
  have hC := stable R hS eg hcmp cap hsz T hT h0
  have HC := hid hC
  clear hC hT h0 hcmp hS
  go_enter Try.func52, Try.ntmps52
  go_wp2_with (first | (go_at_call 72; refine HC.out.mono ?_; rintro e w' ⟨rfl, d', hd, S2⟩))
  go_end0
  exact ⟨rfl, d', hd, S2⟩
end SoI
end Go.Proofs.Ytglibdggoobocaa
namespace Go.Pm
open Go Go.RowKit
theorem run_loadBytes {P : Program} {w : World} : ∀ (l : List UInt8) (a : Addr) (acc : ByteArray), (∀ i x, l[i]? = some x → w.cell? (a.add i) = some (u8v x)) →
    (Extern.Bytes.loadBytes a l.length acc).run P w = .ok ⟨acc.data ++ l.toArray⟩ w
  | [], a, acc, _ => by simp [Extern.Bytes.loadBytes]
  | x :: l, a, acc, h => by
    have h0 := h 0 x rfl
    rw [Addr.add_zero'] at h0
    have ih := run_loadBytes (P := P) l (a.add 1) (acc.push x) (fun i y hy => by
      rw [add_add', Nat.add_comm]
      exact h (i + 1) y (by simpa using hy))
    simp only [List.length_cons, Extern.Bytes.loadBytes, Sem.run_bind]
    have hl : (load a).run P w = .ok (u8v x) w := by
      rw [run_load, h0]
    rw [hl]
    simp only [Result.andThen_ok, u8v]
    rw [show (Int.toNat ((x.toNat : Nat) : Int)).toUInt8 = x by simp]
    rw [ih]
    simp [ByteArray.push]
theorem run_bytesOf_bs {P : Program} {w : World} {lo hi : Nat} {v : Value} {l : List UInt8} (h : Bs w lo hi v l) : (Extern.Bytes.bytesOf v).run P w = .ok ⟨l.toArray⟩ w := by
  obtain ⟨a, cap, rfl, h1, h2, h3, h4⟩ := h
  cases a with
  | none =>
    have := h3 rfl
    have hl : l = [] := List.eq_nil_of_length_eq_zero (by simp at h1; omega)
    subst hl
    simp [Extern.Bytes.bytesOf]
    rfl
  | some ad =>
    simp only [Extern.Bytes.bytesOf, List.length_map]
    have := run_loadBytes (P := P) l ad .empty (fun i x hx => (h4 ad rfl i (u8v x) (by simp [hx])).2.2)
    rw [this]
    simp
theorem run_compare_bs {P : Program} {w : World} {lo hi lo' hi' : Nat} {u v : Value} {l r : List UInt8} (h1 : Bs w lo hi u l) (h2 : Bs w lo' hi' v r) : (Extern.BytealgCompare.compare #[u, v]).run P w = .ok (.int .i64 (Lib.compareBytes l r)) w := by
  change Sem.run P (do pure (goInt (Extern.BytealgCompare.cmp (← Extern.Bytes.bytesOf u) (← Extern.Bytes.bytesOf v)))) w = _
  simp only [Sem.run_bind, run_bytesOf_bs h1, run_bytesOf_bs h2, Result.andThen_ok, Sem.run_pure]
  rw [Lib.cmp_eq]
  rfl
end Go.Pm
namespace Go.Proofs.Ytglibdggoobocaa
open Go.Shelf Go.RowKit Go.Lib Go.Sort Go.Pm

namespace Tr
set_option maxRecDepth 100000 in
set_option maxHeartbeats 2000000 in
/-- bytes.Compare. -/
theorem compare {lo hi lo' hi' : Nat} {u v : Value} {l r : List UInt8} (w : World) (h1 : Bs w lo hi u l) (h2 : Bs w lo' hi' v r) : Calls Try.prog 73 #[u, v] w fun e w' => e = .returned (.int .i64 (Lib.compareBytes l r)) ∧ w' = w := by
  have hc := run_compare_bs (P := Try.prog) h1 h2
  clear h1 h2
  go_enter Try.func73, Try.ntmps73
  go_wp2
  rw [run_callFunc_extern Try.func86 (by kernel_rfl) (by kernel_rfl) (by kernel_rfl) (e := Extern.BytealgCompare.compare) (by kernel_rfl), hc]
  simp only [Result.andThen]
  rw [Oper.upon_value]
  go_wp2
  go_ret
  exact ⟨rfl, rfl⟩
set_option maxRecDepth 100000 in
set_option maxHeartbeats 4000000 in
/-- byIndex. -/
theorem byIndex (x y : It) (w : World) (hx : x.i.length = 32 ∧ x.v.length = 32) (hy : y.i.length = 32 ∧ y.v.length = 32) :
    Calls Try.prog 53 #[.agg (itC x).toArray, .agg (itC y).toArray] w fun e w' => e = .returned (.int .i64 (Lib.compareBytes x.i y.i)) ∧ ∃ q os', w' = Go.Sort.grow (w.drewN q) os' := by
  obtain ⟨L, hLL⟩ : ∃ L : Array Value, L = (itC x).toArray := ⟨_, rfl⟩
  obtain ⟨R, hRR⟩ : ∃ R : Array Value, R = (itC y).toArray := ⟨_, rfl⟩
  rw [← hLL, ← hRR]
  have hX : Blk ((w.alloc (.cells L 54)).alloc (.cells R 54)) w.heap.size L 54 := (Blk.new w _ _).alloc _
  have hY := Blk.new2 w (.cells L 54) R 54
  have half : ∀ (z : It) (W : World) (b : Nat), z.i.length = 32 ∧ z.v.length = 32 → Blk W b (itC z).toArray 54 → Bs W b (b + 1) (.slice (some ⟨b, 0, none⟩) 32 32) z.i := fun z W b hz h => by
    refine ⟨some ⟨b, 0, none⟩, 32, by simp [hz.1], by simp [hz.1], by unfold maxLen; omega, (fun h => by cases h), fun ad had i c hc => ?_⟩
    simp only [Option.some.injEq] at had
    subst had
    refine ⟨Nat.le_refl _, Nat.lt_succ_self _, ?_⟩
    rw [Addr.add_lit, Nat.zero_add, h.cell]
    have hi : i < z.i.length := by
      have := (List.getElem?_eq_some_iff.1 hc).1
      simpa using this
    simp only [itC, List.getElem?_toArray]
    rw [List.getElem?_append_left (by simpa using hi)]
    exact hc
  have hL : ∀ n, Bs (((w.alloc (.cells L 54)).alloc (.cells R 54)).drewN n) w.heap.size (w.heap.size + 1) (.slice (some ⟨w.heap.size, 0, none⟩) 32 32) x.i := fun n => half x _ _ hx (hLL ▸ hX.drewN n)
  have hR : ∀ n, Bs (((w.alloc (.cells L 54)).alloc (.cells R 54)).drewN n) (w.heap.size + 1) (w.heap.size + 1 + 1) (.slice (some ⟨w.heap.size + 1, 0, none⟩) 32 32) y.i := fun n => half y _ _ hy (hRR ▸ hY.drewN n)
  have hC := fun n => compare _ (hL n) (hR n)
  have HC := hid hC
  clear half hL hR hC hX hY hLL hRR hx hy
  obtain ⟨c, hc⟩ : ∃ c, c = Lib.compareBytes x.i y.i := ⟨_, rfl⟩
  rw [← hc] at HC ⊢
  clear hc
  go_enter Try.func53, Try.ntmps53
  go_wp2_with fail
  go_quiet ((go_at_call 73; exact Calls.quiet_of_same (HC.out _)))
  go_wp2
  go_ret
  exact ⟨rfl, _, _, by rw [alloc_eq_grow, alloc_eq_grow, grow_grow]; rfl⟩
/-- SortStableFunc by byIndex, of the call's own items. -/
theorem sort_some {w : World} {base g cap : Nat} {l : List It} (h : Ito 54 w base (.slice (some ⟨g, 0, none⟩) l.length cap) l) (hl : l.length ≤ 1099511627776) :
    Calls Try.prog 52 #[.slice (some ⟨g, 0, none⟩) l.length cap, .func (.func 53) #[] #[]] w fun e w' =>
      e = .returned (.tuple #[]) ∧ ∃ r, Stable l r ∧ Ito 54 w' base (.slice (some ⟨g, 0, none⟩) l.length cap) r ∧ Kept (Just g) w w' := by
  obtain ⟨hb, hH⟩ := ito_holds h
  have hsz := tagged_size l h.1
  have R : RowK encT 64 w g 0 (tagged l h.1) := ⟨fun x => itC_len x.1.2, fun x v hv => itsC_one [x.1.1] v (by simpa [itsC, encT] using hv), hH, hb⟩
  have hcmp : CmpLays Try.prog 53 #[] encT 64 cfT g 0 (tagged l h.1).size w := fun m os dk hdk x y => byIndex x.1.1 y.1.1 _ x.1.2 y.1.2
  have eg : ∀ args w, (callFunc 53 args).run Try.prog w = .ok (.enter 53 args) w := enters_of Try.func53 (by kernel_rfl) rfl
  have hs := SoI.sortStable R (Stb.trans swo_ltT) eg hcmp cap (by omega) Prod.snd (fun x y ht => by
    rw [ltOf_cfT]
    exact Stb.cross x y ht) (fun x hx => tagged_snd l h.1 x hx)
  rw [hsz] at hs
  refine Calls.mono (f := 52) hs ?_
  rintro e w' ⟨rfl, d', hm, S⟩
  have hm' : Mrgd (Stb ltT) 0 (tagged l h.1).size (tagged l h.1) d' := Eq.subst (motive := fun n => Mrgd (Stb ltT) 0 n (tagged l h.1) d') hsz.symm hm
  obtain ⟨r, h1, h2, h3⟩ := ito_sorted h S hm'
  exact ⟨rfl, r, h1, h2, h3⟩
set_option maxRecDepth 100000 in
set_option maxHeartbeats 2000000 in
theorem insertion_nil (fv : Value) (w : World) : Calls Try.prog 84 #[.slice none 0 0, .int .i64 0, .int .i64 0, fv] w fun e w' => e = .returned (.tuple #[]) ∧ w' = w := by
  go_enter Try.func84, Try.ntmps84
  go_wp2
  go_loopg [8] 0 (fun _ v wr => v = .int .i64 1 ∧ wr = w)
  case atStart => exact ⟨rfl, rfl⟩
  case round =>
    obtain ⟨rfl, rfl⟩ := hrel
    go_wp2
    go_end0
    exact ⟨rfl, rfl⟩
set_option maxRecDepth 100000 in
set_option maxHeartbeats 2000000 in
theorem stable_nil (fv : Value) (w : World) : Calls Try.prog 72 #[.slice none 0 0, .int .i64 0, fv] w fun e w' => e = .returned (.tuple #[]) ∧ w' = w := by
  go_enter Try.func72, Try.ntmps72
  go_wp2
  go_loopg [7, 8] 0 (fun _ a b wr => a = .int .i64 0 ∧ b = .int .i64 20 ∧ wr = w)
  case atStart => exact ⟨rfl, rfl, rfl⟩
  case round =>
    obtain ⟨rfl, rfl, rfl⟩ := hrel
    go_wp2_with (first | (go_at_call 84; refine (insertion_nil _ _).mono ?_; rintro e w' ⟨rfl, rfl⟩))
    go_loopg [6, 7, 8, 9] 0 (fun _ s6 s7 s8 s9 wr => s6 = .int .i64 20 ∧ (∃ v, s7 = v) ∧ (∃ v, s8 = v) ∧ (∃ v, s9 = v) ∧ wr = w')
    case atStart => exact ⟨rfl, ⟨_, rfl⟩, ⟨_, rfl⟩, ⟨_, rfl⟩, rfl⟩
    case round =>
      obtain ⟨rfl, ⟨_, rfl⟩, ⟨_, rfl⟩, ⟨_, rfl⟩, rfl⟩ := hrel
      go_wp2
      go_end0
      exact ⟨rfl, rfl⟩
set_option maxRecDepth 100000 in
set_option maxHeartbeats 2000000 in
theorem sort_nil (fv : Value) (w : World) : Calls Try.prog 52 #[.slice none 0 0, fv] w fun e w' => e = .returned (.tuple #[]) ∧ w' = w := by
  go_enter Try.func52, Try.ntmps52
  go_wp2_with (first | (go_at_call 72; refine (stable_nil _ _).mono ?_; rintro e w' ⟨rfl, rfl⟩))
  go_end0
  exact ⟨rfl, rfl⟩
/-- SortStableFunc by byIndex, of the call's own items, none too. -/
theorem sort {w : World} {base : Nat} {v : Value} {l : List It} (h : Ito 54 w base v l) (hl : l.length ≤ 1099511627776) :
    Calls Try.prog 52 #[v, .func (.func 53) #[] #[]] w fun e w' =>
      e = .returned (.tuple #[]) ∧ ∃ r, Stable l r ∧ Ito 54 w' base v r ∧ Kept (Of v) w w' := by
  rcases h.2.2 with ⟨rfl, h0⟩ | ⟨g, cap, cur, rfl, _⟩
  · obtain rfl := List.eq_nil_of_length_eq_zero h0
    refine (sort_nil _ w).mono ?_
    rintro e w' ⟨rfl, rfl⟩
    exact ⟨rfl, [], ⟨List.Perm.refl _, List.Pairwise.nil, fun _ => rfl⟩, h, Kept.refl _ _⟩
  · refine (sort_some h hl).mono ?_
    rintro e w' ⟨rfl, r, h1, h2, h3⟩
    exact ⟨rfl, r, h1, h2, h3.mono (fun k _ hk => by cases hk; rfl)⟩
end Tr
end Go.Proofs.Ytglibdggoobocaa
namespace Go.Pm
open Go Go.RowKit
theorem lastsTo_keep {r : List It} {k : Nat} {x : It} (h1 : r[k]? = some x) (h2 : ∀ y, r[k + 1]? = some y → y.i ≠ x.i) : lastsTo r (k + 1) = lastsTo r k ++ [x] := by
  rw [lastsTo_succ, h1]
  cases h : r[k + 1]? with
  | none => rfl
  | some y => simp [h2 y h]
theorem lastsTo_drop {r : List It} {k : Nat} {x y : It} (h1 : r[k]? = some x) (h2 : r[k + 1]? = some y) (h : y.i = x.i) : lastsTo r (k + 1) = lastsTo r k := by
  rw [lastsTo_succ, h1, h2]
  simp [h]
/-- What stands between two rounds of Set: the last ones so far, then what is still to be asked. -/
structure Mid (e : TypeId) (w0 : World) (g c : Nat) (r : List It) (k o : Nat) (w : World) (X : List It) : Prop where
  len : X.length = r.length
  many : o = (lastsTo r k).length
  take : X.take o = lastsTo r k
  drop : X.drop k = r.drop k
  ito : Ito e w w0.heap.size (.slice (some ⟨g, 0, none⟩) r.length c) X
  kept : Kept None w0 w
theorem Mid.ok {e : TypeId} {w0 w : World} {g c : Nat} {r X : List It} {k o : Nat} (h : Mid e w0 g c r k o w X) : o ≤ k := by rw [h.many]; exact lastsTo_len r k
theorem Mid.at {e : TypeId} {w0 w : World} {g c : Nat} {r X : List It} {k o : Nat} (h : Mid e w0 g c r k o w X) (j : Nat) (hj : k ≤ j) : X[j]? = r[j]? := by
  have h1 : (X.drop k)[j - k]? = (r.drop k)[j - k]? := by rw [h.drop]
  rwa [List.getElem?_drop, List.getElem?_drop, show k + (j - k) = j by omega] at h1
theorem Mid.go {e : TypeId} {w0 w w' : World} {g c : Nat} {r X : List It} {k o : Nat} (h : Mid e w0 g c r k o w X) (hk : Kept None w w') : Mid e w0 g c r k o w' X :=
  ⟨h.len, h.many, h.take, h.drop, h.ito.kept hk (fun _ _ h => h), h.kept.trans hk⟩
theorem Mid.skip {e : TypeId} {w0 w : World} {g c : Nat} {r X : List It} {k o : Nat} {x y : It} (h : Mid e w0 g c r k o w X) (h1 : r[k]? = some x) (h2 : r[k + 1]? = some y) (hxy : y.i = x.i) : Mid e w0 g c r (k + 1) o w X := by
  have e1 := lastsTo_drop h1 h2 hxy
  refine ⟨h.len, by rw [e1]; exact h.many, by rw [e1]; exact h.take, ?_, h.ito, h.kept⟩
  rw [← List.drop_drop, h.drop, List.drop_drop]
theorem Mid.put {e : TypeId} {w0 w w' : World} {g c : Nat} {r X : List It} {k o : Nat} {x : It} (h : Mid e w0 g c r k o w X) (hkr : k < r.length) (h1 : r[k]? = some x) (h2 : ∀ y, r[k + 1]? = some y → y.i ≠ x.i)
    (hi : Ito e w' w0.heap.size (.slice (some ⟨g, 0, none⟩) r.length c) (X.set o x)) (hk : Kept (Just g) w w') : Mid e w0 g c r (k + 1) (o + 1) w' (X.set o x) := by
  have e1 := lastsTo_keep h1 h2
  have ho := h.ok
  have hoX : o < X.length := by have := h.len; omega
  refine ⟨by rw [List.length_set]; exact h.len, by rw [e1, List.length_append, ← h.many]; rfl, ?_, ?_, hi, ?_⟩
  · rw [e1, List.take_succ_eq_append_getElem (by rw [List.length_set]; exact hoX), List.getElem_set_self, List.take_set_of_le (Nat.le_refl _), h.take]
  · rw [List.drop_set_of_lt (by omega), ← List.drop_drop, h.drop, List.drop_drop]
  · exact h.kept.then hk (fun i hi2 (e : i = g) => by
      have := (h.ito.own g (by rfl)).1
      omega)
end Go.Pm
namespace Go.Proofs.Ytglibdggoobocaa
open Go.RowKit Go.Pm

namespace Tr
/-- Two hashes, held against one another. -/
theorem neqHash (xs ys : List UInt8) (hx : xs.length = 32) (hy : ys.length = 32) : ∀ w, (binOp .neq 52 (.agg (xs.map u8v).toArray) (.agg (ys.map u8v).toArray)).run Try.prog w = .ok (.bool (!(xs == ys))) w := run_neq_hash uByte zByte uHash xs ys hx hy
theorem tail_none (w : World) (r : List It) (base n c : Nat) (h : Ito 54 w base (.slice none n c) r) : n = 0 ∧ c = 0 ∧ r = [] := by
  rcases h.2.2 with ⟨h1, h0⟩ | ⟨g, cap, cur, h1, _⟩
  · injection h1 with e1 e2 e3
    exact ⟨e2, e3, List.eq_nil_of_length_eq_zero h0⟩
  · injection h1 with e1; cases e1

set_option maxRecDepth 100000 in
set_option maxHeartbeats 8000000 in
/-- tree.Set. -/
theorem set (v1 v2 : Value) (lo hi lo' hi' : Nat) (l m : List It) (w : World) (h1 : Its w lo hi v1 l) (h2 : Its w lo' hi' v2 m) (hl : l.length + m.length ≤ 1099511627776) :
    Calls Try.prog 37 #[v1, v2] w fun e w' => ∃ v, e = .returned v ∧ Ito 54 w' w.heap.size v (setI (l ++ m)) ∧ Kept None w w' := by
  obtain ⟨a1, c1, rfl, _, _, _⟩ := h1.form
  obtain ⟨a2, c2, rfl, _, _, _⟩ := h2.form
  have k0 : Kept None w (w.alloc (.cells #[.slice a1 l.length c1, .slice a2 m.length c2] 46)) := (Kept.refl _ _).alloc _
  have hb := Blk.new w #[.slice a1 l.length c1, .slice a2 m.length c2] 46
  have i1 := h1.kept k0 (fun _ _ _ h => h)
  have i2 := h2.kept k0 (fun _ _ _ h => h)
  have HC := hid (concat _ _ _ _ _ _ _ _ l m _ hb i1 i2 hl)
  clear hb i1 i2 h1 h2
  go_enter Try.func37, Try.ntmps37
  go_wp2_with fail
  refine HC.out.mono ?_
  rintro e w1 ⟨v, rfl, hO1, k1⟩
  have hO1' := hO1.base (base' := w.heap.size) (by simp)
  have k01 := k0.trans k1
  clear HC hO1 k0 k1
  go_wp2_with fail
  refine (sort hO1' (by simpa using hl)).mono ?_
  rintro e w2 ⟨rfl, r, hst, hO, k2⟩
  have k02 : Kept None w w2 := Kept.own k01 k2 (fun q hq => (hO1'.own q hq).1)
  have hlen : r.length ≤ 1099511627776 := by rw [hst.1.length_eq]; simpa using hl
  have HS := hid (set_stable hst)
  clear hst hO1' k01 k2 hl
  rcases hO.2.2 with ⟨rfl, h0⟩ | ⟨g, c, cur, rfl, hgb, _, hnc, hcm, _⟩
  · obtain rfl := List.eq_nil_of_length_eq_zero h0
    have HO := hid hO
    have K2 := hid k02
    clear hO k02 h0 hlen
    go_wp2
    go_loopg [6, 7, 8, 19] 0 (fun _ s6 s7 s8 s19 wr => s6 = .slice none 0 0 ∧ (∃ v, s7 = v) ∧ (∃ v, s8 = v) ∧ s19 = .int .i64 0 ∧ w2 = wr)
    case atStart => exact ⟨rfl, ⟨_, rfl⟩, ⟨_, rfl⟩, rfl, rfl⟩
    case round =>
      obtain ⟨rfl, ⟨_, rfl⟩, ⟨_, rfl⟩, rfl, rfl⟩ := hrel
      go_wp2
      go_ret
      exact ⟨_, rfl, by rw [← HS.out]; exact HO.out, K2.out⟩
  · have hcm' : c ≤ 9223372036854775807 := hcm
    have hM : Mid 54 w g c r 0 0 w2 r := ⟨rfl, rfl, rfl, rfl, hO, k02⟩
    have HM := hid hM
    obtain ⟨n, hn⟩ : ∃ n, n = r.length := ⟨_, rfl⟩
    rw [← hn] at hnc hlen ⊢
    have HN := hid hn
    clear hO k02 hM hn hcm
    go_wp2
    go_loopg [6, 7, 8, 19] n (fun kx s6 s7 s8 s19 wr => ∃ (k o : Nat) (X : List It) (v7 v8 : Value), s6 = .slice (some ⟨g, 0, none⟩) o c ∧ s7 = v7 ∧ s8 = v8 ∧ s19 = .int .i64 k ∧ k ≤ n ∧ o ≤ k ∧ n - k ≤ kx ∧ Hid (Mid 54 w g c r k o wr X))
    case atStart => exact ⟨0, 0, r, _, _, rfl, rfl, rfl, rfl, Nat.zero_le _, Nat.le_refl _, Nat.le_refl _, HM⟩
    case round =>
      obtain ⟨k, o, X, v7, v8, rfl, rfl, rfl, rfl, hkn, hok, hkx, HX⟩ := hrel
      clear HM
      by_cases hlt : k < n
      · have hltz : (k : Int) < (n : Int) := by omega
        have rk : IntKind.i64.wrap ((k : Int) + 1) = (k : Int) + 1 := by rw [IntKind.wrap_i64]; omega
        obtain ⟨x, hx⟩ : ∃ x, r[k]? = some x := ⟨_, List.getElem?_eq_getElem (by have := HN.out; omega)⟩
        have hIx := HX.out.ito.its (Nat.le_refl _)
        obtain ⟨b, o', hbo, _, _, q3, hc⟩ := hIx.ne (by have := HX.out.len; have := HN.out; omega)
        obtain ⟨rfl, rfl⟩ : g = b ∧ 0 = o' := by injection hbo with e1; injection e1 with e1 e2; exact ⟨e1, e2⟩
        have hxX : X[k]? = some x := by rw [HX.out.at k (Nat.le_refl _)]; exact hx
        have hxl := hIx.1 x (List.mem_of_getElem? hxX)
        have hcx := hc k x hxX
        simp only [Nat.zero_add] at hcx
        have h64 := itC_len hxl
        have aY : AggTy Try.prog 54 (itC x).length := by rw [h64]; exact RTr.aI64
        have aY' : AggTy Try.prog 54 (itC x).toArray.size := by simpa using aY
        have k0 : Kept None wr (wr.alloc (.cells #[.int .u8 0, .int .u8 0, .int .u8 0, .int .u8 0, .int .u8 0, .int .u8 0, .int .u8 0, .int .u8 0, .int .u8 0, .int .u8 0, .int .u8 0, .int .u8 0, .int .u8 0, .int .u8 0, .int .u8 0, .int .u8 0, .int .u8 0, .int .u8 0, .int .u8 0, .int .u8 0, .int .u8 0, .int .u8 0, .int .u8 0, .int .u8 0, .int .u8 0, .int .u8 0, .int .u8 0, .int .u8 0, .int .u8 0, .int .u8 0, .int .u8 0, .int .u8 0, .int .u8 0, .int .u8 0, .int .u8 0, .int .u8 0, .int .u8 0, .int .u8 0, .int .u8 0, .int .u8 0, .int .u8 0, .int .u8 0, .int .u8 0, .int .u8 0, .int .u8 0, .int .u8 0, .int .u8 0, .int .u8 0, .int .u8 0, .int .u8 0, .int .u8 0, .int .u8 0, .int .u8 0, .int .u8 0, .int .u8 0, .int .u8 0, .int .u8 0, .int .u8 0, .int .u8 0, .int .u8 0, .int .u8 0, .int .u8 0, .int .u8 0, .int .u8 0] 54)) := (Kept.refl _ _).alloc _
        have v0 := Blk.new wr #[.int .u8 0, .int .u8 0, .int .u8 0, .int .u8 0, .int .u8 0, .int .u8 0, .int .u8 0, .int .u8 0, .int .u8 0, .int .u8 0, .int .u8 0, .int .u8 0, .int .u8 0, .int .u8 0, .int .u8 0, .int .u8 0, .int .u8 0, .int .u8 0, .int .u8 0, .int .u8 0, .int .u8 0, .int .u8 0, .int .u8 0, .int .u8 0, .int .u8 0, .int .u8 0, .int .u8 0, .int .u8 0, .int .u8 0, .int .u8 0, .int .u8 0, .int .u8 0, .int .u8 0, .int .u8 0, .int .u8 0, .int .u8 0, .int .u8 0, .int .u8 0, .int .u8 0, .int .u8 0, .int .u8 0, .int .u8 0, .int .u8 0, .int .u8 0, .int .u8 0, .int .u8 0, .int .u8 0, .int .u8 0, .int .u8 0, .int .u8 0, .int .u8 0, .int .u8 0, .int .u8 0, .int .u8 0, .int .u8 0, .int .u8 0, .int .u8 0, .int .u8 0, .int .u8 0, .int .u8 0, .int .u8 0, .int .u8 0, .int .u8 0, .int .u8 0] 54
        obtain ⟨z, hz, hR⟩ : ∃ z : Array Value, z.size = 64 ∧ Blk (wr.alloc (.cells #[.int .u8 0, .int .u8 0, .int .u8 0, .int .u8 0, .int .u8 0, .int .u8 0, .int .u8 0, .int .u8 0, .int .u8 0, .int .u8 0, .int .u8 0, .int .u8 0, .int .u8 0, .int .u8 0, .int .u8 0, .int .u8 0, .int .u8 0, .int .u8 0, .int .u8 0, .int .u8 0, .int .u8 0, .int .u8 0, .int .u8 0, .int .u8 0, .int .u8 0, .int .u8 0, .int .u8 0, .int .u8 0, .int .u8 0, .int .u8 0, .int .u8 0, .int .u8 0, .int .u8 0, .int .u8 0, .int .u8 0, .int .u8 0, .int .u8 0, .int .u8 0, .int .u8 0, .int .u8 0, .int .u8 0, .int .u8 0, .int .u8 0, .int .u8 0, .int .u8 0, .int .u8 0, .int .u8 0, .int .u8 0, .int .u8 0, .int .u8 0, .int .u8 0, .int .u8 0, .int .u8 0, .int .u8 0, .int .u8 0, .int .u8 0, .int .u8 0, .int .u8 0, .int .u8 0, .int .u8 0, .int .u8 0, .int .u8 0, .int .u8 0, .int .u8 0] 54)) wr.heap.size z 54 := ⟨_, by rfl, v0⟩
        have E := hid (hz.trans (show 64 = (itC x).toArray.size by simpa using h64.symm))
        have A1 : (itC x).toArray.all (·.oneCell') = true := all_oneCell_toArray (fun c hc => itsC_one [x] c (by simpa [itsC] using hc))
        have HXX := hid hx
        have HX0 := hid (HX.out.go k0)
        have C0 := hid hc
        have HXL := hid hxl
        have K0 := hid k0
        have H64 := hid h64
        clear v0 hc hxX hbo hz hx hIx q3 k0 h64 hxl
        go_wp2_with (first | (refine wpList_load_at (.refl _) _ _ rfl rfl hcx aY ?_) | (refine wpList_store_blk (.refl _) _ _ _ rfl rfl rfl hR aY' E.out A1 ?_; intro w5 hB5 k5) | fail)
        have hk5 : Kept None wr w5 := K0.out.then k5 (fun i hi (e : i = wr.heap.size) => by omega)
        have HX5 := hid (HX.out.go hk5)
        have HB5 := hid hB5
        have K5 := hid hk5
        clear hR k5 E hcx hk5 HX HX0 K0
        by_cases hlast : k + 1 = n
        · have hd : ((k : Int) + 1 == (n : Int)) = true := by rw [beq_iff_eq]; omega
          have HLAST := hid hlast
          clear hB5 hlast
          go_wp2_with fail
          go_quiet (fail)
          have hB6 : Blk (w5.drewN nq) wr.heap.size (itC x).toArray 54 := HB5.out.drewN nq
          have HX6 := HX5.out.go (Kept.toDrewN None w5 nq)
          generalize w5.drewN nq = w6 at hB6 HX6 ⊢
          have hO1 := Its.one w6 54 x HXL.out
          have HX7 := HX6.go ((Kept.refl None w6).alloc (.cells (itC x).toArray 54))
          have hoX : o < X.length := by have := HX7.len; have := HN.out; omega
          have hto := HX7.ito
          rw [← HN.out] at hto
          have HX8 := hid HX7
          clear HX6 HX7 HX5 HB5 K5 hd
          go_wp2_with (first | (refine wpList_load_blk (.refl _) _ _ rfl rfl hB6 aY' ?_) | (refine wpList_one_item (.refl _) _ _ rfl RTr.rtItems (by decide) rfl (by simpa using H64.out) ?_) | (at_builtin; refine wpList_append_over (u := .slice (some ⟨w6.heap.size, 0, none⟩) 1 1) (.refl _) _ _ 46 rfl RTr.rtItems hto o hoX rfl rfl hO1 ?_; intro w9 hI9 k9) | fail)
          go_roundg (n - (k + 1))
          case measure => omega
          case rel =>
            rw [HN.out] at hI9
            exact ⟨k + 1, o + 1, X.set o x, _, _, rfl, rfl, rfl, by go_num, by omega, by omega, Nat.le_refl _, HX8.out.put (by have := HN.out; omega) HXX.out (fun y hy => by
              rw [List.getElem?_eq_none (by have := HN.out; have := HLAST.out; omega)] at hy; cases hy) hI9 k9⟩
        · have hlt1 : k + 1 < n := by omega
          have hd : ((k : Int) + 1 == (n : Int)) = false := by rw [beq_eq_false_iff_ne]; omega
          have hlz : (k : Int) + 1 < (n : Int) := by omega
          obtain ⟨y, hy⟩ : ∃ y, r[k + 1]? = some y := ⟨_, List.getElem?_eq_getElem (by have := HN.out; omega)⟩
          have hI5 := HX5.out.ito.its (Nat.le_refl _)
          obtain ⟨b, o', hbo, _, _, q3, hc⟩ := hI5.ne (by have := HX5.out.len; have := HN.out; omega)
          obtain ⟨rfl, rfl⟩ : g = b ∧ 0 = o' := by injection hbo with e1; injection e1 with e1 e2; exact ⟨e1, e2⟩
          have hyX : X[k + 1]? = some y := by rw [HX5.out.at (k + 1) (by omega)]; exact hy
          have hyl := hI5.1 y (List.mem_of_getElem? hyX)
          have hcy : w5.rangeAt g ((k + 1) * 64) (y.i.map u8v) := by
            have h := rangeAt_take (hc (k + 1) y hyX) 32
            rw [Nat.zero_add] at h
            rwa [show (itC y).take 32 = y.i.map u8v from List.take_left' (by simp [hyl.1])] at h
          have hcb : w5.rangeAt wr.heap.size 0 (x.i.map u8v) := fun j c hj => by
            have hi := (List.getElem?_eq_some_iff.1 hj).1
            rw [Nat.zero_add, HB5.out.cell]
            simp only [itC, List.getElem?_toArray]
            rw [List.getElem?_append_left hi]
            exact hj
          have aHy : AggTy Try.prog 52 (y.i.map u8v).length := by rw [List.length_map, hyl.1]; exact Sp.aH
          have aHx : AggTy Try.prog 52 (x.i.map u8v).length := by rw [List.length_map, HXL.out.1]; exact Sp.aH
          have e1 := neqHash y.i x.i hyl.1 HXL.out.1
          have HY := hid hy
          clear hB5 hc hyX hy hbo q3 hI5 hlast
          go_wp2_with fail
          refine wp_region_kn w5 [] Steady.nil (Kept.refl _ _) (by kernel_rfl) (by kernel_rfl) (by kernel_rfl) ?_
          iterate 11 (refine wpPar_pure rfl (by rfl) _ (fun W hW => by
              go_simp
              exact rfl) ?_; simp only [Act.put, List.setIfInBounds_toArray, List.set_cons_zero, List.set_cons_succ])
          refine wpPar_pure rfl (by rfl) _ (fun W hW => exec_load_at rfl rfl (rangeAt_kept hcy hW) aHy) ?_; simp only [Act.put, List.setIfInBounds_toArray, List.set_cons_zero, List.set_cons_succ]
          iterate 1 (refine wpPar_pure rfl (by rfl) _ (fun W hW => by
              go_simp
              exact rfl) ?_; simp only [Act.put, List.setIfInBounds_toArray, List.set_cons_zero, List.set_cons_succ])
          refine wpPar_pure rfl (by rfl) _ (fun W hW => exec_load_at rfl rfl (rangeAt_kept hcb hW) aHx) ?_; simp only [Act.put, List.setIfInBounds_toArray, List.set_cons_zero, List.set_cons_succ]
          obtain ⟨yv, hyv⟩ : ∃ yv, yv = (y.i.map u8v).toArray := ⟨_, rfl⟩
          obtain ⟨xv, hxv⟩ : ∃ xv, xv = (x.i.map u8v).toArray := ⟨_, rfl⟩
          rw [← hyv, ← hxv] at e1
          simp only [← hyv, ← hxv]
          clear hyv hxv
          iterate 2 (refine wpPar_pure rfl (by rfl) _ (fun W hW => by
              go_simp
              exact rfl) ?_; simp only [Act.put, List.setIfInBounds_toArray, List.set_cons_zero, List.set_cons_succ])
          refine wpPar_nil (fun w6 hW hG => ?_)
          have hB6 := HB5.out.kept hW (fun h => h)
          have HX6 := HX5.out.go hW
          clear hG hW e1 hcy hcb
          have hO1 := Its.one w6 54 x HXL.out
          have HX7 := HX6.go ((Kept.refl None w6).alloc (.cells (itC x).toArray 54))
          have hoX : o < X.length := by have := HX7.len; have := HN.out; omega
          have hto := HX7.ito
          rw [← HN.out] at hto
          have HX8 := hid HX7
          have HX9 := hid HX6
          clear HX6 HX7 HX5 HB5 K5 hd
          by_cases hxy : y.i = x.i
          · have hb : (!(y.i == x.i)) = false := by simp [hxy]
            have HXY := hid hxy
            clear hxy
            rw [hb]
            go_wp2
            go_roundg (n - (k + 1))
            case measure => omega
            case rel => exact ⟨k + 1, o, X, _, _, rfl, rfl, rfl, by go_num, by omega, by omega, Nat.le_refl _, HX9.out.skip HXX.out HY.out HXY.out⟩
          · have hb : (!(y.i == x.i)) = true := by simp [hxy]
            have HXY := hid hxy
            clear hxy
            rw [hb]
            go_wp2_with (first | (refine wpList_load_blk (.refl _) _ _ rfl rfl hB6 aY' ?_) | (refine wpList_one_item (.refl _) _ _ rfl RTr.rtItems (by decide) rfl (by simpa using H64.out) ?_) | (at_builtin; refine wpList_append_over (u := .slice (some ⟨w6.heap.size, 0, none⟩) 1 1) (.refl _) _ _ 46 rfl RTr.rtItems hto o hoX rfl rfl hO1 ?_; intro w9 hI9 k9) | fail)
            go_roundg (n - (k + 1))
            case measure => omega
            case rel =>
              rw [HN.out] at hI9
              exact ⟨k + 1, o + 1, X.set o x, _, _, rfl, rfl, rfl, by go_num, by omega, by omega, Nat.le_refl _, HX8.out.put (by have := HN.out; omega) HXX.out (fun y' hy' => by
                rw [HY.out] at hy'; cases hy'; exact HXY.out) hI9 k9⟩
      · have hltz : ¬ (k : Int) < (n : Int) := by omega
        go_wp2
        go_ret
        have hk : k = r.length := by have := HN.out; omega
        have ho := HX.out.many
        refine ⟨_, rfl, ?_, HX.out.kept⟩
        have h3 := HX.out.ito.take o (by rw [HX.out.len]; have := HX.out.ok; omega)
        rw [HX.out.take, hk, lastsTo_all, HS.out] at h3
        exact h3
end Tr
end Go.Proofs.Ytglibdggoobocaa
