/- postmarklaw8.LogPaths: true. -/
import Derived.Test.YtdlnikkfpfdbbaaKnownL8
namespace Go.Proofs.Ytdlnikkfpfdbbaa
open Go.RowKit Go.Pm
namespace L8
set_option maxRecDepth 100000 in
set_option maxHeartbeats 1000000 in
theorem paths_out (v u : Value) (lo hi lo' hi' : Nat) (l m : List UInt8) (w : World) (hv : Bs w lo hi v l) (hu : Bs w lo' hi' u m) (hl : 24 < l.length ∨ m.length ≠ 3) : Calls Try.prog 4 #[v, u] w fun e w' => e = .returned (.bool true) ∧ Kept None w w' := by
  obtain ⟨a, cap, rfl, g1, g2, g3⟩ := hv.shape
  obtain ⟨a', cap', rfl, g1', g2', g3'⟩ := hu.shape
  have HK := hid (known w)
  obtain ⟨n, hn⟩ : ∃ n, n = l.length := ⟨_, rfl⟩
  obtain ⟨o, ho⟩ : ∃ n, n = m.length := ⟨_, rfl⟩
  rw [← hn, ← ho] at hl
  rw [← hn, ← ho]
  clear hv hu g1 g3 hn ho g1' g3'
  by_cases h4 : 24 < n
  · have h1 : (24 : Int) < (n : Int) := by omega
    clear hl h4
    go_enter Try.func4, Try.ntmps4
    go_wp2_with fail
    refine HK.out.mono ?_
    rintro e w1 ⟨rfl, k1⟩
    go_wp2
    go_ret
    exact ⟨rfl, k1⟩
  · have h1 : ¬ (24 : Int) < (n : Int) := by omega
    have h2 : ((o : Int) != 3) = true := by rw [bne_iff_ne]; omega
    clear hl h4
    go_enter Try.func4, Try.ntmps4
    go_wp2_with fail
    refine HK.out.mono ?_
    rintro e w1 ⟨rfl, k1⟩
    go_wp2
    go_ret
    exact ⟨rfl, k1⟩
set_option maxRecDepth 100000 in
set_option maxHeartbeats 1000000 in
theorem paths_in (v u : Value) (lo hi lo' hi' : Nat) (l m : List UInt8) (w : World) (hv : Bs w lo hi v l) (hu : Bs w lo' hi' u m) (hl : l.length ≤ 24) (hm : m.length = 3) : Calls Try.prog 4 #[v, u] w fun e w' => e = .returned (.bool true) ∧ Kept None w w' := by
  have hv0 := hv
  have hu0 := hu
  obtain ⟨a, cap, rfl, g1, g2, g3⟩ := hv.shape
  obtain ⟨a', cap', rfl, g1', g2', g3'⟩ := hu.shape
  have HK := hid (known w)
  have HL := hid (fun w1 (k : Kept None w w1) (hv : Bs w lo hi (.slice a l.length cap) l) => leaves _ _ _ l w1 (hv.kept k (fun _ _ _ h => h)) (by omega))
  rw [hm] at g1' hu0 ⊢
  have HNo := hid (fun w1 (k : Kept None w w1) (hu : Bs w lo' hi' (.slice a' 3 cap') m) => Lg.leaf _ _ _ m w1 (hu.kept k (fun _ _ _ h => h)) (by omega))
  obtain ⟨x, hx⟩ : ∃ x, x = leavesL l := ⟨_, rfl⟩
  have hxl : x.length = l.length := by rw [hx]; exact leavesL_len l
  have hx32 : H32 x := by rw [hx]; exact leavesK_h32 _ _
  obtain ⟨n, hn⟩ : ∃ n, n = l.length := ⟨_, rfl⟩
  rw [← hn] at hxl hl hv0 HL ⊢
  have HV := hid (And.intro hv0 (And.intro hu0 hx))
  obtain ⟨no, hno⟩ : ∃ r, r = leafL m := ⟨_, rfl⟩
  have lno : no.length = 32 := by rw [hno]; exact leafL_len _
  obtain ⟨r, hr⟩ : ∃ r, r = rootL x := ⟨_, rfl⟩
  have lr : r.length = 32 := by rw [hr]; exact rootL_len hx32
  have fR := fun v w hv => Lg.root x.length x v w hv (Nat.le_refl _) (by omega)
  rw [← hr] at fR
  rw [← hno] at HNo
  obtain ⟨RA, hRA⟩ : ∃ A : Array Value, A = (r.map u8v).toArray := ⟨_, rfl⟩
  obtain ⟨NA, hNA⟩ : ∃ A : Array Value, A = (no.map u8v).toArray := ⟨_, rfl⟩
  have aR : AggTy Try.prog 25 RA.size := by rw [hRA]; exact Hk.aH32 lr
  have aN : AggTy Try.prog 25 NA.size := by rw [hNA]; exact Hk.aH32 lno
  have sR : RA.size = 32 := by rw [hRA]; simpa using lr
  have sN : NA.size = 32 := by rw [hNA]; simpa using lno
  have allR : RA.all (·.oneCell') = true := by rw [hRA]; exact u8v_all' _
  have allN : NA.all (·.oneCell') = true := by rw [hNA]; exact u8v_all' _
  simp only [hashV, ← hRA] at fR
  simp only [hashV, ← hNA] at HNo
  have FR := hid fR
  have HS := hid (And.intro sR (And.intro sN (And.intro allR allN)))
  have HNA := hid (And.intro hNA lno)
  have HSZ := hid sN
  have HX := hid (And.intro hxl (And.intro hx32 (And.intro hr (And.intro hl (And.intro lr hRA)))))
  have hlz : ¬ (24 : Int) < (n : Int) := by omega
  clear hv hu hv0 hu0 g1 g3 g3' hx hxl hx32 hn hl hno lno hr lr fR hRA hNA sR sN allR allN hm
  go_enter Try.func4, Try.ntmps4
  go_wp2_with fail
  refine HK.out.mono ?_
  rintro e w1 ⟨rfl, k1⟩
  go_wp2_with fail
  refine (HL.out w1 k1 HV.out.1).mono ?_
  rintro e w2 ⟨u2, rfl, k2, p2⟩
  rw [← HV.out.2.2] at p2
  have K2 := hid (k1.trans k2)
  have P2 := p2.rh.mono (Nat.zero_le _)
  obtain ⟨a2, c2, rfl⟩ := P2.form
  rw [HX.out.1] at P2 ⊢
  have I2 := hid P2
  clear k1 k2 p2 P2 HL
  go_wp2_with fail
  refine (FR.out _ _ I2.out).mono ?_
  rintro e w3 ⟨rfl, k3⟩
  have K3 := hid (K2.out.trans k3)
  have I3 := hid (I2.out.kept k3)
  obtain ⟨z3, hz3, hZ3⟩ := Blk.any (n := 32) (Blk.new w3 #[.int .u8 0, .int .u8 0, .int .u8 0, .int .u8 0, .int .u8 0, .int .u8 0, .int .u8 0, .int .u8 0, .int .u8 0, .int .u8 0, .int .u8 0, .int .u8 0, .int .u8 0, .int .u8 0, .int .u8 0, .int .u8 0, .int .u8 0, .int .u8 0, .int .u8 0, .int .u8 0, .int .u8 0, .int .u8 0, .int .u8 0, .int .u8 0, .int .u8 0, .int .u8 0, .int .u8 0, .int .u8 0, .int .u8 0, .int .u8 0, .int .u8 0, .int .u8 0] 25) (by rfl)
  have E3 := hid (hz3.trans HS.out.1.symm)
  clear k3 hz3 I2 K2
  go_wp2_with (first | (refine wpList_store_blk rfl _ _ _ rfl rfl rfl hZ3 aR E3.out HS.out.2.2.1 ?_; intro w4 h4 k4; have k34 := k4.fresh) | fail)
  have K4 := hid (K3.out.trans k34)
  have I4 := hid (I3.out.kept k34)
  clear k4 k34 hZ3 I3 K3
  refine (HNo.out w4 K4.out HV.out.2.1).mono ?_
  rintro e w5 ⟨rfl, k5⟩
  have K5 := hid (K4.out.trans k5)
  have I5 := hid (I4.out.kept k5)
  have h5 := h4.kept k5 (fun h => h)
  obtain ⟨z5, hz5, hZ5⟩ := Blk.any (n := 32) (Blk.new w5 #[.int .u8 0, .int .u8 0, .int .u8 0, .int .u8 0, .int .u8 0, .int .u8 0, .int .u8 0, .int .u8 0, .int .u8 0, .int .u8 0, .int .u8 0, .int .u8 0, .int .u8 0, .int .u8 0, .int .u8 0, .int .u8 0, .int .u8 0, .int .u8 0, .int .u8 0, .int .u8 0, .int .u8 0, .int .u8 0, .int .u8 0, .int .u8 0, .int .u8 0, .int .u8 0, .int .u8 0, .int .u8 0, .int .u8 0, .int .u8 0, .int .u8 0, .int .u8 0] 25) (by rfl)
  have E5 := hid (hz5.trans HS.out.2.1.symm)
  clear k5 hz5 I4 K4 h4
  go_wp2_with (first | (refine wpList_store_blk rfl _ _ _ rfl rfl rfl hZ5 aN E5.out HS.out.2.2.2 ?_; intro w6 h6 k6; have k56 := k6.fresh) | fail)
  have K6 := hid (K5.out.trans k56)
  have I6 := hid (I5.out.kept k56)
  have B6 := hid (h5.kept k56 (fun h => h))
  have B7 := hid h6
  clear k6 k56 hZ5 I5 K5 h5 h6
  obtain ⟨g6, hg6⟩ : ∃ g, g = w3.heap.size := ⟨_, rfl⟩
  obtain ⟨g7, hg7⟩ : ∃ g, g = w5.heap.size := ⟨_, rfl⟩
  rw [← hg6] at B6 ⊢
  rw [← hg7] at B7 ⊢
  clear hg6 hg7 E3 E5
  go_loopg [8, 9, 10] n (fun kx s8 s9 s10 wr => ∃ (i : Nat) (u9 u10 : Value), s8 = .int .i64 i ∧ s9 = u9 ∧ s10 = u10 ∧ i ≤ n ∧ n - i ≤ kx ∧ Hid (Kept None w6 wr))
  case atStart => exact ⟨0, _, _, rfl, rfl, rfl, Nat.zero_le _, Nat.le_refl _, Kept.refl _ _⟩
  case round =>
    obtain ⟨i, u9, u10, rfl, rfl, rfl, hi, hix, HKr⟩ := hrel
    by_cases hlt : i < n
    · have hz : (i : Int) < (n : Int) := by omega
      have hi0 : (0 : Int) ≤ (i : Int) := by omega
      obtain ⟨wo, rfl⟩ : ∃ wo : World, wo = wr := ⟨_, rfl⟩
      have hix' : i < x.length := by have := HX.out.1; omega
      have io := I6.out.kept HKr.out
      have hP := Lg.path x i _ wo io (by have := HX.out.1; omega) hix'
      obtain ⟨b0, o0, hab, hlo, rx⟩ : ∃ b o, a2 = some ⟨b, o, none⟩ ∧ b < wo.heap.size ∧ wo.rangeAt b (o + i * 32) ((x[i]'hix').map u8v) := by
        obtain ⟨hi, h⟩ := io
        obtain ⟨b, o, e1, _, _, e2, e3⟩ := h.lo (by omega)
        exact ⟨b, o, e1, e2, e3 i hix'⟩
      obtain rfl := hab
      obtain ⟨xi, hxi⟩ : ∃ y, y = x[i]'hix' := ⟨_, rfl⟩
      have lxi : xi.length = 32 := by rw [hxi]; exact HX.out.2.1 _ (List.getElem_mem hix')
      have hget : x[i]? = some xi := by rw [hxi]; exact List.getElem?_eq_getElem hix'
      rw [← hxi] at rx
      obtain ⟨p, hp⟩ : ∃ p, p = pathL x i := ⟨_, rfl⟩
      have hpl : p.length ≤ n := by
        have h1 := pathL_len x.length (l := x) i (Nat.le_refl _)
        rw [← hp] at h1
        have := HX.out.1
        omega
      rw [← hp] at hP
      have c1 : checkL r n i xi p = true := by
        have h := checkL_path x i xi hget
        rwa [← HX.out.2.2.1, ← hp, HX.out.1] at h
      have c2' : checkL r n i xi (p ++ [no]) = false := by
        have h := checkL_long x i hix' r no xi
        rwa [← hp, HX.out.1] at h
      have hr32 := HX.out.2.2.2.2.1
      have hn24 := HX.out.2.2.2.1
      have f1 := fun v w hv => Lg.check r xi p n i v w hr32 lxi hv (by omega) (by omega)
      have f2 := fun v w hv => Lg.check r no p n i v w hr32 HNA.out.2 hv (by omega) (by omega)
      have f3 := fun v w hv => RLg.check r no p n i v w hr32 HNA.out.2 hv (by omega) (by omega)
      have f4 := fun v w hv => Lg.check r xi (p ++ [no]) n i v w hr32 lxi hv (by rw [List.length_append, List.length_cons, List.length_nil]; omega) (by omega)
      rw [c1] at f1
      rw [c2'] at f4
      obtain ⟨bC, hbC⟩ : ∃ b, b = checkL r n i no p := ⟨_, rfl⟩
      rw [← hbC] at f2 f3
      obtain ⟨CX, hCX⟩ : ∃ C : List Value, C = xi.map u8v := ⟨_, rfl⟩
      obtain ⟨XA, hXA⟩ : ∃ A : Array Value, A = CX.toArray := ⟨_, rfl⟩
      have aX : AggTy Try.prog 25 CX.length := by rw [hCX]; exact Hk.aH32' lxi
      simp only [hashV, ← HX.out.2.2.2.2.2, ← hCX, ← hXA, ← HNA.out.1] at f1 f2 f3 f4
      rw [← hCX] at rx
      have HP := hid hP
      have FC := hid (And.intro f1 (And.intro f2 (And.intro f3 f4)))
      have HXA := hid hXA
      have RX0 := hid rx
      have HPL := hid (And.intro hpl hn24)
      have HLO := hid hlo
      clear hP io rx hxi lxi hget hp hpl c1 c2' hr32 hn24 f1 f2 f3 f4 hbC hCX hXA hlo hix'
      go_wp2_with fail
      refine HP.out.mono ?_
      rintro e wA ⟨u4, rfl, k4, p4⟩
      obtain ⟨a9, c9, rfl⟩ := Ho.form p4
      obtain ⟨m9, hm9⟩ : ∃ m, m = p.length := ⟨_, rfl⟩
      rw [← hm9] at p4 ⊢
      obtain ⟨B9, hB9⟩ : ∃ B, B = wo.heap.size := ⟨_, rfl⟩
      rw [← hB9] at p4
      have HO := hid p4
      have KA := hid (HKr.out.trans k4)
      have HOWN : Hid (∀ q, (Value.slice a9 m9 c9).ownBlock = some q → wo.heap.size ≤ q) := hid (fun q hq => by have := (Po.own p4.2 q hq).1; omega)
      have HBS : Hid (B9 ≤ wA.heap.size) := hid (by rw [hB9]; exact k4.size)
      have HGB : Hid (b0 < wo.heap.size ∧ g6 < wo.heap.size ∧ g7 < wo.heap.size) := hid (by
        have h1 := HKr.out.size
        have h2 := B6.out.lt
        have h3 := B7.out.lt
        have h4 := HLO.out
        omega)
      have HLN : Hid (p.length ≤ 24) := hid (by have := HPL.out; omega)
      have RX := hid (rangeAt_kept RX0.out k4)
      have HSA := hid (And.intro KA.out.size hB9)
      have HW6 := hid (HKr.out.size)
      have B6g := B6
      have B7g := B7
      replace B6 := hid (B6.out.kept KA.out (fun h => h))
      replace B7 := hid (B7.out.kept KA.out (fun h => h))
      clear k4 p4 hm9 hB9 HP RX0 HLO HPL HKr
      go_wp2_with fail
      refine wp_region_plan (Kept (Of (.slice a9 m9 c9)) wA) [{ k := 12, uses := [100], pure := fun u => u = .bool true }, { k := 22, uses := [100], pure := fun u => u = .bool bC }, { k := 29, uses := [100], pure := fun u => u = .bool bC }, { k := 43, uses := [], pure := fun u => ∃ g, u = .slice (some ⟨g, 0, none⟩) 1 1, fact := fun u W => ∃ g, u = .slice (some ⟨g, 0, none⟩) 1 1 ∧ Blk W g NA 25 }, { k := 44, uses := [100, 43], spends := [100, 43], pure := fun u => ∃ a n c, u = .slice a n c, fact := fun u W => Rh 0 W u (p ++ [no]) }, { k := 45, uses := [44], pure := fun u => u = .bool false }, { k := 100, uses := [], fact := fun u W => Ho 25 W B9 (.slice a9 m9 c9) p }] [100] (by kernel_rfl) (by kernel_rfl) (by kernel_rfl) (by rfl) ?pures ((Kept.refl _ wA).drew) ?starts ?walk
      case pures =>
        intro f hf
        simp only [List.mem_cons, List.not_mem_nil, or_false] at hf
        rcases hf with rfl | rfl | rfl | rfl | rfl | rfl | rfl
        · exact ⟨_, rfl⟩
        · exact ⟨_, rfl⟩
        · exact ⟨_, rfl⟩
        · exact ⟨_, 0, rfl⟩
        · exact ⟨_, none, 0, 0, rfl⟩
        · exact ⟨_, rfl⟩
        · exact ⟨undef, trivial⟩
      case starts =>
        intro k hk
        have hk : k = 100 := by simpa using hk
        subst hk
        exact HO.out.kept ((Kept.refl None wA).drew) (fun _ _ h => h)
      iterate 3 (refine wpPar_pure rfl (by rfl) _ (fun W hW => by
          go_simp
          exact rfl) ?_; simp only [Act.put, List.setIfInBounds_toArray, List.set_cons_zero, List.set_cons_succ])
      refine wpPar_pure rfl (by kernel_rfl) _ (fun W hW => by first | exact exec_load_blk _ _ rfl rfl (B6.out.kept hW (fun h => by have h1 := HOWN.out _ h; have := HGB.out; omega)) aR | exact exec_load_blk _ _ rfl rfl (B7.out.kept hW (fun h => by have h1 := HOWN.out _ h; have := HGB.out; omega)) aN | (go_simp; exact rfl)) ?_; simp only [Act.put, List.setIfInBounds_toArray, List.set_cons_zero, List.set_cons_succ]
      refine wpPar_pure rfl (by kernel_rfl) _ (fun W hW => by
          go_simp
          exact rfl) ?_; simp only [Act.put, List.setIfInBounds_toArray, List.set_cons_zero, List.set_cons_succ]
      refine wpPar_pure rfl (by kernel_rfl) _ (fun W hW => by
          go_simp
          exact rfl) ?_; simp only [Act.put, List.setIfInBounds_toArray, List.set_cons_zero, List.set_cons_succ]
      refine wpPar_pure rfl (by kernel_rfl) _ (fun W hW => by
          go_simp
          exact rfl) ?_; simp only [Act.put, List.setIfInBounds_toArray, List.set_cons_zero, List.set_cons_succ]
      refine wpPar_pure rfl (by kernel_rfl) _ (fun W hW => by
          go_simp
          exact rfl) ?_; simp only [Act.put, List.setIfInBounds_toArray, List.set_cons_zero, List.set_cons_succ]
      refine wpPar_pure rfl (by kernel_rfl) _ (fun W hW => by
          go_simp
          exact rfl) ?_; simp only [Act.put, List.setIfInBounds_toArray, List.set_cons_zero, List.set_cons_succ]
      refine wpPar_pure rfl (by kernel_rfl) _ (fun W hW => by
          go_simp
          exact rfl) ?_; simp only [Act.put, List.setIfInBounds_toArray, List.set_cons_zero, List.set_cons_succ]
      refine wpPar_pure rfl (by kernel_rfl) (.agg XA) (fun W hW => by rw [HXA.out]; exact exec_load_at rfl rfl (range_keptS RX.out hW (fun h => by have h1 := HOWN.out _ h; have := HGB.out; omega)) aX) ?_; simp only [Act.put, List.setIfInBounds_toArray, List.set_cons_zero, List.set_cons_succ]
      refine wpPar_pure rfl (by kernel_rfl) _ (fun W hW => by
          go_simp
          exact rfl) ?_; simp only [Act.put, List.setIfInBounds_toArray, List.set_cons_zero, List.set_cons_succ]
      refine wpPar_adds rfl (by kernel_rfl) (fun W hW hd => ?_) (fun v12 hv => ?_)
      · unfold Gives
        have rP : Rh 0 W (.slice a9 m9 c9) p := (Ho.rh (hd 100 (List.Mem.head _) : Ho 25 W B9 (.slice a9 m9 c9) p)).mono (Nat.zero_le _)
        go_simp
        refine gives_call (FC.out.1 _ W rP) ?_
        rintro e w3 ⟨rfl, k3⟩
        refine ⟨_, rfl, hW.then k3 (fun _ _ h => h.elim), rfl, trivial, keeps_of fun f hf hs _ hne u hfu => ?_⟩
        simp only [List.mem_cons, List.not_mem_nil, or_false] at hf
        rcases hf with rfl | rfl | rfl | rfl | rfl | rfl | rfl
        · exact absurd rfl hne
        · exact hfu
        · exact hfu
        · (obtain ⟨g, e1, e3⟩ := hfu; exact ⟨g, e1, e3.kept k3 (fun h => h)⟩)
        · exact Rh.kept hfu k3
        · exact hfu
        · exact Ho.kept hfu k3 (fun _ _ h => h)
      obtain rfl : v12 = .bool true := hv
      simp only [Act.put, List.setIfInBounds_toArray, List.set_cons_zero, List.set_cons_succ]
      refine wpPar_pure rfl (by kernel_rfl) _ (fun W hW => by
          go_simp
          exact rfl) ?_; simp only [Act.put, List.setIfInBounds_toArray, List.set_cons_zero, List.set_cons_succ]
      iterate 2 (refine wpPar_pure rfl (by rfl) _ (fun W hW => by
          go_simp
          exact rfl) ?_; simp only [Act.put, List.setIfInBounds_toArray, List.set_cons_zero, List.set_cons_succ])
      refine wpPar_pure rfl (by kernel_rfl) _ (fun W hW => by first | exact exec_load_blk _ _ rfl rfl (B6.out.kept hW (fun h => by have h1 := HOWN.out _ h; have := HGB.out; omega)) aR | exact exec_load_blk _ _ rfl rfl (B7.out.kept hW (fun h => by have h1 := HOWN.out _ h; have := HGB.out; omega)) aN | (go_simp; exact rfl)) ?_; simp only [Act.put, List.setIfInBounds_toArray, List.set_cons_zero, List.set_cons_succ]
      refine wpPar_pure rfl (by kernel_rfl) _ (fun W hW => by
          go_simp
          exact rfl) ?_; simp only [Act.put, List.setIfInBounds_toArray, List.set_cons_zero, List.set_cons_succ]
      refine wpPar_pure rfl (by kernel_rfl) _ (fun W hW => by
          go_simp
          exact rfl) ?_; simp only [Act.put, List.setIfInBounds_toArray, List.set_cons_zero, List.set_cons_succ]
      refine wpPar_pure rfl (by kernel_rfl) _ (fun W hW => by
          go_simp
          exact rfl) ?_; simp only [Act.put, List.setIfInBounds_toArray, List.set_cons_zero, List.set_cons_succ]
      refine wpPar_pure rfl (by kernel_rfl) _ (fun W hW => by first | exact exec_load_blk _ _ rfl rfl (B6.out.kept hW (fun h => by have h1 := HOWN.out _ h; have := HGB.out; omega)) aR | exact exec_load_blk _ _ rfl rfl (B7.out.kept hW (fun h => by have h1 := HOWN.out _ h; have := HGB.out; omega)) aN | (go_simp; exact rfl)) ?_; simp only [Act.put, List.setIfInBounds_toArray, List.set_cons_zero, List.set_cons_succ]
      refine wpPar_pure rfl (by kernel_rfl) _ (fun W hW => by
          go_simp
          exact rfl) ?_; simp only [Act.put, List.setIfInBounds_toArray, List.set_cons_zero, List.set_cons_succ]
      refine wpPar_adds rfl (by kernel_rfl) (fun W hW hd => ?_) (fun v22 hv => ?_)
      · unfold Gives
        have rP : Rh 0 W (.slice a9 m9 c9) p := (Ho.rh (hd 100 (List.Mem.head _) : Ho 25 W B9 (.slice a9 m9 c9) p)).mono (Nat.zero_le _)
        go_simp
        refine gives_call (FC.out.2.1 _ W rP) ?_
        rintro e w3 ⟨rfl, k3⟩
        refine ⟨_, rfl, hW.then k3 (fun _ _ h => h.elim), rfl, trivial, keeps_of fun f hf hs _ hne u hfu => ?_⟩
        simp only [List.mem_cons, List.not_mem_nil, or_false] at hf
        rcases hf with rfl | rfl | rfl | rfl | rfl | rfl | rfl
        · exact hfu
        · exact absurd rfl hne
        · exact hfu
        · (obtain ⟨g, e1, e3⟩ := hfu; exact ⟨g, e1, e3.kept k3 (fun h => h)⟩)
        · exact Rh.kept hfu k3
        · exact hfu
        · exact Ho.kept hfu k3 (fun _ _ h => h)
      obtain rfl : v22 = .bool bC := hv
      simp only [Act.put, List.setIfInBounds_toArray, List.set_cons_zero, List.set_cons_succ]
      refine wpPar_pure rfl (by kernel_rfl) _ (fun W hW => by first | exact exec_load_blk _ _ rfl rfl (B6.out.kept hW (fun h => by have h1 := HOWN.out _ h; have := HGB.out; omega)) aR | exact exec_load_blk _ _ rfl rfl (B7.out.kept hW (fun h => by have h1 := HOWN.out _ h; have := HGB.out; omega)) aN | (go_simp; exact rfl)) ?_; simp only [Act.put, List.setIfInBounds_toArray, List.set_cons_zero, List.set_cons_succ]
      refine wpPar_pure rfl (by kernel_rfl) _ (fun W hW => by
          go_simp
          exact rfl) ?_; simp only [Act.put, List.setIfInBounds_toArray, List.set_cons_zero, List.set_cons_succ]
      refine wpPar_pure rfl (by kernel_rfl) _ (fun W hW => by
          go_simp
          exact rfl) ?_; simp only [Act.put, List.setIfInBounds_toArray, List.set_cons_zero, List.set_cons_succ]
      refine wpPar_pure rfl (by kernel_rfl) _ (fun W hW => by
          go_simp
          exact rfl) ?_; simp only [Act.put, List.setIfInBounds_toArray, List.set_cons_zero, List.set_cons_succ]
      refine wpPar_pure rfl (by kernel_rfl) _ (fun W hW => by first | exact exec_load_blk _ _ rfl rfl (B6.out.kept hW (fun h => by have h1 := HOWN.out _ h; have := HGB.out; omega)) aR | exact exec_load_blk _ _ rfl rfl (B7.out.kept hW (fun h => by have h1 := HOWN.out _ h; have := HGB.out; omega)) aN | (go_simp; exact rfl)) ?_; simp only [Act.put, List.setIfInBounds_toArray, List.set_cons_zero, List.set_cons_succ]
      refine wpPar_pure rfl (by kernel_rfl) _ (fun W hW => by
          go_simp
          exact rfl) ?_; simp only [Act.put, List.setIfInBounds_toArray, List.set_cons_zero, List.set_cons_succ]
      refine wpPar_adds rfl (by kernel_rfl) (fun W hW hd => ?_) (fun v29 hv => ?_)
      · unfold Gives
        have rP : Rh 0 W (.slice a9 m9 c9) p := (Ho.rh (hd 100 (List.Mem.head _) : Ho 25 W B9 (.slice a9 m9 c9) p)).mono (Nat.zero_le _)
        go_simp
        refine gives_call (FC.out.2.2.1 _ W rP) ?_
        rintro e w3 ⟨rfl, k3⟩
        refine ⟨_, rfl, hW.then k3 (fun _ _ h => h.elim), rfl, trivial, keeps_of fun f hf hs _ hne u hfu => ?_⟩
        simp only [List.mem_cons, List.not_mem_nil, or_false] at hf
        rcases hf with rfl | rfl | rfl | rfl | rfl | rfl | rfl
        · exact hfu
        · exact hfu
        · exact absurd rfl hne
        · (obtain ⟨g, e1, e3⟩ := hfu; exact ⟨g, e1, e3.kept k3 (fun h => h)⟩)
        · exact Rh.kept hfu k3
        · exact hfu
        · exact Ho.kept hfu k3 (fun _ _ h => h)
      obtain rfl : v29 = .bool bC := hv
      simp only [Act.put, List.setIfInBounds_toArray, List.set_cons_zero, List.set_cons_succ]
      refine wpPar_pure rfl (by kernel_rfl) _ (fun W hW => by
          go_simp
          exact rfl) ?_; simp only [Act.put, List.setIfInBounds_toArray, List.set_cons_zero, List.set_cons_succ]
      iterate 2 (refine wpPar_pure rfl (by rfl) _ (fun W hW => by
          go_simp
          exact rfl) ?_; simp only [Act.put, List.setIfInBounds_toArray, List.set_cons_zero, List.set_cons_succ])
      refine wpPar_pure rfl (by kernel_rfl) _ (fun W hW => by first | exact exec_load_blk _ _ rfl rfl (B6.out.kept hW (fun h => by have h1 := HOWN.out _ h; have := HGB.out; omega)) aR | exact exec_load_blk _ _ rfl rfl (B7.out.kept hW (fun h => by have h1 := HOWN.out _ h; have := HGB.out; omega)) aN | (go_simp; exact rfl)) ?_; simp only [Act.put, List.setIfInBounds_toArray, List.set_cons_zero, List.set_cons_succ]
      refine wpPar_pure rfl (by kernel_rfl) _ (fun W hW => by
          go_simp
          exact rfl) ?_; simp only [Act.put, List.setIfInBounds_toArray, List.set_cons_zero, List.set_cons_succ]
      refine wpPar_pure rfl (by kernel_rfl) _ (fun W hW => by
          go_simp
          exact rfl) ?_; simp only [Act.put, List.setIfInBounds_toArray, List.set_cons_zero, List.set_cons_succ]
      refine wpPar_pure rfl (by kernel_rfl) _ (fun W hW => by
          go_simp
          exact rfl) ?_; simp only [Act.put, List.setIfInBounds_toArray, List.set_cons_zero, List.set_cons_succ]
      refine wpPar_pure rfl (by kernel_rfl) _ (fun W hW => by
          go_simp
          exact rfl) ?_; simp only [Act.put, List.setIfInBounds_toArray, List.set_cons_zero, List.set_cons_succ]
      refine wpPar_pure rfl (by kernel_rfl) _ (fun W hW => by
          go_simp
          exact rfl) ?_; simp only [Act.put, List.setIfInBounds_toArray, List.set_cons_zero, List.set_cons_succ]
      refine wpPar_pure rfl (by kernel_rfl) _ (fun W hW => by
          go_simp
          exact rfl) ?_; simp only [Act.put, List.setIfInBounds_toArray, List.set_cons_zero, List.set_cons_succ]
      refine wpPar_pure rfl (by kernel_rfl) (.agg XA) (fun W hW => by rw [HXA.out]; exact exec_load_at rfl rfl (range_keptS RX.out hW (fun h => by have h1 := HOWN.out _ h; have := HGB.out; omega)) aX) ?_; simp only [Act.put, List.setIfInBounds_toArray, List.set_cons_zero, List.set_cons_succ]
      refine wpPar_pure rfl (by kernel_rfl) _ (fun W hW => by
          go_simp
          exact rfl) ?_; simp only [Act.put, List.setIfInBounds_toArray, List.set_cons_zero, List.set_cons_succ]
      refine wpPar_pure rfl (by kernel_rfl) _ (fun W hW => by first | exact exec_load_blk _ _ rfl rfl (B6.out.kept hW (fun h => by have h1 := HOWN.out _ h; have := HGB.out; omega)) aR | exact exec_load_blk _ _ rfl rfl (B7.out.kept hW (fun h => by have h1 := HOWN.out _ h; have := HGB.out; omega)) aN | (go_simp; exact rfl)) ?_; simp only [Act.put, List.setIfInBounds_toArray, List.set_cons_zero, List.set_cons_succ]
      refine wpPar_adds rfl (by kernel_rfl) (fun W hW hd => ?_) (fun v43 hv => ?_)
      · unfold Gives
        rw [exec_one_item 23 (.tmp 81) rfl Hk.rtHashes (by decide) (A := NA) rfl HSZ.out]
        have kS : Kept None W (W.alloc (.cells NA 25)) := (Kept.refl None W).alloc _
        refine ⟨hW.then kS (fun _ _ h => h.elim), ⟨_, rfl⟩, ⟨_, rfl, Blk.new _ _ _⟩, keeps_of fun f hf hs _ hne u hfu => ?_⟩
        simp only [List.mem_cons, List.not_mem_nil, or_false] at hf
        rcases hf with rfl | rfl | rfl | rfl | rfl | rfl | rfl
        · exact hfu
        · exact hfu
        · exact hfu
        · exact absurd rfl hne
        · exact Rh.kept hfu kS
        · exact hfu
        · exact Ho.kept hfu kS (fun _ _ h => h)
      obtain ⟨g43, rfl⟩ : ∃ g, v43 = .slice (some ⟨g, 0, none⟩) 1 1 := hv
      simp only [Act.put, List.setIfInBounds_toArray, List.set_cons_zero, List.set_cons_succ]
      refine wpPar_adds rfl (by kernel_rfl) (fun W hW hd => ?_) (fun v44 hv => ?_)
      · have hO : Ho 25 W B9 (.slice a9 m9 c9) p := hd 100 (List.Mem.head _)
        obtain ⟨g, hgg, hg3⟩ : ∃ g, Value.slice (some ⟨g43, 0, none⟩) 1 1 = .slice (some ⟨g, 0, none⟩) 1 1 ∧ Blk W g NA 25 := hd 43 (List.Mem.tail _ (List.Mem.head _))
        obtain rfl : g43 = g := by simpa using hgg
        rw [HNA.out.1] at hg3
        have hu := Hs.ofBlk hg3 HNA.out.2
        have hsz := hW.size
        refine gives_append_po _ _ 23 rfl Hk.rtHashes (by decide) rfl rfl hO.2 hu.2 (hsC_one _) (by rw [hsC_len, hsC_len]; have := HLN.out; simp; omega) (by have := HBS.out; omega) ?_
        intro a' n' c' W' hP kS o9
        refine ⟨hW.trans kS, ⟨_, _, _, rfl⟩, (Ho.rh (⟨hO.1.append hu.1, by rw [hsC_append]; exact hP⟩ : Ho 25 W' B9 (.slice a' n' c') (p ++ [no]))).mono (Nat.zero_le _), keeps_of fun f hf hs _ hne u hfu => ?_⟩
        simp only [List.mem_cons, List.not_mem_nil, or_false] at hf
        rcases hf with rfl | rfl | rfl | rfl | rfl | rfl | rfl
        · exact hfu
        · exact hfu
        · exact hfu
        · exact absurd (List.Mem.tail _ (List.Mem.head _)) hs
        · exact absurd rfl hne
        · exact hfu
        · exact absurd (List.Mem.head _) hs
      obtain ⟨a44, n44, c44, rfl⟩ : ∃ a n c, v44 = .slice a n c := hv
      simp only [Act.put, List.setIfInBounds_toArray, List.set_cons_zero, List.set_cons_succ]
      refine wpPar_adds rfl (by kernel_rfl) (fun W hW hd => ?_) (fun v45 hv => ?_)
      · unfold Gives
        go_simp
        refine gives_call (FC.out.2.2.2 _ W (hd 44 (List.Mem.head _))) ?_
        rintro e w3 ⟨rfl, k3⟩
        refine ⟨_, rfl, hW.then k3 (fun _ _ h => h.elim), rfl, trivial, keeps_of fun f hf hs _ hne u hfu => ?_⟩
        simp only [List.mem_cons, List.not_mem_nil, or_false] at hf
        rcases hf with rfl | rfl | rfl | rfl | rfl | rfl | rfl
        · exact hfu
        · exact hfu
        · exact hfu
        · (obtain ⟨g, e1, e3⟩ := hfu; exact ⟨g, e1, e3.kept k3 (fun h => h)⟩)
        · exact Rh.kept hfu k3
        · exact absurd rfl hne
        · exact Ho.kept hfu k3 (fun _ _ h => h)
      obtain rfl : v45 = .bool false := hv
      simp only [Act.put, List.setIfInBounds_toArray, List.set_cons_zero, List.set_cons_succ]
      iterate 1 (refine wpPar_pure rfl (by rfl) _ (fun W hW => by
          go_simp
          exact rfl) ?_; simp only [Act.put, List.setIfInBounds_toArray, List.set_cons_zero, List.set_cons_succ])
      refine wpPar_nil (fun W hW hG => ?_)
      have KR : Hid (Kept None w6 W) := hid (KA.out.then hW (fun q hq h => by have h1 := HOWN.out q h; have h2 := HSA.out; have := HW6.out; omega))
      clear hG hW
      cases bC <;> (
        go_wp2
        go_roundg (n - (i + 1))
        case measure => omega
        case rel => exact ⟨i + 1, _, _, by go_num, rfl, rfl, by omega, Nat.le_refl _, KR⟩)
    · have hz : ¬ (i : Int) < (n : Int) := by omega
      go_wp2
      go_ret
      exact ⟨rfl, K6.out.trans HKr.out⟩
/-- LogPaths. -/
theorem paths (v u : Value) (lo hi lo' hi' : Nat) (l m : List UInt8) (w : World) (hv : Bs w lo hi v l) (hu : Bs w lo' hi' u m) : Calls Try.prog 4 #[v, u] w fun e w' => e = .returned (.bool true) ∧ Kept None w w' := by
  by_cases h : 24 < l.length ∨ m.length ≠ 3
  · exact paths_out v u lo hi lo' hi' l m w hv hu h
  · exact paths_in v u lo hi lo' hi' l m w hv hu (by omega) (by omega)
end L8
end Go.Proofs.Ytdlnikkfpfdbbaa
