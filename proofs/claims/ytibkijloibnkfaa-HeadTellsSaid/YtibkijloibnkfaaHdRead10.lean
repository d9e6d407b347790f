/- Package head, Read: by contract. -/
import Derived.Test.YtibkijloibnkfaaHdA10
import Derived.Test.YtibkijloibnkfaaPad7
namespace Go.Proofs.Ytibkijloibnkfaa
open Go.RowKit Go.Pm
namespace Hp
set_option maxRecDepth 100000 in
set_option maxHeartbeats 8000000 in
theorem fields (rr lo hi : Nat) (l : List UInt8) (w : World) (hr : Bin.Rd w lo hi rr ⟨l, 0⟩) (hlo : hi ≤ rr) (hl : l.length ≤ 512) :
    Calls Try.prog 41 #[.pointer (some ⟨rr, 0, none⟩)] w fun e w' => e = .returned (hdV (headOf wholeI l)) ∧ Kept (Just rr) w w' := by
  rw [← stAt_zero] at hr
  have hst : ∀ t, (stAt l t).l.length ≤ 512 := fun t => by
    unfold stAt
    split
    · simp only [List.length_drop]; omega
    · simp
  have n0 := fun W h => Bin.rnum rr lo hi (stAt l 0) W h hlo
  rw [stAt_num] at n0
  have n8 := fun W h => Bin.rnum rr lo hi (stAt l 8) W h hlo
  rw [stAt_num] at n8
  have n16 := fun W h => Bin.rnum rr lo hi (stAt l 16) W h hlo
  rw [stAt_num] at n16
  have n88 := fun W h => Bin.rnum rr lo hi (stAt l 88) W h hlo
  rw [stAt_num] at n88
  rw [← St.nat_eq] at n88
  have n96 := fun W h => Bin.rnum rr lo hi (stAt l 96) W h hlo
  rw [stAt_num] at n96
  rw [← St.nat_eq] at n96
  have n24 := fun W h => Bin.rraw rr lo hi (stAt l 24) 32 W h (by decide) (by decide) hlo (by have := hst 24; omega)
  rw [show (stAt l 24).rawS 32 = stAt l (24 + 32) from stAt_raw l 24 32] at n24
  have p24 := padO_raw (stAt l 24)
  have q24 := raw32 (stAt l 24)
  obtain ⟨raw24, hw24⟩ : ∃ x, x = (stAt l 24).raw 32 := ⟨_, rfl⟩
  rw [← hw24] at n24 p24 q24
  have n56 := fun W h => Bin.rraw rr lo hi (stAt l 56) 32 W h (by decide) (by decide) hlo (by have := hst 56; omega)
  rw [show (stAt l 56).rawS 32 = stAt l (56 + 32) from stAt_raw l 56 32] at n56
  have p56 := padO_raw (stAt l 56)
  have q56 := raw32 (stAt l 56)
  obtain ⟨raw56, hw56⟩ : ∃ x, x = (stAt l 56).raw 32 := ⟨_, rfl⟩
  rw [← hw56] at n56 p56 q56
  rw [show 0 + 8 = 8 from rfl] at n0
  rw [show 8 + 8 = 16 from rfl] at n8
  rw [show 16 + 8 = 24 from rfl] at n16
  rw [show 24 + 32 = 56 from rfl] at n24
  rw [show 56 + 32 = 88 from rfl] at n56
  rw [show 88 + 8 = 96 from rfl] at n88
  rw [show 96 + 8 = 104 from rfl] at n96
  have g0 := St.num_ge (stAt l 0)
  have j0 := St.num_lt (stAt l 0)
  have g8 := St.num_ge (stAt l 8)
  have j8 := St.num_lt (stAt l 8)
  have g16 := St.num_ge (stAt l 16)
  have j16 := St.num_lt (stAt l 16)
  have hfin : headOf wholeI l = ⟨wholeI (stAt l 0).num, wholeI (stAt l 8).num, wholeI (stAt l 16).num, hashO (stAt l 24), hashO (stAt l 56), (stAt l 88).nat, (stAt l 96).nat⟩ := rfl
  obtain ⟨x0, hx0⟩ : ∃ x, x = (stAt l 0).num := ⟨_, rfl⟩
  rw [← hx0] at n0 g0 j0 hfin
  obtain ⟨x8, hx8⟩ : ∃ x, x = (stAt l 8).num := ⟨_, rfl⟩
  rw [← hx8] at n8 g8 j8 hfin
  obtain ⟨x16, hx16⟩ : ∃ x, x = (stAt l 16).num := ⟨_, rfl⟩
  rw [← hx16] at n16 g16 j16 hfin
  obtain ⟨x24, hx24⟩ : ∃ x, x = hashO (stAt l 24) := ⟨_, rfl⟩
  have k24 : x24.length = 32 := by rw [hx24]; exact hashO_len _
  rw [← hx24] at p24 hfin
  obtain ⟨x56, hx56⟩ : ∃ x, x = hashO (stAt l 56) := ⟨_, rfl⟩
  have k56 : x56.length = 32 := by rw [hx56]; exact hashO_len _
  rw [← hx56] at p56 hfin
  obtain ⟨x88, hx88⟩ : ∃ x, x = (stAt l 88).nat := ⟨_, rfl⟩
  have k88 : x88 < 18446744073709551616 := by rw [hx88]; exact St.nat_lt _
  rw [← hx88] at n88 hfin
  obtain ⟨x96, hx96⟩ : ∃ x, x = (stAt l 96).nat := ⟨_, rfl⟩
  have k96 : x96 < 18446744073709551616 := by rw [hx96]; exact St.nat_lt _
  rw [← hx96] at n96 hfin
  obtain ⟨S0, hS0⟩ : ∃ S, S = stAt l 0 := ⟨_, rfl⟩
  rw [← hS0] at n0 hr
  obtain ⟨S8, hS8⟩ : ∃ S, S = stAt l 8 := ⟨_, rfl⟩
  rw [← hS8] at n8 n0
  obtain ⟨S16, hS16⟩ : ∃ S, S = stAt l 16 := ⟨_, rfl⟩
  rw [← hS16] at n16 n8
  obtain ⟨S24, hS24⟩ : ∃ S, S = stAt l 24 := ⟨_, rfl⟩
  rw [← hS24] at n24 n16
  obtain ⟨S56, hS56⟩ : ∃ S, S = stAt l 56 := ⟨_, rfl⟩
  rw [← hS56] at n56 n24
  obtain ⟨S88, hS88⟩ : ∃ S, S = stAt l 88 := ⟨_, rfl⟩
  rw [← hS88] at n88 n56
  obtain ⟨S96, hS96⟩ : ∃ S, S = stAt l 96 := ⟨_, rfl⟩
  rw [← hS96] at n96 n88
  obtain ⟨S104, hS104⟩ : ∃ S, S = stAt l 104 := ⟨_, rfl⟩
  rw [← hS104] at n96
  obtain ⟨v0, hv0⟩ : ∃ v, v = wholeI x0 := ⟨_, rfl⟩
  have m0 : min x0 9223372036854775807 = v0 := hv0.symm
  have u0 : IntKind.i64.wrap v0 = v0 := by rw [IntKind.wrap_i64, hv0]; unfold wholeI; omega
  obtain ⟨v8, hv8⟩ : ∃ v, v = wholeI x8 := ⟨_, rfl⟩
  have m8 : min x8 9223372036854775807 = v8 := hv8.symm
  have u8 : IntKind.i64.wrap v8 = v8 := by rw [IntKind.wrap_i64, hv8]; unfold wholeI; omega
  obtain ⟨v16, hv16⟩ : ∃ v, v = wholeI x16 := ⟨_, rfl⟩
  have m16 : min x16 9223372036854775807 = v16 := hv16.symm
  have u16 : IntKind.i64.wrap v16 = v16 := by rw [IntKind.wrap_i64, hv16]; unfold wholeI; omega
  rw [← hv0, ← hv8, ← hv16] at hfin
  obtain ⟨H0, hH0⟩ : ∃ h : Hd, h = zeroHd := ⟨_, rfl⟩
  obtain ⟨H1, hH1⟩ : ∃ h : Hd, h = { zeroHd with e := v0 } := ⟨_, rfl⟩
  obtain ⟨H2, hH2⟩ : ∃ h : Hd, h = { zeroHd with e := v0, t := v8 } := ⟨_, rfl⟩
  obtain ⟨H3, hH3⟩ : ∃ h : Hd, h = { zeroHd with e := v0, t := v8, c := v16 } := ⟨_, rfl⟩
  obtain ⟨H4, hH4⟩ : ∃ h : Hd, h = { zeroHd with e := v0, t := v8, c := v16, root := x24 } := ⟨_, rfl⟩
  obtain ⟨H5, hH5⟩ : ∃ h : Hd, h = { zeroHd with e := v0, t := v8, c := v16, root := x24, log := x56 } := ⟨_, rfl⟩
  obtain ⟨H6, hH6⟩ : ∃ h : Hd, h = { zeroHd with e := v0, t := v8, c := v16, root := x24, log := x56, r := x88 } := ⟨_, rfl⟩
  obtain ⟨H7, hH7⟩ : ∃ h : Hd, h = headOf wholeI l := ⟨_, rfl⟩
  rw [← hH7] at hfin ⊢
  have o0 : H0.Ok := by rw [hH0]; exact zeroHd_ok
  have o3 : H3.Ok := by rw [hH3]; exact zeroHd_ok
  have o4 : H4.Ok := by rw [hH4]; exact ⟨k24, rfl, zeroHd_ok.2.2⟩
  have o5 : H5.Ok := by rw [hH5]; exact ⟨k24, k56, zeroHd_ok.2.2⟩
  have o6 : H6.Ok := by rw [hH6]; exact ⟨k24, k56, k88, zeroHd_ok.2.2.2⟩
  have o7 : H7.Ok := by rw [hfin]; exact ⟨k24, k56, k88, k96⟩
  have e1 : (hdC H0).toArray.setIfInBounds 0 (.int .i64 v0) = (hdC H1).toArray := by rw [hH0, hH1]; exact hd_set_e _ _
  have e2 : (hdC H1).toArray.setIfInBounds 1 (.int .i64 v8) = (hdC H2).toArray := by rw [hH1, hH2]; exact hd_set_t _ _
  have e3 : (hdC H2).toArray.setIfInBounds 2 (.int .i64 v16) = (hdC H3).toArray := by rw [hH2, hH3]; exact hd_set_c _ _
  have e4 : (hdC H3).take 3 ++ x24.map u8v ++ (hdC H3).drop (3 + 32) = hdC H4 := by rw [hd_cut_root o3, hH3, hH4]
  have e5 : (hdC H4).take 35 ++ x56.map u8v ++ (hdC H4).drop (35 + 32) = hdC H5 := by rw [hd_cut_log o4, hH4, hH5]
  have y4 : (hdC H3).take 3 ++ zero32.map u8v ++ (hdC H3).drop (3 + 32) = hdC H3 := by rw [hd_cut_root o3, hH3]; rfl
  have y5 : (hdC H4).take 35 ++ zero32.map u8v ++ (hdC H4).drop (35 + 32) = hdC H4 := by rw [hd_cut_log o4, hH4]; rfl
  have e6 : (hdC H5).toArray.setIfInBounds 67 (.int .u64 (x88 : Int)) = (hdC H6).toArray := by rw [hd_set_r o5, hH5, hH6]
  have e7 : (hdC H6).toArray.setIfInBounds 68 (.int .u64 (x96 : Int)) = (hdC H7).toArray := by rw [hd_set_s o6, hH6, hfin]
  have aF : AggTy Try.prog 28 (hdC H7).toArray.size := aHd' o7
  have sF : 69 = (hdC H7).toArray.size := (hdC_size o7).symm
  have HE := hid (And.intro e1 (And.intro e2 (And.intro e3 (And.intro e4 (And.intro e5 (And.intro e6 e7))))))
  have HY := hid (And.intro y4 y5)
  have HO := hid (And.intro o5 (And.intro o6 (And.intro o3 o4)))
  have HN := hid (And.intro n0 (And.intro n8 (And.intro n16 (And.intro n24 (And.intro n56 (And.intro n88 n96))))))
  have HP := hid (And.intro p24 (And.intro q24 (And.intro p56 q56)))
  have HM := hid (And.intro m0 (And.intro m8 m16))
  have HU := hid (And.intro u0 (And.intro u8 u16))
  have HG := hid (And.intro g0 (And.intro j0 (And.intro g8 (And.intro j8 (And.intro g16 j16)))))
  have HV := hid (And.intro hv0 (And.intro hv8 hv16))
  have k1 : Kept (Just rr) w ((w.alloc (.cells Try.zeroCells28 28)).alloc (.cells Try.zeroCells28 28)) := ((Kept.refl _ _).alloc _).alloc _
  have b1 : Blk ((w.alloc (.cells Try.zeroCells28 28)).alloc (.cells Try.zeroCells28 28)) (w.heap.size + 1) (hdC H0).toArray 28 := by
    rw [hH0]
    exact Blk.new2 w _ _ _
  obtain ⟨Z, hZ, z1⟩ := Blk.any (n := 69) (show Blk ((w.alloc (.cells Try.zeroCells28 28)).alloc (.cells Try.zeroCells28 28)) w.heap.size Try.zeroCells28 28 from (Blk.new w _ _).alloc _) (by rfl)
  have SZ := hid (hZ.trans sF)
  have r1 : Bin.Rd ((w.alloc (.cells Try.zeroCells28 28)).alloc (.cells Try.zeroCells28 28)) lo hi rr S0 := hr.kept (((Kept.refl None w).alloc _).alloc _) (fun _ _ _ h => h) (fun h => h)
  have hrw := hid (And.intro hr.lt hlo)
  clear hr hlo hl hst n0 n8 n16 n24 n56 n88 n96 p24 q24 p56 q56 hw24 hw56 m0 m8 m16 u0 u8 u16 g0 g8 g16 j0 j8 j16 hv0 hv8 hv16 hfin hx0 hx8 hx16 hx24 hx56 hx88 hx96 hS0 hS8 hS16 hS24 hS56 hS88 hS96 hS104 hH0 hH1 hH2 hH3 hH4 hH5 hH6 hH7 k24 k56 k88 k96 o0 o3 o4 o5 o6 e1 e2 e3 e4 e5 e6 e7 y4 y5 hZ sF
  go_enter Try.func41, Try.ntmps41
  go_wp2_with fail
  refine Calls.nm ?_
  intro w1 ew
  rw [← ew] at k1 b1 z1 r1
  clear ew
  refine (HN.out.1 w1 r1).mono ?_
  rintro e w2 ⟨rfl, kn, r2⟩
  have k2 := k1.trans kn
  have b2 := b1.kept kn (fun h => by have h : w.heap.size + 1 = rr := h; have := hrw.out; omega)
  have z2 := z1.kept kn (fun h => by have h : w.heap.size = rr := h; have := hrw.out; omega)
  clear k1 b1 z1 r1 kn
  have c2 := hd_c0 b2
  have f2 := b2.free 0
  have b3 : Blk (w2.setCell ⟨w.heap.size + 1, 0, none⟩ (.int .i64 v0)) (w.heap.size + 1) (hdC H1).toArray 28 := HE.out.1 ▸ b2.set 0 _
  have z3 : Blk (w2.setCell ⟨w.heap.size + 1, 0, none⟩ (.int .i64 v0)) w.heap.size Z 28 := z2.setOther (by show w.heap.size ≠ w.heap.size + 1; omega) _
  have k3 : Kept (Just rr) w (w2.setCell ⟨w.heap.size + 1, 0, none⟩ (.int .i64 v0)) := k2.setNew (Nat.le_succ _) 0 _
  have r3 : Bin.Rd (w2.setCell ⟨w.heap.size + 1, 0, none⟩ (.int .i64 v0)) lo hi rr S8 := r2.kept (Kept.one w2 (w.heap.size + 1) 0 _) (fun k _ h1 h => by have h : k = w.heap.size + 1 := h; have := hrw.out; omega) (fun h => by have h : rr = w.heap.size + 1 := h; have := hrw.out; omega)
  have mm := HM.out.1
  have uu := HU.out.1
  have gg := HG.out.1
  clear k2 b2 z2 r2
  go_wp2_with fail
  refine Calls.nm ?_
  intro w3 ew
  rw [← ew] at k3 b3 z3 r3
  clear ew
  refine (HN.out.2.1 w3 r3).mono ?_
  rintro e w4 ⟨rfl, kn, r4⟩
  have k4 := k3.trans kn
  have b4 := b3.kept kn (fun h => by have h : w.heap.size + 1 = rr := h; have := hrw.out; omega)
  have z4 := z3.kept kn (fun h => by have h : w.heap.size = rr := h; have := hrw.out; omega)
  clear k3 b3 z3 r3 kn f2 c2
  have c4 := hd_c1 b4
  have f4 := b4.free 1
  have b5 : Blk (w4.setCell ⟨w.heap.size + 1, 1, none⟩ (.int .i64 v8)) (w.heap.size + 1) (hdC H2).toArray 28 := HE.out.2.1 ▸ b4.set 1 _
  have z5 : Blk (w4.setCell ⟨w.heap.size + 1, 1, none⟩ (.int .i64 v8)) w.heap.size Z 28 := z4.setOther (by show w.heap.size ≠ w.heap.size + 1; omega) _
  have k5 : Kept (Just rr) w (w4.setCell ⟨w.heap.size + 1, 1, none⟩ (.int .i64 v8)) := k4.setNew (Nat.le_succ _) 1 _
  have r5 : Bin.Rd (w4.setCell ⟨w.heap.size + 1, 1, none⟩ (.int .i64 v8)) lo hi rr S16 := r4.kept (Kept.one w4 (w.heap.size + 1) 1 _) (fun k _ h1 h => by have h : k = w.heap.size + 1 := h; have := hrw.out; omega) (fun h => by have h : rr = w.heap.size + 1 := h; have := hrw.out; omega)
  have mm := HM.out.2.1
  have uu := HU.out.2.1
  have gg := HG.out.2.2.1
  clear k4 b4 z4 r4
  go_wp2_with fail
  refine Calls.nm ?_
  intro w5 ew
  rw [← ew] at k5 b5 z5 r5
  clear ew
  refine (HN.out.2.2.1 w5 r5).mono ?_
  rintro e w6 ⟨rfl, kn, r6⟩
  have k6 := k5.trans kn
  have b6 := b5.kept kn (fun h => by have h : w.heap.size + 1 = rr := h; have := hrw.out; omega)
  have z6 := z5.kept kn (fun h => by have h : w.heap.size = rr := h; have := hrw.out; omega)
  clear k5 b5 z5 r5 kn f4 c4
  have c6 := hd_c2 b6
  have f6 := b6.free 2
  have b7 : Blk (w6.setCell ⟨w.heap.size + 1, 2, none⟩ (.int .i64 v16)) (w.heap.size + 1) (hdC H3).toArray 28 := HE.out.2.2.1 ▸ b6.set 2 _
  have z7 : Blk (w6.setCell ⟨w.heap.size + 1, 2, none⟩ (.int .i64 v16)) w.heap.size Z 28 := z6.setOther (by show w.heap.size ≠ w.heap.size + 1; omega) _
  have k7 : Kept (Just rr) w (w6.setCell ⟨w.heap.size + 1, 2, none⟩ (.int .i64 v16)) := k6.setNew (Nat.le_succ _) 2 _
  have r7 : Bin.Rd (w6.setCell ⟨w.heap.size + 1, 2, none⟩ (.int .i64 v16)) lo hi rr S24 := r6.kept (Kept.one w6 (w.heap.size + 1) 2 _) (fun k _ h1 h => by have h : k = w.heap.size + 1 := h; have := hrw.out; omega) (fun h => by have h : rr = w.heap.size + 1 := h; have := hrw.out; omega)
  have mm := HM.out.2.2
  have uu := HU.out.2.2
  have gg := HG.out.2.2.2.2.1
  clear k6 b6 z6 r6
  go_wp2_with fail
  refine wp_nm ?_
  intro w8 ew
  rw [← ew] at b7 z7 k7 r7
  clear ew
  refine wp_region_plan_tail 4 (Kept (Just rr) w8) [{ k := 3, uses := [100], spends := [100], pure := fun u => ∃ a c, u = .slice a raw24.length c, fact := fun u W => Bs W 0 W.heap.size u raw24 ∧ Bin.Rd W lo hi rr S56 },
    { k := 100, uses := [], fact := fun _ W => Bin.Rd W lo hi rr S24 }] [100] (by kernel_rfl) (by kernel_rfl) (by kernel_rfl) (by rfl) ?pures1 ((Kept.refl _ w8).drew) ?starts1 ?walk1
  case pures1 =>
    intro f hf
    simp only [List.mem_cons, List.not_mem_nil, or_false] at hf
    rcases hf with rfl | rfl
    · exact ⟨_, none, 0, rfl⟩
    · exact ⟨undef, trivial⟩
  case starts1 =>
    intro k hk
    obtain rfl : k = 100 := by simpa using hk
    exact r7.kept ((Kept.refl None w8).drew) (fun _ _ _ h => h) (fun h => h)
  simp only [List.take_succ_cons, List.take_zero, List.drop_succ_cons, List.drop_zero]
  iterate 3 (refine wpPar_pure rfl (by rfl) _ (fun W hW => by
      go_simp
      exact rfl) ?_; simp only [Act.put, List.setIfInBounds_toArray, List.set_cons_zero, List.set_cons_succ])
  refine wpPar_adds rfl (by rfl) (fun W hW hd => ?_) (fun v3 hv => ?_)
  · have rW : Bin.Rd W lo hi rr S24 := hd 100 (List.Mem.head _)
    unfold Gives
    go_simp
    refine gives_call (HN.out.2.2.2.1 W rW) ?_
    rintro e W' ⟨u, rfl, k, b, r4⟩
    obtain ⟨a3, c3, rfl⟩ := b.form
    refine ⟨_, rfl, hW.trans k, ⟨_, _, rfl⟩, ⟨(b.bs (Nat.le_refl _)).all, r4⟩, keeps_of fun f hf hs _ hne u hfu => ?_⟩
    simp only [List.mem_cons, List.not_mem_nil, or_false] at hf
    rcases hf with rfl | rfl
    · exact absurd rfl hne
    · exact absurd (List.Mem.head _) hs
  obtain ⟨a2, c2, rfl⟩ : ∃ a c, v3 = .slice a raw24.length c := hv
  simp only [Act.put, List.setIfInBounds_toArray, List.set_cons_zero, List.set_cons_succ]
  refine wpPar_nil (fun W hW hG => ?_)
  obtain ⟨hB, hRd⟩ : Bs W 0 W.heap.size (.slice a2 raw24.length c2) raw24 ∧ Bin.Rd W lo hi rr S56 := hG 3
  have zW := z7.kept hW (fun h => by have h : w.heap.size = rr := h; have := hrw.out; omega)
  have bW := b7.kept hW (fun h => by have h : w.heap.size + 1 = rr := h; have := hrw.out; omega)
  have kW := k7.trans hW
  clear hG hW z7 b7 k7 r7
  refine wpList_copy_mid rfl (.tmp 20) (.tmp 22) 29 29 rfl 5 tBytes' (by kernel_rfl) rfl rfl hB HP.out.2.1 bW (by rw [hdC_len HO.out.2.2.1]; decide) HY.out.1 ?_
  intro x w9 b9 kn
  rw [HP.out.1, HE.out.2.2.2.1] at b9
  have z9 := zW.kept kn (fun h => by have h : w.heap.size = w.heap.size + 1 := h; omega)
  have r9 := hRd.kept kn (fun k _ h1 h => by have h : k = w.heap.size + 1 := h; have := hrw.out; omega) (fun h => by have h : rr = w.heap.size + 1 := h; have := hrw.out; omega)
  have k9 : Kept (Just rr) w w9 := kW.then kn (fun i hi h => by have h : i = w.heap.size + 1 := h; omega)
  clear hB hRd zW bW kW kn
  go_wp2_with fail
  refine wp_nm ?_
  intro w10 ew
  rw [← ew] at b9 z9 k9 r9
  clear ew
  refine wp_region_plan_tail 4 (Kept (Just rr) w10) [{ k := 3, uses := [100], spends := [100], pure := fun u => ∃ a c, u = .slice a raw56.length c, fact := fun u W => Bs W 0 W.heap.size u raw56 ∧ Bin.Rd W lo hi rr S88 },
    { k := 100, uses := [], fact := fun _ W => Bin.Rd W lo hi rr S56 }] [100] (by kernel_rfl) (by kernel_rfl) (by kernel_rfl) (by rfl) ?pures2 ((Kept.refl _ w10).drew) ?starts2 ?walk2
  case pures2 =>
    intro f hf
    simp only [List.mem_cons, List.not_mem_nil, or_false] at hf
    rcases hf with rfl | rfl
    · exact ⟨_, none, 0, rfl⟩
    · exact ⟨undef, trivial⟩
  case starts2 =>
    intro k hk
    obtain rfl : k = 100 := by simpa using hk
    exact r9.kept ((Kept.refl None w10).drew) (fun _ _ _ h => h) (fun h => h)
  simp only [List.take_succ_cons, List.take_zero, List.drop_succ_cons, List.drop_zero]
  iterate 3 (refine wpPar_pure rfl (by rfl) _ (fun W hW => by
      go_simp
      exact rfl) ?_; simp only [Act.put, List.setIfInBounds_toArray, List.set_cons_zero, List.set_cons_succ])
  refine wpPar_adds rfl (by rfl) (fun W hW hd => ?_) (fun v3 hv => ?_)
  · have rW : Bin.Rd W lo hi rr S56 := hd 100 (List.Mem.head _)
    unfold Gives
    go_simp
    refine gives_call (HN.out.2.2.2.2.1 W rW) ?_
    rintro e W' ⟨u, rfl, k, b, r4⟩
    obtain ⟨a3, c3, rfl⟩ := b.form
    refine ⟨_, rfl, hW.trans k, ⟨_, _, rfl⟩, ⟨(b.bs (Nat.le_refl _)).all, r4⟩, keeps_of fun f hf hs _ hne u hfu => ?_⟩
    simp only [List.mem_cons, List.not_mem_nil, or_false] at hf
    rcases hf with rfl | rfl
    · exact absurd rfl hne
    · exact absurd (List.Mem.head _) hs
  obtain ⟨a2, c2, rfl⟩ : ∃ a c, v3 = .slice a raw56.length c := hv
  simp only [Act.put, List.setIfInBounds_toArray, List.set_cons_zero, List.set_cons_succ]
  refine wpPar_nil (fun W hW hG => ?_)
  obtain ⟨hB, hRd⟩ : Bs W 0 W.heap.size (.slice a2 raw56.length c2) raw56 ∧ Bin.Rd W lo hi rr S88 := hG 3
  have zW := z9.kept hW (fun h => by have h : w.heap.size = rr := h; have := hrw.out; omega)
  have bW := b9.kept hW (fun h => by have h : w.heap.size + 1 = rr := h; have := hrw.out; omega)
  have kW := k9.trans hW
  clear hG hW z9 b9 k9 r9
  refine wpList_copy_mid rfl (.tmp 25) (.tmp 27) 29 29 rfl 5 tBytes' (by kernel_rfl) rfl rfl hB HP.out.2.2.2 bW (by rw [hdC_len HO.out.2.2.2]; decide) HY.out.2 ?_
  intro x w11 b11 kn
  rw [HP.out.2.2.1, HE.out.2.2.2.2.1] at b11
  have z11 := zW.kept kn (fun h => by have h : w.heap.size = w.heap.size + 1 := h; omega)
  have r11 := hRd.kept kn (fun k _ h1 h => by have h : k = w.heap.size + 1 := h; have := hrw.out; omega) (fun h => by have h : rr = w.heap.size + 1 := h; have := hrw.out; omega)
  have k11 : Kept (Just rr) w w11 := kW.then kn (fun i hi h => by have h : i = w.heap.size + 1 := h; omega)
  clear hB hRd zW bW kW kn
  go_wp2_with fail
  refine (HN.out.2.2.2.2.2.1 w11 r11).mono ?_
  rintro e w12 ⟨rfl, kn, r12⟩
  have k12 := k11.trans kn
  have b12 := b11.kept kn (fun h => by have h : w.heap.size + 1 = rr := h; have := hrw.out; omega)
  have z12 := z11.kept kn (fun h => by have h : w.heap.size = rr := h; have := hrw.out; omega)
  clear k11 b11 z11 r11 kn
  have c12 := hd_c67 b12 HO.out.1
  have f12 := b12.free 67
  have b13 : Blk (w12.setCell ⟨w.heap.size + 1, 67, none⟩ (.int .u64 (x88 : Int))) (w.heap.size + 1) (hdC H6).toArray 28 := HE.out.2.2.2.2.2.1 ▸ b12.set 67 _
  have z13 : Blk (w12.setCell ⟨w.heap.size + 1, 67, none⟩ (.int .u64 (x88 : Int))) w.heap.size Z 28 := z12.setOther (by show w.heap.size ≠ w.heap.size + 1; omega) _
  have k13 : Kept (Just rr) w (w12.setCell ⟨w.heap.size + 1, 67, none⟩ (.int .u64 (x88 : Int))) := k12.setNew (Nat.le_succ _) 67 _
  have r13 : Bin.Rd (w12.setCell ⟨w.heap.size + 1, 67, none⟩ (.int .u64 (x88 : Int))) lo hi rr S96 := r12.kept (Kept.one w12 (w.heap.size + 1) 67 _) (fun k _ h1 h => by have h : k = w.heap.size + 1 := h; have := hrw.out; omega) (fun h => by have h : rr = w.heap.size + 1 := h; have := hrw.out; omega)
  clear k12 b12 z12 r12
  go_wp2_with fail
  refine Calls.nm ?_
  intro w13 ew
  rw [← ew] at k13 b13 z13 r13
  clear ew
  refine (HN.out.2.2.2.2.2.2 w13 r13).mono ?_
  rintro e w14 ⟨rfl, kn, r14⟩
  have k14 := k13.trans kn
  have b14 := b13.kept kn (fun h => by have h : w.heap.size + 1 = rr := h; have := hrw.out; omega)
  have z14 := z13.kept kn (fun h => by have h : w.heap.size = rr := h; have := hrw.out; omega)
  clear k13 b13 z13 r13 kn f12 c12
  have c14 := hd_c68 b14 HO.out.2.1
  have f14 := b14.free 68
  have b15 : Blk (w14.setCell ⟨w.heap.size + 1, 68, none⟩ (.int .u64 (x96 : Int))) (w.heap.size + 1) (hdC H7).toArray 28 := HE.out.2.2.2.2.2.2 ▸ b14.set 68 _
  have z15 : Blk (w14.setCell ⟨w.heap.size + 1, 68, none⟩ (.int .u64 (x96 : Int))) w.heap.size Z 28 := z14.setOther (by show w.heap.size ≠ w.heap.size + 1; omega) _
  have k15 : Kept (Just rr) w (w14.setCell ⟨w.heap.size + 1, 68, none⟩ (.int .u64 (x96 : Int))) := k14.setNew (Nat.le_succ _) 68 _
  have r15 : Bin.Rd (w14.setCell ⟨w.heap.size + 1, 68, none⟩ (.int .u64 (x96 : Int))) lo hi rr S104 := r14.kept (Kept.one w14 (w.heap.size + 1) 68 _) (fun k _ h1 h => by have h : k = w.heap.size + 1 := h; have := hrw.out; omega) (fun h => by have h : rr = w.heap.size + 1 := h; have := hrw.out; omega)
  clear k14 b14 z14 r14
  go_wp2_with (first | (refine wpList_load_blk rfl _ _ rfl rfl b15 aF ?_) | (refine wpList_store_blk rfl _ _ _ rfl rfl rfl z15 aF SZ.out (hdC_one _) ?_; intro wz hz kz) | fail)
  exact bodyPost_ret (v := hdV H7) (results_blk rfl _ rfl hz aF) rfl ⟨rfl, k15.then kz (fun i hi (h : i = w.heap.size) => by omega)⟩
set_option maxRecDepth 100000 in
set_option maxHeartbeats 4000000 in
theorem read_long (v : Value) (lo hi : Nat) (l : List UInt8) (w : World) (hv : Bs w lo hi v l) (h : 512 < l.length) :
    Calls Try.prog 20 #[v] w fun e w' => e = .returned (.tuple #[hdV (readHd l), .int .i64 (readHdE l)]) ∧ Kept None w w' := by
  have hE : readHdE l = 22 := by unfold readHdE; rw [if_pos h]
  have hR : readHd l = zeroHd := by unfold readHd; rw [hE]; rfl
  rw [hE, hR]
  have k1 : Kept None w (w.alloc (.cells Try.zeroCells28 28)) := (Kept.refl _ _).alloc _
  obtain ⟨Z, hZ, z1⟩ := Blk.any (n := 69) (Blk.new w Try.zeroCells28 28) (by rfl)
  have hall := hdC_one zeroHd
  obtain ⟨a, cap, rfl, g1, g2, g3⟩ := hv.shape
  clear g3 hE hR
  go_enter Try.func20, Try.ntmps20
  go_wp2_with (first | (refine wpList_store_blk rfl _ _ _ rfl rfl rfl z1 aHd hZ hall ?_; intro wz hz kz) | fail)
  exact bodyPost_ret (v := .tuple #[hdV zeroHd, .int .i64 22]) (res_cell_tmp rfl _ rfl rfl hz aHd) rfl ⟨rfl, k1.then kz (fun i hi (h : i = w.heap.size) => by omega)⟩
set_option maxRecDepth 100000 in
set_option maxHeartbeats 4000000 in
theorem read_short (v : Value) (lo hi : Nat) (l : List UInt8) (w : World) (hv : Bs w lo hi v l) (h : l.length < 105) :
    Calls Try.prog 20 #[v] w fun e w' => e = .returned (.tuple #[hdV (readHd l), .int .i64 (readHdE l)]) ∧ Kept None w w' := by
  have hE : readHdE l = 21 := by unfold readHdE; rw [if_neg (by omega), if_pos h]
  have hR : readHd l = zeroHd := by unfold readHd; rw [hE]; rfl
  rw [hE, hR]
  have k1 : Kept None w (w.alloc (.cells Try.zeroCells28 28)) := (Kept.refl _ _).alloc _
  obtain ⟨Z, hZ, z1⟩ := Blk.any (n := 69) (Blk.new w Try.zeroCells28 28) (by rfl)
  have hall := hdC_one zeroHd
  obtain ⟨a, cap, rfl, g1, g2, g3⟩ := hv.shape
  clear g3 hE hR
  go_enter Try.func20, Try.ntmps20
  go_wp2_with (first | (refine wpList_store_blk rfl _ _ _ rfl rfl rfl z1 aHd hZ hall ?_; intro wz hz kz) | fail)
  exact bodyPost_ret (v := .tuple #[hdV zeroHd, .int .i64 21]) (res_cell_tmp rfl _ rfl rfl hz aHd) rfl ⟨rfl, k1.then kz (fun i hi (h : i = w.heap.size) => by omega)⟩
set_option maxRecDepth 100000 in
set_option maxHeartbeats 4000000 in
theorem read_more (v : Value) (lo hi : Nat) (l : List UInt8) (w : World) (hv : Bs w lo hi v l) (h : 105 < l.length) (h2 : ¬ 512 < l.length) :
    Calls Try.prog 20 #[v] w fun e w' => e = .returned (.tuple #[hdV (readHd l), .int .i64 (readHdE l)]) ∧ Kept None w w' := by
  have hE : readHdE l = 20 := by unfold readHdE; rw [if_neg h2, if_neg (by omega), if_pos (.inl h)]
  have hR : readHd l = zeroHd := by unfold readHd; rw [hE]; rfl
  rw [hE, hR]
  have k1 : Kept None w (w.alloc (.cells Try.zeroCells28 28)) := (Kept.refl _ _).alloc _
  obtain ⟨Z, hZ, z1⟩ := Blk.any (n := 69) (Blk.new w Try.zeroCells28 28) (by rfl)
  have hall := hdC_one zeroHd
  obtain ⟨a, cap, rfl, g1, g2, g3⟩ := hv.shape
  clear g3 hE hR
  go_enter Try.func20, Try.ntmps20
  go_wp2_with (first | (refine wpList_store_blk rfl _ _ _ rfl rfl rfl z1 aHd hZ hall ?_; intro wz hz kz) | fail)
  exact bodyPost_ret (v := .tuple #[hdV zeroHd, .int .i64 20]) (res_cell_tmp rfl _ rfl rfl hz aHd) rfl ⟨rfl, k1.then kz (fun i hi (h : i = w.heap.size) => by omega)⟩
set_option maxRecDepth 100000 in
set_option maxHeartbeats 4000000 in
theorem read_mark (v : Value) (lo hi : Nat) (l : List UInt8) (w : World) (hv : Bs w lo hi v l) (h : l.length = 105) (h2 : bAt l 0 ≠ 72) :
    Calls Try.prog 20 #[v] w fun e w' => e = .returned (.tuple #[hdV (readHd l), .int .i64 (readHdE l)]) ∧ Kept None w w' := by
  have hE : readHdE l = 20 := by unfold readHdE; rw [if_neg (by omega), if_neg (by omega), if_pos (.inr h2)]
  have hR : readHd l = zeroHd := by unfold readHd; rw [hE]; rfl
  rw [hE, hR]
  have k1 : Kept None w (w.alloc (.cells Try.zeroCells28 28)) := (Kept.refl _ _).alloc _
  obtain ⟨Z, hZ, z1⟩ := Blk.any (n := 69) (Blk.new w Try.zeroCells28 28) (by rfl)
  have hall := hdC_one zeroHd
  obtain ⟨a, cap, rfl, g1, g2, g3⟩ := hv.shape
  obtain ⟨b, o, rfl, q1, q2, q3, hc⟩ := hv.ne (by omega)
  have c0 := hc 0 (by omega)
  rw [Nat.add_zero] at c0
  have hne : (bAt l 0 != 72) = true := by simpa using h2
  rw [h] at g1 ⊢
  obtain ⟨x, hx⟩ : ∃ x, x = bAt l 0 := ⟨_, rfl⟩
  rw [← hx] at c0 hne
  clear h2 hx hc h hv
  clear g3 hE hR
  go_enter Try.func20, Try.ntmps20
  go_wp2_with (first | (refine wpList_store_blk rfl _ _ _ rfl rfl rfl z1 aHd hZ hall ?_; intro wz hz kz) | fail)
  exact bodyPost_ret (v := .tuple #[hdV zeroHd, .int .i64 20]) (res_cell_tmp rfl _ rfl rfl hz aHd) rfl ⟨rfl, k1.then kz (fun i hi (h : i = w.heap.size) => by omega)⟩
set_option maxRecDepth 100000 in
set_option maxHeartbeats 4000000 in
theorem read_body (v : Value) (lo hi : Nat) (l : List UInt8) (w : World) (hv : Bs w lo hi v l) (h : l.length = 105) (h2 : bAt l 0 = 72) :
    Calls Try.prog 20 #[v] w fun e w' => e = .returned (.tuple #[hdV (readHd l), .int .i64 (readHdE l)]) ∧ Kept None w w' := by
  have hE : readHdE l = if rightHd (headOf wholeI (l.drop 1)) then 0 else 23 := by unfold readHdE; rw [if_neg (by omega), if_neg (by omega), if_neg (by omega)]
  have hR : readHd l = if rightHd (headOf wholeI (l.drop 1)) then headOf wholeI (l.drop 1) else zeroHd := by
    unfold readHd
    rw [hE]
    cases rightHd (headOf wholeI (l.drop 1)) <;> rfl
  rw [hE, hR]
  have hF := fun rr lo hi W (hr : Bin.Rd W lo hi rr ⟨l.drop 1, 0⟩) (hlo : hi ≤ rr) => fields rr lo hi (l.drop 1) W hr hlo (by rw [List.length_drop]; omega)
  have hok := headOf_ok wholeI (l.drop 1)
  obtain ⟨q, hq⟩ : ∃ q, q = headOf wholeI (l.drop 1) := ⟨_, rfl⟩
  rw [← hq] at hF hok ⊢
  simp only [hdV] at hF
  obtain ⟨Q, hQ⟩ : ∃ Q, Q = (hdC q).toArray := ⟨_, rfl⟩
  rw [← hQ] at hF
  have hRi := fun W => right q W
  obtain ⟨R, hRR⟩ : ∃ R, R = rightHd q := ⟨_, rfl⟩
  rw [← hRR] at hRi ⊢
  have k1 : Kept None w (w.alloc (.cells Try.zeroCells28 28)) := (Kept.refl _ _).alloc _
  obtain ⟨Z, hZ, z1⟩ := Blk.any (n := 69) (Blk.new w Try.zeroCells28 28) (by rfl)
  have hall := hdC_one zeroHd
  obtain ⟨a, cap, rfl, g1, g2, g3⟩ := hv.shape
  obtain ⟨b, o, rfl, q1, q2, q3, hc⟩ := hv.ne (by omega)
  have c0 := hc 0 (by omega)
  rw [h2, Nat.add_zero] at c0
  have hcap : ¬ cap = 1 := by omega
  have hcut : Bs w lo hi (.slice (some ⟨b, o + 1, none⟩) 104 (cap - 1)) (l.drop 1) := by
    have h3 := Vs.sliced hv 1 105 (by decide) (by omega)
    rw [if_neg hcap, List.take_of_length_le (by rw [List.length_map]; omega), ← List.map_drop] at h3
    exact h3
  rw [h] at g1 ⊢
  have hN := fun v lo hi W hv => Bin.new v lo hi (l.drop 1) W hv (by rw [List.length_drop]; omega)
  obtain ⟨L, hL⟩ : ∃ L, L = l.drop 1 := ⟨_, rfl⟩
  rw [← hL] at hF hN hcut
  have HH := hid (And.intro hN (And.intro hF hRi))
  have HO := hid (And.intro hok hZ)
  have HQ0 := hid hQ
  have HSZ : Hid (w.heap.size < (w.alloc (.cells Try.zeroCells28 28)).heap.size) := hid (by simp)
  have HC := hid hcut
  have hcc := hid (hcut.kept k1 (fun _ _ _ h => h))
  clear hE hR hN hF hRi hq hQ hRR hL hc g3 hv h h2 hok hcut
  go_enter Try.func20, Try.ntmps20
  go_wp2_with fail
  refine (HH.out.1 _ _ _ _ hcc.out).mono ?_
  rintro e w2 ⟨r, rfl, kn, hle, r2⟩
  have k2 := k1.trans kn
  have z2 := z1.kept kn (fun h => h)
  clear k1 z1 kn c0
  go_wp2_with fail
  refine (HH.out.2.1 r _ _ _ r2 (Nat.le_refl _)).mono ?_
  rintro e w3 ⟨rfl, kn⟩
  have hsz : w.heap.size < r := by
    have := HSZ.out
    omega
  have k3 : Kept None w w3 := k2.then kn (fun i hi h => by have h : i = r := h; omega)
  have z3 := z2.kept kn (fun h => by have h : w.heap.size = r := h; omega)
  clear k2 z2 kn r2 hle
  have hs3 : w.heap.size < w3.heap.size := z3.lt
  have aQ := aHd' HO.out.1
  have hQ := HQ0.out
  have oQ : Q.all (·.oneCell') = true := by rw [hQ]; exact hdC_one _
  have sQ : 69 = Q.size := by rw [hQ]; exact (hdC_size HO.out.1).symm
  have hRi' : ∀ W, Calls Try.prog 12 #[.agg Q] W fun e w' => e = .returned (.bool R) ∧ Kept None W w' := fun W => by rw [hQ]; exact HH.out.2.2 W
  rw [← hQ] at aQ
  have HQ := hid (And.intro oQ (And.intro sQ hRi'))
  have E := hid (HO.out.2.trans sQ)
  have HQQ := hid hQ
  clear oQ sQ hRi' hQ
  obtain ⟨y, hy, y4⟩ := Blk.any (n := 69) (Blk.new w3 Try.zeroCells28 28) (by rfl)
  have k4 : Kept None w (w3.alloc (.cells Try.zeroCells28 28)) := k3.alloc _
  have z4 : Blk (w3.alloc (.cells Try.zeroCells28 28)) w.heap.size Z 28 := z3.alloc _
  have EY := hid (hy.trans HQ.out.2.1)
  have hz0 := HO.out.2
  clear hy k3 z3
  go_wp2_with (first | (refine wpList_load_blk rfl _ _ rfl rfl y5 aQ ?_) | (refine wpList_store_blk rfl _ _ _ rfl rfl rfl y4 aQ EY.out HQ.out.1 ?_; intro w5 y5 k45) | fail)
  have k5 : Kept None w w5 := k4.then k45 (fun i hi (h : i = w3.heap.size) => by omega)
  have z5 := z4.kept k45 (fun (h : w.heap.size = w3.heap.size) => by omega)
  clear k4 z4 y4 k45
  refine (HQ.out.2.2 _).mono ?_
  rintro e w6 ⟨rfl, kn⟩
  have k6 := k5.trans kn
  have z6 := z5.kept kn (fun h => h)
  have y6 := y5.kept kn (fun h => h)
  clear k5 z5 y5 kn
  cases R with
  | false =>
    go_wp2_with (first | (refine wpList_store_blk rfl _ _ _ rfl rfl rfl z6 aHd hz0 hall ?_; intro wz hz kz) | fail)
    exact bodyPost_ret (v := .tuple #[hdV zeroHd, .int .i64 23]) (res_cell_tmp rfl _ rfl rfl hz aHd) rfl ⟨rfl, k6.then kz (fun i hi (h : i = w.heap.size) => by omega)⟩
  | true =>
    go_wp2_with (first | (refine wpList_load_blk rfl _ _ rfl rfl y6 aQ ?_) | (refine wpList_store_blk rfl _ _ _ rfl rfl rfl z6 aQ E.out HQ.out.1 ?_; intro wz hz kz) | fail)
    exact bodyPost_ret (v := .tuple #[.agg Q, .int .i64 0]) (res_cell_tmp rfl _ rfl rfl hz aQ) rfl ⟨by rw [HQQ.out], k6.then kz (fun i hi (h : i = w.heap.size) => by omega)⟩
/-- Read. -/
theorem read (v : Value) (lo hi : Nat) (l : List UInt8) (w : World) (hv : Bs w lo hi v l) :
    Calls Try.prog 20 #[v] w fun e w' => e = .returned (.tuple #[hdV (readHd l), .int .i64 (readHdE l)]) ∧ Kept None w w' := by
  by_cases h : 512 < l.length
  · exact read_long v lo hi l w hv h
  by_cases h2 : l.length < 105
  · exact read_short v lo hi l w hv h2
  by_cases h3 : 105 < l.length
  · exact read_more v lo hi l w hv h3 h
  by_cases h4 : bAt l 0 = 72
  · exact read_body v lo hi l w hv (by omega) h4
  · exact read_mark v lo hi l w hv (by omega) h4
end Hp
end Go.Proofs.Ytibkijloibnkfaa
