/- postmarklaw7.ProofTells: true. -/
import Derived.Test.YtkogkcaflhjlhaaTops7
import Derived.Test.YtkogkcaflhjlhaaRMake7
import Derived.Test.YtkogkcaflhjlhaaBent7
namespace Go.Pm
open Go Go.RowKit
theorem wrapJ (k : Nat) (h : k < 4294967296) : wrap64 ((k : Int) + 1) = ((k + 1 : Nat) : Int) := by unfold wrap64; omega
/-- There is one of this index. -/
def thereB (l : List It) (i : List UInt8) : Bool := l.any (fun x => x.i == i)
theorem there_take (l : List It) (i : List UInt8) (k : Nat) (h : k < l.length) : thereB (l.take (k + 1)) i = (thereB (l.take k) i || l[k].i == i) := by
  unfold thereB
  rw [List.take_succ_eq_append_getElem h, List.any_append, List.any_cons, List.any_nil, Bool.or_false]
theorem there_make (l : List It) (i : List UInt8) (hl : Len l) : saysH (makeP l i) = thereB l i := by
  unfold saysH thereB
  rw [Bool.eq_iff_iff, decide_eq_true_iff, here_make l i hl, List.any_eq_true]
  simp
end Go.Pm
namespace Go.Proofs.Ytkogkcaflhjlhaa
open Go.RowKit Go.Pm
namespace Pr
theorem rcheckA (root i : List UInt8) (m : Pf) (A : Array Value) (w : World) (hr : root.length = 32) (hi : i.length = 32) (h : PV m w A) :
    Calls Try.prog 28 #[hashV root, hashV i, .agg A] w fun e w' => e = .returned (.tuple #[hashV (checkV root i m), .bool (checkH root i m), .bool (okP root i m)]) ∧ Kept None w w' := by
  obtain ⟨h0, u, rfl, h2⟩ := h
  exact RPr.check root i u m w hr hi h0 h2
theorem rrightA (i : List UInt8) (m : Pf) (A : Array Value) (w : World) (hi : i.length = 32) (h : PV m w A) :
    Calls Try.prog 30 #[hashV i, .agg A] w fun e w' => e = .returned (.bool (rightP i m)) ∧ Kept None w w' := by
  obtain ⟨h0, u, rfl, h2⟩ := h
  exact RPr.right i u m w hi h0 h2
theorem rmakeA (l : List It) (i : List UInt8) (v : Value) (lo hi : Nat) (w : World) (hv : Its w lo hi v l) (hl : l.length ≤ 549755813888) (hi32 : i.length = 32) :
    Calls Try.prog 24 #[v, hashV i] w fun e w' => ∃ A, e = .returned (.agg A) ∧ Kept None w w' ∧ PV (makeP l i) w' A := by
  refine (RPr.make l i v lo hi w hv hl hi32).mono ?_
  rintro e w' ⟨u, rfl, k, r⟩
  exact ⟨_, rfl, k, ok_make l hv.1 i, u, rfl, r.mono (Nat.zero_le _)⟩
set_option maxRecDepth 100000 in
set_option maxHeartbeats 16000000 in
theorem tells (v : Value) (lo hi : Nat) (ns : List Int) (k : Nat) (raw root : List UInt8) (p : Pf) (PA : Array Value) (what at_ : Nat) (w : World) (hv : U16s w lo hi v ns) (hk : k < 65536) (hraw : raw.length = 32) (hroot : root.length = 32) (hp : PV p w PA) (hwh : what < 256) (hat : at_ < 256) : Calls Try.prog 7 #[v, .int .u16 k, hashV raw, hashV root, .agg PA, .int .u8 what, .int .u8 at_] w fun e w' => e = .returned (.bool true) ∧ Kept None w w' := by
  obtain ⟨a, cap, rfl, g1, g2⟩ := hv.form
  obtain ⟨n, hn⟩ : ∃ n, n = ns.length := ⟨_, rfl⟩
  rw [← hn] at hv g1 ⊢
  obtain ⟨WA, hWA⟩ : ∃ A : Array Value, A = (raw.map u8v).toArray := ⟨_, rfl⟩
  obtain ⟨TA, hTA⟩ : ∃ A : Array Value, A = (root.map u8v).toArray := ⟨_, rfl⟩
  have aWA : AggTy Try.prog 25 WA.size := by rw [hWA]; exact aH32 hraw
  have aTA : AggTy Try.prog 25 TA.size := by rw [hTA]; exact aH32 hroot
  have sTA : TA.size = 32 := by rw [hTA]; simpa using hroot
  have aPA := PV.agg hp
  show Calls Try.prog 7 #[.slice a n cap, .int .u16 k, .agg (raw.map u8v).toArray, .agg (root.map u8v).toArray, .agg PA, .int .u8 what, .int .u8 at_] w _
  rw [← hWA, ← hTA]
  have k0 : Kept None w (((w.alloc (.cells WA 25)).alloc (.cells TA 25)).alloc (.cells PA 45)) := (((Kept.refl _ _).alloc _).alloc _).alloc _
  have b9 : Blk (((w.alloc (.cells WA 25)).alloc (.cells TA 25)).alloc (.cells PA 45)) w.heap.size WA 25 := ((Blk.new w _ _).alloc _).alloc _
  have b10 : Blk (((w.alloc (.cells WA 25)).alloc (.cells TA 25)).alloc (.cells PA 45)) (w.heap.size + 1) TA 25 := (Blk.new2 w _ _ _).alloc _
  have b11 : Blk (((w.alloc (.cells WA 25)).alloc (.cells TA 25)).alloc (.cells PA 45)) (w.heap.size + 2) PA 45 := Blk.new3 w _ _ _ _
  have HWA := hid (And.intro hWA hraw)
  have HTA := hid (And.intro hTA (And.intro hroot sTA))
  have HV := hid hv
  have HN := hid hn
  have HKW := hid (And.intro hk (And.intro hwh hat))
  have HPV := hid (hp.kept k0)
  clear hv hn hWA hTA hraw hroot sTA hk hwh hat hp
  go_enter Try.func7, Try.ntmps7
  go_wp2_with fail
  refine (known _).mono ?_
  rintro e w1 ⟨rfl, k1⟩
  have K1 := hid (k0.trans k1)
  have B9 := hid (b9.kept k1 (fun h => h))
  have B10 := hid (b10.kept k1 (fun h => h))
  have B11 := hid (b11.kept k1 (fun h => h))
  have PV1 := hid (HPV.out.kept k1)
  obtain ⟨g9, hg9⟩ : ∃ g, g = w.heap.size := ⟨_, rfl⟩
  obtain ⟨g10, hg10⟩ : ∃ g, g = w.heap.size + 1 := ⟨_, rfl⟩
  obtain ⟨g11, hg11⟩ : ∃ g, g = w.heap.size + 2 := ⟨_, rfl⟩
  have hg11' : w.heap.size + 1 + 1 = g11 := by rw [hg11]
  rw [← hg11] at B11
  rw [← hg10] at B10
  rw [hg11', ← hg10]
  rw [← hg9] at B9 ⊢
  clear k0 b9 b10 b11 k1 hg9 hg10 hg11 hg11' HPV
  by_cases h30 : 30 < n
  · have hz : decide ((30 : Int) < (n : Int)) = true := by rw [decide_eq_true_eq]; omega
    go_wp2_with (first | go_skip | fail)
    go_ret
    exact ⟨rfl, K1.out⟩
  have hz : decide ((30 : Int) < (n : Int)) = false := by rw [decide_eq_false_iff_not]; omega
  obtain ⟨pa, pc, hp0⟩ := PV1.out.at0
  obtain ⟨P, hP⟩ : ∃ P, P = p.path.length := ⟨_, rfl⟩
  rw [← hP] at hp0
  have c0 := B11.out.cell 0
  rw [hp0] at c0
  by_cases h20 : 20 < P
  · have hz2 : decide ((20 : Int) < (P : Int)) = true := by rw [decide_eq_true_eq]; omega
    clear hp0 hP
    go_wp2_with (first | go_skip | fail)
    go_ret
    exact ⟨rfl, K1.out⟩
  have hz2 : decide ((20 : Int) < (P : Int)) = false := by rw [decide_eq_false_iff_not]; omega
  have hn30 : n ≤ 30 := by omega
  have HP20 := hid (show p.path.length ≤ 20 by omega)
  clear hp0 h30 h20 hP
  go_wp2_with (first | go_skip | fail)
  refine (Tr.items (.slice a n cap) lo hi ns w1 (HV.out.kept K1.out (fun _ _ _ h => h)) (by have := HN.out; omega)).mono ?_
  rintro e w2 ⟨v2, l, rfl, h3, hxl, k2⟩
  obtain ⟨a3, c3, rfl⟩ := h3.form
  have hl30 : l.length ≤ 30 := by rw [hxl, ← HN.out]; exact hn30
  have hfull : Len l := h3.1
  have hL := h3.its (Nat.le_refl _)
  obtain ⟨ln, hln⟩ : ∃ n, n = l.length := ⟨_, rfl⟩
  rw [← hln] at hL ⊢
  have K2 := hid (K1.out.trans k2)
  have B9 := hid (B9.out.kept k2 (fun h => h))
  have B10 := hid (B10.out.kept k2 (fun h => h))
  have B11 := hid (B11.out.kept k2 (fun h => h))
  have PV2 := hid (PV1.out.kept k2)
  have HL2 := hid hL
  have HLS := hid (And.intro hln (And.intro hl30 hfull))
  clear k2 h3 hxl hl30 hfull hL hln hz hz2 hn30 c0 PV1 K1
  have fI := fun W (h : Its W w1.heap.size w2.heap.size (.slice a3 ln c3) l) => index _ _ _ l k raw W h HKW.out.1 HWA.out.2
  simp only [hashV, ← HWA.out.1] at fI
  have FI := hid fI
  clear fI
  go_wp2_with (first | (refine wpList_load_blk rfl _ _ rfl rfl B9.out aWA ?_) | fail)
  refine (FI.out w2 HL2.out).mono ?_
  rintro e w3 ⟨i, i32, rfl, k3⟩
  obtain ⟨IA, hIA⟩ : ∃ A : Array Value, A = (i.map u8v).toArray := ⟨_, rfl⟩
  have aIA : AggTy Try.prog 25 IA.size := by rw [hIA]; exact aH32 i32
  have sIA : IA.size = 32 := by rw [hIA]; simpa using i32
  have allIA : IA.all (·.oneCell') = true := by rw [hIA]; exact u8v_all' _
  obtain ⟨m, hm⟩ : ∃ m, m = makeP l i := ⟨_, rfl⟩
  obtain ⟨r, hr⟩ : ∃ r, r = rootOf l := ⟨_, rfl⟩
  have hcm := check_make l HLS.out.2.2 i
  rw [← hm, ← hr] at hcm
  have hth := there_make l i HLS.out.2.2
  rw [← hm] at hth
  have hmok : m.Ok := by rw [hm]; exact ok_make l HLS.out.2.2 i
  have r32 : r.length = 32 := by rw [hr, ← root_make l HLS.out.2.2 zero32]; exact climbH_len _ _ _ _
  obtain ⟨RA, hRA⟩ : ∃ A : Array Value, A = (r.map u8v).toArray := ⟨_, rfl⟩
  have aRA : AggTy Try.prog 25 RA.size := by rw [hRA]; exact aH32 r32
  have sRA : RA.size = 32 := by rw [hRA]; simpa using r32
  have allRA : RA.all (·.oneCell') = true := by rw [hRA]; exact u8v_all' _
  have hpath : m.path.length ≤ 256 := rightP_len (i := i) (by rw [hm]; exact right_make l HLS.out.2.2 i)
  have fM := fun W (h : Its W w1.heap.size w2.heap.size (.slice a3 ln c3) l) => make l i _ _ _ W h (by have := HLS.out; omega) i32
  have fMR := fun W (h : Its W w1.heap.size w2.heap.size (.slice a3 ln c3) l) => rmakeA l i _ _ _ W h (by have := HLS.out; omega) i32
  have fR := fun W (h : Its W w1.heap.size w2.heap.size (.slice a3 ln c3) l) => RTr.root_of _ _ _ l W h (by have := HLS.out; omega)
  rw [← hm] at fM fMR
  rw [← hr] at fR
  simp only [hashV, ← hIA, ← hRA] at fM fMR fR
  have FM := hid fM
  have FMR := hid fMR
  have FR := hid fR
  have HIA := hid (And.intro hIA (And.intro i32 (And.intro sIA allIA)))
  have HRA := hid (And.intro hRA (And.intro r32 (And.intro sRA allRA)))
  have HM := hid (And.intro hmok (And.intro hcm (And.intro hth hpath)))
  have K3 := hid (K2.out.trans k3)
  have L3 := hid (HL2.out.kept k3 (fun _ _ _ h => h))
  have B9 := hid (B9.out.kept k3 (fun h => h))
  have B10 := hid (B10.out.kept k3 (fun h => h))
  have B11 := hid (B11.out.kept k3 (fun h => h))
  have PV3 := hid (PV2.out.kept k3)
  obtain ⟨z3, hz3, hZ3⟩ := Blk.any (n := 32) (Blk.new w3 #[.int .u8 0, .int .u8 0, .int .u8 0, .int .u8 0, .int .u8 0, .int .u8 0, .int .u8 0, .int .u8 0, .int .u8 0, .int .u8 0, .int .u8 0, .int .u8 0, .int .u8 0, .int .u8 0, .int .u8 0, .int .u8 0, .int .u8 0, .int .u8 0, .int .u8 0, .int .u8 0, .int .u8 0, .int .u8 0, .int .u8 0, .int .u8 0, .int .u8 0, .int .u8 0, .int .u8 0, .int .u8 0, .int .u8 0, .int .u8 0, .int .u8 0, .int .u8 0] 25) (by rfl)
  have E3 := hid (hz3.trans sIA.symm)
  rw [show (Value.agg (i.map u8v).toArray) = .agg IA by rw [hIA]]
  clear hIA i32 sIA allIA hm hr hcm hth hmok r32 hRA sRA allRA hpath fM fMR fR k3 K2 HL2 PV2 FI hz3
  go_wp2_with (first | (refine wpList_store_blk rfl _ _ _ rfl rfl rfl hZ3 aIA E3.out HIA.out.2.2.2 ?_; intro w4 h16 k4; have k34 := k4.fresh) | (refine wpList_load_blk rfl _ _ rfl rfl h16 aIA ?_) | fail)
  have K4 := hid (K3.out.trans k34)
  have L4 := hid (L3.out.kept k34 (fun _ _ _ h => h))
  have B9 := hid (B9.out.kept k34 (fun h => h))
  have B10 := hid (B10.out.kept k34 (fun h => h))
  have B11 := hid (B11.out.kept k34 (fun h => h))
  have PV4 := hid (PV3.out.kept k34)
  have B16 := hid h16
  obtain ⟨g16, hg16⟩ : ∃ g, g = w3.heap.size := ⟨_, rfl⟩
  rw [← hg16] at B16 ⊢
  clear k4 k34 h16 hg16 hZ3 E3 L3 PV3 K3
  refine (FM.out w4 L4.out).mono ?_
  rintro e w5 ⟨AM, rfl, k5, p5⟩
  have K5 := hid (K4.out.trans k5)
  have L5 := hid (L4.out.kept k5 (fun _ _ _ h => h))
  have B9 := hid (B9.out.kept k5 (fun h => h))
  have B10 := hid (B10.out.kept k5 (fun h => h))
  have B11 := hid (B11.out.kept k5 (fun h => h))
  have B16 := hid (B16.out.kept k5 (fun h => h))
  have PV5 := hid (PV4.out.kept k5)
  have aAM := PV.agg p5
  have HAM := hid (And.intro p5.size p5.all)
  have PM5 := hid p5
  obtain ⟨z5, hz5, hZ5⟩ := Blk.any (n := 66) (Blk.new w5 Try.zeroCells45 45) (by rfl)
  have E5 := hid (hz5.trans p5.size.symm)
  clear k5 p5 hz5 L4 PV4 K4
  go_wp2_with (first | (refine wpList_store_blk (.refl _) _ _ _ rfl rfl rfl hZ5 aAM E5.out HAM.out.2 ?_; intro w6 h17 k6; have k56 := k6.fresh) | fail)
  have K6 := hid (K5.out.trans k56)
  have L6 := hid (L5.out.kept k56 (fun _ _ _ h => h))
  have B9 := hid (B9.out.kept k56 (fun h => h))
  have B10 := hid (B10.out.kept k56 (fun h => h))
  have B11 := hid (B11.out.kept k56 (fun h => h))
  have B16 := hid (B16.out.kept k56 (fun h => h))
  have PV6 := hid (PV5.out.kept k56)
  have PM6 := hid (PM5.out.kept k56)
  have B17 := hid h17
  obtain ⟨g17, hg17⟩ : ∃ g, g = w5.heap.size := ⟨_, rfl⟩
  rw [← hg17] at B17 ⊢
  clear k6 k56 h17 hg17 hZ5 E5 L5 PV5 PM5 K5
  have hs : Steady [.pv 3 (m), .val 4 (.bool true) [3]] := Go.Pm.Steady.pv (Go.Pm.Steady.val (Go.Pm.Steady.nil))
  refine wp_region_kn w6 _ hs (Kept.refl _ _) (by kernel_rfl) (by kernel_rfl) (by kernel_rfl) ?_
  refine wpPar_pure rfl (by rfl) _ (fun W hW => by first | exact exec_load_blk _ _ rfl rfl (B17.out.kept hW (fun h => h)) aAM | exact exec_load_blk _ _ rfl rfl (B16.out.kept hW (fun h => h)) aIA | (go_simp; exact rfl)) ?_; simp only [Act.put, List.setIfInBounds_toArray, List.set_cons_zero, List.set_cons_succ]
  iterate 1 (refine wpPar_pure rfl (by rfl) _ (fun W hW => by
      go_simp
      exact rfl) ?_; simp only [Act.put, List.setIfInBounds_toArray, List.set_cons_zero, List.set_cons_succ])
  refine wpPar_pure rfl (by rfl) _ (fun W hW => by first | exact exec_load_blk _ _ rfl rfl (B17.out.kept hW (fun h => h)) aAM | exact exec_load_blk _ _ rfl rfl (B16.out.kept hW (fun h => h)) aIA | (go_simp; exact rfl)) ?_; simp only [Act.put, List.setIfInBounds_toArray, List.set_cons_zero, List.set_cons_succ]
  refine wpKn_adds hs rfl (by rfl) (fun W hW hd => ?_) (fun v3 hv => ?_)
  · unfold Gives
    go_simp
    refine gives_call (FMR.out W (L6.out.kept hW (fun _ _ _ h => h))) ?_
    rintro e w3 ⟨A3, rfl, k3, p3⟩
    exact ⟨_, rfl, k3, ⟨_, rfl⟩, _, rfl, p3⟩
  obtain ⟨A3v, rfl⟩ : ∃ A, v3 = .agg A := hv
  simp only [Act.put, List.setIfInBounds_toArray, List.set_cons_zero, List.set_cons_succ]
  refine wpKn_adds hs rfl (by rfl) (fun W hW hd => ?_) (fun v4 hv => ?_)
  · unfold Gives
    obtain ⟨A', eA, pA⟩ : ∃ A, Value.agg A3v = .agg A ∧ PV m W A := hd 3 (List.Mem.head _)
    obtain rfl : A3v = A' := by simpa using eA
    have hsm := sameA m m _ _ W (PM6.out.kept hW) pA
    rw [decide_eq_true rfl] at hsm
    go_simp
    refine gives_call (hsm) ?_
    rintro e w3 ⟨rfl, k3⟩
    exact ⟨_, rfl, k3, rfl, trivial⟩
  obtain rfl : v4 = .bool true := hv
  simp only [Act.put, List.setIfInBounds_toArray, List.set_cons_zero, List.set_cons_succ]
  iterate 1 (refine wpPar_pure rfl (by rfl) _ (fun W hW => by
      go_simp
      exact rfl) ?_; simp only [Act.put, List.setIfInBounds_toArray, List.set_cons_zero, List.set_cons_succ])
  refine wpPar_nil (fun w7 hW hG => ?_)
  have K7 := hid (K6.out.trans hW)
  have L7 := hid (L6.out.kept hW (fun _ _ _ h => h))
  have B9 := hid (B9.out.kept hW (fun h => h))
  have B10 := hid (B10.out.kept hW (fun h => h))
  have B11 := hid (B11.out.kept hW (fun h => h))
  have B16 := hid (B16.out.kept hW (fun h => h))
  have B17 := hid (B17.out.kept hW (fun h => h))
  have PV7 := hid (PV6.out.kept hW)
  have PM7 := hid (PM6.out.kept hW)
  clear hG hs hW L6 PV6 PM6 K6 FMR FM
  go_wp2_with fail
  refine (FR.out w7 L7.out).mono ?_
  rintro e w8 ⟨rfl, k8⟩
  have K8 := hid (K7.out.trans k8)
  have L8 := hid (L7.out.kept k8 (fun _ _ _ h => h))
  have B9 := hid (B9.out.kept k8 (fun h => h))
  have B10 := hid (B10.out.kept k8 (fun h => h))
  have B11 := hid (B11.out.kept k8 (fun h => h))
  have B16 := hid (B16.out.kept k8 (fun h => h))
  have B17 := hid (B17.out.kept k8 (fun h => h))
  have PV8 := hid (PV7.out.kept k8)
  have PM8 := hid (PM7.out.kept k8)
  obtain ⟨z8, hz8, hZ8⟩ := Blk.any (n := 32) (Blk.new w8 #[.int .u8 0, .int .u8 0, .int .u8 0, .int .u8 0, .int .u8 0, .int .u8 0, .int .u8 0, .int .u8 0, .int .u8 0, .int .u8 0, .int .u8 0, .int .u8 0, .int .u8 0, .int .u8 0, .int .u8 0, .int .u8 0, .int .u8 0, .int .u8 0, .int .u8 0, .int .u8 0, .int .u8 0, .int .u8 0, .int .u8 0, .int .u8 0, .int .u8 0, .int .u8 0, .int .u8 0, .int .u8 0, .int .u8 0, .int .u8 0, .int .u8 0, .int .u8 0] 25) (by rfl)
  have E8 := hid (hz8.trans HRA.out.2.2.1.symm)
  clear k8 hz8 L7 PV7 PM7 K7 FR
  go_wp2_with (first | (refine wpList_store_blk rfl _ _ _ rfl rfl rfl hZ8 aRA E8.out HRA.out.2.2.2 ?_; intro w9 h18 k9; have k89 := k9.fresh) | fail)
  have K9 := hid (K8.out.trans k89)
  have L9 := hid (L8.out.kept k89 (fun _ _ _ h => h))
  have B9 := hid (B9.out.kept k89 (fun h => h))
  have B10 := hid (B10.out.kept k89 (fun h => h))
  have B11 := hid (B11.out.kept k89 (fun h => h))
  have B16 := hid (B16.out.kept k89 (fun h => h))
  have B17 := hid (B17.out.kept k89 (fun h => h))
  have PV9 := hid (PV8.out.kept k89)
  have PM9 := hid (PM8.out.kept k89)
  have B18 := hid h18
  obtain ⟨g18, hg18⟩ : ∃ g, g = w8.heap.size := ⟨_, rfl⟩
  rw [← hg18] at B18 ⊢
  clear k9 k89 h18 hg18 hZ8 E8 L8 PV8 PM8 K8
  have fB := fun W (h : PV m W AM) => bent m AM what at_ raw W h (by have := HM.out.2.2.2; omega) HKW.out.2.1 HKW.out.2.2 HWA.out.2
  obtain ⟨mb, hmb⟩ : ∃ x, x = bentP m what at_ raw := ⟨_, rfl⟩
  rw [← hmb] at fB
  simp only [hashV, ← HWA.out.1] at fB
  have FB := hid fB
  have HPA := hid PV9.out.size
  clear fB hmb
  have hs : Steady [.pv 6 (mb), .three 7 w9.heap.size 45 AM PA mb [6]] := Go.Pm.Steady.pv (Go.Pm.Steady.three (Go.Pm.Steady.nil))
  refine wp_region_kn w9 _ hs (Kept.refl _ _) (by kernel_rfl) (by kernel_rfl) (by kernel_rfl) ?_
  refine wpPar_pure rfl (by rfl) _ (fun W hW => by first | exact exec_load_blk _ _ rfl rfl (B17.out.kept hW (fun h => h)) aAM | exact exec_load_blk _ _ rfl rfl (B11.out.kept hW (fun h => h)) aPA | exact exec_load_blk _ _ rfl rfl (B9.out.kept hW (fun h => h)) aWA | (go_simp; exact rfl)) ?_; simp only [Act.put, List.setIfInBounds_toArray, List.set_cons_zero, List.set_cons_succ]
  refine wpPar_pure rfl (by rfl) _ (fun W hW => by first | exact exec_load_blk _ _ rfl rfl (B17.out.kept hW (fun h => h)) aAM | exact exec_load_blk _ _ rfl rfl (B11.out.kept hW (fun h => h)) aPA | exact exec_load_blk _ _ rfl rfl (B9.out.kept hW (fun h => h)) aWA | (go_simp; exact rfl)) ?_; simp only [Act.put, List.setIfInBounds_toArray, List.set_cons_zero, List.set_cons_succ]
  refine wpPar_pure rfl (by rfl) _ (fun W hW => by first | exact exec_load_blk _ _ rfl rfl (B17.out.kept hW (fun h => h)) aAM | exact exec_load_blk _ _ rfl rfl (B11.out.kept hW (fun h => h)) aPA | exact exec_load_blk _ _ rfl rfl (B9.out.kept hW (fun h => h)) aWA | (go_simp; exact rfl)) ?_; simp only [Act.put, List.setIfInBounds_toArray, List.set_cons_zero, List.set_cons_succ]
  iterate 2 (refine wpPar_pure rfl (by rfl) _ (fun W hW => by
      go_simp
      exact rfl) ?_; simp only [Act.put, List.setIfInBounds_toArray, List.set_cons_zero, List.set_cons_succ])
  refine wpPar_pure rfl (by rfl) _ (fun W hW => by first | exact exec_load_blk _ _ rfl rfl (B17.out.kept hW (fun h => h)) aAM | exact exec_load_blk _ _ rfl rfl (B11.out.kept hW (fun h => h)) aPA | exact exec_load_blk _ _ rfl rfl (B9.out.kept hW (fun h => h)) aWA | (go_simp; exact rfl)) ?_; simp only [Act.put, List.setIfInBounds_toArray, List.set_cons_zero, List.set_cons_succ]
  refine wpKn_adds hs rfl (by rfl) (fun W hW hd => ?_) (fun v6 hv => ?_)
  · unfold Gives
    go_simp
    refine gives_call (FB.out W (PM9.out.kept hW)) ?_
    rintro e w3 ⟨A3, rfl, k3, p3⟩
    exact ⟨_, rfl, k3, ⟨_, rfl⟩, _, rfl, p3⟩
  obtain ⟨A6v, rfl⟩ : ∃ A, v6 = .agg A := hv
  simp only [Act.put, List.setIfInBounds_toArray, List.set_cons_zero, List.set_cons_succ]
  refine wpKn_adds hs rfl (by rfl) (fun W hW hd => ?_) (fun v7 hv => ?_)
  · unfold Gives
    obtain ⟨A', eA, pA⟩ : ∃ A, Value.agg A6v = .agg A ∧ PV mb W A := hd 6 (List.Mem.head _)
    obtain rfl : A6v = A' := by simpa using eA
    rw [exec_three 53 (.tmp 62) (.tmp 63) (.tmp 68) rfl rtProofs (by decide) rfl rfl rfl HAM.out.1 HPA.out pA.size]
    exact ⟨(Kept.refl None W).alloc _, ⟨_, rfl⟩, _, _, rfl, hW.size, Blk.new W _ _, pA.kept ((Kept.refl None W).alloc _)⟩
  obtain ⟨g7, rfl⟩ : ∃ g, v7 = .slice (some ⟨g, 0, none⟩) 3 3 := hv
  simp only [Act.put, List.setIfInBounds_toArray, List.set_cons_zero, List.set_cons_succ]
  iterate 2 (refine wpPar_pure rfl (by rfl) _ (fun W hW => by
      go_simp
      exact rfl) ?_; simp only [Act.put, List.setIfInBounds_toArray, List.set_cons_zero, List.set_cons_succ])
  refine wpPar_nil (fun wR hW hG => ?_)
  obtain ⟨g, CB, hg3, _, hrow, pvb⟩ : ∃ g C, Value.slice (some ⟨g7, 0, none⟩) 3 3 = .slice (some ⟨g, 0, none⟩) 3 3 ∧ w9.heap.size ≤ g ∧ Blk wR g (AM ++ PA ++ C) 45 ∧ PV mb wR C := hG 7
  obtain rfl : g7 = g := by simpa using hg3
  have KR := hid (K9.out.trans hW)
  have LR := hid (L9.out.kept hW (fun _ _ _ h => h))
  have BT := hid (B10.out.kept hW (fun h => h))
  have BI := hid (B16.out.kept hW (fun h => h))
  have BM := hid (B17.out.kept hW (fun h => h))
  have BR := hid (B18.out.kept hW (fun h => h))
  have PVp := hid (PV9.out.kept hW)
  have PVm := hid (PM9.out.kept hW)
  have PVb := hid pvb
  have ROW := hid hrow
  clear hG hs hW hg3 hrow pvb K9 L9 B9 B10 B11 B16 B17 B18 PV9 PM9 FB
  go_wp2
  have BASE := hid (Kept.refl None wR)
  go_loopg [71] 3 (fun kx s71 wr => ∃ j : Nat, s71 = .int .i64 j ∧ j ≤ 3 ∧ 3 - j ≤ kx ∧ Hid (Kept None wR wr))
  case atStart => exact ⟨0, rfl, by omega, by omega, BASE.out⟩
  case round =>
    obtain ⟨j, rfl, hj, hjx, HKr⟩ := hrel
    by_cases hlt : j < 3
    · have hjz : (j : Int) < 3 := by omega
      obtain ⟨wo, rfl⟩ : ∃ wo : World, wo = wr := ⟨_, rfl⟩
      obtain ⟨q, QA, pvq, rq⟩ : ∃ (q : Pf) (QA : Array Value), PV q wR QA ∧ wo.rangeAt g7 (j * 66) QA.toList := by
        obtain ⟨t0, t1, t2⟩ := three_at (ROW.out.kept HKr.out (fun h => h)) HAM.out.1 HPA.out
        have h0 : j = 0 ∨ j = 1 ∨ j = 2 := by omega
        rcases h0 with rfl | rfl | rfl
        · exact ⟨m, AM, PVm.out, t0⟩
        · exact ⟨p, PA, PVp.out, t1⟩
        · exact ⟨mb, CB, PVb.out, t2⟩
      obtain ⟨CQ, hCQ⟩ : ∃ C, C = QA.toList := ⟨_, rfl⟩
      rw [← hCQ] at rq
      have hQ : CQ.toArray = QA := by rw [hCQ]
      have aQ := PV.agg pvq
      have aCQ : AggTy Try.prog 45 CQ.length := by rw [hCQ, Array.length_toList]; exact aQ
      have RQ := hid rq
      have HQ := hid hQ
      have HQS := hid (And.intro pvq.size pvq.all)
      have PVQ := hid pvq
      obtain ⟨z, hz, hZ⟩ := Blk.any (n := 66) (Blk.new wo Try.zeroCells45 45) (by rfl)
      have EZ := hid (hz.trans pvq.size.symm)
      clear hCQ rq hQ pvq hz
      go_upto_region 14 with (first | (refine wpList_load_at rfl _ _ rfl rfl RQ.out aCQ ?_; rw [HQ.out]) | (refine wpList_store_blk (.refl _) _ _ _ rfl rfl rfl hZ aQ EZ.out HQS.out.2 ?_; intro wa h20 ka; have koa := ka.fresh) | fail)
      have Ka := hid (HKr.out.trans koa)
      have B20 := hid h20
      obtain ⟨g20, hg20⟩ : ∃ g, g = wo.heap.size := ⟨_, rfl⟩
      rw [← hg20] at B20 ⊢
      have BRa := hid (BR.out.kept Ka.out (fun h => h))
      have BTa := hid (BT.out.kept Ka.out (fun h => h))
      clear ka koa h20 hg20 hZ EZ RQ aCQ
      simp only [Act.put]
      go_wp2_with (first | (refine wpList_load_blk rfl _ _ rfl rfl BRa.out aRA ?_) | (refine wpList_load_blk rfl _ _ rfl rfl BTa.out aTA ?_) | (refine wpList_two_hash rfl _ _ _ rfl Hk.rtHashes rfl rfl HRA.out.2.2.1 HTA.out.2.2 ?_) | fail)
      have row := Blk.new wa (RA ++ TA) 25
      rw [HRA.out.1, HTA.out.1] at row
      have KG1 : Hid (Kept None wa (wa.alloc (.cells (RA ++ TA) 25))) := hid ((Kept.refl _ _).alloc _)
      have two : Hid (Rh 0 (wa.alloc (.cells (RA ++ TA) 25)) (.slice (some ⟨wa.heap.size, 0, none⟩) 2 2) [r, root]) := hid (by rw [HRA.out.1, HTA.out.1]; exact ⟨_, (Hs.two row HRA.out.2.1 HTA.out.2.1).wider' (Nat.zero_le _)⟩)
      clear row BRa BTa
      go_loopg [79] 2 (fun kx s79 wr => ∃ j5 : Nat, s79 = .int .i64 j5 ∧ j5 ≤ 2 ∧ 2 - j5 ≤ kx ∧ Hid (Kept None wa wr) ∧ Hid (Rh 0 wr (.slice (some ⟨wa.heap.size, 0, none⟩) 2 2) [r, root]))
      case atStart => exact ⟨0, rfl, Nat.zero_le _, Nat.le_refl _, KG1.out, two.out⟩
      case round =>
        clear KG1 two
        obtain ⟨j5, rfl, hj5, hjx5, HKr5, HBr5⟩ := hrel
        by_cases hlt5 : j5 < 2
        · have hjz5 : (j5 : Int) < 2 := by omega
          obtain ⟨wh, rfl⟩ : ∃ wh : World, wh = wr := ⟨_, rfl⟩
          obtain ⟨lf, lf32, rl⟩ : ∃ lf : List UInt8, lf.length = 32 ∧ wh.rangeAt wa.heap.size (j5 * 32) (lf.map u8v) := by
            obtain ⟨hi, hv⟩ := HBr5.out
            obtain ⟨b', o, e1, e2⟩ := hv.at (i := j5) hlt5
            injection e1 with e1
            injection e1 with e1 e3
            rw [← e1, ← e3, Nat.zero_add] at e2
            exact ⟨_, hv.1 _ (List.getElem_mem hlt5), e2⟩
          obtain ⟨CL, hCL⟩ : ∃ C : List Value, C = lf.map u8v := ⟨_, rfl⟩
          obtain ⟨LA, hLA⟩ : ∃ A : Array Value, A = CL.toArray := ⟨_, rfl⟩
          rw [← hCL] at rl
          have aL : AggTy Try.prog 25 CL.length := by rw [hCL]; exact aH32' lf32
          have aLA : AggTy Try.prog 25 LA.size := by rw [hLA, hCL]; exact aH32 lf32
          have sLA : LA.size = 32 := by rw [hLA, hCL]; simpa using lf32
          have allL : LA.all (·.oneCell') = true := by rw [hLA, hCL]; exact u8v_all' _
          have RL := hid rl
          have HLA := hid hLA
          have eLA : LA = (lf.map u8v).toArray := by rw [hLA, hCL]
          have HLE := hid (And.intro sLA allL)
          obtain ⟨cv, hcv⟩ : ∃ c, c = checkV lf i q := ⟨_, rfl⟩
          have cv32 : cv.length = 32 := by rw [hcv]; exact checkV_len PVQ.out.1
          obtain ⟨bh, hbh⟩ : ∃ c, c = checkH lf i q := ⟨_, rfl⟩
          obtain ⟨bo, hbo⟩ : ∃ c, c = okP lf i q := ⟨_, rfl⟩
          have f1 := fun W (h : PV q W QA) => checkA lf i q QA W lf32 HIA.out.2.1 h
          have f2 := fun W (h : PV q W QA) => rcheckA lf i q QA W lf32 HIA.out.2.1 h
          rw [← hcv, ← hbh, ← hbo] at f1 f2
          obtain ⟨CA, hCA⟩ : ∃ C : Array Value, C = (cv.map u8v).toArray := ⟨_, rfl⟩
          have aCA : AggTy Try.prog 25 CA.size := by rw [hCA]; exact aH32 cv32
          have sCA : CA.size = 32 := by rw [hCA]; simpa using cv32
          have allCA : CA.all (·.oneCell') = true := by rw [hCA]; exact u8v_all' _
          have e1 := Hk.neqHash cv cv cv32 cv32
          rw [beq_self_eq_true, ← hCA] at e1
          simp only [hashV, ← eLA, ← HIA.out.1, ← hCA] at f1 f2
          have F1 := hid f1
          have F2 := hid f2
          have HCA := hid (And.intro sCA allCA)
          obtain ⟨zh, hzh, hZh⟩ := Blk.any (n := 32) (Blk.new wh #[.int .u8 0, .int .u8 0, .int .u8 0, .int .u8 0, .int .u8 0, .int .u8 0, .int .u8 0, .int .u8 0, .int .u8 0, .int .u8 0, .int .u8 0, .int .u8 0, .int .u8 0, .int .u8 0, .int .u8 0, .int .u8 0, .int .u8 0, .int .u8 0, .int .u8 0, .int .u8 0, .int .u8 0, .int .u8 0, .int .u8 0, .int .u8 0, .int .u8 0, .int .u8 0, .int .u8 0, .int .u8 0, .int .u8 0, .int .u8 0, .int .u8 0, .int .u8 0] 25) (by rfl)
          have Eh := hid (hzh.trans sLA.symm)
          clear hCL hLA lf32 sLA allL rl hzh eLA hcv cv32 hbh hbo f1 f2 hCA sCA allCA
          go_upto_region 17 with (first | (refine wpList_load_at rfl _ _ rfl rfl RL.out aL ?_; rw [← HLA.out]) | (refine wpList_store_blk rfl _ _ _ rfl rfl rfl hZh aLA Eh.out HLE.out.2 ?_; intro wb h22 kb; have khb := kb.fresh) | fail)
          have Kb := hid (HKr5.out.trans khb)
          have Hhb := hid khb
          have KRb := hid (Ka.out.trans Kb.out)
          have B22 := hid h22
          obtain ⟨g22, hg22⟩ : ∃ g, g = wh.heap.size := ⟨_, rfl⟩
          rw [← hg22] at B22 ⊢
          have BIb := hid (BI.out.kept KRb.out (fun h => h))
          have B20b := hid (B20.out.kept Kb.out (fun h => h))
          have PVb2 := hid (PVQ.out.kept KRb.out)
          clear kb khb h22 hg22 hZh Eh RL aL
          simp only [Act.put]
          go_wp2_with (first | (refine wpList_load_blk rfl _ _ rfl rfl B22.out aLA ?_) | (refine wpList_load_blk rfl _ _ rfl rfl BIb.out aIA ?_) | (refine wpList_load_blk (.refl _) _ _ rfl rfl B20b.out aQ ?_) | fail)
          refine (F1.out wb PVb2.out).mono ?_
          rintro e wc1 ⟨rfl, kc⟩
          have Kc := hid (Kb.out.trans kc)
          have Hhc := hid (Hhb.out.trans kc)
          have B22c := hid (B22.out.kept kc (fun h => h))
          have BIc := hid (BIb.out.kept kc (fun h => h))
          have B20c := hid (B20b.out.kept kc (fun h => h))
          have PVc := hid (PVb2.out.kept kc)
          obtain ⟨zc, hzc, hZc⟩ := Blk.any (n := 32) (Blk.new wc1 #[.int .u8 0, .int .u8 0, .int .u8 0, .int .u8 0, .int .u8 0, .int .u8 0, .int .u8 0, .int .u8 0, .int .u8 0, .int .u8 0, .int .u8 0, .int .u8 0, .int .u8 0, .int .u8 0, .int .u8 0, .int .u8 0, .int .u8 0, .int .u8 0, .int .u8 0, .int .u8 0, .int .u8 0, .int .u8 0, .int .u8 0, .int .u8 0, .int .u8 0, .int .u8 0, .int .u8 0, .int .u8 0, .int .u8 0, .int .u8 0, .int .u8 0, .int .u8 0] 25) (by rfl)
          have Ec := hid (hzc.trans HCA.out.1.symm)
          clear kc hzc B22 BIb B20b PVb2 Kb KRb
          go_upto_region 18 with (first | (refine wpList_store_blk rfl _ _ _ rfl rfl rfl hZc aCA Ec.out HCA.out.2 ?_; intro wd h23 kd; have kcd := kd.fresh) | fail)
          have Kd := hid (Kc.out.trans kcd)
          have Hhd := hid (Hhc.out.trans kcd)
          have B22d := hid (B22c.out.kept kcd (fun h => h))
          have BId := hid (BIc.out.kept kcd (fun h => h))
          have B20d := hid (B20c.out.kept kcd (fun h => h))
          have PVd := hid (PVc.out.kept kcd)
          have B23 := hid h23
          obtain ⟨g23, hg23⟩ : ∃ g, g = wc1.heap.size := ⟨_, rfl⟩
          rw [← hg23] at B23 ⊢
          clear kd kcd h23 hg23 hZc Ec B22c BIc B20c PVc Kc
          go_wp2_with (first | (refine wpList_load_blk rfl _ _ rfl rfl B22d.out aLA ?_) | (refine wpList_load_blk rfl _ _ rfl rfl BId.out aIA ?_) | (refine wpList_load_blk (.refl _) _ _ rfl rfl B20d.out aQ ?_) | fail)
          refine (F2.out wd PVd.out).mono ?_
          rintro e we ⟨rfl, ke⟩
          have Ke := hid (Kd.out.trans ke)
          have Hhe := hid (Hhd.out.trans ke)
          have B23e := hid (B23.out.kept ke (fun h => h))
          obtain ⟨ze, hze, hZe⟩ := Blk.any (n := 32) (Blk.new we #[.int .u8 0, .int .u8 0, .int .u8 0, .int .u8 0, .int .u8 0, .int .u8 0, .int .u8 0, .int .u8 0, .int .u8 0, .int .u8 0, .int .u8 0, .int .u8 0, .int .u8 0, .int .u8 0, .int .u8 0, .int .u8 0, .int .u8 0, .int .u8 0, .int .u8 0, .int .u8 0, .int .u8 0, .int .u8 0, .int .u8 0, .int .u8 0, .int .u8 0, .int .u8 0, .int .u8 0, .int .u8 0, .int .u8 0, .int .u8 0, .int .u8 0, .int .u8 0] 25) (by rfl)
          have Ee := hid (hze.trans HCA.out.1.symm)
          clear ke hze B22d BId B20d PVd Kd B23
          go_wp2_with (first | go_skip | (refine wpList_store_blk rfl _ _ _ rfl rfl rfl hZe aCA Ee.out HCA.out.2 ?_; intro wf h26 kf; have kef := kf.fresh; have B23f := B23e.out.kept kef (fun h => h)) | (refine wpList_load_blk rfl _ _ rfl rfl B23f aCA ?_) | (refine wpList_load_blk rfl _ _ rfl rfl h26 aCA ?_) | fail)
          have Kf := hid (Ke.out.trans kef)
          have BRr := hid (HBr5.out.kept (Hhe.out.trans kef))
          go_roundg (2 - (j5 + 1))
          case measure => omega
          case rel => exact ⟨j5 + 1, by go_num, by omega, Nat.le_refl _, Kf, BRr⟩
        · have hjz5 : ¬ (j5 : Int) < 2 := by omega
          have KRx := hid (Ka.out.trans HKr5.out)
          have BIx := BI.out.kept KRx.out (fun h => h)
          have B20x := B20.out.kept HKr5.out (fun h => h)
          have PVx := PVQ.out.kept KRx.out
          obtain ⟨bR, hbR⟩ : ∃ b, b = rightP i q := ⟨_, rfl⟩
          have f1 := fun W (h : PV q W QA) => rightA i q QA W HIA.out.2.1 h
          have f2 := fun W (h : PV q W QA) => rrightA i q QA W HIA.out.2.1 h
          rw [← hbR] at f1 f2
          simp only [hashV, ← HIA.out.1] at f1 f2
          have F1 := hid f1
          have F2 := hid f2
          clear f1 f2 hbR
          go_wp2_with fail
          have hs : Steady [.val 2 (.bool bR), .val 5 (.bool bR)] := Go.Pm.Steady.val (Go.Pm.Steady.val (Go.Pm.Steady.nil))
          refine wp_region_kn wr _ hs (Kept.refl _ _) (by kernel_rfl) (by kernel_rfl) (by kernel_rfl) ?_
          refine wpPar_pure rfl (by rfl) _ (fun W hW => by first | exact exec_load_blk _ _ rfl rfl (B20x.kept hW (fun h => h)) aQ | exact exec_load_blk _ _ rfl rfl (BIx.kept hW (fun h => h)) aIA | (have q1 : (bR != bR) = false := by cases bR <;> rfl; go_simp; exact rfl)) ?_; simp only [Act.put, List.setIfInBounds_toArray, List.set_cons_zero, List.set_cons_succ]
          refine wpPar_pure rfl (by rfl) _ (fun W hW => by first | exact exec_load_blk _ _ rfl rfl (B20x.kept hW (fun h => h)) aQ | exact exec_load_blk _ _ rfl rfl (BIx.kept hW (fun h => h)) aIA | (have q1 : (bR != bR) = false := by cases bR <;> rfl; go_simp; exact rfl)) ?_; simp only [Act.put, List.setIfInBounds_toArray, List.set_cons_zero, List.set_cons_succ]
          refine wpKn_adds hs rfl (by rfl) (fun W hW hd => ?_) (fun v2 hv => ?_)
          · unfold Gives
            go_simp
            refine gives_call (F1.out W (PVx.kept hW)) ?_
            rintro e w3 ⟨rfl, k3⟩
            exact ⟨_, rfl, k3, rfl, trivial⟩
          obtain rfl : v2 = .bool bR := hv
          simp only [Act.put, List.setIfInBounds_toArray, List.set_cons_zero, List.set_cons_succ]
          refine wpPar_pure rfl (by rfl) _ (fun W hW => by first | exact exec_load_blk _ _ rfl rfl (B20x.kept hW (fun h => h)) aQ | exact exec_load_blk _ _ rfl rfl (BIx.kept hW (fun h => h)) aIA | (have q1 : (bR != bR) = false := by cases bR <;> rfl; go_simp; exact rfl)) ?_; simp only [Act.put, List.setIfInBounds_toArray, List.set_cons_zero, List.set_cons_succ]
          refine wpPar_pure rfl (by rfl) _ (fun W hW => by first | exact exec_load_blk _ _ rfl rfl (B20x.kept hW (fun h => h)) aQ | exact exec_load_blk _ _ rfl rfl (BIx.kept hW (fun h => h)) aIA | (have q1 : (bR != bR) = false := by cases bR <;> rfl; go_simp; exact rfl)) ?_; simp only [Act.put, List.setIfInBounds_toArray, List.set_cons_zero, List.set_cons_succ]
          refine wpKn_adds hs rfl (by rfl) (fun W hW hd => ?_) (fun v5 hv => ?_)
          · unfold Gives
            go_simp
            refine gives_call (F2.out W (PVx.kept hW)) ?_
            rintro e w3 ⟨rfl, k3⟩
            exact ⟨_, rfl, k3, rfl, trivial⟩
          obtain rfl : v5 = .bool bR := hv
          simp only [Act.put, List.setIfInBounds_toArray, List.set_cons_zero, List.set_cons_succ]
          iterate 1 (refine wpPar_pure rfl (by rfl) _ (fun W hW => by
              have q1 : (bR != bR) = false := by cases bR <;> rfl
              go_simp
              exact rfl) ?_; simp only [Act.put, List.setIfInBounds_toArray, List.set_cons_zero, List.set_cons_succ])
          refine wpPar_nil (fun W hW hG => ?_)
          have KN := hid (KRx.out.trans hW)
          clear hG hs hW BIx B20x PVx F1 F2
          go_wp2
          go_roundg (3 - (j + 1))
          case measure => omega
          case rel => exact ⟨j + 1, by go_num, by omega, Nat.le_refl _, KN⟩
    · have hjz : ¬ (j : Int) < 3 := by omega
      have BRx := BR.out.kept HKr.out (fun h => h)
      have BIx := BI.out.kept HKr.out (fun h => h)
      have BMx := BM.out.kept HKr.out (fun h => h)
      have PMx := PVm.out.kept HKr.out
      obtain ⟨sv, hsv⟩ : ∃ c, c = saysV m := ⟨_, rfl⟩
      have sv32 : sv.length = 32 := by rw [hsv]; exact saysV_len HM.out.1
      obtain ⟨bT, hbT⟩ : ∃ b, b = thereB l i := ⟨_, rfl⟩
      have f1 := fun W (h : PV m W AM) => checkA r i m AM W HRA.out.2.1 HIA.out.2.1 h
      rw [HM.out.2.1.1, HM.out.2.1.2.1, HM.out.2.1.2.2, HM.out.2.2.1, ← hsv, ← hbT] at f1
      obtain ⟨SV, hSV⟩ : ∃ C : Array Value, C = (sv.map u8v).toArray := ⟨_, rfl⟩
      have aSV : AggTy Try.prog 25 SV.size := by rw [hSV]; exact aH32 sv32
      have sSV : SV.size = 32 := by rw [hSV]; simpa using sv32
      have allSV : SV.all (·.oneCell') = true := by rw [hSV]; exact u8v_all' _
      simp only [hashV, ← HIA.out.1, ← HRA.out.1, ← hSV] at f1
      have hzero : bT = false → ∀ w, (binOp .eql 25 (.agg SV) (.agg #[.int .u8 0, .int .u8 0, .int .u8 0, .int .u8 0, .int .u8 0, .int .u8 0, .int .u8 0, .int .u8 0, .int .u8 0, .int .u8 0, .int .u8 0, .int .u8 0, .int .u8 0, .int .u8 0, .int .u8 0, .int .u8 0, .int .u8 0, .int .u8 0, .int .u8 0, .int .u8 0, .int .u8 0, .int .u8 0, .int .u8 0, .int .u8 0, .int .u8 0, .int .u8 0, .int .u8 0, .int .u8 0, .int .u8 0, .int .u8 0, .int .u8 0, .int .u8 0])).run Try.prog w = .ok (.bool true) w := fun h => by
        have e0 : sv = zero32 := by
          rw [hsv]
          unfold saysV
          have h2 := HM.out.2.2.1
          rw [← hbT, h] at h2
          unfold saysH at h2
          rw [if_neg (by simpa using h2)]
        have e1 := Hk.eqHash sv zero32 sv32 rfl
        rw [← hSV, e0, beq_self_eq_true] at e1
        exact e1
      have F1 := hid f1
      have HZERO := hid hzero
      have HSV := hid (And.intro sSV allSV)
      have HBT := hid hbT
      clear hsv sv32 hbT f1 hSV sSV allSV hzero
      go_wp2_with (first | (refine wpList_load_blk rfl _ _ rfl rfl BRx aRA ?_) | (refine wpList_load_blk rfl _ _ rfl rfl BIx aIA ?_) | (refine wpList_load_blk (.refl _) _ _ rfl rfl BMx aAM ?_) | fail)
      refine (F1.out _ PMx).mono ?_
      rintro e w13 ⟨rfl, k13⟩
      have K13 := hid (HKr.out.trans k13)
      obtain ⟨z, hz, hZ⟩ := Blk.any (n := 32) (Blk.new w13 #[.int .u8 0, .int .u8 0, .int .u8 0, .int .u8 0, .int .u8 0, .int .u8 0, .int .u8 0, .int .u8 0, .int .u8 0, .int .u8 0, .int .u8 0, .int .u8 0, .int .u8 0, .int .u8 0, .int .u8 0, .int .u8 0, .int .u8 0, .int .u8 0, .int .u8 0, .int .u8 0, .int .u8 0, .int .u8 0, .int .u8 0, .int .u8 0, .int .u8 0, .int .u8 0, .int .u8 0, .int .u8 0, .int .u8 0, .int .u8 0, .int .u8 0, .int .u8 0] 25) (by rfl)
      have EZ := hid (hz.trans HSV.out.1.symm)
      clear k13 hz BRx BIx BMx PMx F1
      go_wp2_with (first | (refine wpList_store_blk rfl _ _ _ rfl rfl rfl hZ aSV EZ.out HSV.out.2 ?_; intro w14 h29 k14; have k34 := k14.fresh) | fail)
      have K14 := hid (K13.out.trans k34)
      have B29 := hid h29
      obtain ⟨g29, hg29⟩ : ∃ g, g = w13.heap.size := ⟨_, rfl⟩
      rw [← hg29] at B29 ⊢
      have BI14 := hid (BI.out.kept K14.out (fun h => h))
      have L14 := hid (LR.out.kept K14.out (fun _ _ _ h => h))
      clear k14 k34 h29 hg29 hZ EZ K13
      go_loopg [32, 33] ln (fun ky s32 s33 wr => ∃ jj : Nat, s32 = .bool (thereB (l.take jj) i) ∧ s33 = .int .i64 jj ∧ jj ≤ ln ∧ ln - jj ≤ ky ∧ Hid (Kept None w14 wr))
      case atStart => exact ⟨0, rfl, rfl, Nat.zero_le _, Nat.le_refl _, Kept.refl _ _⟩
      case round =>
        obtain ⟨jj, rfl, rfl, hjj, hky, HJ⟩ := hrel
        by_cases hjl : jj < ln
        · have hzj : (jj : Int) < (ln : Int) := by omega
          have hjl2 : jj < l.length := by have := HLS.out.1; omega
          obtain ⟨b', o', hbo, _, _, _, hcx⟩ := (L14.out.kept HJ.out (fun _ _ _ h => h)).ne (by omega)
          obtain rfl := hbo
          have hy := hcx jj l[jj] (List.getElem?_eq_getElem hjl2)
          have hy32 := HLS.out.2.2 l[jj] (List.getElem_mem hjl2)
          have hth := there_take l i jj hjl2
          obtain ⟨y, hyy⟩ : ∃ y, y = l[jj] := ⟨_, rfl⟩
          rw [← hyy] at hy hy32 hth
          clear hyy hcx
          have rY : wr.rangeAt b' (o' + jj * 64) (y.i.map u8v) := by
            have h := rangeAt_take hy 32
            rwa [show (itC y).take 32 = y.i.map u8v from List.take_left' (by simp [hy32.1])] at h
          have RY := hid rY
          have e6 := Hk.eqHash y.i i hy32.1 HIA.out.2.1
          have aY : AggTy Try.prog 25 (y.i.map u8v).length := aH32' hy32.1
          have BN := hid (BI14.out.kept HJ.out (fun h => h))
          obtain ⟨CY, hCY⟩ : ∃ C, C = y.i.map u8v := ⟨_, rfl⟩
          rw [← HIA.out.1, ← hCY] at e6
          rw [← hCY] at RY aY
          obtain ⟨t, ht⟩ : ∃ t, t = thereB (l.take jj) i := ⟨_, rfl⟩
          obtain ⟨qq, hq⟩ : ∃ q, q = (y.i == i) := ⟨_, rfl⟩
          rw [← ht, ← hq] at hth
          rw [← ht]
          rw [← hq] at e6
          have E6 := hid e6
          have HTH := hid hth
          clear rY e6 hCY ht hq hth hy hy32
          cases t with
          | true =>
            go_wp2_with fail
            have hs : Ky.Steady [] := Ky.Steady.nil
            refine Ky.wp_region_kn wr _ hs (Kept.refl _ _) (by kernel_rfl) (by kernel_rfl) (by kernel_rfl) ?_
            iterate 2 (refine Ky.wpPar_pure rfl (by rfl) _ (fun W hW => by
                have e6 := E6.out
                go_simp
                exact rfl) ?_; simp only [Act.put, List.setIfInBounds_toArray, List.set_cons_zero, List.set_cons_succ])
            refine Ky.wpPar_skip (by kernel_rfl) ?_; simp only [Act.put, List.setIfInBounds_toArray, List.set_cons_zero, List.set_cons_succ]
            refine Ky.wpPar_skip (by kernel_rfl) ?_; simp only [Act.put, List.setIfInBounds_toArray, List.set_cons_zero, List.set_cons_succ]
            refine Ky.wpPar_skip (by kernel_rfl) ?_; simp only [Act.put, List.setIfInBounds_toArray, List.set_cons_zero, List.set_cons_succ]
            refine Ky.wpPar_skip (by kernel_rfl) ?_; simp only [Act.put, List.setIfInBounds_toArray, List.set_cons_zero, List.set_cons_succ]
            refine Ky.wpPar_skip (by kernel_rfl) ?_; simp only [Act.put, List.setIfInBounds_toArray, List.set_cons_zero, List.set_cons_succ]
            refine Ky.wpPar_skip (by kernel_rfl) ?_; simp only [Act.put, List.setIfInBounds_toArray, List.set_cons_zero, List.set_cons_succ]
            refine Ky.wpPar_skip (by kernel_rfl) ?_; simp only [Act.put, List.setIfInBounds_toArray, List.set_cons_zero, List.set_cons_succ]
            iterate 2 (refine Ky.wpPar_pure rfl (by rfl) _ (fun W hW => by
                have e6 := E6.out
                go_simp
                exact rfl) ?_; simp only [Act.put, List.setIfInBounds_toArray, List.set_cons_zero, List.set_cons_succ])
            refine Ky.wpPar_nil (fun W hW hG => ?_)
            have HW := hid (HJ.out.trans hW)
            clear hG hs hW HJ
            go_wp2
            go_roundg (ln - (jj + 1))
            case measure => omega
            case rel => exact ⟨jj + 1, by rw [HTH.out]; rfl, by rw [wrapJ jj (by have := HLS.out.1; have := HLS.out.2.1; omega)], by omega, Nat.le_refl _, HW⟩
          | false =>
            go_wp2_with fail
            have hs : Ky.Steady [] := Ky.Steady.nil
            refine Ky.wp_region_kn wr _ hs (Kept.refl _ _) (by kernel_rfl) (by kernel_rfl) (by kernel_rfl) ?_
            iterate 2 (refine Ky.wpPar_pure rfl (by rfl) _ (fun W hW => by
                have e6 := E6.out
                go_simp
                exact rfl) ?_; simp only [Act.put, List.setIfInBounds_toArray, List.set_cons_zero, List.set_cons_succ])
            refine Ky.wpPar_pure rfl (by kernel_rfl) _ (fun W hW => by first | (have e6 := E6.out; go_simp; exact rfl)) ?_; simp only [Act.put, List.setIfInBounds_toArray, List.set_cons_zero, List.set_cons_succ]
            refine Ky.wpPar_pure rfl (by kernel_rfl) _ (fun W hW => by first | (have e6 := E6.out; go_simp; exact rfl)) ?_; simp only [Act.put, List.setIfInBounds_toArray, List.set_cons_zero, List.set_cons_succ]
            refine Ky.wpPar_pure rfl (by kernel_rfl) _ (fun W hW => by first | (have e6 := E6.out; go_simp; exact rfl)) ?_; simp only [Act.put, List.setIfInBounds_toArray, List.set_cons_zero, List.set_cons_succ]
            refine Ky.wpPar_pure rfl (by kernel_rfl) _ (fun W hW => by first | (have e6 := E6.out; go_simp; exact rfl)) ?_; simp only [Act.put, List.setIfInBounds_toArray, List.set_cons_zero, List.set_cons_succ]
            refine Ky.wpPar_pure rfl (by kernel_rfl) _ (fun W hW => by first | exact exec_load_at rfl rfl (rangeAt_kept RY.out hW) aY | exact exec_load_blk _ _ rfl rfl (BN.out.kept hW (fun h => h)) aIA | (have e6 := E6.out; go_simp; exact rfl)) ?_; simp only [Act.put, List.setIfInBounds_toArray, List.set_cons_zero, List.set_cons_succ]
            refine Ky.wpPar_pure rfl (by kernel_rfl) _ (fun W hW => by first | exact exec_load_at rfl rfl (rangeAt_kept RY.out hW) aY | exact exec_load_blk _ _ rfl rfl (BN.out.kept hW (fun h => h)) aIA | (have e6 := E6.out; go_simp; exact rfl)) ?_; simp only [Act.put, List.setIfInBounds_toArray, List.set_cons_zero, List.set_cons_succ]
            refine Ky.wpPar_pure rfl (by kernel_rfl) _ (fun W hW => by first | (have e6 := E6.out; go_simp; exact rfl)) ?_; simp only [Act.put, List.setIfInBounds_toArray, List.set_cons_zero, List.set_cons_succ]
            iterate 2 (refine Ky.wpPar_pure rfl (by rfl) _ (fun W hW => by
                have e6 := E6.out
                go_simp
                exact rfl) ?_; simp only [Act.put, List.setIfInBounds_toArray, List.set_cons_zero, List.set_cons_succ])
            refine Ky.wpPar_nil (fun W hW hG => ?_)
            have HW := hid (HJ.out.trans hW)
            clear hG hs hW HJ
            go_wp2
            go_roundg (ln - (jj + 1))
            case measure => omega
            case rel => exact ⟨jj + 1, by rw [HTH.out]; rfl, by rw [wrapJ jj (by have := HLS.out.1; have := HLS.out.2.1; omega)], by omega, Nat.le_refl _, HW⟩
        · have hzj : ¬ (jj : Int) < (ln : Int) := by omega
          have hjl2 : jj = l.length := by have := HLS.out.1; omega
          have B29r := B29.out.kept HJ.out (fun h => h)
          have hbt : thereB (l.take jj) i = bT := by rw [hjl2, List.take_length, HBT.out]
          rw [hbt]
          have KF := hid (KR.out.trans (K14.out.trans HJ.out))
          clear hjl2 hbt HBT
          cases bT with
          | true =>
            go_wp2_with (first | go_skip | fail)
            go_ret
            exact ⟨rfl, KF.out⟩
          | false =>
            have e1 := HZERO.out rfl
            go_wp2_with (first | go_skip | (refine wpList_load_bw (by kernel_rfl) rfl rfl B29r aSV ?_) | fail)
            go_ret
            exact ⟨rfl, KF.out⟩
end Pr
end Go.Proofs.Ytkogkcaflhjlhaa
