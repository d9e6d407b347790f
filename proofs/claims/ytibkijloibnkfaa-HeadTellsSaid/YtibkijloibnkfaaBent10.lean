/- The law's bent, of heads: some head comes out. -/
import Derived.Test.YtibkijloibnkfaaStCut10
import Derived.Deep.DeepCutAuto
namespace Go.Pm
open Go Go.RowKit
/-- A goal, held back from the walk. -/
def Stay (p : Prop) : Prop := p
/-- An operation that yields a value. -/
theorem wpList_val {P : Program} {ops : Array Oper} {rest : List Oper} {o : Oper} {a : Act} {w : World} {Q : Exit → Act → World → Prop} (hgd : o.guard = none) {v : Value} (hr : (execOp a.eval o).run P w = .ok (.value v) w) (h : wpList P ops Q rest (a.put o.dst v) w) : wpList P ops Q (o :: rest) a w :=
  wpList_plain hgd fun _ hK => by
    unfold Oper.wp
    rw [hr]
    exact hK _ _ h
theorem Stay.mk {p : Prop} (h : Stay p) : p := h
end Go.Pm
namespace Go.Proofs.Ytibkijloibnkfaa
open Go.RowKit Go.Pm
namespace H10
open Hp (aHd aHd')
set_option maxRecDepth 100000 in
set_option maxHeartbeats 8000000 in
theorem bent (h : Hd) (what : Nat) (x : Int) (raw : List UInt8) (w : World) (hk : h.Ok) (_hw : what < 256) (h32 : raw.length = 32) :
    Calls Try.prog 9 #[hdV h, .int .u8 what, .int .i64 x, hashV raw] w fun e w' => ∃ h', h'.Ok ∧ e = .returned (hdV h') ∧ Kept None w w' := by
  obtain ⟨R, hR⟩ : ∃ R : Nat, R = (U6 x).toNat := ⟨_, rfl⟩
  have hx0 := U6_ge x
  have hx1 := U6_lt x
  have wu : IntKind.u64.wrap x = (R : Int) := by rw [hR, Int.toNat_of_nonneg hx0, IntKind.wrap_u64]
  have HR := hid (show R < 18446744073709551616 by omega)
  obtain ⟨X, hX⟩ : ∃ X, X = (hdC h).toArray := ⟨_, rfl⟩
  show Calls _ _ #[.agg (hdC h).toArray, .int .u8 what, .int .i64 x, .agg (raw.map u8v).toArray] w _
  rw [← hX]
  have k0 : Kept None w (((w.alloc (.cells X 28)).alloc (.cells (raw.map u8v).toArray 23)).alloc (.cells Try.zeroCells28 28)) := (((Kept.refl _ _).alloc _).alloc _).alloc _
  have bX : Blk (((w.alloc (.cells X 28)).alloc (.cells (raw.map u8v).toArray 23)).alloc (.cells Try.zeroCells28 28)) w.heap.size X 28 := ((Blk.new w _ _).alloc _).alloc _
  have bR : Blk (((w.alloc (.cells X 28)).alloc (.cells (raw.map u8v).toArray 23)).alloc (.cells Try.zeroCells28 28)) (w.heap.size + 1) (raw.map u8v).toArray 23 := (Blk.new2 w _ _ _).alloc _
  obtain ⟨Z, hZ, zB⟩ := Blk.any (n := 69) (Blk.new3 w (.cells X 28) (.cells (raw.map u8v).toArray 23) Try.zeroCells28 28) (by rfl)
  have aR : AggTy Try.prog 23 (raw.map u8v).toArray.size := Hk.aH32 h32
  obtain ⟨t7, ht7⟩ : ∃ t, t = what % 7 := ⟨_, rfl⟩
  have m7 : (what : Int).tmod 7 = (t7 : Int) := by rw [ht7]; rfl
  have hcs : t7 = 0 ∨ t7 = 1 ∨ t7 = 2 ∨ t7 = 3 ∨ t7 = 4 ∨ t7 = 5 ∨ t7 = 6 := by omega
  have AR := hid aR
  have HX := hid hX
  clear hR hx0 hx1 aR ht7 hX
  go_enter Try.func9, Try.ntmps9
  go_upto_region 1 with (fail)
  refine wp_nm ?_
  intro w1 e1
  rw [← e1] at k0 bX bR zB
  clear e1
  have HB : Hid (Blk w1 w.heap.size (hdC h).toArray 28) := hid (HX.out ▸ bX)
  have HK := hid hk
  have H32 := hid h32
  have HZ := hid hZ
  have K0 := hid k0
  clear k0 bX hk h32 hZ
  rcases hcs with rfl | rfl | rfl | rfl | rfl | rfl | rfl
  · have HQ : Hid (Hd.Ok { h with e := x }) := hid HK.out
    obtain ⟨Y, hY⟩ : ∃ Y, Y = (hdC { h with e := x }).toArray := ⟨_, rfl⟩
    have aY : AggTy Try.prog 28 Y.size := by rw [hY]; exact aHd' HQ.out
    have HY := hid (And.intro (show 69 = Y.size by rw [hY]; exact (hdC_size HQ.out).symm) (And.intro (show Y.all (·.oneCell') = true by rw [hY]; exact hdC_one _) hY))
    clear hY
    have hB := HB.out
    have cc := hd_c0 hB
    have ff := hB.free 0
    have b4 : Blk (w1.setCell ⟨w.heap.size, 0, none⟩ (.int .i64 x)) w.heap.size Y 28 := by
      have h1 := hB.set 0 (.int .i64 x)
      rw [hd_set_e h x, ← HY.out.2.2] at h1
      exact h1
    have z4 : Blk (w1.setCell ⟨w.heap.size, 0, none⟩ (.int .i64 x)) (w.heap.size + 1 + 1) Z 28 := zB.setOther (by show w.heap.size + 1 + 1 ≠ w.heap.size; omega) _
    have K4 : Hid (Kept None w (w1.setCell ⟨w.heap.size, 0, none⟩ (.int .i64 x))) := hid (K0.out.setNew (Nat.le_refl _) 0 _)
    clear hB bR zB
    have E := hid (HZ.out.trans HY.out.1)
    go_wp2_with (first | (refine wpList_load_blk rfl _ _ rfl rfl b4 aY ?_) | (refine wpList_store_blk rfl _ _ _ rfl rfl rfl z4 aY E.out HY.out.2.1 ?_; intro w9 h9 k9) | fail)
    exact bodyPost_ret (v := .agg Y) (results_blk rfl _ rfl h9 aY) rfl ⟨_, HQ.out, by rw [HY.out.2.2], K4.out.then k9 (fun i hi (h : i = w.heap.size + 1 + 1) => by omega)⟩
  · have HQ : Hid (Hd.Ok { h with t := x }) := hid HK.out
    obtain ⟨Y, hY⟩ : ∃ Y, Y = (hdC { h with t := x }).toArray := ⟨_, rfl⟩
    have aY : AggTy Try.prog 28 Y.size := by rw [hY]; exact aHd' HQ.out
    have HY := hid (And.intro (show 69 = Y.size by rw [hY]; exact (hdC_size HQ.out).symm) (And.intro (show Y.all (·.oneCell') = true by rw [hY]; exact hdC_one _) hY))
    clear hY
    have hB := HB.out
    have cc := hd_c1 hB
    have ff := hB.free 1
    have b4 : Blk (w1.setCell ⟨w.heap.size, 1, none⟩ (.int .i64 x)) w.heap.size Y 28 := by
      have h1 := hB.set 1 (.int .i64 x)
      rw [hd_set_t h x, ← HY.out.2.2] at h1
      exact h1
    have z4 : Blk (w1.setCell ⟨w.heap.size, 1, none⟩ (.int .i64 x)) (w.heap.size + 1 + 1) Z 28 := zB.setOther (by show w.heap.size + 1 + 1 ≠ w.heap.size; omega) _
    have K4 : Hid (Kept None w (w1.setCell ⟨w.heap.size, 1, none⟩ (.int .i64 x))) := hid (K0.out.setNew (Nat.le_refl _) 1 _)
    clear hB bR zB
    have E := hid (HZ.out.trans HY.out.1)
    go_wp2_with (first | (refine wpList_load_blk rfl _ _ rfl rfl b4 aY ?_) | (refine wpList_store_blk rfl _ _ _ rfl rfl rfl z4 aY E.out HY.out.2.1 ?_; intro w9 h9 k9) | fail)
    exact bodyPost_ret (v := .agg Y) (results_blk rfl _ rfl h9 aY) rfl ⟨_, HQ.out, by rw [HY.out.2.2], K4.out.then k9 (fun i hi (h : i = w.heap.size + 1 + 1) => by omega)⟩
  · have HQ : Hid (Hd.Ok { h with c := x }) := hid HK.out
    obtain ⟨Y, hY⟩ : ∃ Y, Y = (hdC { h with c := x }).toArray := ⟨_, rfl⟩
    have aY : AggTy Try.prog 28 Y.size := by rw [hY]; exact aHd' HQ.out
    have HY := hid (And.intro (show 69 = Y.size by rw [hY]; exact (hdC_size HQ.out).symm) (And.intro (show Y.all (·.oneCell') = true by rw [hY]; exact hdC_one _) hY))
    clear hY
    have hB := HB.out
    have cc := hd_c2 hB
    have ff := hB.free 2
    have b4 : Blk (w1.setCell ⟨w.heap.size, 2, none⟩ (.int .i64 x)) w.heap.size Y 28 := by
      have h1 := hB.set 2 (.int .i64 x)
      rw [hd_set_c h x, ← HY.out.2.2] at h1
      exact h1
    have z4 : Blk (w1.setCell ⟨w.heap.size, 2, none⟩ (.int .i64 x)) (w.heap.size + 1 + 1) Z 28 := zB.setOther (by show w.heap.size + 1 + 1 ≠ w.heap.size; omega) _
    have K4 : Hid (Kept None w (w1.setCell ⟨w.heap.size, 2, none⟩ (.int .i64 x))) := hid (K0.out.setNew (Nat.le_refl _) 2 _)
    clear hB bR zB
    have E := hid (HZ.out.trans HY.out.1)
    go_wp2_with (first | (refine wpList_load_blk rfl _ _ rfl rfl b4 aY ?_) | (refine wpList_store_blk rfl _ _ _ rfl rfl rfl z4 aY E.out HY.out.2.1 ?_; intro w9 h9 k9) | fail)
    exact bodyPost_ret (v := .agg Y) (results_blk rfl _ rfl h9 aY) rfl ⟨_, HQ.out, by rw [HY.out.2.2], K4.out.then k9 (fun i hi (h : i = w.heap.size + 1 + 1) => by omega)⟩
  · have HQ : Hid (Hd.Ok { h with root := raw }) := hid ⟨H32.out, HK.out.2⟩
    obtain ⟨Y, hY⟩ : ∃ Y, Y = (hdC { h with root := raw }).toArray := ⟨_, rfl⟩
    have aY : AggTy Try.prog 28 Y.size := by rw [hY]; exact aHd' HQ.out
    have HY := hid (And.intro (show 69 = Y.size by rw [hY]; exact (hdC_size HQ.out).symm) (And.intro (show Y.all (·.oneCell') = true by rw [hY]; exact hdC_one _) hY))
    clear hY
    have hl : 3 + 32 ≤ (hdC h).length := by rw [hdC_len HK.out]; decide
    have hB := HB.out
    obtain ⟨CL, hCL⟩ : ∃ l, l = hdC h := ⟨_, rfl⟩
    rw [← hCL] at hB hl
    have hcut : (CL.take 3 ++ raw.map u8v ++ CL.drop (3 + 32)).toArray = Y := by rw [hCL, hd_cut_root HK.out, HY.out.2.2]
    have HCUT := hid hcut
    have h32 := H32.out
    have aR := AR.out
    clear hCL hcut
    go_wp2_with (first | (refine wpList_load_blk rfl _ _ rfl rfl bR aR ?_; refine wpList_val rfl (v := .pointer (some ⟨w.heap.size, 3, none⟩)) (by go_simp) ?_; refine wpList_store_cut rfl _ _ _ rfl rfl rfl hB h32 (by kernel_rfl) hl ?_; intro w4 b4 k4; rw [HCUT.out] at b4; refine Stay.mk ?_) | fail)
    unfold Stay
    have K4 := hid (K0.out.then k4 (fun i hi (h : i = w.heap.size) => by omega))
    have z4 := zB.kept k4 (fun (h : w.heap.size + 1 + 1 = w.heap.size) => by omega)
    clear k4 hB bR h32 aR
    have E := hid (HZ.out.trans HY.out.1)
    go_wp2_with (first | (refine wpList_load_blk rfl _ _ rfl rfl b4 aY ?_) | (refine wpList_store_blk rfl _ _ _ rfl rfl rfl z4 aY E.out HY.out.2.1 ?_; intro w9 h9 k9) | fail)
    exact bodyPost_ret (v := .agg Y) (results_blk rfl _ rfl h9 aY) rfl ⟨_, HQ.out, by rw [HY.out.2.2], K4.out.then k9 (fun i hi (h : i = w.heap.size + 1 + 1) => by omega)⟩
  · have HQ : Hid (Hd.Ok { h with log := raw }) := hid ⟨HK.out.1, H32.out, HK.out.2.2⟩
    obtain ⟨Y, hY⟩ : ∃ Y, Y = (hdC { h with log := raw }).toArray := ⟨_, rfl⟩
    have aY : AggTy Try.prog 28 Y.size := by rw [hY]; exact aHd' HQ.out
    have HY := hid (And.intro (show 69 = Y.size by rw [hY]; exact (hdC_size HQ.out).symm) (And.intro (show Y.all (·.oneCell') = true by rw [hY]; exact hdC_one _) hY))
    clear hY
    have hl : 35 + 32 ≤ (hdC h).length := by rw [hdC_len HK.out]; decide
    have hB := HB.out
    obtain ⟨CL, hCL⟩ : ∃ l, l = hdC h := ⟨_, rfl⟩
    rw [← hCL] at hB hl
    have hcut : (CL.take 35 ++ raw.map u8v ++ CL.drop (35 + 32)).toArray = Y := by rw [hCL, hd_cut_log HK.out, HY.out.2.2]
    have HCUT := hid hcut
    have h32 := H32.out
    have aR := AR.out
    clear hCL hcut
    go_wp2_with (first | (refine wpList_load_blk rfl _ _ rfl rfl bR aR ?_; refine wpList_val rfl (v := .pointer (some ⟨w.heap.size, 35, none⟩)) (by go_simp) ?_; refine wpList_store_cut rfl _ _ _ rfl rfl rfl hB h32 (by kernel_rfl) hl ?_; intro w4 b4 k4; rw [HCUT.out] at b4; refine Stay.mk ?_) | fail)
    unfold Stay
    have K4 := hid (K0.out.then k4 (fun i hi (h : i = w.heap.size) => by omega))
    have z4 := zB.kept k4 (fun (h : w.heap.size + 1 + 1 = w.heap.size) => by omega)
    clear k4 hB bR h32 aR
    have E := hid (HZ.out.trans HY.out.1)
    go_wp2_with (first | (refine wpList_load_blk rfl _ _ rfl rfl b4 aY ?_) | (refine wpList_store_blk rfl _ _ _ rfl rfl rfl z4 aY E.out HY.out.2.1 ?_; intro w9 h9 k9) | fail)
    exact bodyPost_ret (v := .agg Y) (results_blk rfl _ rfl h9 aY) rfl ⟨_, HQ.out, by rw [HY.out.2.2], K4.out.then k9 (fun i hi (h : i = w.heap.size + 1 + 1) => by omega)⟩
  · have HQ : Hid (Hd.Ok { h with r := R }) := hid ⟨HK.out.1, HK.out.2.1, HR.out, HK.out.2.2.2⟩
    obtain ⟨Y, hY⟩ : ∃ Y, Y = (hdC { h with r := R }).toArray := ⟨_, rfl⟩
    have aY : AggTy Try.prog 28 Y.size := by rw [hY]; exact aHd' HQ.out
    have HY := hid (And.intro (show 69 = Y.size by rw [hY]; exact (hdC_size HQ.out).symm) (And.intro (show Y.all (·.oneCell') = true by rw [hY]; exact hdC_one _) hY))
    clear hY
    have hB := HB.out
    have cc := hd_c67 hB HK.out
    have ff := hB.free 67
    have b4 : Blk (w1.setCell ⟨w.heap.size, 67, none⟩ (.int .u64 (R : Int))) w.heap.size Y 28 := by
      have h1 := hB.set 67 (.int .u64 (R : Int))
      rw [hd_set_r HK.out R, ← HY.out.2.2] at h1
      exact h1
    have z4 : Blk (w1.setCell ⟨w.heap.size, 67, none⟩ (.int .u64 (R : Int))) (w.heap.size + 1 + 1) Z 28 := zB.setOther (by show w.heap.size + 1 + 1 ≠ w.heap.size; omega) _
    have K4 : Hid (Kept None w (w1.setCell ⟨w.heap.size, 67, none⟩ (.int .u64 (R : Int)))) := hid (K0.out.setNew (Nat.le_refl _) 67 _)
    clear hB bR zB
    have E := hid (HZ.out.trans HY.out.1)
    go_wp2_with (first | (refine wpList_load_blk rfl _ _ rfl rfl b4 aY ?_) | (refine wpList_store_blk rfl _ _ _ rfl rfl rfl z4 aY E.out HY.out.2.1 ?_; intro w9 h9 k9) | fail)
    exact bodyPost_ret (v := .agg Y) (results_blk rfl _ rfl h9 aY) rfl ⟨_, HQ.out, by rw [HY.out.2.2], K4.out.then k9 (fun i hi (h : i = w.heap.size + 1 + 1) => by omega)⟩
  · have HQ : Hid (Hd.Ok { h with s := R }) := hid ⟨HK.out.1, HK.out.2.1, HK.out.2.2.1, HR.out⟩
    obtain ⟨Y, hY⟩ : ∃ Y, Y = (hdC { h with s := R }).toArray := ⟨_, rfl⟩
    have aY : AggTy Try.prog 28 Y.size := by rw [hY]; exact aHd' HQ.out
    have HY := hid (And.intro (show 69 = Y.size by rw [hY]; exact (hdC_size HQ.out).symm) (And.intro (show Y.all (·.oneCell') = true by rw [hY]; exact hdC_one _) hY))
    clear hY
    have hB := HB.out
    have cc := hd_c68 hB HK.out
    have ff := hB.free 68
    have b4 : Blk (w1.setCell ⟨w.heap.size, 68, none⟩ (.int .u64 (R : Int))) w.heap.size Y 28 := by
      have h1 := hB.set 68 (.int .u64 (R : Int))
      rw [hd_set_s HK.out R, ← HY.out.2.2] at h1
      exact h1
    have z4 : Blk (w1.setCell ⟨w.heap.size, 68, none⟩ (.int .u64 (R : Int))) (w.heap.size + 1 + 1) Z 28 := zB.setOther (by show w.heap.size + 1 + 1 ≠ w.heap.size; omega) _
    have K4 : Hid (Kept None w (w1.setCell ⟨w.heap.size, 68, none⟩ (.int .u64 (R : Int)))) := hid (K0.out.setNew (Nat.le_refl _) 68 _)
    clear hB bR zB
    have E := hid (HZ.out.trans HY.out.1)
    go_wp2_with (first | (refine wpList_load_blk rfl _ _ rfl rfl b4 aY ?_) | (refine wpList_store_blk rfl _ _ _ rfl rfl rfl z4 aY E.out HY.out.2.1 ?_; intro w9 h9 k9) | fail)
    exact bodyPost_ret (v := .agg Y) (results_blk rfl _ rfl h9 aY) rfl ⟨_, HQ.out, by rw [HY.out.2.2], K4.out.then k9 (fun i hi (h : i = w.heap.size + 1 + 1) => by omega)⟩
end H10
end Go.Proofs.Ytibkijloibnkfaa
