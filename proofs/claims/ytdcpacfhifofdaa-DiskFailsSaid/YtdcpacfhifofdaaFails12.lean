/- postmarklaw12.DiskFails: true. -/
import Derived.Test.YtdcpacfhifofdaaKnown12
namespace Go.Proofs.Ytdcpacfhifofdaa
open Go.RowKit Go.Pm
namespace K12
open Dk
/-- How many writes come ahead of the one that fails, ahead of the i-th one. -/
def left (k i : Nat) : Int := if i ≤ k then ((k - i : Nat) : Int) else -1
theorem left_nx (k i : Nat) : nx (left k i) = left k (i + 1) := by
  unfold nx left
  split <;> split <;> split <;> omega
theorem left_zero (k i : Nat) : left k i = 0 ↔ i = k := by
  unfold left
  split <;> omega
set_option maxRecDepth 100000 in
set_option maxHeartbeats 16000000 in
theorem fails (n : Nat) (v : Value) (lo hi : Nat) (l : List UInt8) (w : World) (hn : n < 256) (hv : Bs w lo hi v l) : Calls Try.prog 4 #[.int .u8 (n : Int), v] w fun e w' => e = .returned (.bool true) ∧ Kept None w w' := by
  obtain ⟨a, c, rfl, g1, g2, g3⟩ := hv.shape
  obtain ⟨k, hk⟩ : ∃ k, k = n % 20 := ⟨_, rfl⟩
  have hkk : (n : Int) % 20 = (k : Int) := by omega
  have HK := hid (show k < 20 by omega)
  have HV := hid hv
  have wk : IntKind.i64.wrap (k : Int) = (k : Int) := by rw [IntKind.wrap_i64]; omega
  have wk2 : wrap64 (k : Int) = (k : Int) := by unfold wrap64; omega
  have wk3 : IntKind.u8.wrap (k : Int) = (k : Int) := by rw [IntKind.wrap_u8]; omega
  have HN := hid (And.intro hkk (And.intro wk (And.intro wk2 wk3)))
  clear hv g3 hk hkk wk wk2 wk3
  by_cases h30 : l.length ≤ 30
  · have d30 : decide ((30 : Int) < (l.length : Int)) = false := by simp; omega
    have HL := hid h30
    clear h30
    go_enter Try.func4, Try.ntmps4
    go_wp2_with fail
    refine (known w).mono ?_
    rintro e w1 ⟨rfl, k1⟩
    go_wp2_with fail
    refine (sx_new 1048576 w w1 None k1 (fun _ h => h.elim) (by decide) 0).mono ?_
    rintro e w2 ⟨d, rfl, s2, _⟩
    have S2 := hid s2
    clear s2 k1
    have cv := constBytes w2 #[.int .u8 120, .int .u8 121] 2 2 w2.heap.size rfl
    go_wp2_with fail
    refine (app_lit (E := 0) S2.out (d1_ok (Fl.ok_nil _) (by decide) (by decide) (by decide) (by decide)) 0 (by decide) #[.int .u8 120, .int .u8 121] [120, 121] rfl 2 rfl (by decide) _ rfl (d1_app (by decide) (by decide)).2).mono ?_
    rintro e w3 ⟨rfl, s⟩
    have S3 : Hid (Sx w w3 None d (d1 0 ⟨[120, 121], [0]⟩ 1048576 (-1))) := hid s
    clear s cv
    obtain ⟨hkk, wk, wk2, wk3⟩ := HN.out
    go_wp2_with fail
    refine (sx_fail (n := (k : Int)) S3.out).mono ?_
    rintro e w4 ⟨rfl, s, _⟩
    have S4 : Hid (Sx w w4 None d (d1 0 ⟨[120, 121], [0]⟩ 1048576 (left k 0))) := hid (by
      have e : left k 0 = max (k : Int) (-1) := by unfold left; simp; omega
      rw [e]
      exact s)
    clear s
    go_wp2
    clear hkk wk wk2 wk3
    go_loopg [7] l.length (fun kx s7 wr => ∃ (i : Nat) (F : Fl), s7 = .int .i64 (i : Int) ∧ i ≤ l.length ∧ l.length - i ≤ kx ∧ Hid (F.Ok ∧ F.t.length ≤ 2 + i ∧ F.b.length ≤ 1 + i) ∧ Hid (Sx w wr None d (d1 0 F 1048576 (left k i))))
    case atStart => exact ⟨0, ⟨[120, 121], [0]⟩, rfl, Nat.zero_le _, Nat.le_refl _, hid ⟨Fl.ok_add (Fl.ok_nil []) [120, 121], by decide, by decide⟩, S4⟩
    case round =>
    obtain ⟨i, F, rfl, hi, hix, HF, HS⟩ := hrel
    by_cases hlt : i < l.length
    · have hlt' : decide ((i : Int) < (l.length : Int)) = true := by simpa using hlt
      have hOK : (d1 0 F 1048576 (left k i)).Ok := d1_ok HF.out.1 (by have := HF.out; have := HL.out; omega) (by have := HF.out; have := HL.out; omega) (by decide) (by have := HL.out; have := HK.out; unfold left; split <;> omega)
      obtain ⟨T, hT⟩ : ∃ T, T = F.t := ⟨_, rfl⟩
      obtain ⟨S, hSu⟩ : ∃ S, S = F.sure := ⟨_, rfl⟩
      have HRD := hid (fun W (hW : Kept None wr W) => sx_read (i := 0) (l := T) (HS.out.keptN hW) hOK (by decide) (by rw [d1_f]; exact hT.symm))
      have HSU := hid (fun W (hW : Kept None wr W) => sx_sure (i := 0) (n := S) (HS.out.keptN hW) (by decide) (by rw [d1_f]; exact hSu.symm))
      obtain ⟨b, o, rfl, q1, q2, q3, hcell⟩ := HV.out.ne (by omega)
      have hci := hcell i hlt
      obtain ⟨R, hR⟩ : ∃ R : Nat, R = (l.getD i 0).toNat := ⟨_, rfl⟩
      rw [show bAt l i = (R : Int) by rw [hR]; rfl] at hci
      have hR2 : R < 256 := by rw [hR]; exact UInt8.toNat_lt _
      have HC := hid (fun W (hW : Kept None w W) => (hW.cell (p := ⟨b, o + i, none⟩) q3 (fun h => h)).trans hci)
      clear hcell hci q1 q2 hR
      have HOK := hid hOK
      have HT := hid (And.intro hT hSu)
      clear hT hSu hOK
      go_wp2_with fail
      have hs : Steady [.bytes 1 (T), .val 2 (.string ⟨(T).toArray⟩) [1], .val 4 (.int .i64 (S : Int))] := Go.Pm.Steady.bytes (Go.Pm.Steady.val (Go.Pm.Steady.val (Go.Pm.Steady.nil)))
      refine wp_region_kn wr _ hs (Kept.refl _ _) (by kernel_rfl) (by kernel_rfl) (by kernel_rfl) ?_
      iterate 1 (refine wpPar_pure rfl (by rfl) _ (fun W hW => by
          go_simp
          exact rfl) ?_; simp only [Act.put, List.setIfInBounds_toArray, List.set_cons_zero, List.set_cons_succ])
      refine wpKn_adds hs rfl (by rfl) (fun W hW hd => ?_) (fun v1 hv => ?_)
      · unfold Gives
        go_simp
        refine gives_call (HRD.out W hW) ?_
        rintro e w3 ⟨v, rfl, k3, b3⟩
        obtain ⟨a, c, rfl⟩ := b3.form
        exact ⟨_, rfl, k3, ⟨_, _, rfl⟩, _, _, b3.bs (Nat.le_refl _)⟩
      obtain ⟨a1, c1, rfl⟩ : ∃ a c, v1 = .slice a (T).length c := hv
      simp only [Act.put, List.setIfInBounds_toArray, List.set_cons_zero, List.set_cons_succ]
      refine wpKn_adds hs rfl (by rfl) (fun W hW hd => ?_) (fun v2 hv => ?_)
      · unfold Gives
        obtain ⟨lo, hi, hb⟩ : ∃ lo hi, Bs W lo hi (.slice a1 (T).length c1) (T) := hd 1 (List.Mem.head _)
        have hcv := cvBytes hb
        go_simp
        exact ⟨Kept.refl _ _, rfl, trivial⟩
      obtain rfl : v2 = .string ⟨(T).toArray⟩ := hv
      simp only [Act.put, List.setIfInBounds_toArray, List.set_cons_zero, List.set_cons_succ]
      iterate 1 (refine wpPar_pure rfl (by rfl) _ (fun W hW => by
          go_simp
          exact rfl) ?_; simp only [Act.put, List.setIfInBounds_toArray, List.set_cons_zero, List.set_cons_succ])
      refine wpKn_adds hs rfl (by rfl) (fun W hW hd => ?_) (fun v4 hv => ?_)
      · unfold Gives
        go_simp
        refine gives_call ((HSU.out W hW)) ?_
        rintro e w3 ⟨rfl, rfl⟩
        exact ⟨_, rfl, Kept.refl _ _, rfl, trivial⟩
      obtain rfl : v4 = .int .i64 (S : Int) := hv
      simp only [Act.put, List.setIfInBounds_toArray, List.set_cons_zero, List.set_cons_succ]
      iterate 2 (refine wpPar_pure rfl (by rfl) _ (fun W hW => by
          go_simp
          exact rfl) ?_; simp only [Act.put, List.setIfInBounds_toArray, List.set_cons_zero, List.set_cons_succ])
      refine wpPar_nil (fun W hW hG => ?_)
      have HS2 := hid (HS.out.keptN hW)
      have hcW := HC.out W (HS.out.kept.trans hW)
      clear hG hW HRD HSU hs
      by_cases hik : i = k
      · subst hik
        have hl0 : left i i = 0 := (left_zero i i).2 rfl
        have e1 : left i (i + 1) = -1 := by unfold left; rw [if_neg (by omega)]
        have HS2 := hid (show Sx w W None d (d1 0 F 1048576 0) from hl0 ▸ HS2.out)
        have HOKF := hid (show (d1 0 F 1048576 0).Ok from hl0 ▸ HOK.out)
        have HLL := hid (show F.t.length ≤ 1099511627776 ∧ F.b.length ≤ 1048576 by have := HF.out.2; have := HL.out; omega)
        have HE1 := hid e1
        clear hl0 e1
        obtain hq | hq | hq : R % 3 = 0 ∨ R % 3 = 1 ∨ R % 3 = 2 := by omega
        · have hq' : (R : Int) % 3 = 0 := by omega
          clear hq
          have cv := constBytes W #[.int .u8 97] 1 1 W.heap.size rfl
          go_wp2_with fail
          refine (app_lit HS2.out HOKF.out 0 (by decide) #[.int .u8 97] [97] rfl 1 rfl (by decide) _ d1_appF.1 d1_appF.2).mono ?_
          rintro e w5 ⟨rfl, s⟩
          have S5 := hid s
          clear s cv
          go_wp2_with fail
          refine (sx_read (i := 0) (l := T) S5.out (d1_ok HF.out.1 HLL.out.1 HLL.out.2 (by decide) (by decide)) (by decide) (by rw [d1_f]; exact HT.out.1.symm)).mono ?_
          rintro e w6 ⟨v6, rfl, k6, b6⟩
          obtain ⟨a6, c6, rfl⟩ := b6.form
          have cs := cvBytes (b6.bs (Nat.le_refl _))
          have S6 := hid (S5.out.keptN k6)
          clear k6 b6
          go_wp2_with fail
          refine (sx_sure (i := 0) (n := S) S6.out (by decide) (by rw [d1_f]; exact HT.out.2.symm)).mono ?_
          rintro e w7 ⟨rfl, rfl⟩
          clear cs
          go_wp2_with fail
          go_roundg (l.length - (i + 1))
          case measure => omega
          case rel => exact ⟨i + 1, F, by go_num, by omega, Nat.le_refl _, hid ⟨HF.out.1, by have := HF.out.2.1; omega, by have := HF.out.2.2; omega⟩, hid (by rw [HE1.out]; exact S6.out)⟩
        · have hq' : (R : Int) % 3 = 1 := by omega
          clear hq
          go_wp2_with fail
          refine (sx_sync (i := 0) HS2.out HOKF.out (by decide)).mono ?_
          intro e w5 h5
          obtain ⟨rfl, s⟩ := drop_kept d1_syncF.2 d1_syncF.1 h5
          have S5 := hid s
          clear s h5
          go_wp2_with fail
          refine (sx_read (i := 0) (l := T) S5.out (d1_ok HF.out.1 HLL.out.1 HLL.out.2 (by decide) (by decide)) (by decide) (by rw [d1_f]; exact HT.out.1.symm)).mono ?_
          rintro e w6 ⟨v6, rfl, k6, b6⟩
          obtain ⟨a6, c6, rfl⟩ := b6.form
          have cs := cvBytes (b6.bs (Nat.le_refl _))
          have S6 := hid (S5.out.keptN k6)
          clear k6 b6
          go_wp2_with fail
          refine (sx_sure (i := 0) (n := S) S6.out (by decide) (by rw [d1_f]; exact HT.out.2.symm)).mono ?_
          rintro e w7 ⟨rfl, rfl⟩
          clear cs
          go_wp2_with fail
          go_roundg (l.length - (i + 1))
          case measure => omega
          case rel => exact ⟨i + 1, F, by go_num, by omega, Nat.le_refl _, hid ⟨HF.out.1, by have := HF.out.2.1; omega, by have := HF.out.2.2; omega⟩, hid (by rw [HE1.out]; exact S6.out)⟩
        · have hq' : (R : Int) % 3 = 2 := by omega
          clear hq
          by_cases hz : T.length = 0
          · have wV : wrap64 ((T.length : Int) - 1) = -1 := by rw [wrap_in _ (by omega) (by omega)]; omega
            obtain ⟨M, hM⟩ : ∃ M, M = 0 := ⟨_, rfl⟩
            subst hM
            have hM : True := trivial
            clear hz
            have HM := hid (show 0 ≤ F.t.length by rw [← HT.out.1]; omega)
            clear hM
            go_wp2_with fail
            refine (sx_cut (i := 0) (n := ((0 : Nat) : Int)) HS2.out HOKF.out (by decide)).mono ?_
            intro e w5 h5
            obtain ⟨rfl, s⟩ := drop_kept (d1_cutF HM.out).2 (d1_cutF HM.out).1 h5
            have S5 := hid s
            clear s h5 wV
            go_wp2_with fail
            refine (sx_read (i := 0) (l := T) S5.out (d1_ok HF.out.1 HLL.out.1 HLL.out.2 (by decide) (by decide)) (by decide) (by rw [d1_f]; exact HT.out.1.symm)).mono ?_
            rintro e w6 ⟨v6, rfl, k6, b6⟩
            obtain ⟨a6, c6, rfl⟩ := b6.form
            have cs := cvBytes (b6.bs (Nat.le_refl _))
            have S6 := hid (S5.out.keptN k6)
            clear k6 b6
            go_wp2_with fail
            refine (sx_sure (i := 0) (n := S) S6.out (by decide) (by rw [d1_f]; exact HT.out.2.symm)).mono ?_
            rintro e w7 ⟨rfl, rfl⟩
            clear cs
            go_wp2_with fail
            go_roundg (l.length - (i + 1))
            case measure => omega
            case rel => exact ⟨i + 1, F, by go_num, by omega, Nat.le_refl _, hid ⟨HF.out.1, by have := HF.out.2.1; omega, by have := HF.out.2.2; omega⟩, hid (by rw [HE1.out]; exact S6.out)⟩
          · obtain ⟨M, hM⟩ : ∃ M, T.length = M + 1 := ⟨T.length - 1, by omega⟩
            have wV : wrap64 ((T.length : Int) - 1) = (M : Int) := by rw [hM, wrap_in _ (by have := HT.out.1; have := HF.out.2.1; have := HL.out; subst T; omega) (by have := HT.out.1; have := HF.out.2.1; have := HL.out; subst T; omega)]; omega
            clear hz
            have HM := hid (show M ≤ F.t.length by rw [← HT.out.1]; omega)
            clear hM
            go_wp2_with fail
            refine (sx_cut (i := 0) (n := ((M : Nat) : Int)) HS2.out HOKF.out (by decide)).mono ?_
            intro e w5 h5
            obtain ⟨rfl, s⟩ := drop_kept (d1_cutF HM.out).2 (d1_cutF HM.out).1 h5
            have S5 := hid s
            clear s h5 wV
            go_wp2_with fail
            refine (sx_read (i := 0) (l := T) S5.out (d1_ok HF.out.1 HLL.out.1 HLL.out.2 (by decide) (by decide)) (by decide) (by rw [d1_f]; exact HT.out.1.symm)).mono ?_
            rintro e w6 ⟨v6, rfl, k6, b6⟩
            obtain ⟨a6, c6, rfl⟩ := b6.form
            have cs := cvBytes (b6.bs (Nat.le_refl _))
            have S6 := hid (S5.out.keptN k6)
            clear k6 b6
            go_wp2_with fail
            refine (sx_sure (i := 0) (n := S) S6.out (by decide) (by rw [d1_f]; exact HT.out.2.symm)).mono ?_
            rintro e w7 ⟨rfl, rfl⟩
            clear cs
            go_wp2_with fail
            go_roundg (l.length - (i + 1))
            case measure => omega
            case rel => exact ⟨i + 1, F, by go_num, by omega, Nat.le_refl _, hid ⟨HF.out.1, by have := HF.out.2.1; omega, by have := HF.out.2.2; omega⟩, hid (by rw [HE1.out]; exact S6.out)⟩
      · have hik' : ((i : Int) == (k : Int)) = false := by simp; omega
        have hl0 : left k i ≠ 0 := fun h => hik ((left_zero k i).1 h)
        have HLN := hid (show F.t.length + [97].length ≤ (1048576 : Int) by have := HF.out.2.1; have := HL.out; simp; omega)
        obtain hq | hq | hq : R % 3 = 0 ∨ R % 3 = 1 ∨ R % 3 = 2 := by omega
        · have hq' : (R : Int) % 3 = 0 := by omega
          clear hq
          have cv := constBytes W #[.int .u8 97] 1 1 W.heap.size rfl
          go_wp2_with fail
          refine (app_lit HS2.out HOK.out 0 (by decide) #[.int .u8 97] [97] rfl 1 rfl (by decide) _ (d1_app' (j := 0) (F := F) (r := 1048576) (x := [97]) (by decide) HLN.out hl0).1 (d1_app' (j := 0) (F := F) (r := 1048576) (x := [97]) (by decide) HLN.out hl0).2).mono ?_
          rintro e w5 ⟨rfl, s⟩
          have S5 := hid s
          clear s cv
          go_wp2_with fail
          go_roundg (l.length - (i + 1))
          case measure => omega
          case rel => exact ⟨i + 1, F.add [97], by go_num, by omega, Nat.le_refl _, hid ⟨Fl.ok_add HF.out.1 _, by have := HF.out.2.1; simp [Fl.add]; omega, by have := HF.out.2.2; simp [Fl.add]; omega⟩, hid (by rw [← left_nx]; exact S5.out)⟩
        · have hq' : (R : Int) % 3 = 1 := by omega
          clear hq
          go_wp2_with fail
          refine (sx_sync (i := 0) HS2.out HOK.out (by decide)).mono ?_
          intro e w5 h5
          obtain ⟨rfl, s⟩ := drop_kept (d1_sync' (j := 0) (F := F) (r := 1048576) hl0).2 (d1_sync' (j := 0) (F := F) (r := 1048576) hl0).1 h5
          have S5 := hid s
          clear s h5
          go_wp2_with fail
          go_roundg (l.length - (i + 1))
          case measure => omega
          case rel => exact ⟨i + 1, F.settle, by go_num, by omega, Nat.le_refl _, hid ⟨Fl.ok_nil _, by have := HF.out.2.1; simp [Fl.settle]; omega, by simp [Fl.settle]⟩, hid (by rw [← left_nx]; exact S5.out)⟩
        · have hq' : (R : Int) % 3 = 2 := by omega
          clear hq
          by_cases hz : T.length = 0
          · have wV : wrap64 ((T.length : Int) - 1) = -1 := by rw [wrap_in _ (by omega) (by omega)]; omega
            obtain ⟨M, hM⟩ : ∃ M, M = 0 := ⟨_, rfl⟩
            subst hM
            have hM : True := trivial
            clear hz
            have HM := hid (show 0 ≤ F.t.length by rw [← HT.out.1]; omega)
            clear hM
            go_wp2_with fail
            refine (sx_cut (i := 0) (n := ((0 : Nat) : Int)) HS2.out HOK.out (by decide)).mono ?_
            intro e w5 h5
            obtain ⟨rfl, s⟩ := drop_kept (d1_cut' (j := 0) (r := 1048576) hl0 HM.out).2 (d1_cut' (j := 0) (r := 1048576) hl0 HM.out).1 h5
            have S5 := hid s
            clear s h5 wV
            go_wp2_with fail
            go_roundg (l.length - (i + 1))
            case measure => omega
            case rel => exact ⟨i + 1, F.cut 0, by go_num, by omega, Nat.le_refl _, hid ⟨(Fl.ok_cut HF.out.1 HM.out).1, by have := HF.out.2.1; simp only [Fl.cut, List.length_take]; omega, by have := HF.out.2.2; have := (List.takeWhile_prefix (l := F.b) (fun x => decide (x < 0))).length_le; simp only [Fl.cut]; omega⟩, hid (by rw [← left_nx]; exact S5.out)⟩
          · obtain ⟨M, hM⟩ : ∃ M, T.length = M + 1 := ⟨T.length - 1, by omega⟩
            have wV : wrap64 ((T.length : Int) - 1) = (M : Int) := by rw [hM, wrap_in _ (by have := HT.out.1; have := HF.out.2.1; have := HL.out; subst T; omega) (by have := HT.out.1; have := HF.out.2.1; have := HL.out; subst T; omega)]; omega
            clear hz
            have HM := hid (show M ≤ F.t.length by rw [← HT.out.1]; omega)
            clear hM
            go_wp2_with fail
            refine (sx_cut (i := 0) (n := ((M : Nat) : Int)) HS2.out HOK.out (by decide)).mono ?_
            intro e w5 h5
            obtain ⟨rfl, s⟩ := drop_kept (d1_cut' (j := 0) (r := 1048576) hl0 HM.out).2 (d1_cut' (j := 0) (r := 1048576) hl0 HM.out).1 h5
            have S5 := hid s
            clear s h5 wV
            go_wp2_with fail
            go_roundg (l.length - (i + 1))
            case measure => omega
            case rel => exact ⟨i + 1, F.cut M, by go_num, by omega, Nat.le_refl _, hid ⟨(Fl.ok_cut HF.out.1 HM.out).1, by have := HF.out.2.1; simp only [Fl.cut, List.length_take]; omega, by have := HF.out.2.2; have := (List.takeWhile_prefix (l := F.b) (fun x => decide (x < M))).length_le; simp only [Fl.cut]; omega⟩, hid (by rw [← left_nx]; exact S5.out)⟩
    · have hlt' : decide ((i : Int) < (l.length : Int)) = false := by simpa using hlt
      go_wp2
      go_ret
      exact ⟨rfl, HS.out.kept⟩
  · have d30 : decide ((30 : Int) < (l.length : Int)) = true := by simp; omega
    clear HN h30
    go_enter Try.func4, Try.ntmps4
    go_wp2_with fail
    refine (known w).mono ?_
    rintro e w1 ⟨rfl, k1⟩
    go_wp2
    go_ret
    exact ⟨rfl, k1⟩
end K12
end Go.Proofs.Ytdcpacfhifofdaa
