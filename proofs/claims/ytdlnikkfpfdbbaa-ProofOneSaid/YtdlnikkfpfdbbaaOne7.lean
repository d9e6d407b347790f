/- postmarklaw7.ProofOne: true. -/
import Derived.Test.YtdlnikkfpfdbbaaRCheck7
import Derived.Test.YtdlnikkfpfdbbaaKnown7
namespace Go.Pm
open Go Go.RowKit
theorem insI_ne (x : It) (l : List It) : insI x l ≠ [] := by
  cases l with
  | nil => intro h; cases h
  | cons y l =>
    unfold insI
    split
    · intro h; cases h
    · split <;> (intro h; cases h)
theorem foldI_ne : ∀ (l o : List It), o ≠ [] → l.foldl (fun out x => insI x out) o ≠ []
  | [], _, h => h
  | x :: l, o, _ => foldI_ne l (insI x o) (insI_ne x o)
theorem setI_ne {l : List It} (h : l ≠ []) : setI l ≠ [] := by
  match l, h with
  | x :: l, _ =>
    have h2 := foldI_ne l (insI x []) (insI_ne x [])
    exact h2
theorem Rh.most7 {lo : Nat} {w : World} {v : Value} {hs : List (List UInt8)} (h : Rh lo w v hs) : Hs w lo w.heap.size v hs := by
  obtain ⟨hi, h1, h2⟩ := h
  exact ⟨h1, (Ps.lt h2).wider (Nat.le_refl _) (Nat.min_le_right _ _)⟩
/-- A proof with another value. -/
def valP (m : Pf) (v : List UInt8) : Pf := ⟨m.path, m.e, ⟨m.x.i, v⟩⟩
theorem valP_ok {m : Pf} (h : m.Ok) {v : List UInt8} (hv : v.length = 32) : (valP m v).Ok := ⟨h.1, h.2.1, hv⟩
theorem valP_same {m : Pf} {v : List UInt8} (h : m.x.v = v) : valP m v = m := by
  cases m with | mk p e x => cases x with | mk i v' => simp only at h; subst h; rfl
end Go.Pm
namespace Go.Proofs.Ytdlnikkfpfdbbaa
open Go.RowKit Go.Pm
namespace Pr
theorem rcheckA (root i : List UInt8) (m : Pf) (A : Array Value) (w : World) (hr : root.length = 32) (hi : i.length = 32) (h : PV m w A) :
    Calls Try.prog 35 #[hashV root, hashV i, .agg A] w fun e w' => e = .returned (.tuple #[hashV (checkV root i m), .bool (checkH root i m), .bool (okP root i m)]) ∧ Kept None w w' := by
  obtain ⟨h0, u, rfl, h2⟩ := h
  exact RPr.check root i u m w hr hi h0 h2
set_option maxRecDepth 100000 in
set_option maxHeartbeats 4000000 in
theorem one (v : Value) (lo hi : Nat) (ns : List Int) (k : Nat) (value : List UInt8) (w : World) (hv : U16s w lo hi v ns) (hk : k < 65536) (hval : value.length = 32) :
    Calls Try.prog 10 #[v, .int .u16 k, hashV value] w fun e w' => e = .returned (.bool true) ∧ Kept None w w' := by
  obtain ⟨a, cap, rfl, g1, g2⟩ := hv.form
  obtain ⟨n, hn⟩ : ∃ n, n = ns.length := ⟨_, rfl⟩
  rw [← hn] at hv g1 ⊢
  obtain ⟨VA, hVA⟩ : ∃ A : Array Value, A = (value.map u8v).toArray := ⟨_, rfl⟩
  have aVA : AggTy Try.prog 25 VA.size := by rw [hVA]; exact aH32 hval
  show Calls Try.prog 10 #[.slice a n cap, .int .u16 k, .agg (value.map u8v).toArray] w _
  rw [← hVA]
  have HVA := hid (And.intro hVA hval)
  have HV := hid hv
  have HN := hid hn
  have HK0 := hid hk
  have k0 : Kept None w (w.alloc (.cells VA 25)) := (Kept.refl _ _).alloc _
  have b0 : Blk (w.alloc (.cells VA 25)) w.heap.size VA 25 := Blk.new w _ _
  clear hv hn hVA hval hk
  go_enter Try.func10, Try.ntmps10
  go_wp2_with fail
  refine (known _).mono ?_
  rintro e w1 ⟨rfl, k1⟩
  have K1 := hid (k0.trans k1)
  have B1 := hid (b0.kept k1 (fun h => h))
  obtain ⟨g5, hg5⟩ : ∃ g, g = w.heap.size := ⟨_, rfl⟩
  rw [← hg5] at B1 ⊢
  clear k0 b0 k1 hg5
  by_cases h20 : 20 < n
  · have hz : decide ((20 : Int) < (n : Int)) = true := by rw [decide_eq_true_eq]; omega
    go_wp2
    go_ret
    exact ⟨rfl, K1.out⟩
  by_cases hn0 : n = 0
  · subst hn0
    go_wp2
    go_ret
    exact ⟨rfl, K1.out⟩
  have hz : decide ((20 : Int) < (n : Int)) = false := by rw [decide_eq_false_iff_not]; omega
  have hz0 : ((n : Int) == 0) = false := by rw [beq_eq_false_iff_ne]; omega
  have HN0 := hid (And.intro h20 hn0)
  clear h20 hn0
  go_wp2_with fail
  refine (Tr.items _ _ _ ns w1 (by have := HV.out.kept K1.out (fun _ _ _ h => h); rw [HN.out] at this ⊢; exact this) (by have := HN.out; have := HN0.out; omega)).mono ?_
  rintro e w2 ⟨v2, xs, rfl, hxs, hxl, k2⟩
  obtain ⟨a2, c2, rfl⟩ := hxs.form
  have hx20 : xs.length ≤ 20 ∧ 0 < xs.length := by have := HN.out; have := HN0.out; omega
  have K2 := hid (K1.out.trans k2)
  have B2 := hid (B1.out.kept k2 (fun h => h))
  clear k2 hxl hz hz0
  go_wp2_with fail
  refine (RTr.set _ _ _ _ 0 0 xs [] w2 (hxs.its (Nat.le_refl _)) (Its.nil _ _ _) (by simp; omega)).mono ?_
  rintro e w3 ⟨v3, rfl, h3, k3⟩
  rw [List.append_nil] at h3
  have hlen : (setI xs).length ≤ 20 := Nat.le_trans (setI_le xs) hx20.1
  have hpos : 0 < (setI xs).length := List.length_pos_iff.2 (setI_ne (List.length_pos_iff.1 hx20.2))
  obtain ⟨l, hl⟩ : ∃ l, l = setI xs := ⟨_, rfl⟩
  have hsrt : Srt l := by rw [hl]; exact srt_setI xs
  rw [← hl] at h3 hlen hpos
  have hfull : Len l := h3.1
  obtain ⟨a3, c3, rfl⟩ := h3.form
  have hL := h3.its (Nat.le_refl _)
  have K3 := hid (K2.out.trans k3)
  have B3 := hid (B2.out.kept k3 (fun h => h))
  obtain ⟨ln, hln⟩ : ∃ n, n = l.length := ⟨_, rfl⟩
  rw [← hln] at hL hlen hpos ⊢
  obtain ⟨ix, hix⟩ : ∃ x : Nat, x = k % ln := ⟨_, rfl⟩
  have mi : (k : Int) % (ln : Int) = (ix : Int) := by rw [hix]; rfl
  have lix : ix < ln := by rw [hix]; exact Nat.mod_lt _ hpos
  have hln0 : ¬ ln = 0 := by omega
  have wk : wrap64 (k : Int) = (k : Int) := by have := HK0.out; unfold wrap64; omega
  have lixz : (ix : Int) < (ln : Int) := by omega
  have hlt : ix < l.length := by omega
  obtain ⟨b, o, hab, _, _, _, hcx⟩ := hL.ne (by omega)
  obtain rfl := hab
  have hx := hcx ix l[ix] (List.getElem?_eq_getElem hlt)
  have hmem := List.getElem_mem hlt
  have hx32 := hfull l[ix] hmem
  have him := item_make l hfull hsrt hmem
  obtain ⟨x, hxx⟩ : ∃ x, x = l[ix] := ⟨_, rfl⟩
  rw [← hxx] at hx hmem hx32 him
  have rI : w3.rangeAt b (o + ix * 64) (x.i.map u8v) := by
    have h := rangeAt_take hx 32
    rwa [show (itC x).take 32 = x.i.map u8v from List.take_left' (by simp [hx32.1])] at h
  have rV : w3.rangeAt b (o + ix * 64 + 32) (x.v.map u8v) := fun j c hj => by
    have h := hx (32 + j) c (by rw [show itC x = x.i.map u8v ++ x.v.map u8v from rfl, List.getElem?_append_right (by simp [hx32.1])]; simpa [hx32.1] using hj)
    rwa [← Nat.add_assoc] at h
  obtain ⟨m, hm⟩ : ∃ m, m = makeP l x.i := ⟨_, rfl⟩
  have hmok : m.Ok := by rw [hm]; exact ok_make l hfull x.i
  obtain ⟨r, hr⟩ : ∃ r, r = rootOf l := ⟨_, rfl⟩
  have r32 : r.length = 32 := by rw [hr, ← root_make l hfull zero32]; exact climbH_len _ _ _ _
  obtain ⟨m', hm'⟩ : ∃ m', m' = valP m value := ⟨_, rfl⟩
  have hm'ok : m'.Ok := by rw [hm']; exact valP_ok hmok HVA.out.2
  obtain ⟨cv, hcv⟩ : ∃ c, c = checkV r x.i m' := ⟨_, rfl⟩
  have cv32 : cv.length = 32 := by rw [hcv]; exact checkV_len hm'ok
  obtain ⟨bh, hbh⟩ : ∃ c, c = checkH r x.i m' := ⟨_, rfl⟩
  obtain ⟨bo, hbo⟩ : ∃ c, c = okP r x.i m' := ⟨_, rfl⟩
  have hsame : value = x.v → bh = true ∧ bo = true := fun e => by
    have e1 : m' = m := by rw [hm', e]; exact valP_same (by rw [hm, him.2])
    have h3 := check_make l hfull x.i
    rw [hbh, hbo, e1, hm, hr, h3.2.1, h3.2.2]
    exact ⟨by unfold saysH; rw [him.1]; rfl, rfl⟩
  have fM : ∀ W lo hi, Its W lo hi (.slice (some ⟨b, o, none⟩) ln c3) l → Calls Try.prog 29 #[.slice (some ⟨b, o, none⟩) ln c3, .agg (x.i.map u8v).toArray] W fun e w' => ∃ A, e = .returned (.agg A) ∧ Kept None W w' ∧ PV m w' A := fun W lo hi h => by
    rw [hm]; exact make l x.i _ _ _ W h (by omega) hx32.1
  have fR : ∀ W lo hi, Its W lo hi (.slice (some ⟨b, o, none⟩) ln c3) l → Calls Try.prog 32 #[.slice (some ⟨b, o, none⟩) ln c3] W fun e w' => e = .returned (hashV r) ∧ Kept None W w' := fun W lo hi h => by
    rw [hr]; exact RTr.root_of _ _ _ l W h (by omega)
  have fC : ∀ A W, PV m' W A → Calls Try.prog 34 #[hashV r, .agg (x.i.map u8v).toArray, .agg A] W fun e w' => e = .returned (.tuple #[hashV cv, .bool bh, .bool bo]) ∧ Kept None W w' := fun A W h => by
    rw [hcv, hbh, hbo]; exact checkA r x.i m' A W r32 hx32.1 h
  have fD : ∀ A W, PV m' W A → Calls Try.prog 35 #[hashV r, .agg (x.i.map u8v).toArray, .agg A] W fun e w' => e = .returned (.tuple #[hashV cv, .bool bh, .bool bo]) ∧ Kept None W w' := fun A W h => by
    rw [hcv, hbh, hbo]; exact rcheckA r x.i m' A W r32 hx32.1 h
  have e1 := Tr.eqHash cv cv cv32 cv32
  rw [beq_self_eq_true] at e1
  have e2 := Tr.neqHash value x.v HVA.out.2 hx32.2
  obtain ⟨bV, hbV⟩ : ∃ c, c = (value == x.v) := ⟨_, rfl⟩
  rw [← hbV] at e2
  obtain ⟨CI, hCI⟩ : ∃ C, C = x.i.map u8v := ⟨_, rfl⟩
  obtain ⟨CX, hCX⟩ : ∃ C, C = x.v.map u8v := ⟨_, rfl⟩
  obtain ⟨XA, hXA⟩ : ∃ A : Array Value, A = CX.toArray := ⟨_, rfl⟩
  obtain ⟨RA, hRA⟩ : ∃ C : Array Value, C = (r.map u8v).toArray := ⟨_, rfl⟩
  obtain ⟨CA, hCA⟩ : ∃ C : Array Value, C = (cv.map u8v).toArray := ⟨_, rfl⟩
  have aI : AggTy Try.prog 25 CI.length := by rw [hCI]; exact aH32' hx32.1
  have aX : AggTy Try.prog 25 CX.length := by rw [hCX]; exact aH32' hx32.2
  have aRA : AggTy Try.prog 25 RA.size := by rw [hRA]; exact aH32 r32
  have aCA : AggTy Try.prog 25 CA.size := by rw [hCA]; exact aH32 cv32
  have sRA : RA.size = 32 := by rw [hRA]; simpa using r32
  have sCA : CA.size = 32 := by rw [hCA]; simpa using cv32
  have allRA : RA.all (·.oneCell') = true := by rw [hRA]; exact u8v_all' _
  have allCA : CA.all (·.oneCell') = true := by rw [hCA]; exact u8v_all' _
  rw [← HVA.out.1, ← hCX, ← hXA] at e2
  rw [← hCA] at e1
  simp only [hashV, ← hRA, ← hCA, ← hCI] at fM fR fC fD
  rw [← hCI] at rI
  rw [← hCX] at rV
  have HL3 := hid hL
  have FM := hid fM
  have FR := hid fR
  have FC := hid fC
  have FD := hid fD
  have E1 := hid e1
  have E2 := hid e2
  have RI := hid rI
  have RV := hid rV
  have HXA := hid hXA
  have HS := hid (And.intro sRA (And.intro sCA (And.intro allRA allCA)))
  have HSM := hid (And.intro hsame hbV)
  have HM' := hid (And.intro hm' (And.intro hmok hm'ok))
  clear k3 h3 hxs hx20 hl hsrt hfull hL hlen hpos hln hix lix hlt hcx hx hmem hx32 him hxx rI rV hm hmok hr r32 hm' hm'ok hcv cv32 hbh hbo hsame fM fR fC fD e1 e2 hbV hCI hCX hXA hRA hCA sRA sCA allRA allCA
  go_wp2_with (first | (refine wpList_load_at rfl _ _ rfl rfl RI.out aI ?_) | fail)
  refine (FM.out w3 _ _ HL3.out).mono ?_
  rintro e w6 ⟨A0, rfl, k6, p6⟩
  have K6 := hid (K3.out.trans k6)
  have K36 := hid k6
  have P6 := hid p6
  have aA0 := PV.agg p6
  obtain ⟨uA, hA0, hRh⟩ : ∃ u, A0 = (pfC u m).toArray ∧ Hs w6 0 w6.heap.size u m.path := by obtain ⟨_, u, h1, h2⟩ := p6; exact ⟨u, h1, Rh.most7 h2⟩
  have HA0 := hid (And.intro hA0 hRh)
  have K6K := hid (Kept.refl None w6)
  clear hA0 hRh
  obtain ⟨z7, hz7, hR7⟩ := Blk.any (n := 66) (Blk.new w6 Try.zeroCells48 48) (by rfl)
  have E7 := hid (hz7.trans p6.size.symm)
  have AA0 := hid p6.all
  clear k6 p6 hz7
  go_wp2_with (first | (refine wpList_store_blk (.refl _) _ _ _ rfl rfl rfl hR7 aA0 E7.out AA0.out ?_; intro w7 hB7 k7; have k67 := k7.fresh) | fail)
  have K7 := hid (K6.out.trans k67)
  have K37 := hid (K36.out.trans k67)
  have P7 := hid (P6.out.kept k67)
  have B7 := hid hB7
  obtain ⟨g9, hg9⟩ : ∃ g, g = w6.heap.size := ⟨_, rfl⟩
  rw [← hg9] at B7 ⊢
  have HG9 : Hid (w3.heap.size ≤ g9 ∧ w6.heap.size = g9) := hid ⟨by rw [hg9]; exact K36.out.size, hg9.symm⟩
  have HRh7 := hid (HA0.out.2.kept k67 (fun _ _ _ h => h))
  clear k7 k67 hR7 hB7 P6 hg9 E7 K36 K6
  refine (FR.out w7 _ _ (HL3.out.kept K37.out (fun _ _ _ h => h))).mono ?_
  rintro e w8 ⟨rfl, k8⟩
  have K8 := hid (K7.out.trans k8)
  have K38 := hid (K37.out.trans k8)
  have P8 := hid (P7.out.kept k8)
  have B8 := hid (B7.out.kept k8 (fun h => h))
  obtain ⟨z8, hz8, hR8⟩ := Blk.any (n := 32) (Blk.new w8 #[.int .u8 0, .int .u8 0, .int .u8 0, .int .u8 0, .int .u8 0, .int .u8 0, .int .u8 0, .int .u8 0, .int .u8 0, .int .u8 0, .int .u8 0, .int .u8 0, .int .u8 0, .int .u8 0, .int .u8 0, .int .u8 0, .int .u8 0, .int .u8 0, .int .u8 0, .int .u8 0, .int .u8 0, .int .u8 0, .int .u8 0, .int .u8 0, .int .u8 0, .int .u8 0, .int .u8 0, .int .u8 0, .int .u8 0, .int .u8 0, .int .u8 0, .int .u8 0] 25) (by rfl)
  have E8 := hid (hz8.trans HS.out.1.symm)
  have V8 := hid (B3.out.kept K38.out (fun h => h))
  have HRh8 := hid (HRh7.out.kept k8 (fun _ _ _ h => h))
  clear k8 hz8 P7 B7 HRh7 K6K
  go_wp2_with (first | (refine wpList_store_blk rfl _ _ _ rfl rfl rfl hR8 aRA E8.out HS.out.2.2.1 ?_; intro w9 hB9 k9; have k89 := k9.fresh; have V9 := hid (V8.out.kept k89 (fun h => h)); have q9 : Blk w9 g9 (pfC uA m).toArray 48 := (by rw [← HA0.out.1]; exact B8.out.kept k89 (fun h => h))) | (refine wpList_load_blk rfl _ _ rfl rfl V9.out aVA ?_) | (refine pf_store rfl _ _ _ rfl rfl (by rw [HVA.out.1]; rfl) q9 HM'.out.2.1 HVA.out.2 (by kernel_rfl) (by decide) (pf_cut_v uA HM'.out.2.1 value) ?_; intro w10 h10 k10) | fail)
  have K10 : Hid (Kept None w3 w10) := hid ((K38.out.trans k89).then k10 (fun q hq h => by have h : q = g9 := h; have := HG9.out; omega))
  have BR10 := hid (hB9.kept k10 (fun h => by have h : w8.heap.size = g9 := h; have h2 := B8.out.lt; omega))
  obtain ⟨A', hA'⟩ : ∃ A' : Array Value, A' = (pfC uA m').toArray := ⟨_, rfl⟩
  have BA10 : Hid (Blk w10 g9 A' 48) := hid (by rw [hA', HM'.out.1]; exact h10)
  have P10 : Hid (PV m' w10 A') := hid ⟨HM'.out.2.2, uA, hA', by
    have h2 : Rh 0 w10 uA m.path := ⟨_, (HRh8.out.kept k89 (fun _ _ _ h => h)).kept k10 (fun q _ h2 h => by have h : q = g9 := h; have := HG9.out.2; omega)⟩
    rw [HM'.out.1]
    exact h2⟩
  have aA' := PV.agg P10.out
  have V10 : Hid (Blk w10 g5 VA 25) := hid (V9.out.kept k10 (fun h => by have h : g5 = g9 := h; have h2 := B3.out.lt; have := HG9.out; omega))
  obtain ⟨g10, hg10⟩ : ∃ g, g = w8.heap.size := ⟨_, rfl⟩
  rw [← hg10] at BR10 ⊢
  have RI10 := hid (rangeAt_kept RI.out K10.out)
  have RV10 := hid (rangeAt_kept RV.out K10.out)
  have KW10 := hid (K3.out.trans K10.out)
  clear k9 k89 k10 h10 q9 hB9 hR8 P8 B8 K8 K38 E8 V8 V9 HA0 HRh8 K37 K7 hA' hg10 B3 K10 RI RV
  go_wp2_with fail
  have hs : Ky.Steady [Ky.lift (.val 7 (.tuple #[.agg CA, .bool bh, .bool bo])), Ky.lift (.room 12 w10.heap.size 32 25), Ky.stored 13 w10.heap.size 11 CA 25 12] := Ky.Steady.append (l := [Ky.lift (.val 7 (.tuple #[.agg CA, .bool bh, .bool bo])), Ky.lift (.room 12 w10.heap.size 32 25)]) (Ky.Steady.lift (l := [.val 7 (.tuple #[.agg CA, .bool bh, .bool bo]), .room 12 w10.heap.size 32 25]) (Go.Pm.Steady.val (Go.Pm.Steady.room (Go.Pm.Steady.nil)))) (Ky.steady_stored _ _ _ _ _ _)
  refine Ky.wp_region_kn w10 _ hs (Kept.refl _ _) (by kernel_rfl) (by kernel_rfl) (by kernel_rfl) ?_
  refine Ky.wpPar_pure rfl (by rfl) _ (fun W hW => by first | exact exec_load_blk _ _ rfl rfl (BR10.out.kept (hW) (fun h => h)) aRA | exact exec_load_at rfl rfl (rangeAt_kept RI10.out (hW)) aI | exact exec_load_blk _ _ rfl rfl (BA10.out.kept (hW) (fun h => h)) aA') ?_; simp only [Act.put, List.setIfInBounds_toArray, List.set_cons_zero, List.set_cons_succ]
  iterate 4 (refine Ky.wpPar_pure rfl (by rfl) _ (fun W hW => by
      go_simp
      exact rfl) ?_; simp only [Act.put, List.setIfInBounds_toArray, List.set_cons_zero, List.set_cons_succ])
  refine Ky.wpPar_pure rfl (by rfl) _ (fun W hW => by first | exact exec_load_blk _ _ rfl rfl (BR10.out.kept (hW) (fun h => h)) aRA | exact exec_load_at rfl rfl (rangeAt_kept RI10.out (hW)) aI | exact exec_load_blk _ _ rfl rfl (BA10.out.kept (hW) (fun h => h)) aA') ?_; simp only [Act.put, List.setIfInBounds_toArray, List.set_cons_zero, List.set_cons_succ]
  refine Ky.wpPar_pure rfl (by rfl) _ (fun W hW => by first | exact exec_load_blk _ _ rfl rfl (BR10.out.kept (hW) (fun h => h)) aRA | exact exec_load_at rfl rfl (rangeAt_kept RI10.out (hW)) aI | exact exec_load_blk _ _ rfl rfl (BA10.out.kept (hW) (fun h => h)) aA') ?_; simp only [Act.put, List.setIfInBounds_toArray, List.set_cons_zero, List.set_cons_succ]
  refine Ky.wpKn_adds hs rfl (by rfl) (fun W hW hd => ?_) (fun v7 hv => ?_)
  · unfold Gives
    go_simp
    refine gives_call (FC.out _ W (P10.out.kept hW)) ?_
    rintro e w3 ⟨rfl, k3⟩
    exact ⟨_, rfl, k3, rfl, trivial⟩
  obtain rfl : v7 = .tuple #[.agg CA, .bool bh, .bool bo] := hv
  simp only [Act.put, List.setIfInBounds_toArray, List.set_cons_zero, List.set_cons_succ]
  iterate 4 (refine Ky.wpPar_pure rfl (by rfl) _ (fun W hW => by
      go_simp
      exact rfl) ?_; simp only [Act.put, List.setIfInBounds_toArray, List.set_cons_zero, List.set_cons_succ])
  refine Ky.wpKn_adds hs rfl (by rfl) (fun W hW hd => ?_) (fun v12 hv => ?_)
  · unfold Gives
    go_simp
    exact ⟨(Kept.refl None W).alloc _, ⟨_, rfl⟩, _, _, rfl, hW.size, by rfl, Blk.new W _ _⟩
  obtain ⟨g12, rfl⟩ : ∃ g, v12 = .pointer (some ⟨g, 0, none⟩) := hv
  simp only [Act.put, List.setIfInBounds_toArray, List.set_cons_zero, List.set_cons_succ]
  refine Ky.wpPar_adds rfl (by rfl) (fun W hW hd => ?_) (fun v13 hv => ?_)
  · obtain ⟨g, z3, hg3, hg2, hz3, hR3⟩ : ∃ (g : Nat) (z : Array Value), Value.pointer (some ⟨g12, 0, none⟩) = .pointer (some ⟨g, 0, none⟩) ∧ w10.heap.size ≤ g ∧ z.size = 32 ∧ Blk W g z 25 := hd 12 (List.Mem.head _)
    obtain rfl : g12 = g := by simpa using hg3
    refine gives_store7 _ _ _ rfl rfl rfl hR3 aCA (hz3.trans (HS.out.2.1.symm)) HS.out.2.2.2 (fun W' hb hk => ⟨hW.then hk (fun i hi h => by have h : i = g12 := h; omega), trivial, ⟨g12, rfl, hg2, hb⟩, Ky.keeps_of fun f hf hs _ hne u hfu => ?_⟩)
    simp only [List.mem_cons, List.not_mem_nil, or_false] at hf
    rcases hf with rfl | rfl | rfl
    · exact hfu
    · exact absurd (List.Mem.head _) hs
    · exact absurd rfl hne
  simp only [Act.put]
  iterate 2 (refine Ky.wpPar_pure rfl (by rfl) _ (fun W hW => by
      go_simp
      exact rfl) ?_; simp only [Act.put, List.setIfInBounds_toArray, List.set_cons_zero, List.set_cons_succ])
  refine Ky.wpPar_nil (fun W hW hG => ?_)
  obtain ⟨g, hg3, hg2_12, hB_12⟩ : ∃ g, Value.pointer (some ⟨g12, 0, none⟩) = .pointer (some ⟨g, 0, none⟩) ∧ w10.heap.size ≤ g ∧ Blk W g CA 25 := hG 13
  obtain rfl : g12 = g := by simpa using hg3
  clear hg3
  have K11 := hid hW
  have B11 := hid hB_12
  obtain ⟨w11, hw11⟩ : ∃ w11, w11 = W := ⟨_, rfl⟩
  rw [← hw11] at K11 B11 ⊢
  obtain ⟨g11, hg11⟩ : ∃ g, g = g12 := ⟨_, rfl⟩
  rw [← hg11] at B11 ⊢
  clear hw11 hg11 hB_12 hG hs hW hg2_12
  go_wp2_with fail
  have hs : Ky.Steady [Ky.lift (.val 7 (.tuple #[.agg CA, .bool bh, .bool bo])), Ky.lift (.room 12 w11.heap.size 32 25), Ky.stored 13 w11.heap.size 14 CA 25 12] := Ky.Steady.append (l := [Ky.lift (.val 7 (.tuple #[.agg CA, .bool bh, .bool bo])), Ky.lift (.room 12 w11.heap.size 32 25)]) (Ky.Steady.lift (l := [.val 7 (.tuple #[.agg CA, .bool bh, .bool bo]), .room 12 w11.heap.size 32 25]) (Go.Pm.Steady.val (Go.Pm.Steady.room (Go.Pm.Steady.nil)))) (Ky.steady_stored _ _ _ _ _ _)
  refine Ky.wp_region_kn w11 _ hs (Kept.refl _ _) (by kernel_rfl) (by kernel_rfl) (by kernel_rfl) ?_
  refine Ky.wpPar_pure rfl (by rfl) _ (fun W hW => by first | exact exec_load_blk _ _ rfl rfl (BR10.out.kept (K11.out.trans hW) (fun h => h)) aRA | exact exec_load_at rfl rfl (rangeAt_kept RI10.out (K11.out.trans hW)) aI | exact exec_load_blk _ _ rfl rfl (BA10.out.kept (K11.out.trans hW) (fun h => h)) aA') ?_; simp only [Act.put, List.setIfInBounds_toArray, List.set_cons_zero, List.set_cons_succ]
  iterate 4 (refine Ky.wpPar_pure rfl (by rfl) _ (fun W hW => by
      go_simp
      exact rfl) ?_; simp only [Act.put, List.setIfInBounds_toArray, List.set_cons_zero, List.set_cons_succ])
  refine Ky.wpPar_pure rfl (by rfl) _ (fun W hW => by first | exact exec_load_blk _ _ rfl rfl (BR10.out.kept (K11.out.trans hW) (fun h => h)) aRA | exact exec_load_at rfl rfl (rangeAt_kept RI10.out (K11.out.trans hW)) aI | exact exec_load_blk _ _ rfl rfl (BA10.out.kept (K11.out.trans hW) (fun h => h)) aA') ?_; simp only [Act.put, List.setIfInBounds_toArray, List.set_cons_zero, List.set_cons_succ]
  refine Ky.wpPar_pure rfl (by rfl) _ (fun W hW => by first | exact exec_load_blk _ _ rfl rfl (BR10.out.kept (K11.out.trans hW) (fun h => h)) aRA | exact exec_load_at rfl rfl (rangeAt_kept RI10.out (K11.out.trans hW)) aI | exact exec_load_blk _ _ rfl rfl (BA10.out.kept (K11.out.trans hW) (fun h => h)) aA') ?_; simp only [Act.put, List.setIfInBounds_toArray, List.set_cons_zero, List.set_cons_succ]
  refine Ky.wpKn_adds hs rfl (by rfl) (fun W hW hd => ?_) (fun v7 hv => ?_)
  · unfold Gives
    go_simp
    refine gives_call (FD.out _ W (P10.out.kept (K11.out.trans hW))) ?_
    rintro e w3 ⟨rfl, k3⟩
    exact ⟨_, rfl, k3, rfl, trivial⟩
  obtain rfl : v7 = .tuple #[.agg CA, .bool bh, .bool bo] := hv
  simp only [Act.put, List.setIfInBounds_toArray, List.set_cons_zero, List.set_cons_succ]
  iterate 4 (refine Ky.wpPar_pure rfl (by rfl) _ (fun W hW => by
      go_simp
      exact rfl) ?_; simp only [Act.put, List.setIfInBounds_toArray, List.set_cons_zero, List.set_cons_succ])
  refine Ky.wpKn_adds hs rfl (by rfl) (fun W hW hd => ?_) (fun v12 hv => ?_)
  · unfold Gives
    go_simp
    exact ⟨(Kept.refl None W).alloc _, ⟨_, rfl⟩, _, _, rfl, hW.size, by rfl, Blk.new W _ _⟩
  obtain ⟨g12, rfl⟩ : ∃ g, v12 = .pointer (some ⟨g, 0, none⟩) := hv
  simp only [Act.put, List.setIfInBounds_toArray, List.set_cons_zero, List.set_cons_succ]
  refine Ky.wpPar_adds rfl (by rfl) (fun W hW hd => ?_) (fun v13 hv => ?_)
  · obtain ⟨g, z3, hg3, hg2, hz3, hR3⟩ : ∃ (g : Nat) (z : Array Value), Value.pointer (some ⟨g12, 0, none⟩) = .pointer (some ⟨g, 0, none⟩) ∧ w11.heap.size ≤ g ∧ z.size = 32 ∧ Blk W g z 25 := hd 12 (List.Mem.head _)
    obtain rfl : g12 = g := by simpa using hg3
    refine gives_store7 _ _ _ rfl rfl rfl hR3 aCA (hz3.trans (HS.out.2.1.symm)) HS.out.2.2.2 (fun W' hb hk => ⟨hW.then hk (fun i hi h => by have h : i = g12 := h; omega), trivial, ⟨g12, rfl, hg2, hb⟩, Ky.keeps_of fun f hf hs _ hne u hfu => ?_⟩)
    simp only [List.mem_cons, List.not_mem_nil, or_false] at hf
    rcases hf with rfl | rfl | rfl
    · exact hfu
    · exact absurd (List.Mem.head _) hs
    · exact absurd rfl hne
  simp only [Act.put]
  iterate 2 (refine Ky.wpPar_pure rfl (by rfl) _ (fun W hW => by
      go_simp
      exact rfl) ?_; simp only [Act.put, List.setIfInBounds_toArray, List.set_cons_zero, List.set_cons_succ])
  refine Ky.wpPar_nil (fun W hW hG => ?_)
  obtain ⟨g, hg3, hg2_12, hB_12⟩ : ∃ g, Value.pointer (some ⟨g12, 0, none⟩) = .pointer (some ⟨g, 0, none⟩) ∧ w11.heap.size ≤ g ∧ Blk W g CA 25 := hG 13
  obtain rfl : g12 = g := by simpa using hg3
  clear hg3
  have K12 := hid (K11.out.trans hW)
  have B14 := hid hB_12
  have B13 := hid (B11.out.kept hW (fun h => h))
  obtain ⟨w12, hw12⟩ : ∃ w12, w12 = W := ⟨_, rfl⟩
  rw [← hw12] at K12 B14 B13 ⊢
  obtain ⟨g14, hg14⟩ : ∃ g, g = g12 := ⟨_, rfl⟩
  rw [← hg14] at B14 ⊢
  have V12 := hid (V10.out.kept K12.out (fun h => h))
  have RV12 := hid (rangeAt_kept RV10.out K12.out)
  have K0 := hid (KW10.out.trans K12.out)
  clear hw12 hg14 hB_12 hG hs hW hg2_12 B11 K11
  go_wp2_with fail
  cases bV with
  | false =>
    have hs : Steady [] := Go.Pm.Steady.nil
    refine wp_region_kn w12 _ hs (Kept.refl _ _) (by kernel_rfl) (by kernel_rfl) (by kernel_rfl) ?_
    refine wpPar_pure rfl (by rfl) _ (fun W hW => by first | exact exec_load_blk _ _ rfl rfl (B13.out.kept hW (fun h => h)) aCA | exact exec_load_blk _ _ rfl rfl (B14.out.kept hW (fun h => h)) aCA | exact exec_load_blk _ _ rfl rfl (V12.out.kept hW (fun h => h)) aVA | (have q1 := E1.out; have q2 := E2.out; go_simp; exact rfl)) ?_; simp only [Act.put, List.setIfInBounds_toArray, List.set_cons_zero, List.set_cons_succ]
    refine wpPar_pure rfl (by rfl) _ (fun W hW => by first | exact exec_load_blk _ _ rfl rfl (B13.out.kept hW (fun h => h)) aCA | exact exec_load_blk _ _ rfl rfl (B14.out.kept hW (fun h => h)) aCA | exact exec_load_blk _ _ rfl rfl (V12.out.kept hW (fun h => h)) aVA | (have q1 := E1.out; have q2 := E2.out; go_simp; exact rfl)) ?_; simp only [Act.put, List.setIfInBounds_toArray, List.set_cons_zero, List.set_cons_succ]
    iterate 2 (refine wpPar_pure rfl (by rfl) _ (fun W hW => by
        have q1 := E1.out
        have q2 := E2.out
        go_simp
        exact rfl) ?_; simp only [Act.put, List.setIfInBounds_toArray, List.set_cons_zero, List.set_cons_succ])
    refine wpPar_pure rfl (by kernel_rfl) _ (fun W hW => by
        have q1 := E1.out
        have q2 := E2.out
        go_simp
        exact rfl) ?_; simp only [Act.put, List.setIfInBounds_toArray, List.set_cons_zero, List.set_cons_succ]
    refine wpPar_pure rfl (by kernel_rfl) _ (fun W hW => by
        have q1 := E1.out
        have q2 := E2.out
        go_simp
        exact rfl) ?_; simp only [Act.put, List.setIfInBounds_toArray, List.set_cons_zero, List.set_cons_succ]
    refine wpPar_pure rfl (by kernel_rfl) _ (fun W hW => by
        have q1 := E1.out
        have q2 := E2.out
        go_simp
        exact rfl) ?_; simp only [Act.put, List.setIfInBounds_toArray, List.set_cons_zero, List.set_cons_succ]
    iterate 2 (refine wpPar_pure rfl (by rfl) _ (fun W hW => by
        have q1 := E1.out
        have q2 := E2.out
        go_simp
        exact rfl) ?_; simp only [Act.put, List.setIfInBounds_toArray, List.set_cons_zero, List.set_cons_succ])
    refine wpPar_pure rfl (by kernel_rfl) _ (fun W hW => by
        have q1 := E1.out
        have q2 := E2.out
        go_simp
        exact rfl) ?_; simp only [Act.put, List.setIfInBounds_toArray, List.set_cons_zero, List.set_cons_succ]
    refine wpPar_pure rfl (by kernel_rfl) _ (fun W hW => by
        have q1 := E1.out
        have q2 := E2.out
        go_simp
        exact rfl) ?_; simp only [Act.put, List.setIfInBounds_toArray, List.set_cons_zero, List.set_cons_succ]
    refine wpPar_pure rfl (by kernel_rfl) _ (fun W hW => by
        have q1 := E1.out
        have q2 := E2.out
        go_simp
        exact rfl) ?_; simp only [Act.put, List.setIfInBounds_toArray, List.set_cons_zero, List.set_cons_succ]
    iterate 2 (refine wpPar_pure rfl (by rfl) _ (fun W hW => by
        have q1 := E1.out
        have q2 := E2.out
        go_simp
        exact rfl) ?_; simp only [Act.put, List.setIfInBounds_toArray, List.set_cons_zero, List.set_cons_succ])
    refine wpPar_pure rfl (by kernel_rfl) _ (fun W hW => by first | exact exec_load_blk _ _ rfl rfl (B13.out.kept hW (fun h => h)) aCA | exact exec_load_blk _ _ rfl rfl (B14.out.kept hW (fun h => h)) aCA | exact exec_load_blk _ _ rfl rfl (V12.out.kept hW (fun h => h)) aVA | (have q1 := E1.out; have q2 := E2.out; go_simp; exact rfl)) ?_; simp only [Act.put, List.setIfInBounds_toArray, List.set_cons_zero, List.set_cons_succ]
    refine wpPar_pure rfl (by kernel_rfl) _ (fun W hW => by
        have q1 := E1.out
        have q2 := E2.out
        go_simp
        exact rfl) ?_; simp only [Act.put, List.setIfInBounds_toArray, List.set_cons_zero, List.set_cons_succ]
    refine wpPar_pure rfl (by kernel_rfl) _ (fun W hW => by
        have q1 := E1.out
        have q2 := E2.out
        go_simp
        exact rfl) ?_; simp only [Act.put, List.setIfInBounds_toArray, List.set_cons_zero, List.set_cons_succ]
    refine wpPar_pure rfl (by kernel_rfl) _ (fun W hW => by
        have q1 := E1.out
        have q2 := E2.out
        go_simp
        exact rfl) ?_; simp only [Act.put, List.setIfInBounds_toArray, List.set_cons_zero, List.set_cons_succ]
    refine wpPar_pure rfl (by kernel_rfl) _ (fun W hW => by
        have q1 := E1.out
        have q2 := E2.out
        go_simp
        exact rfl) ?_; simp only [Act.put, List.setIfInBounds_toArray, List.set_cons_zero, List.set_cons_succ]
    refine wpPar_pure rfl (by kernel_rfl) (.agg XA) (fun W hW => by rw [HXA.out]; exact exec_load_at rfl rfl (rangeAt_kept RV12.out hW) aX) ?_; simp only [Act.put, List.setIfInBounds_toArray, List.set_cons_zero, List.set_cons_succ]
    refine wpPar_pure rfl (by kernel_rfl) _ (fun W hW => by
        have q1 := E1.out
        have q2 := E2.out
        go_simp
        exact rfl) ?_; simp only [Act.put, List.setIfInBounds_toArray, List.set_cons_zero, List.set_cons_succ]
    refine wpPar_pure rfl (by kernel_rfl) _ (fun W hW => by
        have q1 := E1.out
        have q2 := E2.out
        go_simp
        exact rfl) ?_; simp only [Act.put, List.setIfInBounds_toArray, List.set_cons_zero, List.set_cons_succ]
    refine wpPar_skip (by kernel_rfl) ?_; simp only [Act.put, List.setIfInBounds_toArray, List.set_cons_zero, List.set_cons_succ]
    refine wpPar_skip (by kernel_rfl) ?_; simp only [Act.put, List.setIfInBounds_toArray, List.set_cons_zero, List.set_cons_succ]
    refine wpPar_skip (by kernel_rfl) ?_; simp only [Act.put, List.setIfInBounds_toArray, List.set_cons_zero, List.set_cons_succ]
    refine wpPar_skip (by kernel_rfl) ?_; simp only [Act.put, List.setIfInBounds_toArray, List.set_cons_zero, List.set_cons_succ]
    refine wpPar_pure rfl (by kernel_rfl) _ (fun W hW => by
        have q1 := E1.out
        have q2 := E2.out
        go_simp
        exact rfl) ?_; simp only [Act.put, List.setIfInBounds_toArray, List.set_cons_zero, List.set_cons_succ]
    iterate 2 (refine wpPar_pure rfl (by rfl) _ (fun W hW => by
        have q1 := E1.out
        have q2 := E2.out
        go_simp
        exact rfl) ?_; simp only [Act.put, List.setIfInBounds_toArray, List.set_cons_zero, List.set_cons_succ])
    refine wpPar_nil (fun W hW hG => ?_)
    have K13 := hid (K0.out.trans hW)
    clear hG hs hW
    go_wp2
    go_ret
    exact ⟨rfl, K13.out⟩
  | true =>
    obtain ⟨rfl, rfl⟩ := HSM.out.1 (by have := HSM.out.2; simpa using this.symm)
    have hs : Steady [] := Go.Pm.Steady.nil
    refine wp_region_kn w12 _ hs (Kept.refl _ _) (by kernel_rfl) (by kernel_rfl) (by kernel_rfl) ?_
    refine wpPar_pure rfl (by rfl) _ (fun W hW => by first | exact exec_load_blk _ _ rfl rfl (B13.out.kept hW (fun h => h)) aCA | exact exec_load_blk _ _ rfl rfl (B14.out.kept hW (fun h => h)) aCA | exact exec_load_blk _ _ rfl rfl (V12.out.kept hW (fun h => h)) aVA | (have q1 := E1.out; have q2 := E2.out; go_simp; exact rfl)) ?_; simp only [Act.put, List.setIfInBounds_toArray, List.set_cons_zero, List.set_cons_succ]
    refine wpPar_pure rfl (by rfl) _ (fun W hW => by first | exact exec_load_blk _ _ rfl rfl (B13.out.kept hW (fun h => h)) aCA | exact exec_load_blk _ _ rfl rfl (B14.out.kept hW (fun h => h)) aCA | exact exec_load_blk _ _ rfl rfl (V12.out.kept hW (fun h => h)) aVA | (have q1 := E1.out; have q2 := E2.out; go_simp; exact rfl)) ?_; simp only [Act.put, List.setIfInBounds_toArray, List.set_cons_zero, List.set_cons_succ]
    iterate 2 (refine wpPar_pure rfl (by rfl) _ (fun W hW => by
        have q1 := E1.out
        have q2 := E2.out
        go_simp
        exact rfl) ?_; simp only [Act.put, List.setIfInBounds_toArray, List.set_cons_zero, List.set_cons_succ])
    refine wpPar_pure rfl (by kernel_rfl) _ (fun W hW => by
        have q1 := E1.out
        have q2 := E2.out
        go_simp
        exact rfl) ?_; simp only [Act.put, List.setIfInBounds_toArray, List.set_cons_zero, List.set_cons_succ]
    refine wpPar_pure rfl (by kernel_rfl) _ (fun W hW => by
        have q1 := E1.out
        have q2 := E2.out
        go_simp
        exact rfl) ?_; simp only [Act.put, List.setIfInBounds_toArray, List.set_cons_zero, List.set_cons_succ]
    refine wpPar_pure rfl (by kernel_rfl) _ (fun W hW => by
        have q1 := E1.out
        have q2 := E2.out
        go_simp
        exact rfl) ?_; simp only [Act.put, List.setIfInBounds_toArray, List.set_cons_zero, List.set_cons_succ]
    iterate 2 (refine wpPar_pure rfl (by rfl) _ (fun W hW => by
        have q1 := E1.out
        have q2 := E2.out
        go_simp
        exact rfl) ?_; simp only [Act.put, List.setIfInBounds_toArray, List.set_cons_zero, List.set_cons_succ])
    refine wpPar_pure rfl (by kernel_rfl) _ (fun W hW => by
        have q1 := E1.out
        have q2 := E2.out
        go_simp
        exact rfl) ?_; simp only [Act.put, List.setIfInBounds_toArray, List.set_cons_zero, List.set_cons_succ]
    refine wpPar_pure rfl (by kernel_rfl) _ (fun W hW => by
        have q1 := E1.out
        have q2 := E2.out
        go_simp
        exact rfl) ?_; simp only [Act.put, List.setIfInBounds_toArray, List.set_cons_zero, List.set_cons_succ]
    refine wpPar_pure rfl (by kernel_rfl) _ (fun W hW => by
        have q1 := E1.out
        have q2 := E2.out
        go_simp
        exact rfl) ?_; simp only [Act.put, List.setIfInBounds_toArray, List.set_cons_zero, List.set_cons_succ]
    iterate 2 (refine wpPar_pure rfl (by rfl) _ (fun W hW => by
        have q1 := E1.out
        have q2 := E2.out
        go_simp
        exact rfl) ?_; simp only [Act.put, List.setIfInBounds_toArray, List.set_cons_zero, List.set_cons_succ])
    refine wpPar_pure rfl (by kernel_rfl) _ (fun W hW => by first | exact exec_load_blk _ _ rfl rfl (B13.out.kept hW (fun h => h)) aCA | exact exec_load_blk _ _ rfl rfl (B14.out.kept hW (fun h => h)) aCA | exact exec_load_blk _ _ rfl rfl (V12.out.kept hW (fun h => h)) aVA | (have q1 := E1.out; have q2 := E2.out; go_simp; exact rfl)) ?_; simp only [Act.put, List.setIfInBounds_toArray, List.set_cons_zero, List.set_cons_succ]
    refine wpPar_pure rfl (by kernel_rfl) _ (fun W hW => by
        have q1 := E1.out
        have q2 := E2.out
        go_simp
        exact rfl) ?_; simp only [Act.put, List.setIfInBounds_toArray, List.set_cons_zero, List.set_cons_succ]
    refine wpPar_pure rfl (by kernel_rfl) _ (fun W hW => by
        have q1 := E1.out
        have q2 := E2.out
        go_simp
        exact rfl) ?_; simp only [Act.put, List.setIfInBounds_toArray, List.set_cons_zero, List.set_cons_succ]
    refine wpPar_pure rfl (by kernel_rfl) _ (fun W hW => by
        have q1 := E1.out
        have q2 := E2.out
        go_simp
        exact rfl) ?_; simp only [Act.put, List.setIfInBounds_toArray, List.set_cons_zero, List.set_cons_succ]
    refine wpPar_pure rfl (by kernel_rfl) _ (fun W hW => by
        have q1 := E1.out
        have q2 := E2.out
        go_simp
        exact rfl) ?_; simp only [Act.put, List.setIfInBounds_toArray, List.set_cons_zero, List.set_cons_succ]
    refine wpPar_pure rfl (by kernel_rfl) (.agg XA) (fun W hW => by rw [HXA.out]; exact exec_load_at rfl rfl (rangeAt_kept RV12.out hW) aX) ?_; simp only [Act.put, List.setIfInBounds_toArray, List.set_cons_zero, List.set_cons_succ]
    refine wpPar_pure rfl (by kernel_rfl) _ (fun W hW => by
        have q1 := E1.out
        have q2 := E2.out
        go_simp
        exact rfl) ?_; simp only [Act.put, List.setIfInBounds_toArray, List.set_cons_zero, List.set_cons_succ]
    refine wpPar_pure rfl (by kernel_rfl) _ (fun W hW => by
        have q1 := E1.out
        have q2 := E2.out
        go_simp
        exact rfl) ?_; simp only [Act.put, List.setIfInBounds_toArray, List.set_cons_zero, List.set_cons_succ]
    refine wpPar_pure rfl (by kernel_rfl) _ (fun W hW => by
        have q1 := E1.out
        have q2 := E2.out
        go_simp
        exact rfl) ?_; simp only [Act.put, List.setIfInBounds_toArray, List.set_cons_zero, List.set_cons_succ]
    refine wpPar_pure rfl (by kernel_rfl) _ (fun W hW => by
        have q1 := E1.out
        have q2 := E2.out
        go_simp
        exact rfl) ?_; simp only [Act.put, List.setIfInBounds_toArray, List.set_cons_zero, List.set_cons_succ]
    refine wpPar_pure rfl (by kernel_rfl) _ (fun W hW => by
        have q1 := E1.out
        have q2 := E2.out
        go_simp
        exact rfl) ?_; simp only [Act.put, List.setIfInBounds_toArray, List.set_cons_zero, List.set_cons_succ]
    refine wpPar_pure rfl (by kernel_rfl) _ (fun W hW => by
        have q1 := E1.out
        have q2 := E2.out
        go_simp
        exact rfl) ?_; simp only [Act.put, List.setIfInBounds_toArray, List.set_cons_zero, List.set_cons_succ]
    refine wpPar_pure rfl (by kernel_rfl) _ (fun W hW => by
        have q1 := E1.out
        have q2 := E2.out
        go_simp
        exact rfl) ?_; simp only [Act.put, List.setIfInBounds_toArray, List.set_cons_zero, List.set_cons_succ]
    iterate 2 (refine wpPar_pure rfl (by rfl) _ (fun W hW => by
        have q1 := E1.out
        have q2 := E2.out
        go_simp
        exact rfl) ?_; simp only [Act.put, List.setIfInBounds_toArray, List.set_cons_zero, List.set_cons_succ])
    refine wpPar_nil (fun W hW hG => ?_)
    have K13 := hid (K0.out.trans hW)
    clear hG hs hW
    go_wp2
    go_ret
    exact ⟨rfl, K13.out⟩
end Pr
end Go.Proofs.Ytdlnikkfpfdbbaa
