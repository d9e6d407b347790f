/- postmarklaw7.ProofAll: true. -/
import Derived.Test.YtdalfcbakjgcmaaKnown7
import Derived.Test.YtdalfcbakjgcmaaIndex7
namespace Go.Pm
/-- There is one of this index. -/
def thereB (l : List It) (i : List UInt8) : Bool := l.any (fun x => x.i == i)
theorem there_take (l : List It) (i : List UInt8) (k : Nat) (h : k < l.length) : thereB (l.take (k + 1)) i = (thereB (l.take k) i || l[k].i == i) := by
  unfold thereB
  rw [List.take_succ_eq_append_getElem h, List.any_append, List.any_cons, List.any_nil, Bool.or_false]
theorem there_make (l : List It) (i : List UInt8) (hl : Len l) : saysH (makeP l i) = thereB l i := by
  unfold saysH thereB
  rw [Bool.eq_iff_iff, decide_eq_true_iff, here_make l i hl, List.any_eq_true]
  simp
/-- .. which uses up other facts, too. -/
abbrev Ky.storedS (k lo : Nat) (slot : Tmp) (A : Array Value) (t : TypeId) (room : Nat) (sp : List Nat) : Ky.Fct := { k := k, uses := room :: sp, spends := room :: sp, key := some slot, fact := fun p W => ∃ g, p.1 = .pointer (some ⟨g, 0, none⟩) ∧ lo ≤ g ∧ Blk W g A t }
theorem Ky.steady_storedS (k lo : Nat) (slot : Tmp) (A : Array Value) (t : TypeId) (room : Nat) (sp : List Nat) : Ky.Steady [Ky.storedS k lo slot A t room sp] := Ky.Steady.cons ⟨undef, trivial⟩ (fun _ _ _ hk ⟨g, h1, h2, h3⟩ => ⟨g, h1, h2, h3.kept hk (fun h => h)⟩) Ky.Steady.nil
end Go.Pm
namespace Go.Proofs.Ytdalfcbakjgcmaa
open Go.RowKit Go.Pm
namespace Pr
set_option maxRecDepth 100000 in
set_option maxHeartbeats 4000000 in
theorem all (v : Value) (lo hi : Nat) (ns : List Int) (bit : Nat) (w : World) (hv : U16s w lo hi v ns) (hbt : bit < 256) :
    Calls Try.prog 6 #[v, .int .u8 bit] w fun e w' => e = .returned (.bool true) ∧ Kept None w w' := by
  obtain ⟨a, cap, rfl, g1, g2⟩ := hv.form
  obtain ⟨n, hn⟩ : ∃ n, n = ns.length := ⟨_, rfl⟩
  rw [← hn] at hv g1 ⊢
  have HV := hid hv
  have HN := hid hn
  clear hv hn
  go_enter Try.func6, Try.ntmps6
  go_wp2_with fail
  refine (known _).mono ?_
  rintro e w1 ⟨rfl, k1⟩
  by_cases h30 : 16 < n
  · have hz : (16 : Int) < (n : Int) := by omega
    go_wp2
    go_ret
    exact ⟨rfl, k1⟩
  have hz : ¬ (16 : Int) < (n : Int) := by omega
  go_wp2_with fail
  refine (Tr.items _ _ _ ns w1 (by have := HV.out.kept k1 (fun _ _ _ h => h); rw [HN.out] at this ⊢; exact this) (by have := HN.out; omega)).mono ?_
  rintro e w2 ⟨v2, xs, rfl, hxs, hxl, k2⟩
  obtain ⟨a2, c2, rfl⟩ := hxs.form
  have hx30 : xs.length ≤ 30 := by have := HN.out; omega
  have K2 := k1.trans k2
  clear k1 k2 hxl
  go_wp2_with fail
  refine (RTr.set _ _ _ _ 0 0 xs [] w2 (hxs.its (Nat.le_refl _)) (Its.nil _ _ _) (by simp; omega)).mono ?_
  rintro e w3 ⟨v3, rfl, h3, k3⟩
  rw [List.append_nil] at h3
  have hlen : (setI xs).length ≤ 30 := Nat.le_trans (setI_le xs) hx30
  obtain ⟨l, hl⟩ : ∃ l, l = setI xs := ⟨_, rfl⟩
  have hsrt : Srt l := by rw [hl]; exact srt_setI xs
  rw [← hl] at h3 hlen
  have hfull : Len l := h3.1
  obtain ⟨a3, c3, rfl⟩ := h3.form
  have hL := h3.its (Nat.le_refl _)
  have K3 := K2.trans k3
  clear K2 k3 hxs hx30 hl h3 HV HN
  go_wp2_with fail
  refine (RTr.root_of _ _ _ l w3 hL (by omega)).mono ?_
  rintro e w4 ⟨rfl, k4⟩
  have hL4 := hL.kept k4 (fun _ _ _ h => h)
  have K4 := K3.trans k4
  have hr32 : (rootOf l).length = 32 := by rw [← root_make l hfull zero32]; exact climbH_len _ _ _ _
  obtain ⟨CR, hCR⟩ : ∃ C, C = (rootOf l).map u8v := ⟨_, rfl⟩
  have lR : CR.length = 32 := by rw [hCR, List.length_map]; exact hr32
  have allR : CR.toArray.all (·.oneCell') = true := by rw [hCR]; exact u8v_all' _
  have aR : AggTy Try.prog 25 CR.toArray.size := by rw [show CR.toArray.size = 32 by simpa using lR]; exact Sp.aH
  rw [show hashV (rootOf l) = .agg CR.toArray by rw [hCR]]
  obtain ⟨z5, hz5, hR5⟩ := Blk.any (n := 32) (Blk.new w4 #[.int .u8 0, .int .u8 0, .int .u8 0, .int .u8 0, .int .u8 0, .int .u8 0, .int .u8 0, .int .u8 0, .int .u8 0, .int .u8 0, .int .u8 0, .int .u8 0, .int .u8 0, .int .u8 0, .int .u8 0, .int .u8 0, .int .u8 0, .int .u8 0, .int .u8 0, .int .u8 0, .int .u8 0, .int .u8 0, .int .u8 0, .int .u8 0, .int .u8 0, .int .u8 0, .int .u8 0, .int .u8 0, .int .u8 0, .int .u8 0, .int .u8 0, .int .u8 0] 25) (by rfl)
  have E5 := hid (And.intro (hz5.trans (show 32 = CR.toArray.size by simpa using lR.symm)) allR)
  have HR := hid (And.intro hCR (And.intro hr32 lR))
  have HS := hid (And.intro hsrt hfull)
  clear K3 k4 hL hCR hr32 lR allR hz5 hsrt hfull
  go_wp2_with (first | (refine wpList_store_blk (.refl _) _ _ _ rfl rfl rfl hR5 aR E5.out.1 E5.out.2 ?_; intro w5 b5 k5; have K5 := hid (K4.trans k5.fresh); have L5 := hid (hL4.kept k5.fresh (fun _ _ _ h => h)); have B5 := hid b5; clear K4 hL4 k5 hR5 b5) | fail)
  go_loopg [7, 8, 9, 10, 11, 12, 13, 14, 15, 16] l.length (fun kx s7 s8 s9 s10 s11 s12 s13 s14 s15 s16 wr => ∃ (k : Nat) (u8 u9 u10 u11 u12 u13 u14 u15 u16 : Value), s7 = .int .i64 k ∧ s8 = u8 ∧ s9 = u9 ∧ s10 = u10 ∧ s11 = u11 ∧ s12 = u12 ∧ s13 = u13 ∧ s14 = u14 ∧ s15 = u15 ∧ s16 = u16 ∧ k ≤ l.length ∧ l.length - k ≤ kx ∧ Hid (Kept None w5 wr))
  case atStart => exact ⟨0, _, _, _, _, _, _, _, _, _, rfl, rfl, rfl, rfl, rfl, rfl, rfl, rfl, rfl, rfl, Nat.zero_le _, Nat.le_refl _, Kept.refl _ _⟩
  case round =>
    obtain ⟨k, u8, u9, u10, u11, u12, u13, u14, u15, u16, rfl, rfl, rfl, rfl, rfl, rfl, rfl, rfl, rfl, rfl, hk, hkx, HK⟩ := hrel
    by_cases hlt : k < l.length
    · have hzk : (k : Int) < (l.length : Int) := by omega
      obtain ⟨wo, rfl⟩ : ∃ wo : World, wo = wr := ⟨_, rfl⟩
      have hx32 := HS.out.2 l[k] (List.getElem_mem hlt)
      have hmem := List.getElem_mem hlt
      have him := item_make l HS.out.2 HS.out.1 hmem
      have LO := hid (L5.out.kept HK.out (fun _ _ _ h => h))
      obtain ⟨b, o, hbo, q1, q2, q3, hcx⟩ := LO.out.ne (by omega)
      obtain rfl := hbo
      have hx := hcx k l[k] (List.getElem?_eq_getElem hlt)
      obtain ⟨x, hxx⟩ : ∃ x, x = l[k] := ⟨_, rfl⟩
      rw [← hxx] at hx32 hmem him hx
      clear hxx hcx q1 q2
      have rI : wo.rangeAt b (o + k * 64) (x.i.map u8v) := by
        have h := rangeAt_take hx 32
        rwa [show (itC x).take 32 = x.i.map u8v from List.take_left' (by simp [hx32.1])] at h
      have rV : wo.rangeAt b (o + k * 64 + 32) (x.v.map u8v) := fun j c hj => by
        have h := hx (32 + j) c (by rw [show itC x = x.i.map u8v ++ x.v.map u8v from rfl, List.getElem?_append_right (by simp [hx32.1])]; simpa [hx32.1] using hj)
        rwa [← Nat.add_assoc] at h
      obtain ⟨m, hm⟩ : ∃ m, m = makeP l x.i := ⟨_, rfl⟩
      have fM : ∀ W, Kept None wo W → Calls Try.prog 12 #[.slice (some ⟨b, o, none⟩) l.length c3, .agg (x.i.map u8v).toArray] W fun e w' => ∃ A, e = .returned (.agg A) ∧ Kept None W w' ∧ PV m w' A := fun W hW => by
        rw [hm]; exact make l x.i _ _ _ W (LO.out.kept hW (fun _ _ _ h => h)) (by omega) hx32.1
      have fC : ∀ A W, PV m W A → Calls Try.prog 17 #[.agg CR.toArray, .agg (x.i.map u8v).toArray, .agg A] W fun e w' => e = .returned (.tuple #[.agg (x.v.map u8v).toArray, .bool true, .bool true]) ∧ Kept None W w' := fun A W h => by
        have h2 := checkA (rootOf l) x.i m A W HR.out.2.1 hx32.1 h
        have h3 := check_make l HS.out.2 x.i
        rw [← hm] at h3
        rw [h3.1, h3.2.1, h3.2.2] at h2
        have e1 : saysV m = x.v := by unfold saysV; rw [hm, if_pos him.1, him.2]
        have e2 : saysH m = true := by unfold saysH; rw [hm, him.1]; rfl
        rw [e1, e2] at h2
        rw [HR.out.1]
        exact h2
      have e5 := Tr.neqHash x.v x.v hx32.2 hx32.2
      rw [beq_self_eq_true] at e5
      obtain ⟨CI, hCI⟩ : ∃ C, C = x.i.map u8v := ⟨_, rfl⟩
      obtain ⟨CV, hCV⟩ : ∃ C, C = x.v.map u8v := ⟨_, rfl⟩
      rw [← hCI] at rI fM fC
      rw [← hCV] at rV fC e5
      have aI : AggTy Try.prog 25 CI.length := by rw [hCI]; exact aH32' hx32.1
      have aV : AggTy Try.prog 25 CV.length := by rw [hCV]; exact aH32' hx32.2
      have aV' : AggTy Try.prog 25 CV.toArray.size := by simpa using aV
      have sV : 32 = CV.toArray.size := by rw [hCV]; simp [hx32.2]
      have allV : CV.toArray.all (·.oneCell') = true := by rw [hCV]; exact u8v_all' _
      have allI : CI.toArray.all (·.oneCell') = true := by rw [hCI]; exact u8v_all' _
      have aI' : AggTy Try.prog 25 CI.toArray.size := by simpa using aI
      have HX := hid (And.intro hx32 (And.intro hmem (And.intro hCI (And.intro hCV (And.intro allI allV)))))
      have FM := hid fM
      have FC := hid fC
      have E5v := hid e5
      have RI := hid rI
      have RV := hid rV
      have SV := hid sV
      have BR := hid (B5.out.kept HK.out (fun h => h))
      have HC3 := hid (L5.out.form)
      obtain ⟨_, _, hsl, hc1, hc2, _⟩ := L5.out.form
      clear hx32 hmem him hx hm fM fC e5 rI rV hCI hCV sV allV allI hsl
      go_wp2_with fail
      have hs : Ky.Steady [Ky.lift (.pv 12 (m)), Ky.lift (.val 13 (.tuple #[.agg CV.toArray, .bool true, .bool true]) [12]), Ky.lift (.room 18 wo.heap.size 32 25), Ky.storedS 19 wo.heap.size 8 CV.toArray 25 18 [12]] := Ky.Steady.append (l := [Ky.lift (.pv 12 (m)), Ky.lift (.val 13 (.tuple #[.agg CV.toArray, .bool true, .bool true]) [12]), Ky.lift (.room 18 wo.heap.size 32 25)]) (Ky.Steady.lift (l := [.pv 12 (m), .val 13 (.tuple #[.agg CV.toArray, .bool true, .bool true]) [12], .room 18 wo.heap.size 32 25]) (Go.Pm.Steady.pv (Go.Pm.Steady.val (Go.Pm.Steady.room (Go.Pm.Steady.nil))))) (Ky.steady_storedS _ _ _ _ _ _ _)
      refine Ky.wp_region_kn wo _ hs (Kept.refl _ _) (by kernel_rfl) (by kernel_rfl) (by kernel_rfl) ?_
      refine Ky.wpPar_pure rfl (by rfl) _ (fun W hW => by first | exact exec_load_blk _ _ rfl rfl (BR.out.kept hW (fun h => h)) aR | exact exec_load_at rfl rfl (rangeAt_kept RI.out hW) aI) ?_; simp only [Act.put, List.setIfInBounds_toArray, List.set_cons_zero, List.set_cons_succ]
      iterate 4 (refine Ky.wpPar_pure rfl (by rfl) _ (fun W hW => by
          go_simp
          exact rfl) ?_; simp only [Act.put, List.setIfInBounds_toArray, List.set_cons_zero, List.set_cons_succ])
      refine Ky.wpPar_pure rfl (by rfl) _ (fun W hW => by first | exact exec_load_blk _ _ rfl rfl (BR.out.kept hW (fun h => h)) aR | exact exec_load_at rfl rfl (rangeAt_kept RI.out hW) aI) ?_; simp only [Act.put, List.setIfInBounds_toArray, List.set_cons_zero, List.set_cons_succ]
      iterate 5 (refine Ky.wpPar_pure rfl (by rfl) _ (fun W hW => by
          go_simp
          exact rfl) ?_; simp only [Act.put, List.setIfInBounds_toArray, List.set_cons_zero, List.set_cons_succ])
      refine Ky.wpPar_pure rfl (by rfl) _ (fun W hW => by first | exact exec_load_blk _ _ rfl rfl (BR.out.kept hW (fun h => h)) aR | exact exec_load_at rfl rfl (rangeAt_kept RI.out hW) aI) ?_; simp only [Act.put, List.setIfInBounds_toArray, List.set_cons_zero, List.set_cons_succ]
      refine Ky.wpKn_adds hs rfl (by rfl) (fun W hW hd => ?_) (fun v12 hv => ?_)
      · unfold Gives
        go_simp
        refine gives_call (FM.out W hW) ?_
        rintro e w3 ⟨A3, rfl, k3, p3⟩
        exact ⟨_, rfl, k3, ⟨_, rfl⟩, _, rfl, p3⟩
      obtain ⟨A12, rfl⟩ : ∃ A, v12 = .agg A := hv
      simp only [Act.put, List.setIfInBounds_toArray, List.set_cons_zero, List.set_cons_succ]
      refine Ky.wpKn_adds hs rfl (by rfl) (fun W hW hd => ?_) (fun v13 hv => ?_)
      · unfold Gives
        obtain ⟨A', eA', p12⟩ : ∃ A, Value.agg A12 = .agg A ∧ PV (m) W A := hd 12 (List.Mem.head _)
        obtain rfl : A12 = A' := by simpa using eA'
        go_simp
        refine gives_call (FC.out _ W p12) ?_
        rintro e w3 ⟨rfl, k3⟩
        exact ⟨_, rfl, k3, rfl, trivial⟩
      obtain rfl : v13 = .tuple #[.agg CV.toArray, .bool true, .bool true] := hv
      simp only [Act.put, List.setIfInBounds_toArray, List.set_cons_zero, List.set_cons_succ]
      iterate 4 (refine Ky.wpPar_pure rfl (by rfl) _ (fun W hW => by
          go_simp
          exact rfl) ?_; simp only [Act.put, List.setIfInBounds_toArray, List.set_cons_zero, List.set_cons_succ])
      refine Ky.wpKn_adds hs rfl (by rfl) (fun W hW hd => ?_) (fun v18 hv => ?_)
      · unfold Gives
        go_simp
        exact ⟨(Kept.refl None W).alloc _, ⟨_, rfl⟩, _, _, rfl, hW.size, by rfl, Blk.new W _ _⟩
      obtain ⟨g18, rfl⟩ : ∃ g, v18 = .pointer (some ⟨g, 0, none⟩) := hv
      simp only [Act.put, List.setIfInBounds_toArray, List.set_cons_zero, List.set_cons_succ]
      refine Ky.wpPar_adds rfl (by rfl) (fun W hW hd => ?_) (fun v19 hv => ?_)
      · obtain ⟨g, z3, hg3, hg2, hz3, hR3⟩ : ∃ (g : Nat) (z : Array Value), Value.pointer (some ⟨g18, 0, none⟩) = .pointer (some ⟨g, 0, none⟩) ∧ wo.heap.size ≤ g ∧ z.size = 32 ∧ Blk W g z 25 := hd 18 (List.Mem.head _)
        obtain rfl : g18 = g := by simpa using hg3
        refine gives_store7 _ _ _ rfl rfl rfl hR3 aV' (hz3.trans (SV.out)) HX.out.2.2.2.2.2 (fun W' hb hk => ⟨hW.then hk (fun i hi h => by have h : i = g18 := h; omega), trivial, ⟨g18, rfl, hg2, hb⟩, Ky.keeps_of fun f hf hs _ hne u hfu => ?_⟩)
        simp only [List.mem_cons, List.not_mem_nil, or_false] at hf
        rcases hf with rfl | rfl | rfl | rfl
        · exact absurd (List.Mem.tail _ (List.Mem.head _)) hs
        · exact hfu
        · exact absurd (List.Mem.head _) hs
        · exact absurd rfl hne
      simp only [Act.put]
      iterate 2 (refine Ky.wpPar_pure rfl (by rfl) _ (fun W hW => by
          go_simp
          exact rfl) ?_; simp only [Act.put, List.setIfInBounds_toArray, List.set_cons_zero, List.set_cons_succ])
      refine Ky.wpPar_nil (fun W hW hG => ?_)
      obtain ⟨g, hg3, hg2_18, hB_18⟩ : ∃ g, Value.pointer (some ⟨g18, 0, none⟩) = .pointer (some ⟨g, 0, none⟩) ∧ wo.heap.size ≤ g ∧ Blk W g CV.toArray 25 := hG 19
      obtain rfl : g18 = g := by simpa using hg3
      clear hg3
      have HG := hid hg2_18
      have K18 := hid hW
      have B18 := hid hB_18
      have aB18 := aV'
      clear hG hs hg2_18 hB_18 hW
      go_wp2_with fail
      have hs : Ky.Steady [] := Ky.Steady.nil
      refine Ky.wp_region_kn W _ hs (Kept.refl _ _) (by kernel_rfl) (by kernel_rfl) (by kernel_rfl) ?_
      iterate 3 (refine Ky.wpPar_pure rfl (by rfl) _ (fun W hW => by
          have e5 := E5v.out
          go_simp
          exact rfl) ?_; simp only [Act.put, List.setIfInBounds_toArray, List.set_cons_zero, List.set_cons_succ])
      refine Ky.wpPar_pure rfl (by kernel_rfl) _ (fun W hW => by first | (have e5 := E5v.out; go_simp; exact rfl)) ?_; simp only [Act.put, List.setIfInBounds_toArray, List.set_cons_zero, List.set_cons_succ]
      refine Ky.wpPar_pure rfl (by kernel_rfl) _ (fun W hW => by first | (have e5 := E5v.out; go_simp; exact rfl)) ?_; simp only [Act.put, List.setIfInBounds_toArray, List.set_cons_zero, List.set_cons_succ]
      iterate 2 (refine Ky.wpPar_pure rfl (by rfl) _ (fun W hW => by
          have e5 := E5v.out
          go_simp
          exact rfl) ?_; simp only [Act.put, List.setIfInBounds_toArray, List.set_cons_zero, List.set_cons_succ])
      refine Ky.wpPar_pure rfl (by kernel_rfl) _ (fun W hW => by first | exact exec_load_blk _ _ rfl rfl (B18.out.kept hW (fun h => h)) aV' | exact exec_load_at rfl rfl (rangeAt_kept RV.out (K18.out.trans hW)) aV | (have e5 := E5v.out; go_simp; exact rfl)) ?_; simp only [Act.put, List.setIfInBounds_toArray, List.set_cons_zero, List.set_cons_succ]
      refine Ky.wpPar_pure rfl (by kernel_rfl) _ (fun W hW => by first | (have e5 := E5v.out; go_simp; exact rfl)) ?_; simp only [Act.put, List.setIfInBounds_toArray, List.set_cons_zero, List.set_cons_succ]
      refine Ky.wpPar_pure rfl (by kernel_rfl) _ (fun W hW => by first | (have e5 := E5v.out; go_simp; exact rfl)) ?_; simp only [Act.put, List.setIfInBounds_toArray, List.set_cons_zero, List.set_cons_succ]
      refine Ky.wpPar_pure rfl (by kernel_rfl) _ (fun W hW => by first | (have e5 := E5v.out; go_simp; exact rfl)) ?_; simp only [Act.put, List.setIfInBounds_toArray, List.set_cons_zero, List.set_cons_succ]
      refine Ky.wpPar_pure rfl (by kernel_rfl) _ (fun W hW => by first | (have e5 := E5v.out; go_simp; exact rfl)) ?_; simp only [Act.put, List.setIfInBounds_toArray, List.set_cons_zero, List.set_cons_succ]
      refine Ky.wpPar_pure rfl (by kernel_rfl) _ (fun W hW => by first | exact exec_load_blk _ _ rfl rfl (B18.out.kept hW (fun h => h)) aV' | exact exec_load_at rfl rfl (rangeAt_kept RV.out (K18.out.trans hW)) aV | (have e5 := E5v.out; go_simp; exact rfl)) ?_; simp only [Act.put, List.setIfInBounds_toArray, List.set_cons_zero, List.set_cons_succ]
      refine Ky.wpPar_pure rfl (by kernel_rfl) _ (fun W hW => by first | (have e5 := E5v.out; go_simp; exact rfl)) ?_; simp only [Act.put, List.setIfInBounds_toArray, List.set_cons_zero, List.set_cons_succ]
      iterate 1 (refine Ky.wpPar_pure rfl (by rfl) _ (fun W hW => by
          have e5 := E5v.out
          go_simp
          exact rfl) ?_; simp only [Act.put, List.setIfInBounds_toArray, List.set_cons_zero, List.set_cons_succ])
      refine Ky.wpPar_nil (fun W2 hW hG => ?_)
      have K19 := hid (K18.out.trans hW)
      have rI2 := rangeAt_kept RI.out K19.out
      obtain ⟨z20, hz20, hR20⟩ := Blk.any (n := 32) (Blk.new W2 #[.int .u8 0, .int .u8 0, .int .u8 0, .int .u8 0, .int .u8 0, .int .u8 0, .int .u8 0, .int .u8 0, .int .u8 0, .int .u8 0, .int .u8 0, .int .u8 0, .int .u8 0, .int .u8 0, .int .u8 0, .int .u8 0, .int .u8 0, .int .u8 0, .int .u8 0, .int .u8 0, .int .u8 0, .int .u8 0, .int .u8 0, .int .u8 0, .int .u8 0, .int .u8 0, .int .u8 0, .int .u8 0, .int .u8 0, .int .u8 0, .int .u8 0, .int .u8 0] 25) (by rfl)
      have E20 := hid (hz20.trans (show 32 = CI.toArray.size by rw [HX.out.2.2.1]; simp [HX.out.1.1]))
      clear hG hs hW hz20 K18 B18
      go_wp2_with (first | (refine wpList_load_at (.refl _) _ _ rfl rfl rI2 aI ?_) | (refine wpList_store_blk (.refl _) _ _ _ rfl rfl rfl hR20 aI' E20.out HX.out.2.2.2.2.1 ?_; intro w20 b20 k20; have K20 := hid (K19.out.trans k20.fresh); clear k20 hR20; refine Stop.mk ?_) | fail)
      unfold Stop
      obtain ⟨p, hp'⟩ : ∃ p, p = bit / 8 := ⟨_, rfl⟩
      have hp : (bit : Int) / 8 = (p : Int) := by omega
      have hpb : p < 32 := by omega
      rw [HX.out.2.2.1] at b20
      have c20 := b20.cell p
      have f20 := b20.free p
      have X32 := HX.out.1.1
      rw [List.getElem?_toArray, List.getElem?_map, List.getElem?_eq_getElem (show p < x.i.length by rw [X32]; omega), Option.map_some, u8v_at] at c20
      have hwr : ∀ y : Int, Blk (w20.setCell ⟨W2.heap.size, p, none⟩ (.int .u8 (bits .xor .u8 (bAt x.i p) y))) W2.heap.size ((x.i.set p (Go.Pm.byteOf (bits .xor .u8 (bAt x.i p) y))).map u8v).toArray 25 ∧ Kept None wo (w20.setCell ⟨W2.heap.size, p, none⟩ (.int .u8 (bits .xor .u8 (bAt x.i p) y))) ∧ (x.i.set p (Go.Pm.byteOf (bits .xor .u8 (bAt x.i p) y))).length = 32 := fun y => ⟨b20.setByte p _ (byte_xor _ _).1 (byte_xor _ _).2, K20.out.setNew K19.out.size p _, by simpa using X32⟩
      have E9 := hid hwr
      clear hwr hp' X32 b20
      go_wp2_with fail
      refine wp_nm ?_
      intro w14 e14
      have h14 : ∃ nI : List UInt8, nI.length = 32 ∧ Blk w14 W2.heap.size (nI.map u8v).toArray 25 ∧ Kept None wo w14 := by rw [e14]; exact ⟨_, (E9.out _).2.2, (E9.out _).1, (E9.out _).2.1⟩
      obtain ⟨nI, n32, b14, k14⟩ := h14
      have K14 := hid k14
      have B14 := hid b14
      have N32 := hid n32
      clear e14 E9 b14 k14 n32 c20 f20 K20 hp rI2
      go_loopg [12, 13] l.length (fun ky s12 s13 wr => ∃ j : Nat, s12 = .bool (thereB (l.take j) nI) ∧ s13 = .int .i64 j ∧ j ≤ l.length ∧ l.length - j ≤ ky ∧ Hid (Kept None w14 wr))
      case atStart => exact ⟨0, rfl, rfl, Nat.zero_le _, Nat.le_refl _, Kept.refl _ _⟩
      case round =>
        obtain ⟨j, rfl, rfl, hj, hky, HJ⟩ := hrel
        by_cases hjl : j < l.length
        · have hzj : (j : Int) < (l.length : Int) := by omega
          have k0 := K14.out.trans HJ.out
          obtain ⟨b', o', hbo, _, _, _, hcx⟩ := (LO.out.kept k0 (fun _ _ _ h => h)).ne (by omega)
          obtain ⟨rfl, rfl⟩ : b = b' ∧ o = o' := by simpa using hbo
          have hy := hcx j l[j] (List.getElem?_eq_getElem hjl)
          have hy32 := HS.out.2 l[j] (List.getElem_mem hjl)
          have hth := there_take l nI j hjl
          obtain ⟨y, hyy⟩ : ∃ y, y = l[j] := ⟨_, rfl⟩
          rw [← hyy] at hy hy32 hth
          clear hyy hcx hbo
          have rY : wr.rangeAt b (o + j * 64) (y.i.map u8v) := by
            have h := rangeAt_take hy 32
            rwa [show (itC y).take 32 = y.i.map u8v from List.take_left' (by simp [hy32.1])] at h
          have RY := hid rY
          have e6 := Tr.eqHash y.i nI hy32.1 N32.out
          have aY : AggTy Try.prog 25 (y.i.map u8v).length := aH32' hy32.1
          have aN : AggTy Try.prog 25 (nI.map u8v).toArray.size := aH32 N32.out
          have BN := hid (B14.out.kept HJ.out (fun h => h))
          obtain ⟨CY, hCY⟩ : ∃ C, C = y.i.map u8v := ⟨_, rfl⟩
          obtain ⟨CN, hCN⟩ : ∃ C, C = (nI.map u8v).toArray := ⟨_, rfl⟩
          rw [← hCY] at RY e6 aY
          rw [← hCN] at BN e6 aN
          have E6 := hid e6
          obtain ⟨t, ht⟩ : ∃ t, t = thereB (l.take j) nI := ⟨_, rfl⟩
          obtain ⟨q, hq⟩ : ∃ q, q = (y.i == nI) := ⟨_, rfl⟩
          rw [← ht, ← hq] at hth
          rw [← ht]
          rw [← hq] at E6
          have HTH := hid hth
          clear rY e6 hCY hCN ht hq hth hy hy32 k0
          cases t with
          | true =>
            go_wp2_with fail
            have hs : Ky.Steady [] := Ky.Steady.nil
            refine Ky.wp_region_kn wr _ hs (Kept.refl _ _) (by kernel_rfl) (by kernel_rfl) (by kernel_rfl) ?_
            iterate 2 (refine Ky.wpPar_pure rfl (by rfl) _ (fun W hW => by
                have e6 := E6.out
                go_simp
                exact rfl) ?_; simp only [Act.put, List.setIfInBounds_toArray, List.set_cons_zero, List.set_cons_succ])
            refine Ky.wpPar_skip (by kernel_rfl) ?_; simp only [Act.put, List.setIfInBounds_toArray, List.set_cons_zero, List.set_cons_succ]
            refine Ky.wpPar_skip (by kernel_rfl) ?_; simp only [Act.put, List.setIfInBounds_toArray, List.set_cons_zero, List.set_cons_succ]
            refine Ky.wpPar_skip (by kernel_rfl) ?_; simp only [Act.put, List.setIfInBounds_toArray, List.set_cons_zero, List.set_cons_succ]
            refine Ky.wpPar_skip (by kernel_rfl) ?_; simp only [Act.put, List.setIfInBounds_toArray, List.set_cons_zero, List.set_cons_succ]
            refine Ky.wpPar_skip (by kernel_rfl) ?_; simp only [Act.put, List.setIfInBounds_toArray, List.set_cons_zero, List.set_cons_succ]
            refine Ky.wpPar_skip (by kernel_rfl) ?_; simp only [Act.put, List.setIfInBounds_toArray, List.set_cons_zero, List.set_cons_succ]
            refine Ky.wpPar_skip (by kernel_rfl) ?_; simp only [Act.put, List.setIfInBounds_toArray, List.set_cons_zero, List.set_cons_succ]
            iterate 2 (refine Ky.wpPar_pure rfl (by rfl) _ (fun W hW => by
                have e6 := E6.out
                go_simp
                exact rfl) ?_; simp only [Act.put, List.setIfInBounds_toArray, List.set_cons_zero, List.set_cons_succ])
            refine Ky.wpPar_nil (fun W3 hW hG => ?_)
            have HW := hid (HJ.out.trans hW)
            clear hG hs hW HJ
            go_wp2
            go_roundg (l.length - (j + 1))
            case measure => omega
            case rel => exact ⟨j + 1, by rw [HTH.out]; rfl, by go_num, by omega, Nat.le_refl _, HW⟩
          | false =>
            go_wp2_with fail
            have hs : Ky.Steady [] := Ky.Steady.nil
            refine Ky.wp_region_kn wr _ hs (Kept.refl _ _) (by kernel_rfl) (by kernel_rfl) (by kernel_rfl) ?_
            iterate 2 (refine Ky.wpPar_pure rfl (by rfl) _ (fun W hW => by
                have e6 := E6.out
                go_simp
                exact rfl) ?_; simp only [Act.put, List.setIfInBounds_toArray, List.set_cons_zero, List.set_cons_succ])
            refine Ky.wpPar_pure rfl (by kernel_rfl) _ (fun W hW => by first | (have e6 := E6.out; go_simp; exact rfl)) ?_; simp only [Act.put, List.setIfInBounds_toArray, List.set_cons_zero, List.set_cons_succ]
            refine Ky.wpPar_pure rfl (by kernel_rfl) _ (fun W hW => by first | (have e6 := E6.out; go_simp; exact rfl)) ?_; simp only [Act.put, List.setIfInBounds_toArray, List.set_cons_zero, List.set_cons_succ]
            refine Ky.wpPar_pure rfl (by kernel_rfl) _ (fun W hW => by first | (have e6 := E6.out; go_simp; exact rfl)) ?_; simp only [Act.put, List.setIfInBounds_toArray, List.set_cons_zero, List.set_cons_succ]
            refine Ky.wpPar_pure rfl (by kernel_rfl) _ (fun W hW => by first | (have e6 := E6.out; go_simp; exact rfl)) ?_; simp only [Act.put, List.setIfInBounds_toArray, List.set_cons_zero, List.set_cons_succ]
            refine Ky.wpPar_pure rfl (by kernel_rfl) _ (fun W hW => by first | exact exec_load_at rfl rfl (rangeAt_kept RY.out hW) aY | exact exec_load_blk _ _ rfl rfl (BN.out.kept hW (fun h => h)) aN | (have e6 := E6.out; go_simp; exact rfl)) ?_; simp only [Act.put, List.setIfInBounds_toArray, List.set_cons_zero, List.set_cons_succ]
            refine Ky.wpPar_pure rfl (by kernel_rfl) _ (fun W hW => by first | exact exec_load_at rfl rfl (rangeAt_kept RY.out hW) aY | exact exec_load_blk _ _ rfl rfl (BN.out.kept hW (fun h => h)) aN | (have e6 := E6.out; go_simp; exact rfl)) ?_; simp only [Act.put, List.setIfInBounds_toArray, List.set_cons_zero, List.set_cons_succ]
            refine Ky.wpPar_pure rfl (by kernel_rfl) _ (fun W hW => by first | (have e6 := E6.out; go_simp; exact rfl)) ?_; simp only [Act.put, List.setIfInBounds_toArray, List.set_cons_zero, List.set_cons_succ]
            iterate 2 (refine Ky.wpPar_pure rfl (by rfl) _ (fun W hW => by
                have e6 := E6.out
                go_simp
                exact rfl) ?_; simp only [Act.put, List.setIfInBounds_toArray, List.set_cons_zero, List.set_cons_succ])
            refine Ky.wpPar_nil (fun W3 hW hG => ?_)
            have HW := hid (HJ.out.trans hW)
            clear hG hs hW HJ
            go_wp2
            go_roundg (l.length - (j + 1))
            case measure => omega
            case rel => exact ⟨j + 1, by rw [HTH.out]; rfl, by go_num, by omega, Nat.le_refl _, HW⟩
        · have hzj : ¬ (j : Int) < (l.length : Int) := by omega
          obtain rfl : j = l.length := by omega
          rw [List.take_length]
          go_wp2_with fail
          obtain ⟨m', hm'⟩ : ∃ m, m = makeP l nI := ⟨_, rfl⟩
          have fM : ∀ W, Kept None wr W → Calls Try.prog 12 #[.slice (some ⟨b, o, none⟩) l.length c3, .agg (nI.map u8v).toArray] W fun e w' => ∃ A, e = .returned (.agg A) ∧ Kept None W w' ∧ PV m' w' A := fun W hW => by
            rw [hm']; exact make l nI _ _ _ W (LO.out.kept ((K14.out.trans HJ.out).trans hW) (fun _ _ _ h => h)) (by omega) N32.out
          obtain ⟨T, hT⟩ : ∃ T, T = thereB l nI := ⟨_, rfl⟩
          have hsv : (saysV m').length = 32 := by rw [hm']; exact saysV_len (ok_make l HS.out.2 nI)
          have fC : ∀ A W, PV m' W A → Calls Try.prog 17 #[.agg CR.toArray, .agg (nI.map u8v).toArray, .agg A] W fun e w' => e = .returned (.tuple #[.agg ((saysV m').map u8v).toArray, .bool T, .bool true]) ∧ Kept None W w' := fun A W h => by
            have h2 := checkA (rootOf l) nI m' A W HR.out.2.1 N32.out h
            have h3 := check_make l HS.out.2 nI
            rw [← hm'] at h3
            rw [h3.1, h3.2.1, h3.2.2, show saysH m' = T by rw [hm', hT]; exact there_make l nI HS.out.2] at h2
            rw [HR.out.1]
            exact h2
          rw [← hT]
          have BN := hid (B14.out.kept HJ.out (fun h => h))
          have BR2 := hid (BR.out.kept (K14.out.trans HJ.out) (fun h => h))
          have aN : AggTy Try.prog 25 (nI.map u8v).toArray.size := aH32 N32.out
          obtain ⟨CS, hCS⟩ : ∃ C, C = ((saysV m').map u8v).toArray := ⟨_, rfl⟩
          obtain ⟨CN, hCN⟩ : ∃ C, C = (nI.map u8v).toArray := ⟨_, rfl⟩
          rw [← hCN] at fM fC aN BN
          rw [← hCS] at fC
          have aS : AggTy Try.prog 25 CS.size := by rw [hCS]; exact aH32 hsv
          have sS : 32 = CS.size := by rw [hCS]; simp [hsv]
          have allS : CS.all (·.oneCell') = true := by rw [hCS]; exact u8v_all' _
          have HSS := hid (And.intro sS allS)
          have FM2 := hid fM
          have FC2 := hid fC
          clear fM fC hCN hCS sS allS hsv hT hm'
          have hs : Ky.Steady [Ky.lift (.pv 4 (m')), Ky.lift (.val 5 (.tuple #[.agg CS, .bool T, .bool true]) [4]), Ky.lift (.room 10 wr.heap.size 32 25), Ky.storedS 11 wr.heap.size 14 CS 25 10 [4]] := Ky.Steady.append (l := [Ky.lift (.pv 4 (m')), Ky.lift (.val 5 (.tuple #[.agg CS, .bool T, .bool true]) [4]), Ky.lift (.room 10 wr.heap.size 32 25)]) (Ky.Steady.lift (l := [.pv 4 (m'), .val 5 (.tuple #[.agg CS, .bool T, .bool true]) [4], .room 10 wr.heap.size 32 25]) (Go.Pm.Steady.pv (Go.Pm.Steady.val (Go.Pm.Steady.room (Go.Pm.Steady.nil))))) (Ky.steady_storedS _ _ _ _ _ _ _)
          refine Ky.wp_region_kn wr _ hs (Kept.refl _ _) (by kernel_rfl) (by kernel_rfl) (by kernel_rfl) ?_
          refine Ky.wpPar_pure rfl (by rfl) _ (fun W hW => by first | exact exec_load_blk _ _ rfl rfl (BR2.out.kept hW (fun h => h)) aR | exact exec_load_blk _ _ rfl rfl (BN.out.kept hW (fun h => h)) aN) ?_; simp only [Act.put, List.setIfInBounds_toArray, List.set_cons_zero, List.set_cons_succ]
          refine Ky.wpPar_pure rfl (by rfl) _ (fun W hW => by first | exact exec_load_blk _ _ rfl rfl (BR2.out.kept hW (fun h => h)) aR | exact exec_load_blk _ _ rfl rfl (BN.out.kept hW (fun h => h)) aN) ?_; simp only [Act.put, List.setIfInBounds_toArray, List.set_cons_zero, List.set_cons_succ]
          iterate 1 (refine Ky.wpPar_pure rfl (by rfl) _ (fun W hW => by
              go_simp
              exact rfl) ?_; simp only [Act.put, List.setIfInBounds_toArray, List.set_cons_zero, List.set_cons_succ])
          refine Ky.wpPar_pure rfl (by rfl) _ (fun W hW => by first | exact exec_load_blk _ _ rfl rfl (BR2.out.kept hW (fun h => h)) aR | exact exec_load_blk _ _ rfl rfl (BN.out.kept hW (fun h => h)) aN) ?_; simp only [Act.put, List.setIfInBounds_toArray, List.set_cons_zero, List.set_cons_succ]
          refine Ky.wpKn_adds hs rfl (by rfl) (fun W hW hd => ?_) (fun v4 hv => ?_)
          · unfold Gives
            go_simp
            refine gives_call (FM2.out W hW) ?_
            rintro e w3 ⟨A3, rfl, k3, p3⟩
            exact ⟨_, rfl, k3, ⟨_, rfl⟩, _, rfl, p3⟩
          obtain ⟨A4, rfl⟩ : ∃ A, v4 = .agg A := hv
          simp only [Act.put, List.setIfInBounds_toArray, List.set_cons_zero, List.set_cons_succ]
          refine Ky.wpKn_adds hs rfl (by rfl) (fun W hW hd => ?_) (fun v5 hv => ?_)
          · unfold Gives
            obtain ⟨A', eA', p4⟩ : ∃ A, Value.agg A4 = .agg A ∧ PV (m') W A := hd 4 (List.Mem.head _)
            obtain rfl : A4 = A' := by simpa using eA'
            go_simp
            refine gives_call (FC2.out _ W p4) ?_
            rintro e w3 ⟨rfl, k3⟩
            exact ⟨_, rfl, k3, rfl, trivial⟩
          obtain rfl : v5 = .tuple #[.agg CS, .bool T, .bool true] := hv
          simp only [Act.put, List.setIfInBounds_toArray, List.set_cons_zero, List.set_cons_succ]
          iterate 4 (refine Ky.wpPar_pure rfl (by rfl) _ (fun W hW => by
              go_simp
              exact rfl) ?_; simp only [Act.put, List.setIfInBounds_toArray, List.set_cons_zero, List.set_cons_succ])
          refine Ky.wpKn_adds hs rfl (by rfl) (fun W hW hd => ?_) (fun v10 hv => ?_)
          · unfold Gives
            go_simp
            exact ⟨(Kept.refl None W).alloc _, ⟨_, rfl⟩, _, _, rfl, hW.size, by rfl, Blk.new W _ _⟩
          obtain ⟨g10, rfl⟩ : ∃ g, v10 = .pointer (some ⟨g, 0, none⟩) := hv
          simp only [Act.put, List.setIfInBounds_toArray, List.set_cons_zero, List.set_cons_succ]
          refine Ky.wpPar_adds rfl (by rfl) (fun W hW hd => ?_) (fun v11 hv => ?_)
          · obtain ⟨g, z3, hg3, hg2, hz3, hR3⟩ : ∃ (g : Nat) (z : Array Value), Value.pointer (some ⟨g10, 0, none⟩) = .pointer (some ⟨g, 0, none⟩) ∧ wr.heap.size ≤ g ∧ z.size = 32 ∧ Blk W g z 25 := hd 10 (List.Mem.head _)
            obtain rfl : g10 = g := by simpa using hg3
            refine gives_store7 _ _ _ rfl rfl rfl hR3 aS (hz3.trans (HSS.out.1)) HSS.out.2 (fun W' hb hk => ⟨hW.then hk (fun i hi h => by have h : i = g10 := h; omega), trivial, ⟨g10, rfl, hg2, hb⟩, Ky.keeps_of fun f hf hs _ hne u hfu => ?_⟩)
            simp only [List.mem_cons, List.not_mem_nil, or_false] at hf
            rcases hf with rfl | rfl | rfl | rfl
            · exact absurd (List.Mem.tail _ (List.Mem.head _)) hs
            · exact hfu
            · exact absurd (List.Mem.head _) hs
            · exact absurd rfl hne
          simp only [Act.put]
          iterate 2 (refine Ky.wpPar_pure rfl (by rfl) _ (fun W hW => by
              go_simp
              exact rfl) ?_; simp only [Act.put, List.setIfInBounds_toArray, List.set_cons_zero, List.set_cons_succ])
          refine Ky.wpPar_nil (fun W hW hG => ?_)
          obtain ⟨g, hg3, hg2_10, hB_10⟩ : ∃ g, Value.pointer (some ⟨g10, 0, none⟩) = .pointer (some ⟨g, 0, none⟩) ∧ wr.heap.size ≤ g ∧ Blk W g CS 25 := hG 11
          obtain rfl : g10 = g := by simpa using hg3
          clear hg3
          have HW := hid ((K14.out.trans HJ.out).trans hW)
          clear hG hs hW HJ FM2 FC2 hB_10 hg2_10 BN BR2
          cases T with
          | true =>
            go_wp2_with (first | go_skip | fail)
            go_roundg (l.length - (k + 1))
            case measure => omega
            case rel => exact ⟨k + 1, _, _, _, _, _, _, _, _, _, by go_num, rfl, rfl, rfl, rfl, rfl, rfl, rfl, rfl, rfl, by omega, Nat.le_refl _, HK.out.trans HW.out⟩
          | false =>
            go_wp2_with (first | go_skip | fail)
            go_roundg (l.length - (k + 1))
            case measure => omega
            case rel => exact ⟨k + 1, _, _, _, _, _, _, _, _, _, by go_num, rfl, rfl, rfl, rfl, rfl, rfl, rfl, rfl, rfl, by omega, Nat.le_refl _, HK.out.trans HW.out⟩
    · have hzk : ¬ (k : Int) < (l.length : Int) := by omega
      go_wp2
      go_ret
      exact ⟨rfl, K5.out.trans HK.out⟩
end Pr
end Go.Proofs.Ytdalfcbakjgcmaa
