/- postmarklaw7.known: true. -/
import Derived.Test.YtidegffdhpdhjaaPV7
import Derived.Test.YtidegffdhpdhjaaKey7
import Derived.Test.YtidegffdhpdhjaaHk8
namespace Go.Pm
open Go Go.RowKit
end Go.Pm
namespace Go.Proofs.Ytidegffdhpdhjaa
open Go.RowKit Go.Pm
namespace Pr
def nameA : ByteArray := { data := #[97] }
def x0 : It := ⟨indexH nameA, valueH 1 2⟩
theorem x0_ok : x0.i.length = 32 ∧ x0.v.length = 32 := ⟨indexH_len _, valueH_len _ _⟩
theorem rootOf_one (x : It) : rootOf [x] = leafH x := by
  unfold rootOf
  rw [show setI [x] = [x] from rfl]
  exact RTr.rootI_one 256 0 x
theorem here_none (i : List UInt8) : saysV (makeP [] i) = zero32 ∧ saysH (makeP [] i) = false ∧ (makeP [] i).e = 1 := ⟨rfl, rfl, rfl⟩
theorem path_one (x : It) (i : List UInt8) : (makeP [x] i).path = [] := by
  unfold makeP
  rw [endI_path, show setI [x] = [x] from rfl, downI_few _ _ _ (by simp)]

set_option maxRecDepth 100000 in
set_option maxHeartbeats 1000000 in
theorem known (w : World) : Calls Try.prog 25 #[] w fun e w' => e = .returned (.bool true) ∧ Kept None w w' := by
  obtain ⟨x, hx⟩ : ∃ x, x = x0 := ⟨_, rfl⟩
  have hxl : x.i.length = 32 ∧ x.v.length = 32 := by rw [hx]; exact x0_ok
  obtain ⟨m0, hm0⟩ : ∃ m, m = makeP [x] x.i := ⟨_, rfl⟩
  obtain ⟨m1, hm1⟩ : ∃ m, m = makeP [] x.i := ⟨_, rfl⟩
  have hok0 : m0.Ok := by rw [hm0]; exact ok_make [x] (len_one hxl) x.i
  have hok1 : m1.Ok := by rw [hm1]; exact ok_make [] len_nil x.i
  have hrt : rightP x.i m0 = true := by rw [hm0]; exact right_make [x] (len_one hxl) x.i
  have hp0 : m0.path.length ≤ 256 := rightP_len hrt
  have he1 : m1.e = 1 := by rw [hm1]; rfl
  have hit := item_make (l := [x]) (len_one hxl) (by simp [Srt]) (List.mem_singleton.2 rfl : x ∈ [x])
  have hrd : readEP (putP m0) = 0 ∧ readQP (putP m0) = m0 := read_put' hok0 hp0 (by rw [hm0, hit.1]; decide)
  have fI : ∀ W, Calls Try.prog 56 #[.agg #[.string { data := #[97] }, .int .i64 1, .int .u64 2]] W fun e w' => e = .returned (.agg (itC x).toArray) ∧ Kept None W w' := fun W => by
    have h := RTr.item nameA 1 2 W (by decide) (by decide)
    rw [show itemV ⟨indexH nameA, valueH 1 2⟩ = .agg (itC x).toArray by rw [hx]; simp [itemV, itC, x0]] at h
    exact h
  have fL : ∀ W, Calls Try.prog 59 #[.agg (itC x).toArray] W fun e w' => e = .returned (hashV (leafH x)) ∧ Kept None W w' := fun W => by
    have h := RTr.leaf x W hxl
    rwa [show itemV x = .agg (itC x).toArray by simp [itemV, itC]] at h
  have fE : ∀ W, Calls Try.prog 60 #[] W fun e w' => e = .returned (hashV emptyH) ∧ Kept None W w' := fun W => RTr.empty W
  have fM : ∀ v lo hi W, Its W lo hi v [x] → Calls Try.prog 57 #[v, hashV x.i] W fun e w' => ∃ A, e = .returned (.agg A) ∧ Kept None W w' ∧ PV m0 w' A := fun v lo hi W h => by
    rw [hm0]; exact make [x] x.i v lo hi W h (by simp) hxl.1
  have fN : ∀ W, Calls Try.prog 57 #[.slice none 0 0, hashV x.i] W fun e w' => ∃ A, e = .returned (.agg A) ∧ Kept None W w' ∧ PV m1 w' A := fun W => by
    rw [hm1]; exact make [] x.i (.slice none 0 0) 0 0 W (Its.nil _ _ _) (by simp) hxl.1
  have fC : ∀ A W, PV m0 W A → Calls Try.prog 58 #[hashV (leafH x), hashV x.i, .agg A] W fun e w' => e = .returned (.tuple #[hashV x.v, .bool true, .bool true]) ∧ Kept None W w' := fun A W h => by
    have h2 := checkA (leafH x) x.i m0 A W (sumB_len _) hxl.1 h
    have h3 := check_make [x] (len_one hxl) x.i
    rw [rootOf_one, ← hm0] at h3
    rw [h3.1, h3.2.1, h3.2.2] at h2
    have e1 : saysV m0 = x.v := by unfold saysV; rw [hm0, if_pos hit.1, hit.2]
    have e2 : saysH m0 = true := by unfold saysH; rw [hm0, hit.1]; rfl
    rwa [e1, e2] at h2
  have fD : ∀ A W, PV m1 W A → Calls Try.prog 58 #[hashV emptyH, hashV x.i, .agg A] W fun e w' => e = .returned (.tuple #[hashV zero32, .bool false, .bool true]) ∧ Kept None W w' := fun A W h => by
    have h2 := checkA emptyH x.i m1 A W (sumB_len _) hxl.1 h
    have h3 := check_make [] len_nil x.i
    rw [show rootOf [] = emptyH from rfl, ← hm1] at h3
    rw [h3.1, h3.2.1, h3.2.2] at h2
    have e1 : saysV m1 = zero32 := by rw [hm1]; rfl
    have e2 : saysH m1 = false := by rw [hm1]; rfl
    rwa [e1, e2] at h2
  have fP : ∀ A W, PV m0 W A → Calls Try.prog 33 #[.agg A] W fun e w' => ∃ v, e = .returned v ∧ Kept None W w' ∧ Rb W.heap.size w' v (putP m0) := fun A W h => putA m0 A W h (by omega)
  have hpl : (putP m0).length ≤ 1099511627776 := by rw [putP_len hok0]; omega
  have fR : ∀ v lo hi W, Bs W lo hi v (putP m0) → Calls Try.prog 36 #[v] W fun e w' => ∃ A, e = .returned (.tuple #[.agg A, .int .i64 0]) ∧ Kept None W w' ∧ PV m0 w' A := fun v lo hi W h => by
    have h2 := readA v lo hi (putP m0) W h hpl
    rwa [hrd.1, hrd.2] at h2
  have fS : ∀ A B W, PV m0 W A → PV m0 W B → Calls Try.prog 38 #[.agg A, .agg B] W fun e w' => e = .returned (.bool true) ∧ Kept None W w' := fun A B W h1 h2 => by
    have h := sameA m0 m0 A B W h1 h2
    rwa [decide_eq_true rfl] at h
  have fT : ∀ A W, PV m0 W A → Calls Try.prog 61 #[hashV x.i, .agg A] W fun e w' => e = .returned (.bool true) ∧ Kept None W w' := fun A W h => by
    have h2 := rightA x.i m0 A W hxl.1 h
    rwa [hrt] at h2
  have e5 := Tr.eqHash x.v x.v hxl.2 hxl.2
  rw [beq_self_eq_true] at e5
  obtain ⟨CL, hCL⟩ : ∃ CL, CL = (leafH x).map u8v := ⟨_, rfl⟩
  obtain ⟨CE, hCE⟩ : ∃ CE, CE = emptyH.map u8v := ⟨_, rfl⟩
  obtain ⟨CI, hCI⟩ : ∃ CI, CI = x.i.map u8v := ⟨_, rfl⟩
  obtain ⟨CV, hCV⟩ : ∃ CV, CV = x.v.map u8v := ⟨_, rfl⟩
  obtain ⟨CZ, hCZ⟩ : ∃ CZ, CZ = zero32.map u8v := ⟨_, rfl⟩
  obtain ⟨CX, hCX⟩ : ∃ CX, CX = itC x := ⟨_, rfl⟩
  have h64 : CX.length = 64 := by rw [hCX]; exact itC_len hxl
  have hCXX : CX = CI ++ CV := by rw [hCX, hCI, hCV]; rfl
  have lI : CI.length = 32 := by rw [hCI, List.length_map]; exact hxl.1
  have lV : CV.length = 32 := by rw [hCV, List.length_map]; exact hxl.2
  have lZ : CZ.length = 32 := by rw [hCZ]; rfl
  have A1 : CX.toArray.all (·.oneCell') = true := all_oneCell_toArray (fun c hc => itsC_one [x] c (by simpa [itsC, ← hCX] using hc))
  have AV : CV.toArray.all (·.oneCell') = true := by rw [hCV]; exact u8v_all' _
  have AZ : CZ.toArray.all (·.oneCell') = true := by rw [hCZ]; exact u8v_all' _
  simp only [hashV, ← hCL, ← hCE, ← hCI, ← hCV, ← hCZ, ← hCX] at fI fL fE fM fN fC fD fT e5
  have aX : AggTy Try.prog 61 CX.length := by rw [h64]; exact RTr.aI64
  have aX' : AggTy Try.prog 61 CX.toArray.size := by simpa using aX
  have aI : AggTy Try.prog 23 CI.length := by rw [lI]; exact Sp.aH
  have aV : AggTy Try.prog 23 CV.length := by rw [lV]; exact Sp.aH
  have aV' : AggTy Try.prog 23 CV.toArray.size := by simpa using aV
  have aZ' : AggTy Try.prog 23 CZ.toArray.size := by rw [show CZ.toArray.size = 32 by simpa using lZ]; exact Sp.aH
  have FI := hid fI
  have FL := hid fL
  have FE := hid fE
  have FM := hid fM
  have FN := hid fN
  have FC := hid fC
  have FD := hid fD
  have FP := hid fP
  have FR := hid fR
  have FS := hid fS
  have FT := hid fT
  have E5 := hid e5
  have HL := hid (And.intro h64 (And.intro lI (And.intro lV lZ)))
  have HXX := hid hCXX
  have HA := hid (And.intro A1 (And.intro AV AZ))
  have HOK := hid (And.intro hok0 hok1)
  have HE1 := hid he1
  have HX := hid (And.intro hxl hCX)
  clear fI fL fE fM fN fC fD fP fR fS fT e5 h64 lI lV lZ hCXX hCL hCE hCI hCV hCZ hCX hx hm0 hm1 hok0 hok1 hrt hp0 he1 hit hrd hpl A1 AV AZ hxl
  go_enter Try.func25, Try.ntmps25
  go_wp2_with fail
  refine (FI.out _).mono ?_
  rintro e w1 ⟨rfl, k1⟩
  obtain ⟨z, hz, hR⟩ := Blk.any (n := 64) (Blk.new w1 #[.int .u8 0, .int .u8 0, .int .u8 0, .int .u8 0, .int .u8 0, .int .u8 0, .int .u8 0, .int .u8 0, .int .u8 0, .int .u8 0, .int .u8 0, .int .u8 0, .int .u8 0, .int .u8 0, .int .u8 0, .int .u8 0, .int .u8 0, .int .u8 0, .int .u8 0, .int .u8 0, .int .u8 0, .int .u8 0, .int .u8 0, .int .u8 0, .int .u8 0, .int .u8 0, .int .u8 0, .int .u8 0, .int .u8 0, .int .u8 0, .int .u8 0, .int .u8 0, .int .u8 0, .int .u8 0, .int .u8 0, .int .u8 0, .int .u8 0, .int .u8 0, .int .u8 0, .int .u8 0, .int .u8 0, .int .u8 0, .int .u8 0, .int .u8 0, .int .u8 0, .int .u8 0, .int .u8 0, .int .u8 0, .int .u8 0, .int .u8 0, .int .u8 0, .int .u8 0, .int .u8 0, .int .u8 0, .int .u8 0, .int .u8 0, .int .u8 0, .int .u8 0, .int .u8 0, .int .u8 0, .int .u8 0, .int .u8 0, .int .u8 0, .int .u8 0] 61) (by rfl)
  have E := hid (hz.trans (show 64 = CX.toArray.size by simpa using HL.out.1.symm))
  clear hz
  go_wp2_with (first | (refine wpList_store_blk (.refl _) _ _ _ rfl rfl rfl hR aX' E.out HA.out.1 ?_; intro w5 hB5 k5; have k15 := k5.fresh; have rX : w5.rangeAt w1.heap.size 0 CX := (fun j c hj => (by rw [Nat.zero_add, hB5.cell]; simpa using hj)); have rI : w5.rangeAt w1.heap.size 0 CI := (fun j c hj => (by
      have hi := (List.getElem?_eq_some_iff.1 hj).1
      refine rX j c ?_
      rw [HXX.out, List.getElem?_append_left hi]; exact hj))) | (refine wpList_load_at rfl _ _ rfl rfl rX aX ?_) | (refine wpList_one_item rfl _ _ rfl RTr.rtItems (by decide) rfl (by simpa using HL.out.1) ?_; have ka : Kept None w5 (w5.alloc (.cells CX.toArray 61)) := (Kept.refl _ _).alloc _; have rI2 := rangeAt_kept rI ka) | (refine wpList_load_at rfl _ _ rfl rfl rI2 aI ?_) | fail)
  have hone : Its (w5.alloc (.cells CX.toArray 61)) w5.heap.size (w5.heap.size + 1) (.slice (some ⟨w5.heap.size, 0, none⟩) 1 1) [x] := by
    rw [HX.out.2]
    exact Its.one w5 61 x HX.out.1
  refine (FM.out _ _ _ _ hone).mono ?_
  rintro e w6 ⟨A0, rfl, k6, p6⟩
  have k56 := ka.trans k6
  have rX6 := rangeAt_kept rX k56
  have rI6 := rangeAt_kept rI k56
  have k16 := (k1.trans k15).trans k56
  have HP6 := hid p6
  have aA0 := PV.agg p6
  obtain ⟨z7, hz7, hR7⟩ := Blk.any (n := 66) (Blk.new w6 Try.zeroCells63 63) (by rfl)
  have E7 := hid (hz7.trans p6.size.symm)
  have AA0 := hid p6.all
  clear k1 k5 k15 ka k6 k56 rX rI rI2 hB5 hone hR hz7 p6 E
  go_wp2_with (first | (refine wpList_store_blk (.refl _) _ _ _ rfl rfl rfl hR7 aA0 E7.out AA0.out ?_; intro w7 hB7 k7; have k67 := k7.fresh) | fail)
  have RX7 := hid (rangeAt_kept rX6 k67)
  have RI7 := hid (rangeAt_kept rI6 k67)
  have K17 := hid (k16.trans k67)
  have BB7 := hid hB7
  have P7 := hid (HP6.out.kept k67)
  clear k7 k67 k16 rX6 rI6 hR7 hB7 HP6
  have hs : Ky.Steady [Ky.lift (.val 1 (.agg CL.toArray)), Ky.lift (.val 5 (.tuple #[.agg CV.toArray, .bool true, .bool true])), Ky.lift (.room 10 w7.heap.size 32 23), Ky.stored 11 w7.heap.size 3 CV.toArray 23 10] := Ky.Steady.append (l := [Ky.lift (.val 1 (.agg CL.toArray)), Ky.lift (.val 5 (.tuple #[.agg CV.toArray, .bool true, .bool true])), Ky.lift (.room 10 w7.heap.size 32 23)]) (Ky.Steady.lift (l := [.val 1 (.agg CL.toArray), .val 5 (.tuple #[.agg CV.toArray, .bool true, .bool true]), .room 10 w7.heap.size 32 23]) (Go.Pm.Steady.val (Go.Pm.Steady.val (Go.Pm.Steady.room (Go.Pm.Steady.nil))))) (Ky.steady_stored _ _ _ _ _ _)
  refine Ky.wp_region_kn w7 _ hs (Kept.refl _ _) (by kernel_rfl) (by kernel_rfl) (by kernel_rfl) ?_
  refine Ky.wpPar_pure rfl (by rfl) _ (fun W hW => exec_load_at rfl rfl (rangeAt_kept RX7.out hW) aX) ?_; simp only [Act.put, List.setIfInBounds_toArray, List.set_cons_zero, List.set_cons_succ]
  refine Ky.wpKn_adds hs rfl (by rfl) (fun W hW hd => ?_) (fun v1 hv => ?_)
  · unfold Gives
    go_simp
    refine gives_call (FL.out W) ?_
    rintro e w3 ⟨rfl, k3⟩
    exact ⟨_, rfl, k3, rfl, trivial⟩
  obtain rfl : v1 = .agg CL.toArray := hv
  simp only [Act.put, List.setIfInBounds_toArray, List.set_cons_zero, List.set_cons_succ]
  iterate 1 (refine Ky.wpPar_pure rfl (by rfl) _ (fun W hW => by
      go_simp
      exact rfl) ?_; simp only [Act.put, List.setIfInBounds_toArray, List.set_cons_zero, List.set_cons_succ])
  refine Ky.wpPar_pure rfl (by rfl) _ (fun W hW => exec_load_at rfl rfl (rangeAt_kept RI7.out hW) aI) ?_; simp only [Act.put, List.setIfInBounds_toArray, List.set_cons_zero, List.set_cons_succ]
  refine Ky.wpPar_pure rfl (by rfl) _ (fun W hW => exec_load_blk _ _ rfl rfl (BB7.out.kept hW (fun h => h)) aA0) ?_; simp only [Act.put, List.setIfInBounds_toArray, List.set_cons_zero, List.set_cons_succ]
  refine Ky.wpKn_adds hs rfl (by rfl) (fun W hW hd => ?_) (fun v5 hv => ?_)
  · unfold Gives
    go_simp
    refine gives_call (FC.out _ W (P7.out.kept hW)) ?_
    rintro e w3 ⟨rfl, k3⟩
    exact ⟨_, rfl, k3, rfl, trivial⟩
  obtain rfl : v5 = .tuple #[.agg CV.toArray, .bool true, .bool true] := hv
  simp only [Act.put, List.setIfInBounds_toArray, List.set_cons_zero, List.set_cons_succ]
  iterate 4 (refine Ky.wpPar_pure rfl (by rfl) _ (fun W hW => by
      go_simp
      exact rfl) ?_; simp only [Act.put, List.setIfInBounds_toArray, List.set_cons_zero, List.set_cons_succ])
  refine Ky.wpKn_adds hs rfl (by rfl) (fun W hW hd => ?_) (fun v10 hv => ?_)
  · unfold Gives
    go_simp
    exact ⟨(Kept.refl None W).alloc _, ⟨_, rfl⟩, _, _, rfl, hW.size, by rfl, Blk.new W _ _⟩
  obtain ⟨g3, rfl⟩ : ∃ g, v10 = .pointer (some ⟨g, 0, none⟩) := hv
  simp only [Act.put, List.setIfInBounds_toArray, List.set_cons_zero, List.set_cons_succ]
  refine Ky.wpPar_adds rfl (by rfl) (fun W hW hd => ?_) (fun v11 hv => ?_)
  · obtain ⟨g, z3, hg3, hg2, hz3, hR3⟩ : ∃ (g : Nat) (z : Array Value), Value.pointer (some ⟨g3, 0, none⟩) = .pointer (some ⟨g, 0, none⟩) ∧ w7.heap.size ≤ g ∧ z.size = 32 ∧ Blk W g z 23 := hd 10 (List.Mem.head _)
    obtain rfl : g3 = g := by simpa using hg3
    refine gives_store7 _ _ _ rfl rfl rfl hR3 aV' (hz3.trans (by simpa using HL.out.2.2.1.symm)) HA.out.2.1 (fun W' hb hk => ⟨hW.then hk (fun i hi h => by have h : i = g3 := h; omega), trivial, ⟨g3, rfl, hg2, hb⟩, Ky.keeps_of fun f hf hs _ hne u hfu => ?_⟩)
    simp only [List.mem_cons, List.not_mem_nil, or_false] at hf
    rcases hf with rfl | rfl | rfl | rfl
    · exact hfu
    · exact hfu
    · exact absurd (List.Mem.head _) hs
    · exact absurd rfl hne
  simp only [Act.put]
  iterate 2 (refine Ky.wpPar_pure rfl (by rfl) _ (fun W hW => by
      go_simp
      exact rfl) ?_; simp only [Act.put, List.setIfInBounds_toArray, List.set_cons_zero, List.set_cons_succ])
  refine Ky.wpPar_nil (fun W hW hG => ?_)
  obtain ⟨g, hg3, hg2, hB3⟩ : ∃ g, Value.pointer (some ⟨g3, 0, none⟩) = .pointer (some ⟨g, 0, none⟩) ∧ w7.heap.size ≤ g ∧ Blk W g CV.toArray 23 := hG 11
  obtain rfl : g3 = g := by simpa using hg3
  have BB8 := hid hB3
  have rI8 := rangeAt_kept RI7.out hW
  have K78 := hid hW
  clear hG hs hg3 hB3 hW
  obtain ⟨g7, hg7⟩ : ∃ g, g = g3 := ⟨_, rfl⟩
  rw [← hg7] at BB8 hg2 ⊢
  clear hg7
  go_wp2_with (first | (refine wpList_load_at rfl _ _ rfl rfl rI8 aI ?_) | fail)
  refine (FN.out W).mono ?_
  rintro e w9 ⟨A1, rfl, k9, p9⟩
  have HP9 := hid p9
  have aA1 := PV.agg p9
  obtain ⟨z10, hz10, hR10⟩ := Blk.any (n := 66) (Blk.new w9 Try.zeroCells63 63) (by rfl)
  have E10 := hid (hz10.trans p9.size.symm)
  have AA1 := hid p9.all
  clear hz10 p9
  go_wp2_with (first | (refine wpList_store_blk (.refl _) _ _ _ rfl rfl rfl hR10 aA1 E10.out AA1.out ?_; intro w10 hB10 k10; have k910 := k10.fresh) | fail)
  have k810 := k9.trans k910
  have K710 := hid (K78.out.trans k810)
  have RI10 := hid (rangeAt_kept RI7.out K710.out)
  have BB10 := hid hB10
  have P10 := hid (HP9.out.kept k910)
  have K810 := hid k810
  clear k10 k910 hR10 hB10 HP9 k9 k810 rI8
  have hs : Ky.Steady [Ky.lift (.val 0 (.agg CE.toArray)), Ky.lift (.val 4 (.tuple #[.agg CZ.toArray, .bool false, .bool true])), Ky.lift (.room 9 w10.heap.size 32 23), Ky.stored 10 w10.heap.size 7 CZ.toArray 23 9] := Ky.Steady.append (l := [Ky.lift (.val 0 (.agg CE.toArray)), Ky.lift (.val 4 (.tuple #[.agg CZ.toArray, .bool false, .bool true])), Ky.lift (.room 9 w10.heap.size 32 23)]) (Ky.Steady.lift (l := [.val 0 (.agg CE.toArray), .val 4 (.tuple #[.agg CZ.toArray, .bool false, .bool true]), .room 9 w10.heap.size 32 23]) (Go.Pm.Steady.val (Go.Pm.Steady.val (Go.Pm.Steady.room (Go.Pm.Steady.nil))))) (Ky.steady_stored _ _ _ _ _ _)
  refine Ky.wp_region_kn w10 _ hs (Kept.refl _ _) (by kernel_rfl) (by kernel_rfl) (by kernel_rfl) ?_
  refine Ky.wpKn_adds hs rfl (by rfl) (fun W hW hd => ?_) (fun v0 hv => ?_)
  · unfold Gives
    go_simp
    refine gives_call (FE.out W) ?_
    rintro e w3 ⟨rfl, k3⟩
    exact ⟨_, rfl, k3, rfl, trivial⟩
  obtain rfl : v0 = .agg CE.toArray := hv
  simp only [Act.put, List.setIfInBounds_toArray, List.set_cons_zero, List.set_cons_succ]
  iterate 1 (refine Ky.wpPar_pure rfl (by rfl) _ (fun W hW => by
      go_simp
      exact rfl) ?_; simp only [Act.put, List.setIfInBounds_toArray, List.set_cons_zero, List.set_cons_succ])
  refine Ky.wpPar_pure rfl (by rfl) _ (fun W hW => exec_load_at rfl rfl (rangeAt_kept RI10.out hW) aI) ?_; simp only [Act.put, List.setIfInBounds_toArray, List.set_cons_zero, List.set_cons_succ]
  refine Ky.wpPar_pure rfl (by rfl) _ (fun W hW => exec_load_blk _ _ rfl rfl (BB10.out.kept hW (fun h => h)) aA1) ?_; simp only [Act.put, List.setIfInBounds_toArray, List.set_cons_zero, List.set_cons_succ]
  refine Ky.wpKn_adds hs rfl (by rfl) (fun W hW hd => ?_) (fun v4 hv => ?_)
  · unfold Gives
    go_simp
    refine gives_call (FD.out _ W (P10.out.kept hW)) ?_
    rintro e w3 ⟨rfl, k3⟩
    exact ⟨_, rfl, k3, rfl, trivial⟩
  obtain rfl : v4 = .tuple #[.agg CZ.toArray, .bool false, .bool true] := hv
  simp only [Act.put, List.setIfInBounds_toArray, List.set_cons_zero, List.set_cons_succ]
  iterate 4 (refine Ky.wpPar_pure rfl (by rfl) _ (fun W hW => by
      go_simp
      exact rfl) ?_; simp only [Act.put, List.setIfInBounds_toArray, List.set_cons_zero, List.set_cons_succ])
  refine Ky.wpKn_adds hs rfl (by rfl) (fun W hW hd => ?_) (fun v9 hv => ?_)
  · unfold Gives
    go_simp
    exact ⟨(Kept.refl None W).alloc _, ⟨_, rfl⟩, _, _, rfl, hW.size, by rfl, Blk.new W _ _⟩
  obtain ⟨g3, rfl⟩ : ∃ g, v9 = .pointer (some ⟨g, 0, none⟩) := hv
  simp only [Act.put, List.setIfInBounds_toArray, List.set_cons_zero, List.set_cons_succ]
  refine Ky.wpPar_adds rfl (by rfl) (fun W hW hd => ?_) (fun v10 hv => ?_)
  · obtain ⟨g, z3, hg3, hg2, hz3, hR3⟩ : ∃ (g : Nat) (z : Array Value), Value.pointer (some ⟨g3, 0, none⟩) = .pointer (some ⟨g, 0, none⟩) ∧ w10.heap.size ≤ g ∧ z.size = 32 ∧ Blk W g z 23 := hd 9 (List.Mem.head _)
    obtain rfl : g3 = g := by simpa using hg3
    refine gives_store7 _ _ _ rfl rfl rfl hR3 aZ' (hz3.trans (by simpa using HL.out.2.2.2.symm)) HA.out.2.2 (fun W' hb hk => ⟨hW.then hk (fun i hi h => by have h : i = g3 := h; omega), trivial, ⟨g3, rfl, hg2, hb⟩, Ky.keeps_of fun f hf hs _ hne u hfu => ?_⟩)
    simp only [List.mem_cons, List.not_mem_nil, or_false] at hf
    rcases hf with rfl | rfl | rfl | rfl
    · exact hfu
    · exact hfu
    · exact absurd (List.Mem.head _) hs
    · exact absurd rfl hne
  simp only [Act.put]
  iterate 2 (refine Ky.wpPar_pure rfl (by rfl) _ (fun W hW => by
      go_simp
      exact rfl) ?_; simp only [Act.put, List.setIfInBounds_toArray, List.set_cons_zero, List.set_cons_succ])
  refine Ky.wpPar_nil (fun W hW hG => ?_)
  obtain ⟨g, hg3, hg2, hB3⟩ : ∃ g, Value.pointer (some ⟨g3, 0, none⟩) = .pointer (some ⟨g, 0, none⟩) ∧ w10.heap.size ≤ g ∧ Blk W g CZ.toArray 23 := hG 10
  obtain rfl : g3 = g := by simpa using hg3
  have k7W := K710.out.trans hW
  have hA0 := BB7.out.kept k7W (fun h => h)
  have P0 := P7.out.kept k7W
  have K7W := hid k7W
  have K8W := hid (K810.out.trans hW)
  have K10W := hid hW
  clear hG hs hg3 hB3 hg2 hW k7W
  go_wp2_with (first | (refine wpList_load_blk rfl _ _ rfl rfl hA0 aA0 ?_) | fail)
  refine (FP.out _ W P0).mono ?_
  rintro e w11 ⟨v, rfl, k11, b11⟩
  obtain ⟨hi11, hb11⟩ := b11
  obtain ⟨av, cv, rfl, _⟩ := hb11.shape
  clear hA0 P0
  go_wp2_with fail
  refine (FR.out _ _ _ w11 hb11).mono ?_
  rintro e w12 ⟨A2, rfl, k12, p12⟩
  have HP12 := hid p12
  have aA2 := PV.agg p12
  obtain ⟨z13, hz13, hR13⟩ := Blk.any (n := 66) (Blk.new w12 Try.zeroCells63 63) (by rfl)
  have E13 := hid (hz13.trans p12.size.symm)
  have AA2 := hid p12.all
  have K12 := hid (k11.trans k12)
  clear hz13 p12 k11 k12 hb11
  have rV : ∀ W', Kept None w7 W' → W'.rangeAt w1.heap.size 32 CV := fun W' hW' => by
    have h1 := rangeAt_kept RX7.out hW'
    exact fun j c hj => by
      have h := h1 (32 + j) c (by rw [HXX.out, List.getElem?_append_right (by rw [HL.out.2.1]; omega), HL.out.2.1, Nat.add_sub_cancel_left]; exact hj)
      rwa [Nat.zero_add] at h
  have RV := hid rV
  clear rV
  go_wp2_with (first | go_skip | (refine wpList_store_blk (.refl _) _ _ _ rfl rfl rfl hR13 aA2 E13.out AA2.out ?_; intro w13 hB13 k13; have kF := K12.out.trans k13.fresh; have k7F := K7W.out.trans kF; have hV := BB8.out.kept (K8W.out.trans kF) (fun h => h); have rV := RV.out _ k7F; have rI := rangeAt_kept RI7.out k7F; have hA0 := BB7.out.kept k7F (fun h => h); have hA1 := BB10.out.kept (K10W.out.trans kF) (fun h => h); have e5 := E5.out; have c1 : w13.cell? ⟨w9.heap.size, 1, none⟩ = some (.int .i64 1) := (by rw [hA1.cell, P10.out.at1, HE1.out])) | (refine wpList_load_bw (by kernel_rfl) rfl rfl hV aV' ?_) | (refine wpList_load_wr (by kernel_rfl) rfl rfl rV aV ?_) | (refine wpList_load_bw (by kernel_rfl) rfl rfl hB13 aA2 ?_) | (refine wpList_load_bw (by kernel_rfl) rfl rfl hA0 aA0 ?_) | fail)
  refine (FS.out _ _ w13 (HP12.out.kept k13.fresh) (P7.out.kept k7F)).mono ?_
  rintro e w14 ⟨rfl, k14⟩
  have rI14 := rangeAt_kept rI k14
  have hA14 := hA0.kept k14 (fun h => h)
  have P14 := (P7.out.kept k7F).kept k14
  have K14 := hid (kF.trans k14)
  clear k13 kF k7F hV rV rI hA0 hA1 e5 c1 hB13 hR13 k14
  go_wp2_with (first | go_skip | (refine wpList_load_wr (by kernel_rfl) rfl rfl rI14 aI ?_) | (refine wpList_load_bw (by kernel_rfl) rfl rfl hA14 aA0 ?_) | fail)
  refine (FT.out _ w14 P14).mono ?_
  rintro e w15 ⟨rfl, k15⟩
  have kEnd := hid (((K17.out.trans K7W.out).trans K14.out).trans k15)
  clear rI14 hA14 P14 k15
  go_wp2_with (first | go_skip | fail)
  go_ret
  exact ⟨rfl, kEnd.out⟩
end Pr
end Go.Proofs.Ytidegffdhpdhjaa

namespace Go.Pm
open Go Go.RowKit
/-- A byte of a hash in a block, stored over. -/
theorem Blk.setByte {w : World} {g : Nat} {h : List UInt8} {t : TypeId} (hb : Blk w g (h.map u8v).toArray t) (i : Nat) (x : Int) (h0 : 0 ≤ x) (h1 : x < 256) : Blk (w.setCell ⟨g, i, none⟩ (.int .u8 x)) g ((h.set i (byteOf x)).map u8v).toArray t := by
  have h2 := hb.set i (.int .u8 x)
  have e : ((h.map u8v).toArray.setIfInBounds i (.int .u8 x)) = ((h.set i (byteOf x)).map u8v).toArray := by
    rw [List.map_set, u8v_byteOf' h0 h1]
    simp
  rwa [e] at h2
theorem byte_xor (x y : Int) : 0 ≤ bits .xor .u8 x y ∧ bits .xor .u8 x y < 256 := ⟨bits_lo_u8 .., Int.lt_of_le_of_lt (bits_hi_u8 ..) (by decide)⟩
end Go.Pm
namespace Go.Proofs.Ytidegffdhpdhjaa
open Go.RowKit Go.Pm
namespace Pr
set_option maxRecDepth 100000 in
set_option maxHeartbeats 1000000 in
/-- index, at an item: up to the copy. -/
theorem index_item (b o n cap k : Nat) (x : It) (RA : Array Value) (w : World) (hb : b < w.heap.size) (rI : w.rangeAt b (o + (k / 4 % n) * 64) (x.i.map u8v)) (hx : x.i.length = 32) (hn : 0 < n) (_g1 : n ≤ cap) (_g2' : cap ≤ 9223372036854775807) (hk : k < 65536) (hm : k % 4 ≠ 0) :
    Calls Try.prog 27 #[.slice (some ⟨b, o, none⟩) n cap, .int .u16 k, .agg RA] w fun e w' => ∃ h, h.length = 32 ∧ e = .returned (hashV h) ∧ Kept None w w' := by
  obtain ⟨m, hm'⟩ : ∃ m, m = k % 4 := ⟨_, rfl⟩
  obtain ⟨q, hq'⟩ : ∃ q, q = k / 4 := ⟨_, rfl⟩
  rw [← hq'] at rI
  obtain ⟨j, hj'⟩ : ∃ j, j = q % n := ⟨_, rfl⟩
  rw [← hj'] at rI
  have hm3 : m = 1 ∨ m = 2 ∨ m = 3 := by omega
  have hmz : ((m : Int) == 0) = false := by rw [beq_eq_false_iff_ne]; omega
  have hnn : ((n : Int) == 0) = false := by rw [beq_eq_false_iff_ne]; omega
  have hk4 : (k : Int) % 4 = (m : Int) := by omega
  have hq : (k : Int) / 4 = (q : Int) := by omega
  have hqb : q < 16384 := by omega
  have hjn : j < n := by rw [hj']; exact Nat.mod_lt _ hn
  have hr4 : (q : Int) % (n : Int) = (j : Int) := by rw [hj']; rfl
  have HI := hid (And.intro hb (And.intro rI hx))
  have HM := hid (And.intro hm' (And.intro hm3 hm))
  clear hb rI hx hm' hm3 hm hq' hj'
  go_enter Try.func27, Try.ntmps27
  go_wp2_with (first | go_skip | (refine wpList_load_at rfl _ _ rfl rfl (cs := x.i.map u8v) (fun t c hc => (Kept.cell (((Kept.refl None w).alloc _).alloc _) HI.out.1 (fun h => h)).trans (HI.out.2.1 t c hc)) (aH32' HI.out.2.2) ?_; refine wpList_nm ?_; intro w1 e1; have K1 : Kept None w w1 := (by rw [e1]; exact ((Kept.refl None w).alloc _).alloc _); have Z1 : Blk w1 (w.heap.size + 1) #[.int .u8 0, .int .u8 0, .int .u8 0, .int .u8 0, .int .u8 0, .int .u8 0, .int .u8 0, .int .u8 0, .int .u8 0, .int .u8 0, .int .u8 0, .int .u8 0, .int .u8 0, .int .u8 0, .int .u8 0, .int .u8 0, .int .u8 0, .int .u8 0, .int .u8 0, .int .u8 0, .int .u8 0, .int .u8 0, .int .u8 0, .int .u8 0, .int .u8 0, .int .u8 0, .int .u8 0, .int .u8 0, .int .u8 0, .int .u8 0, .int .u8 0, .int .u8 0] 23 := (by rw [e1]; exact Blk.new2 w _ _ _); have hZ0 := hid (Z1.lt); clear e1; obtain ⟨z, hz, hZ⟩ := Blk.any (n := 32) Z1 rfl; clear Z1) | (refine wpList_store_blk rfl _ _ _ rfl rfl rfl (Blk.new w1 _ _) (aH32 HI.out.2.2) (show (32 : Nat) = (x.i.map u8v).toArray.size by simp [HI.out.2.2]) (u8v_all' _) ?_; intro w3 h3 k3; have K3 := K1.trans k3.fresh; have Z3 := hZ.kept k3.fresh (fun h => h); clear hZ k3; refine Stop.mk ?_) | fail)
  unfold Stop
  have hne : w1.heap.size ≠ w.heap.size + 1 := by have := K1.size; have := hZ0.out; omega
  have hn1 : w.heap.size ≤ w1.heap.size := K1.size
  have hn2 : w.heap.size ≤ w.heap.size + 1 := by omega
  obtain ⟨g, hg⟩ : ∃ g, g = w1.heap.size := ⟨_, rfl⟩
  rw [← hg] at h3 hne hn1 ⊢
  have Z3 := hid Z3
  have K3 := hid K3
  have X32 := HI.out.2.2
  clear K1 hg HI hr4 hjn hqb hq
  obtain ⟨-, hm3, -⟩ := HM.out
  rcases hm3 with rfl | rfl | rfl
  · have c31 := h3.cell 31
    have f31 := h3.free 31
    rw [List.getElem?_toArray, List.getElem?_map, List.getElem?_eq_getElem (show 31 < x.i.length by rw [X32]; decide), Option.map_some, u8v_at] at c31
    have hk4' : (k : Int) % 4 = 1 := hk4
    clear hk4 hmz
    have h9 := h3.setByte 31 (bits .xor .u8 (bAt x.i 31) 1) (byte_xor _ _).1 (byte_xor _ _).2
    have Z9 := Z3.out.setOther (a := ⟨g, 31, none⟩) (Ne.symm hne) (.int .u8 (bits .xor .u8 (bAt x.i 31) 1))
    have hx9 : (x.i.set 31 (Go.Pm.byteOf (bits .xor .u8 (bAt x.i 31) 1))).length = 32 := by simpa using X32
    have K9 := K3.out.setNew hn1 31 (.int .u8 (bits .xor .u8 (bAt x.i 31) 1))
    have E9 := hid (And.intro h9 (And.intro Z9 K9))
    clear h9 Z9 K9
    go_wp2_with (first | go_skip | (refine wpList_load_blk rfl _ _ rfl rfl E9.out.1 (aH32 hx9) ?_) | (refine wpList_store_blk rfl _ _ _ rfl rfl rfl E9.out.2.1 (aH32 hx9) (by rw [hz]; simp [X32]) (u8v_all' _) ?_; intro w5 h5 k5) | fail)
    exact bodyPost_ret (v := .agg _) (results_blk rfl _ rfl h5 (aH32 hx9)) rfl ⟨_, hx9, rfl, E9.out.2.2.then k5 (fun i hi (h : i = w.heap.size + 1) => by omega)⟩
  · obtain ⟨p, hp'⟩ : ∃ p, p = k / 64 % 3 := ⟨_, rfl⟩
    obtain ⟨r, hr'⟩ : ∃ r, r = k / 64 := ⟨_, rfl⟩
    rw [← hr'] at hp'
    have hp3 : p < 3 := by rw [hp']; exact Nat.mod_lt _ (by decide)
    have c31 := h3.cell p
    have f31 := h3.free p
    rw [List.getElem?_toArray, List.getElem?_map, List.getElem?_eq_getElem (show p < x.i.length by rw [X32]; omega), Option.map_some, u8v_at] at c31
    have hk4' : (k : Int) % 4 = 2 := hk4
    have hr : (k : Int) / 64 = (r : Int) := by omega
    have hrb : r < 1024 := by omega
    have hp : (r : Int) % 3 = (p : Int) := by omega
    obtain ⟨t, ht'⟩ : ∃ t, t = k / 16 % 8 := ⟨_, rfl⟩
    have ht : (k : Int) / 16 % 8 = (t : Int) := by omega
    have ht8 : t < 8 := by omega
    clear hk4 hmz hp' hr' ht'
    have hwr : ∀ y : Int, Blk (w3.setCell ⟨g, p, none⟩ (.int .u8 (bits .xor .u8 (bAt x.i p) y))) g ((x.i.set p (Go.Pm.byteOf (bits .xor .u8 (bAt x.i p) y))).map u8v).toArray 23 ∧ Blk (w3.setCell ⟨g, p, none⟩ (.int .u8 (bits .xor .u8 (bAt x.i p) y))) (w.heap.size + 1) z 23 ∧ Kept None w (w3.setCell ⟨g, p, none⟩ (.int .u8 (bits .xor .u8 (bAt x.i p) y))) ∧ (x.i.set p (Go.Pm.byteOf (bits .xor .u8 (bAt x.i p) y))).length = 32 := fun y => ⟨h3.setByte p _ (byte_xor _ _).1 (byte_xor _ _).2, Z3.out.setOther (a := ⟨g, p, none⟩) (Ne.symm hne) _, K3.out.setNew hn1 p _, by simpa using X32⟩
    have E9 := hid hwr
    clear hwr
    go_wp2_with (first | go_skip | (refine wpList_load_blk rfl _ _ rfl rfl (E9.out _).1 (aH32 (E9.out _).2.2.2) ?_) | (refine wpList_store_blk rfl _ _ _ rfl rfl rfl (E9.out _).2.1 (aH32 (E9.out _).2.2.2) (by rw [hz]; simp [X32]) (u8v_all' _) ?_; intro w5 h5 k5) | fail)
    exact bodyPost_ret (v := .agg _) (results_blk rfl _ rfl h5 (aH32 (E9.out _).2.2.2)) rfl ⟨_, (E9.out _).2.2.2, rfl, (E9.out _).2.2.1.then k5 (fun i hi (h : i = w.heap.size + 1) => by omega)⟩
  · have hk4' : (k : Int) % 4 = 3 := hk4
    clear hk4 hmz
    go_wp2_with (first | go_skip | (refine wpList_load_blk rfl _ _ rfl rfl h3 (aH32 X32) ?_) | (refine wpList_store_blk rfl _ _ _ rfl rfl rfl Z3.out (aH32 X32) (by rw [hz]; simp [X32]) (u8v_all' _) ?_; intro w5 h5 k5) | fail)
    exact bodyPost_ret (v := .agg _) (results_blk rfl _ rfl h5 (aH32 X32)) rfl ⟨_, X32, rfl, K3.out.then k5 (fun i hi (h : i = w.heap.size + 1) => by omega)⟩
set_option maxRecDepth 100000 in
set_option maxHeartbeats 1000000 in
/-- index, the hash as it is. -/
theorem index_raw (a : Option Addr) (n cap k : Nat) (raw : List UInt8) (w : World) (_g1 : n ≤ cap) (_g2' : cap ≤ 9223372036854775807) (hk : k < 65536) (hr : raw.length = 32) (h0 : n = 0 ∨ k % 4 = 0) :
    Calls Try.prog 27 #[.slice a n cap, .int .u16 k, .agg (raw.map u8v).toArray] w fun e w' => ∃ h, h.length = 32 ∧ e = .returned (hashV h) ∧ Kept None w w' := by
  have aR := aH32 hr
  obtain ⟨RA, hRA⟩ : ∃ R : Array Value, R = (raw.map u8v).toArray := ⟨_, rfl⟩
  rw [← hRA] at aR ⊢
  have sR : 32 = RA.size := by rw [hRA]; simp [hr]
  have allR : RA.all (·.oneCell') = true := by rw [hRA]; exact u8v_all' _
  have HRA := hid (And.intro hRA (And.intro hr (And.intro allR sR)))
  clear hRA hr allR sR
  rcases Nat.eq_zero_or_pos n with hn | hn
  · have hz0 : ((n : Int) == 0) = true := by rw [beq_iff_eq]; omega
    clear h0 hn
    go_enter Try.func27, Try.ntmps27
    go_wp2_with (first | go_skip | (refine wpList_load_blk rfl _ _ rfl rfl ((Blk.new w _ _).alloc _) aR ?_) | (refine wpList_store_blk rfl _ _ _ rfl rfl rfl (Blk.new2 w _ _ _) aR HRA.out.2.2.2 HRA.out.2.2.1 ?_; intro w9 hR9 k9) | fail)
    exact bodyPost_ret (v := .agg RA) (results_blk rfl _ rfl hR9 aR) rfl ⟨raw, HRA.out.2.1, by rw [HRA.out.1], (((Kept.refl None w).alloc _).alloc _).then k9 (fun i hi (h : i = w.heap.size + 1) => by omega)⟩
  · have hz0 : ((n : Int) == 0) = false := by rw [beq_eq_false_iff_ne]; omega
    have hk4 : (k : Int) % 4 = 0 := by omega
    clear h0
    go_enter Try.func27, Try.ntmps27
    go_wp2_with (first | go_skip | (refine wpList_load_blk rfl _ _ rfl rfl ((Blk.new w _ _).alloc _) aR ?_) | (refine wpList_store_blk rfl _ _ _ rfl rfl rfl (Blk.new2 w _ _ _) aR HRA.out.2.2.2 HRA.out.2.2.1 ?_; intro w9 hR9 k9) | fail)
    exact bodyPost_ret (v := .agg RA) (results_blk rfl _ rfl hR9 aR) rfl ⟨raw, HRA.out.2.1, by rw [HRA.out.1], (((Kept.refl None w).alloc _).alloc _).then k9 (fun i hi (h : i = w.heap.size + 1) => by omega)⟩
/-- index. -/
theorem index (v : Value) (lo hi : Nat) (l : List It) (k : Nat) (raw : List UInt8) (w : World) (hv : Its w lo hi v l) (hk : k < 65536) (hr : raw.length = 32) :
    Calls Try.prog 27 #[v, .int .u16 k, hashV raw] w fun e w' => ∃ h, h.length = 32 ∧ e = .returned (hashV h) ∧ Kept None w w' := by
  obtain ⟨a, cap, rfl, g1, g2, g3⟩ := hv.form
  have g2' : cap ≤ 9223372036854775807 := g2
  by_cases h0 : l.length = 0 ∨ k % 4 = 0
  · exact index_raw a l.length cap k raw w g1 g2' hk hr h0
  · obtain ⟨b, o, rfl, _, _, hb, hc⟩ := hv.ne (by omega)
    have hjl : k / 4 % l.length < l.length := Nat.mod_lt _ (by omega)
    have hx32 := hv.1 l[k / 4 % l.length] (List.getElem_mem hjl)
    have rI := rangeAt_take (hc (k / 4 % l.length) l[k / 4 % l.length] (List.getElem?_eq_getElem hjl)) 32
    rw [show (itC l[k / 4 % l.length]).take 32 = l[k / 4 % l.length].i.map u8v from List.take_left' (by simp [hx32.1])] at rI
    exact index_item b o l.length cap k l[k / 4 % l.length] (raw.map u8v).toArray w hb rI hx32.1 (by omega) g1 g2' hk (by omega)
end Pr
end Go.Proofs.Ytidegffdhpdhjaa

namespace Go.Pm
open Go Go.RowKit
theorem fill_three (k : Nat) (z A B C : Array Value) (hz : z.size = 3 * k) (hA : A.size = k) (hB : B.size = k) (hC : C.size = k) : Instr.fill (fun i => some (i * k, k)) z [(0, .agg A), (1, .agg B), (2, .agg C)] = some (A ++ B ++ C) := by
  have ha := fold_put 0 A.toList 0 z (by simp; omega)
  have hb := fold_put (1 * k) B.toList 0 (A ++ (z.toList.drop k).toArray) (by simp; omega)
  have hc := fold_put (2 * k) C.toList 0 (A ++ B ++ (z.toList.drop (2 * k)).toArray) (by simp; omega)
  have e1 : A.zipIdx.foldl (fun cs (c, j) => cs.setIfInBounds (0 * k + j) c) z = A ++ (z.toList.drop k).toArray := by
    rw [← Array.foldl_toList, Array.toList_zipIdx, Nat.zero_mul]
    refine ha.trans ?_
    apply Array.ext'
    simp [hA]
  have e2 : B.zipIdx.foldl (fun cs (c, j) => cs.setIfInBounds (1 * k + j) c) (A ++ (z.toList.drop k).toArray) = A ++ B ++ (z.toList.drop (2 * k)).toArray := by
    rw [← Array.foldl_toList, Array.toList_zipIdx]
    refine hb.trans ?_
    apply Array.ext'
    have h1 : (A.toList ++ z.toList.drop k).take k = A.toList := List.take_left' (by simpa using hA)
    have h2 : (A.toList ++ z.toList.drop k).drop (k + B.size) = z.toList.drop (2 * k) := by
      rw [hB, List.drop_append, List.drop_eq_nil_of_le (by simp; omega), List.nil_append, List.drop_drop]
      congr 1
      simp only [Array.length_toList]
      omega
    simp [h1, h2]
  have e3 : C.zipIdx.foldl (fun cs (c, j) => cs.setIfInBounds (2 * k + j) c) (A ++ B ++ (z.toList.drop (2 * k)).toArray) = A ++ B ++ C := by
    rw [← Array.foldl_toList, Array.toList_zipIdx]
    refine hc.trans ?_
    apply Array.ext'
    have h1 : (A.toList ++ (B.toList ++ z.toList.drop (2 * k))).take (2 * k) = A.toList ++ B.toList := by
      rw [← List.append_assoc]
      exact List.take_left' (by simp; omega)
    have h2 : (A.toList ++ (B.toList ++ z.toList.drop (2 * k))).drop (2 * k + C.size) = [] := List.drop_eq_nil_of_le (by simp; omega)
    simp [h1, h2]
  rw [fill_cons (v := .agg A) (off := 0 * k) (size := k) (by simp) (show (Value.agg A).cells.size = k from hA) (by show 0 * k + A.size ≤ z.size; omega)]
  rw [show (Value.agg A).cells = A from rfl, e1]
  rw [fill_cons (v := .agg B) (off := 1 * k) (size := k) (by simp) (show (Value.agg B).cells.size = k from hB) (by show 1 * k + B.size ≤ _; simp; omega)]
  rw [show (Value.agg B).cells = B from rfl, e2]
  rw [fill_cons (v := .agg C) (off := 2 * k) (size := k) (by simp) (show (Value.agg C).cells.size = k from hC) (by show 2 * k + C.size ≤ _; simp; omega)]
  rw [show (Value.agg C).cells = C from rfl, e3]
  rfl
/-- A new row of three, in a drawn region. -/
theorem exec_three {P : Program} {o : Oper} {ev : Operand → Value} {w : World} (t : TypeId) (x y u : Operand) (ho : o.op = .buildSlice t 3 #[(0, x), (1, y), (2, u)])
    {e : TypeId} {z : Value} {k bytes : Nat} (hT : RowTyK P t e z k bytes) (hk : k ≤ 1000) {A B C : Array Value} (hx : ev x = .agg A) (hy : ev y = .agg B) (hu : ev u = .agg C) (hA : A.size = k) (hB : B.size = k) (hC : C.size = k) :
    (execOp ev o).run P w = .ok (.value (.slice (some ⟨w.heap.size, 0, none⟩) 3 3)) (w.alloc (.cells (A ++ B ++ C) e)) := by
  obtain ⟨i, hi, hz, hs, hb⟩ := hT.info
  have hp := hT.pos
  have hr := run_buildSlice (P := P) w t e 3 #[(0, .agg A), (1, .agg B), (2, .agg C)] (A ++ B ++ C) i z hT.sl hi hz (by omega) (by omega) (by rw [hs]; exact fill_three k _ A B C (by simp) hA hB hC)
  unfold execOp
  simp only [ho, Sem.run_bind]
  rw [show (#[(0, x), (1, y), (2, u)] : Array (Nat × Operand)).map (fun (i, x) => (i, ev x)) = #[(0, .agg A), (1, .agg B), (2, .agg C)] by simp [hx, hy, hu]]
  rw [hr]
  rfl
/-- It is a row of three proofs, the last one known by what it reads as. -/
abbrev Fct.three (k lo : Nat) (t : TypeId) (A B : Array Value) (m : Pf) (uses : List Nat := []) : Fct := { k := k, uses := uses, pure := fun u => ∃ g, u = .slice (some ⟨g, 0, none⟩) 3 3, fact := fun u W => ∃ g C, u = .slice (some ⟨g, 0, none⟩) 3 3 ∧ lo ≤ g ∧ Blk W g (A ++ B ++ C) t ∧ PV m W C }
theorem Steady.three {l : List Fct} {k lo : Nat} {t : TypeId} {A B : Array Value} {m : Pf} {us : List Nat} (h : Steady l) : Steady (.three k lo t A B m us :: l) := .cons ⟨_, 0, rfl⟩ (fun _ _ _ hk ⟨g, C, h1, h2, h3, h4⟩ => ⟨g, C, h1, h2, h3.kept hk (fun h => h), h4.kept hk⟩) h
/-- Each third of a row of three. -/
theorem three_at {w : World} {g k : Nat} {t : TypeId} {A B C : Array Value} (hb : Blk w g (A ++ B ++ C) t) (hA : A.size = k) (hB : B.size = k) : w.rangeAt g 0 A.toList ∧ w.rangeAt g k B.toList ∧ w.rangeAt g (2 * k) C.toList := by
  refine ⟨fun j v hv => ?_, fun j v hv => ?_, fun j v hv => ?_⟩
  · have h := hb.cell (0 + j)
    rw [h]
    have hj : j < A.size := by simpa using (List.getElem?_eq_some_iff.1 hv).1
    have : (A ++ B ++ C)[0 + j]? = some v := by
      rw [Nat.zero_add, Array.append_assoc, Array.getElem?_append_left hj, ← Array.getElem?_toList]; exact hv
    exact this
  · have h := hb.cell (k + j)
    rw [h]
    have hj : j < B.size := by simpa using (List.getElem?_eq_some_iff.1 hv).1
    have : (A ++ B ++ C)[k + j]? = some v := by
      rw [Array.append_assoc, Array.getElem?_append_right (by omega), show k + j - A.size = j by omega, Array.getElem?_append_left hj, ← Array.getElem?_toList]; exact hv
    exact this
  · have h := hb.cell (2 * k + j)
    rw [h]
    have : (A ++ B ++ C)[2 * k + j]? = some v := by
      rw [Array.getElem?_append_right (by simp; omega), show 2 * k + j - (A ++ B).size = j by simp; omega, ← Array.getElem?_toList]; exact hv
    exact this
end Go.Pm
namespace Go.Proofs.Ytidegffdhpdhjaa
open Go.RowKit Go.Pm
namespace Pr
theorem rtProofs : RowTyK Try.prog 75 63 (.agg Try.zeroCells63) 66 96 := Hk.rtyK (by kernel_rfl) (by kernel_rfl) (by rfl) (by decide)
end Pr
end Go.Proofs.Ytidegffdhpdhjaa
