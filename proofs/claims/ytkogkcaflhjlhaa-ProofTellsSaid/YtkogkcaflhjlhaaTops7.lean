/- postmarklaw7.known: true. -/
import Derived.Test.YtkogkcaflhjlhaaPV7
import Derived.Test.YtkogkcaflhjlhaaKey7
import Derived.Test.YtkogkcaflhjlhaaRight7
import Derived.Deep.LoopGhost
import Derived.Deep.DeepCutAuto
import Derived.Test.YtkogkcaflhjlhaaHk8
namespace Go.Pm
open Go Go.RowKit
end Go.Pm
namespace Go.Proofs.Ytkogkcaflhjlhaa
open Go.RowKit Go.Pm
namespace Pr
def nameA : ByteArray := { data := #[97] }
def x0 : It := ⟨indexH nameA, valueH 1 2⟩
theorem x0_ok : x0.i.length = 32 ∧ x0.v.length = 32 := ⟨indexH_len _, valueH_len _ _⟩
theorem rootOf_one (x : It) : rootOf [x] = leafH x := by
  unfold rootOf
  rw [show setI [x] = [x] from rfl]
  exact RTr.rootI_one 256 0 x
theorem here_none (i : List UInt8) : saysV (makeP [] i) = zero32 ∧ saysH (makeP [] i) = false ∧ (makeP [] i).e = 1 := ⟨rfl, rfl, rfl⟩
theorem path_one (x : It) (i : List UInt8) : (makeP [x] i).path = [] := by
  unfold makeP
  rw [endI_path, show setI [x] = [x] from rfl, downI_few _ _ _ (by simp)]

set_option maxRecDepth 100000 in
set_option maxHeartbeats 1000000 in
theorem known (w : World) : Calls Try.prog 19 #[] w fun e w' => e = .returned (.bool true) ∧ Kept None w w' := by
  obtain ⟨x, hx⟩ : ∃ x, x = x0 := ⟨_, rfl⟩
  have hxl : x.i.length = 32 ∧ x.v.length = 32 := by rw [hx]; exact x0_ok
  obtain ⟨m0, hm0⟩ : ∃ m, m = makeP [x] x.i := ⟨_, rfl⟩
  obtain ⟨m1, hm1⟩ : ∃ m, m = makeP [] x.i := ⟨_, rfl⟩
  have hok0 : m0.Ok := by rw [hm0]; exact ok_make [x] (len_one hxl) x.i
  have hok1 : m1.Ok := by rw [hm1]; exact ok_make [] len_nil x.i
  have hrt : rightP x.i m0 = true := by rw [hm0]; exact right_make [x] (len_one hxl) x.i
  have hp0 : m0.path.length ≤ 256 := rightP_len hrt
  have he1 : m1.e = 1 := by rw [hm1]; rfl
  have hit := item_make (l := [x]) (len_one hxl) (by simp [Srt]) (List.mem_singleton.2 rfl : x ∈ [x])
  have hrd : readEP (putP m0) = 0 ∧ readQP (putP m0) = m0 := read_put' hok0 hp0 (by rw [hm0, hit.1]; decide)
  have fI : ∀ W, Calls Try.prog 47 #[.agg #[.string { data := #[97] }, .int .i64 1, .int .u64 2]] W fun e w' => e = .returned (.agg (itC x).toArray) ∧ Kept None W w' := fun W => by
    have h := RTr.item nameA 1 2 W (by decide) (by decide)
    rw [show itemV ⟨indexH nameA, valueH 1 2⟩ = .agg (itC x).toArray by rw [hx]; simp [itemV, itC, x0]] at h
    exact h
  have fL : ∀ W, Calls Try.prog 48 #[.agg (itC x).toArray] W fun e w' => e = .returned (hashV (leafH x)) ∧ Kept None W w' := fun W => by
    have h := RTr.leaf x W hxl
    rwa [show itemV x = .agg (itC x).toArray by simp [itemV, itC]] at h
  have fE : ∀ W, Calls Try.prog 49 #[] W fun e w' => e = .returned (hashV emptyH) ∧ Kept None W w' := fun W => RTr.empty W
  have fM : ∀ v lo hi W, Its W lo hi v [x] → Calls Try.prog 22 #[v, hashV x.i] W fun e w' => ∃ A, e = .returned (.agg A) ∧ Kept None W w' ∧ PV m0 w' A := fun v lo hi W h => by
    rw [hm0]; exact make [x] x.i v lo hi W h (by simp) hxl.1
  have fN : ∀ W, Calls Try.prog 22 #[.slice none 0 0, hashV x.i] W fun e w' => ∃ A, e = .returned (.agg A) ∧ Kept None W w' ∧ PV m1 w' A := fun W => by
    rw [hm1]; exact make [] x.i (.slice none 0 0) 0 0 W (Its.nil _ _ _) (by simp) hxl.1
  have fC : ∀ A W, PV m0 W A → Calls Try.prog 27 #[hashV (leafH x), hashV x.i, .agg A] W fun e w' => e = .returned (.tuple #[hashV x.v, .bool true, .bool true]) ∧ Kept None W w' := fun A W h => by
    have h2 := checkA (leafH x) x.i m0 A W (sumB_len _) hxl.1 h
    have h3 := check_make [x] (len_one hxl) x.i
    rw [rootOf_one, ← hm0] at h3
    rw [h3.1, h3.2.1, h3.2.2] at h2
    have e1 : saysV m0 = x.v := by unfold saysV; rw [hm0, if_pos hit.1, hit.2]
    have e2 : saysH m0 = true := by unfold saysH; rw [hm0, hit.1]; rfl
    rwa [e1, e2] at h2
  have fD : ∀ A W, PV m1 W A → Calls Try.prog 27 #[hashV emptyH, hashV x.i, .agg A] W fun e w' => e = .returned (.tuple #[hashV zero32, .bool false, .bool true]) ∧ Kept None W w' := fun A W h => by
    have h2 := checkA emptyH x.i m1 A W (sumB_len _) hxl.1 h
    have h3 := check_make [] len_nil x.i
    rw [show rootOf [] = emptyH from rfl, ← hm1] at h3
    rw [h3.1, h3.2.1, h3.2.2] at h2
    have e1 : saysV m1 = zero32 := by rw [hm1]; rfl
    have e2 : saysH m1 = false := by rw [hm1]; rfl
    rwa [e1, e2] at h2
  have fP : ∀ A W, PV m0 W A → Calls Try.prog 34 #[.agg A] W fun e w' => ∃ v, e = .returned v ∧ Kept None W w' ∧ Rb W.heap.size w' v (putP m0) := fun A W h => putA m0 A W h (by omega)
  have hpl : (putP m0).length ≤ 1099511627776 := by rw [putP_len hok0]; omega
  have fR : ∀ v lo hi W, Bs W lo hi v (putP m0) → Calls Try.prog 37 #[v] W fun e w' => ∃ A, e = .returned (.tuple #[.agg A, .int .i64 0]) ∧ Kept None W w' ∧ PV m0 w' A := fun v lo hi W h => by
    have h2 := readA v lo hi (putP m0) W h hpl
    rwa [hrd.1, hrd.2] at h2
  have fS : ∀ A B W, PV m0 W A → PV m0 W B → Calls Try.prog 23 #[.agg A, .agg B] W fun e w' => e = .returned (.bool true) ∧ Kept None W w' := fun A B W h1 h2 => by
    have h := sameA m0 m0 A B W h1 h2
    rwa [decide_eq_true rfl] at h
  have fT : ∀ A W, PV m0 W A → Calls Try.prog 29 #[hashV x.i, .agg A] W fun e w' => e = .returned (.bool true) ∧ Kept None W w' := fun A W h => by
    have h2 := rightA x.i m0 A W hxl.1 h
    rwa [hrt] at h2
  have e5 := Tr.eqHash x.v x.v hxl.2 hxl.2
  rw [beq_self_eq_true] at e5
  obtain ⟨CL, hCL⟩ : ∃ CL, CL = (leafH x).map u8v := ⟨_, rfl⟩
  obtain ⟨CE, hCE⟩ : ∃ CE, CE = emptyH.map u8v := ⟨_, rfl⟩
  obtain ⟨CI, hCI⟩ : ∃ CI, CI = x.i.map u8v := ⟨_, rfl⟩
  obtain ⟨CV, hCV⟩ : ∃ CV, CV = x.v.map u8v := ⟨_, rfl⟩
  obtain ⟨CZ, hCZ⟩ : ∃ CZ, CZ = zero32.map u8v := ⟨_, rfl⟩
  obtain ⟨CX, hCX⟩ : ∃ CX, CX = itC x := ⟨_, rfl⟩
  have h64 : CX.length = 64 := by rw [hCX]; exact itC_len hxl
  have hCXX : CX = CI ++ CV := by rw [hCX, hCI, hCV]; rfl
  have lI : CI.length = 32 := by rw [hCI, List.length_map]; exact hxl.1
  have lV : CV.length = 32 := by rw [hCV, List.length_map]; exact hxl.2
  have lZ : CZ.length = 32 := by rw [hCZ]; rfl
  have A1 : CX.toArray.all (·.oneCell') = true := all_oneCell_toArray (fun c hc => itsC_one [x] c (by simpa [itsC, ← hCX] using hc))
  have AV : CV.toArray.all (·.oneCell') = true := by rw [hCV]; exact u8v_all' _
  have AZ : CZ.toArray.all (·.oneCell') = true := by rw [hCZ]; exact u8v_all' _
  simp only [hashV, ← hCL, ← hCE, ← hCI, ← hCV, ← hCZ, ← hCX] at fI fL fE fM fN fC fD fT e5
  have aX : AggTy Try.prog 43 CX.length := by rw [h64]; exact RTr.aI64
  have aX' : AggTy Try.prog 43 CX.toArray.size := by simpa using aX
  have aI : AggTy Try.prog 25 CI.length := by rw [lI]; exact Sp.aH
  have aV : AggTy Try.prog 25 CV.length := by rw [lV]; exact Sp.aH
  have aV' : AggTy Try.prog 25 CV.toArray.size := by simpa using aV
  have aZ' : AggTy Try.prog 25 CZ.toArray.size := by rw [show CZ.toArray.size = 32 by simpa using lZ]; exact Sp.aH
  have FI := hid fI
  have FL := hid fL
  have FE := hid fE
  have FM := hid fM
  have FN := hid fN
  have FC := hid fC
  have FD := hid fD
  have FP := hid fP
  have FR := hid fR
  have FS := hid fS
  have FT := hid fT
  have E5 := hid e5
  have HL := hid (And.intro h64 (And.intro lI (And.intro lV lZ)))
  have HXX := hid hCXX
  have HA := hid (And.intro A1 (And.intro AV AZ))
  have HOK := hid (And.intro hok0 hok1)
  have HE1 := hid he1
  have HX := hid (And.intro hxl hCX)
  clear fI fL fE fM fN fC fD fP fR fS fT e5 h64 lI lV lZ hCXX hCL hCE hCI hCV hCZ hCX hx hm0 hm1 hok0 hok1 hrt hp0 he1 hit hrd hpl A1 AV AZ hxl
  go_enter Try.func19, Try.ntmps19
  go_wp2_with fail
  refine (FI.out _).mono ?_
  rintro e w1 ⟨rfl, k1⟩
  obtain ⟨z, hz, hR⟩ := Blk.any (n := 64) (Blk.new w1 #[.int .u8 0, .int .u8 0, .int .u8 0, .int .u8 0, .int .u8 0, .int .u8 0, .int .u8 0, .int .u8 0, .int .u8 0, .int .u8 0, .int .u8 0, .int .u8 0, .int .u8 0, .int .u8 0, .int .u8 0, .int .u8 0, .int .u8 0, .int .u8 0, .int .u8 0, .int .u8 0, .int .u8 0, .int .u8 0, .int .u8 0, .int .u8 0, .int .u8 0, .int .u8 0, .int .u8 0, .int .u8 0, .int .u8 0, .int .u8 0, .int .u8 0, .int .u8 0, .int .u8 0, .int .u8 0, .int .u8 0, .int .u8 0, .int .u8 0, .int .u8 0, .int .u8 0, .int .u8 0, .int .u8 0, .int .u8 0, .int .u8 0, .int .u8 0, .int .u8 0, .int .u8 0, .int .u8 0, .int .u8 0, .int .u8 0, .int .u8 0, .int .u8 0, .int .u8 0, .int .u8 0, .int .u8 0, .int .u8 0, .int .u8 0, .int .u8 0, .int .u8 0, .int .u8 0, .int .u8 0, .int .u8 0, .int .u8 0, .int .u8 0, .int .u8 0] 43) (by rfl)
  have E := hid (hz.trans (show 64 = CX.toArray.size by simpa using HL.out.1.symm))
  clear hz
  go_wp2_with (first | (refine wpList_store_blk (.refl _) _ _ _ rfl rfl rfl hR aX' E.out HA.out.1 ?_; intro w5 hB5 k5; have k15 := k5.fresh; have rX : w5.rangeAt w1.heap.size 0 CX := (fun j c hj => (by rw [Nat.zero_add, hB5.cell]; simpa using hj)); have rI : w5.rangeAt w1.heap.size 0 CI := (fun j c hj => (by
      have hi := (List.getElem?_eq_some_iff.1 hj).1
      refine rX j c ?_
      rw [HXX.out, List.getElem?_append_left hi]; exact hj))) | (refine wpList_load_at rfl _ _ rfl rfl rX aX ?_) | (refine wpList_one_item rfl _ _ rfl RTr.rtItems (by decide) rfl (by simpa using HL.out.1) ?_; have ka : Kept None w5 (w5.alloc (.cells CX.toArray 43)) := (Kept.refl _ _).alloc _; have rI2 := rangeAt_kept rI ka) | (refine wpList_load_at rfl _ _ rfl rfl rI2 aI ?_) | fail)
  have hone : Its (w5.alloc (.cells CX.toArray 43)) w5.heap.size (w5.heap.size + 1) (.slice (some ⟨w5.heap.size, 0, none⟩) 1 1) [x] := by
    rw [HX.out.2]
    exact Its.one w5 43 x HX.out.1
  refine (FM.out _ _ _ _ hone).mono ?_
  rintro e w6 ⟨A0, rfl, k6, p6⟩
  have k56 := ka.trans k6
  have rX6 := rangeAt_kept rX k56
  have rI6 := rangeAt_kept rI k56
  have k16 := (k1.trans k15).trans k56
  have HP6 := hid p6
  have aA0 := PV.agg p6
  obtain ⟨z7, hz7, hR7⟩ := Blk.any (n := 66) (Blk.new w6 Try.zeroCells45 45) (by rfl)
  have E7 := hid (hz7.trans p6.size.symm)
  have AA0 := hid p6.all
  clear k1 k5 k15 ka k6 k56 rX rI rI2 hB5 hone hR hz7 p6 E
  go_wp2_with (first | (refine wpList_store_blk (.refl _) _ _ _ rfl rfl rfl hR7 aA0 E7.out AA0.out ?_; intro w7 hB7 k7; have k67 := k7.fresh) | fail)
  have RX7 := hid (rangeAt_kept rX6 k67)
  have RI7 := hid (rangeAt_kept rI6 k67)
  have K17 := hid (k16.trans k67)
  have BB7 := hid hB7
  have P7 := hid (HP6.out.kept k67)
  clear k7 k67 k16 rX6 rI6 hR7 hB7 HP6
  have hs : Ky.Steady [Ky.lift (.val 1 (.agg CL.toArray)), Ky.lift (.val 5 (.tuple #[.agg CV.toArray, .bool true, .bool true])), Ky.lift (.room 10 w7.heap.size 32 25), Ky.stored 11 w7.heap.size 3 CV.toArray 25 10] := Ky.Steady.append (l := [Ky.lift (.val 1 (.agg CL.toArray)), Ky.lift (.val 5 (.tuple #[.agg CV.toArray, .bool true, .bool true])), Ky.lift (.room 10 w7.heap.size 32 25)]) (Ky.Steady.lift (l := [.val 1 (.agg CL.toArray), .val 5 (.tuple #[.agg CV.toArray, .bool true, .bool true]), .room 10 w7.heap.size 32 25]) (Go.Pm.Steady.val (Go.Pm.Steady.val (Go.Pm.Steady.room (Go.Pm.Steady.nil))))) (Ky.steady_stored _ _ _ _ _ _)
  refine Ky.wp_region_kn w7 _ hs (Kept.refl _ _) (by kernel_rfl) (by kernel_rfl) (by kernel_rfl) ?_
  refine Ky.wpPar_pure rfl (by rfl) _ (fun W hW => exec_load_at rfl rfl (rangeAt_kept RX7.out hW) aX) ?_; simp only [Act.put, List.setIfInBounds_toArray, List.set_cons_zero, List.set_cons_succ]
  refine Ky.wpKn_adds hs rfl (by rfl) (fun W hW hd => ?_) (fun v1 hv => ?_)
  · unfold Gives
    go_simp
    refine gives_call (FL.out W) ?_
    rintro e w3 ⟨rfl, k3⟩
    exact ⟨_, rfl, k3, rfl, trivial⟩
  obtain rfl : v1 = .agg CL.toArray := hv
  simp only [Act.put, List.setIfInBounds_toArray, List.set_cons_zero, List.set_cons_succ]
  iterate 1 (refine Ky.wpPar_pure rfl (by rfl) _ (fun W hW => by
      go_simp
      exact rfl) ?_; simp only [Act.put, List.setIfInBounds_toArray, List.set_cons_zero, List.set_cons_succ])
  refine Ky.wpPar_pure rfl (by rfl) _ (fun W hW => exec_load_at rfl rfl (rangeAt_kept RI7.out hW) aI) ?_; simp only [Act.put, List.setIfInBounds_toArray, List.set_cons_zero, List.set_cons_succ]
  refine Ky.wpPar_pure rfl (by rfl) _ (fun W hW => exec_load_blk _ _ rfl rfl (BB7.out.kept hW (fun h => h)) aA0) ?_; simp only [Act.put, List.setIfInBounds_toArray, List.set_cons_zero, List.set_cons_succ]
  refine Ky.wpKn_adds hs rfl (by rfl) (fun W hW hd => ?_) (fun v5 hv => ?_)
  · unfold Gives
    go_simp
    refine gives_call (FC.out _ W (P7.out.kept hW)) ?_
    rintro e w3 ⟨rfl, k3⟩
    exact ⟨_, rfl, k3, rfl, trivial⟩
  obtain rfl : v5 = .tuple #[.agg CV.toArray, .bool true, .bool true] := hv
  simp only [Act.put, List.setIfInBounds_toArray, List.set_cons_zero, List.set_cons_succ]
  iterate 4 (refine Ky.wpPar_pure rfl (by rfl) _ (fun W hW => by
      go_simp
      exact rfl) ?_; simp only [Act.put, List.setIfInBounds_toArray, List.set_cons_zero, List.set_cons_succ])
  refine Ky.wpKn_adds hs rfl (by rfl) (fun W hW hd => ?_) (fun v10 hv => ?_)
  · unfold Gives
    go_simp
    exact ⟨(Kept.refl None W).alloc _, ⟨_, rfl⟩, _, _, rfl, hW.size, by rfl, Blk.new W _ _⟩
  obtain ⟨g3, rfl⟩ : ∃ g, v10 = .pointer (some ⟨g, 0, none⟩) := hv
  simp only [Act.put, List.setIfInBounds_toArray, List.set_cons_zero, List.set_cons_succ]
  refine Ky.wpPar_adds rfl (by rfl) (fun W hW hd => ?_) (fun v11 hv => ?_)
  · obtain ⟨g, z3, hg3, hg2, hz3, hR3⟩ : ∃ (g : Nat) (z : Array Value), Value.pointer (some ⟨g3, 0, none⟩) = .pointer (some ⟨g, 0, none⟩) ∧ w7.heap.size ≤ g ∧ z.size = 32 ∧ Blk W g z 25 := hd 10 (List.Mem.head _)
    obtain rfl : g3 = g := by simpa using hg3
    refine gives_store7 _ _ _ rfl rfl rfl hR3 aV' (hz3.trans (by simpa using HL.out.2.2.1.symm)) HA.out.2.1 (fun W' hb hk => ⟨hW.then hk (fun i hi h => by have h : i = g3 := h; omega), trivial, ⟨g3, rfl, hg2, hb⟩, Ky.keeps_of fun f hf hs _ hne u hfu => ?_⟩)
    simp only [List.mem_cons, List.not_mem_nil, or_false] at hf
    rcases hf with rfl | rfl | rfl | rfl
    · exact hfu
    · exact hfu
    · exact absurd (List.Mem.head _) hs
    · exact absurd rfl hne
  simp only [Act.put]
  iterate 2 (refine Ky.wpPar_pure rfl (by rfl) _ (fun W hW => by
      go_simp
      exact rfl) ?_; simp only [Act.put, List.setIfInBounds_toArray, List.set_cons_zero, List.set_cons_succ])
  refine Ky.wpPar_nil (fun W hW hG => ?_)
  obtain ⟨g, hg3, hg2, hB3⟩ : ∃ g, Value.pointer (some ⟨g3, 0, none⟩) = .pointer (some ⟨g, 0, none⟩) ∧ w7.heap.size ≤ g ∧ Blk W g CV.toArray 25 := hG 11
  obtain rfl : g3 = g := by simpa using hg3
  have BB8 := hid hB3
  have rI8 := rangeAt_kept RI7.out hW
  have K78 := hid hW
  clear hG hs hg3 hB3 hW
  obtain ⟨g7, hg7⟩ : ∃ g, g = g3 := ⟨_, rfl⟩
  rw [← hg7] at BB8 hg2 ⊢
  clear hg7
  go_wp2_with (first | (refine wpList_load_at rfl _ _ rfl rfl rI8 aI ?_) | fail)
  refine (FN.out W).mono ?_
  rintro e w9 ⟨A1, rfl, k9, p9⟩
  have HP9 := hid p9
  have aA1 := PV.agg p9
  obtain ⟨z10, hz10, hR10⟩ := Blk.any (n := 66) (Blk.new w9 Try.zeroCells45 45) (by rfl)
  have E10 := hid (hz10.trans p9.size.symm)
  have AA1 := hid p9.all
  clear hz10 p9
  go_wp2_with (first | (refine wpList_store_blk (.refl _) _ _ _ rfl rfl rfl hR10 aA1 E10.out AA1.out ?_; intro w10 hB10 k10; have k910 := k10.fresh) | fail)
  have k810 := k9.trans k910
  have K710 := hid (K78.out.trans k810)
  have RI10 := hid (rangeAt_kept RI7.out K710.out)
  have BB10 := hid hB10
  have P10 := hid (HP9.out.kept k910)
  have K810 := hid k810
  clear k10 k910 hR10 hB10 HP9 k9 k810 rI8
  have hs : Ky.Steady [Ky.lift (.val 0 (.agg CE.toArray)), Ky.lift (.val 4 (.tuple #[.agg CZ.toArray, .bool false, .bool true])), Ky.lift (.room 9 w10.heap.size 32 25), Ky.stored 10 w10.heap.size 7 CZ.toArray 25 9] := Ky.Steady.append (l := [Ky.lift (.val 0 (.agg CE.toArray)), Ky.lift (.val 4 (.tuple #[.agg CZ.toArray, .bool false, .bool true])), Ky.lift (.room 9 w10.heap.size 32 25)]) (Ky.Steady.lift (l := [.val 0 (.agg CE.toArray), .val 4 (.tuple #[.agg CZ.toArray, .bool false, .bool true]), .room 9 w10.heap.size 32 25]) (Go.Pm.Steady.val (Go.Pm.Steady.val (Go.Pm.Steady.room (Go.Pm.Steady.nil))))) (Ky.steady_stored _ _ _ _ _ _)
  refine Ky.wp_region_kn w10 _ hs (Kept.refl _ _) (by kernel_rfl) (by kernel_rfl) (by kernel_rfl) ?_
  refine Ky.wpKn_adds hs rfl (by rfl) (fun W hW hd => ?_) (fun v0 hv => ?_)
  · unfold Gives
    go_simp
    refine gives_call (FE.out W) ?_
    rintro e w3 ⟨rfl, k3⟩
    exact ⟨_, rfl, k3, rfl, trivial⟩
  obtain rfl : v0 = .agg CE.toArray := hv
  simp only [Act.put, List.setIfInBounds_toArray, List.set_cons_zero, List.set_cons_succ]
  iterate 1 (refine Ky.wpPar_pure rfl (by rfl) _ (fun W hW => by
      go_simp
      exact rfl) ?_; simp only [Act.put, List.setIfInBounds_toArray, List.set_cons_zero, List.set_cons_succ])
  refine Ky.wpPar_pure rfl (by rfl) _ (fun W hW => exec_load_at rfl rfl (rangeAt_kept RI10.out hW) aI) ?_; simp only [Act.put, List.setIfInBounds_toArray, List.set_cons_zero, List.set_cons_succ]
  refine Ky.wpPar_pure rfl (by rfl) _ (fun W hW => exec_load_blk _ _ rfl rfl (BB10.out.kept hW (fun h => h)) aA1) ?_; simp only [Act.put, List.setIfInBounds_toArray, List.set_cons_zero, List.set_cons_succ]
  refine Ky.wpKn_adds hs rfl (by rfl) (fun W hW hd => ?_) (fun v4 hv => ?_)
  · unfold Gives
    go_simp
    refine gives_call (FD.out _ W (P10.out.kept hW)) ?_
    rintro e w3 ⟨rfl, k3⟩
    exact ⟨_, rfl, k3, rfl, trivial⟩
  obtain rfl : v4 = .tuple #[.agg CZ.toArray, .bool false, .bool true] := hv
  simp only [Act.put, List.setIfInBounds_toArray, List.set_cons_zero, List.set_cons_succ]
  iterate 4 (refine Ky.wpPar_pure rfl (by rfl) _ (fun W hW => by
      go_simp
      exact rfl) ?_; simp only [Act.put, List.setIfInBounds_toArray, List.set_cons_zero, List.set_cons_succ])
  refine Ky.wpKn_adds hs rfl (by rfl) (fun W hW hd => ?_) (fun v9 hv => ?_)
  · unfold Gives
    go_simp
    exact ⟨(Kept.refl None W).alloc _, ⟨_, rfl⟩, _, _, rfl, hW.size, by rfl, Blk.new W _ _⟩
  obtain ⟨g3, rfl⟩ : ∃ g, v9 = .pointer (some ⟨g, 0, none⟩) := hv
  simp only [Act.put, List.setIfInBounds_toArray, List.set_cons_zero, List.set_cons_succ]
  refine Ky.wpPar_adds rfl (by rfl) (fun W hW hd => ?_) (fun v10 hv => ?_)
  · obtain ⟨g, z3, hg3, hg2, hz3, hR3⟩ : ∃ (g : Nat) (z : Array Value), Value.pointer (some ⟨g3, 0, none⟩) = .pointer (some ⟨g, 0, none⟩) ∧ w10.heap.size ≤ g ∧ z.size = 32 ∧ Blk W g z 25 := hd 9 (List.Mem.head _)
    obtain rfl : g3 = g := by simpa using hg3
    refine gives_store7 _ _ _ rfl rfl rfl hR3 aZ' (hz3.trans (by simpa using HL.out.2.2.2.symm)) HA.out.2.2 (fun W' hb hk => ⟨hW.then hk (fun i hi h => by have h : i = g3 := h; omega), trivial, ⟨g3, rfl, hg2, hb⟩, Ky.keeps_of fun f hf hs _ hne u hfu => ?_⟩)
    simp only [List.mem_cons, List.not_mem_nil, or_false] at hf
    rcases hf with rfl | rfl | rfl | rfl
    · exact hfu
    · exact hfu
    · exact absurd (List.Mem.head _) hs
    · exact absurd rfl hne
  simp only [Act.put]
  iterate 2 (refine Ky.wpPar_pure rfl (by rfl) _ (fun W hW => by
      go_simp
      exact rfl) ?_; simp only [Act.put, List.setIfInBounds_toArray, List.set_cons_zero, List.set_cons_succ])
  refine Ky.wpPar_nil (fun W hW hG => ?_)
  obtain ⟨g, hg3, hg2, hB3⟩ : ∃ g, Value.pointer (some ⟨g3, 0, none⟩) = .pointer (some ⟨g, 0, none⟩) ∧ w10.heap.size ≤ g ∧ Blk W g CZ.toArray 25 := hG 10
  obtain rfl : g3 = g := by simpa using hg3
  have k7W := K710.out.trans hW
  have hA0 := BB7.out.kept k7W (fun h => h)
  have P0 := P7.out.kept k7W
  have K7W := hid k7W
  have K8W := hid (K810.out.trans hW)
  have K10W := hid hW
  clear hG hs hg3 hB3 hg2 hW k7W
  go_wp2_with (first | (refine wpList_load_blk rfl _ _ rfl rfl hA0 aA0 ?_) | fail)
  refine (FP.out _ W P0).mono ?_
  rintro e w11 ⟨v, rfl, k11, b11⟩
  obtain ⟨hi11, hb11⟩ := b11
  obtain ⟨av, cv, rfl, _⟩ := hb11.shape
  clear hA0 P0
  go_wp2_with fail
  refine (FR.out _ _ _ w11 hb11).mono ?_
  rintro e w12 ⟨A2, rfl, k12, p12⟩
  have HP12 := hid p12
  have aA2 := PV.agg p12
  obtain ⟨z13, hz13, hR13⟩ := Blk.any (n := 66) (Blk.new w12 Try.zeroCells45 45) (by rfl)
  have E13 := hid (hz13.trans p12.size.symm)
  have AA2 := hid p12.all
  have K12 := hid (k11.trans k12)
  clear hz13 p12 k11 k12 hb11
  have rV : ∀ W', Kept None w7 W' → W'.rangeAt w1.heap.size 32 CV := fun W' hW' => by
    have h1 := rangeAt_kept RX7.out hW'
    exact fun j c hj => by
      have h := h1 (32 + j) c (by rw [HXX.out, List.getElem?_append_right (by rw [HL.out.2.1]; omega), HL.out.2.1, Nat.add_sub_cancel_left]; exact hj)
      rwa [Nat.zero_add] at h
  have RV := hid rV
  clear rV
  go_wp2_with (first | go_skip | (refine wpList_store_blk (.refl _) _ _ _ rfl rfl rfl hR13 aA2 E13.out AA2.out ?_; intro w13 hB13 k13; have kF := K12.out.trans k13.fresh; have k7F := K7W.out.trans kF; have hV := BB8.out.kept (K8W.out.trans kF) (fun h => h); have rV := RV.out _ k7F; have rI := rangeAt_kept RI7.out k7F; have hA0 := BB7.out.kept k7F (fun h => h); have hA1 := BB10.out.kept (K10W.out.trans kF) (fun h => h); have e5 := E5.out; have c1 : w13.cell? ⟨w9.heap.size, 1, none⟩ = some (.int .i64 1) := (by rw [hA1.cell, P10.out.at1, HE1.out])) | (refine wpList_load_bw (by kernel_rfl) rfl rfl hV aV' ?_) | (refine wpList_load_wr (by kernel_rfl) rfl rfl rV aV ?_) | (refine wpList_load_bw (by kernel_rfl) rfl rfl hB13 aA2 ?_) | (refine wpList_load_bw (by kernel_rfl) rfl rfl hA0 aA0 ?_) | fail)
  refine (FS.out _ _ w13 (HP12.out.kept k13.fresh) (P7.out.kept k7F)).mono ?_
  rintro e w14 ⟨rfl, k14⟩
  have rI14 := rangeAt_kept rI k14
  have hA14 := hA0.kept k14 (fun h => h)
  have P14 := (P7.out.kept k7F).kept k14
  have K14 := hid (kF.trans k14)
  clear k13 kF k7F hV rV rI hA0 hA1 e5 c1 hB13 hR13 k14
  go_wp2_with (first | go_skip | (refine wpList_load_wr (by kernel_rfl) rfl rfl rI14 aI ?_) | (refine wpList_load_bw (by kernel_rfl) rfl rfl hA14 aA0 ?_) | fail)
  refine (FT.out _ w14 P14).mono ?_
  rintro e w15 ⟨rfl, k15⟩
  have kEnd := hid (((K17.out.trans K7W.out).trans K14.out).trans k15)
  clear rI14 hA14 P14 k15
  go_wp2_with (first | go_skip | fail)
  go_ret
  exact ⟨rfl, kEnd.out⟩
end Pr
end Go.Proofs.Ytkogkcaflhjlhaa

namespace Go.Pm
open Go Go.RowKit
/-- A byte of a hash in a block, stored over. -/
theorem Blk.setByte {w : World} {g : Nat} {h : List UInt8} {t : TypeId} (hb : Blk w g (h.map u8v).toArray t) (i : Nat) (x : Int) (h0 : 0 ≤ x) (h1 : x < 256) : Blk (w.setCell ⟨g, i, none⟩ (.int .u8 x)) g ((h.set i (byteOf x)).map u8v).toArray t := by
  have h2 := hb.set i (.int .u8 x)
  have e : ((h.map u8v).toArray.setIfInBounds i (.int .u8 x)) = ((h.set i (byteOf x)).map u8v).toArray := by
    rw [List.map_set, u8v_byteOf' h0 h1]
    simp
  rwa [e] at h2
theorem byte_xor (x y : Int) : 0 ≤ bits .xor .u8 x y ∧ bits .xor .u8 x y < 256 := ⟨bits_lo_u8 .., Int.lt_of_le_of_lt (bits_hi_u8 ..) (by decide)⟩
end Go.Pm
namespace Go.Proofs.Ytkogkcaflhjlhaa
open Go.RowKit Go.Pm
namespace Pr
set_option maxRecDepth 100000 in
set_option maxHeartbeats 1000000 in
/-- index, at an item: up to the copy. -/
theorem index_item (b o n cap k : Nat) (x : It) (RA : Array Value) (w : World) (hb : b < w.heap.size) (rI : w.rangeAt b (o + (k / 4 % n) * 64) (x.i.map u8v)) (hx : x.i.length = 32) (hn : 0 < n) (_g1 : n ≤ cap) (_g2' : cap ≤ 9223372036854775807) (hk : k < 65536) (hm : k % 4 ≠ 0) :
    Calls Try.prog 21 #[.slice (some ⟨b, o, none⟩) n cap, .int .u16 k, .agg RA] w fun e w' => ∃ h, h.length = 32 ∧ e = .returned (hashV h) ∧ Kept None w w' := by
  obtain ⟨m, hm'⟩ : ∃ m, m = k % 4 := ⟨_, rfl⟩
  obtain ⟨q, hq'⟩ : ∃ q, q = k / 4 := ⟨_, rfl⟩
  rw [← hq'] at rI
  obtain ⟨j, hj'⟩ : ∃ j, j = q % n := ⟨_, rfl⟩
  rw [← hj'] at rI
  have hm3 : m = 1 ∨ m = 2 ∨ m = 3 := by omega
  have hmz : ((m : Int) == 0) = false := by rw [beq_eq_false_iff_ne]; omega
  have hnn : ((n : Int) == 0) = false := by rw [beq_eq_false_iff_ne]; omega
  have hk4 : (k : Int) % 4 = (m : Int) := by omega
  have hq : (k : Int) / 4 = (q : Int) := by omega
  have hqb : q < 16384 := by omega
  have hjn : j < n := by rw [hj']; exact Nat.mod_lt _ hn
  have hr4 : (q : Int) % (n : Int) = (j : Int) := by rw [hj']; rfl
  have HI := hid (And.intro hb (And.intro rI hx))
  have HM := hid (And.intro hm' (And.intro hm3 hm))
  clear hb rI hx hm' hm3 hm hq' hj'
  go_enter Try.func21, Try.ntmps21
  go_wp2_with (first | go_skip | (refine wpList_load_at rfl _ _ rfl rfl (cs := x.i.map u8v) (fun t c hc => (Kept.cell (((Kept.refl None w).alloc _).alloc _) HI.out.1 (fun h => h)).trans (HI.out.2.1 t c hc)) (aH32' HI.out.2.2) ?_; refine wpList_nm ?_; intro w1 e1; have K1 : Kept None w w1 := (by rw [e1]; exact ((Kept.refl None w).alloc _).alloc _); have Z1 : Blk w1 (w.heap.size + 1) #[.int .u8 0, .int .u8 0, .int .u8 0, .int .u8 0, .int .u8 0, .int .u8 0, .int .u8 0, .int .u8 0, .int .u8 0, .int .u8 0, .int .u8 0, .int .u8 0, .int .u8 0, .int .u8 0, .int .u8 0, .int .u8 0, .int .u8 0, .int .u8 0, .int .u8 0, .int .u8 0, .int .u8 0, .int .u8 0, .int .u8 0, .int .u8 0, .int .u8 0, .int .u8 0, .int .u8 0, .int .u8 0, .int .u8 0, .int .u8 0, .int .u8 0, .int .u8 0] 25 := (by rw [e1]; exact Blk.new2 w _ _ _); have hZ0 := hid (Z1.lt); clear e1; obtain ⟨z, hz, hZ⟩ := Blk.any (n := 32) Z1 rfl; clear Z1) | (refine wpList_store_blk rfl _ _ _ rfl rfl rfl (Blk.new w1 _ _) (aH32 HI.out.2.2) (show (32 : Nat) = (x.i.map u8v).toArray.size by simp [HI.out.2.2]) (u8v_all' _) ?_; intro w3 h3 k3; have K3 := K1.trans k3.fresh; have Z3 := hZ.kept k3.fresh (fun h => h); clear hZ k3; refine Stop.mk ?_) | fail)
  unfold Stop
  have hne : w1.heap.size ≠ w.heap.size + 1 := by have := K1.size; have := hZ0.out; omega
  have hn1 : w.heap.size ≤ w1.heap.size := K1.size
  have hn2 : w.heap.size ≤ w.heap.size + 1 := by omega
  obtain ⟨g, hg⟩ : ∃ g, g = w1.heap.size := ⟨_, rfl⟩
  rw [← hg] at h3 hne hn1 ⊢
  have Z3 := hid Z3
  have K3 := hid K3
  have X32 := HI.out.2.2
  clear K1 hg HI hr4 hjn hqb hq
  obtain ⟨-, hm3, -⟩ := HM.out
  rcases hm3 with rfl | rfl | rfl
  · have c31 := h3.cell 31
    have f31 := h3.free 31
    rw [List.getElem?_toArray, List.getElem?_map, List.getElem?_eq_getElem (show 31 < x.i.length by rw [X32]; decide), Option.map_some, u8v_at] at c31
    have hk4' : (k : Int) % 4 = 1 := hk4
    clear hk4 hmz
    have h9 := h3.setByte 31 (bits .xor .u8 (bAt x.i 31) 1) (byte_xor _ _).1 (byte_xor _ _).2
    have Z9 := Z3.out.setOther (a := ⟨g, 31, none⟩) (Ne.symm hne) (.int .u8 (bits .xor .u8 (bAt x.i 31) 1))
    have hx9 : (x.i.set 31 (Go.Pm.byteOf (bits .xor .u8 (bAt x.i 31) 1))).length = 32 := by simpa using X32
    have K9 := K3.out.setNew hn1 31 (.int .u8 (bits .xor .u8 (bAt x.i 31) 1))
    have E9 := hid (And.intro h9 (And.intro Z9 K9))
    clear h9 Z9 K9
    go_wp2_with (first | go_skip | (refine wpList_load_blk rfl _ _ rfl rfl E9.out.1 (aH32 hx9) ?_) | (refine wpList_store_blk rfl _ _ _ rfl rfl rfl E9.out.2.1 (aH32 hx9) (by rw [hz]; simp [X32]) (u8v_all' _) ?_; intro w5 h5 k5) | fail)
    exact bodyPost_ret (v := .agg _) (results_blk rfl _ rfl h5 (aH32 hx9)) rfl ⟨_, hx9, rfl, E9.out.2.2.then k5 (fun i hi (h : i = w.heap.size + 1) => by omega)⟩
  · obtain ⟨p, hp'⟩ : ∃ p, p = k / 64 % 3 := ⟨_, rfl⟩
    obtain ⟨r, hr'⟩ : ∃ r, r = k / 64 := ⟨_, rfl⟩
    rw [← hr'] at hp'
    have hp3 : p < 3 := by rw [hp']; exact Nat.mod_lt _ (by decide)
    have c31 := h3.cell p
    have f31 := h3.free p
    rw [List.getElem?_toArray, List.getElem?_map, List.getElem?_eq_getElem (show p < x.i.length by rw [X32]; omega), Option.map_some, u8v_at] at c31
    have hk4' : (k : Int) % 4 = 2 := hk4
    have hr : (k : Int) / 64 = (r : Int) := by omega
    have hrb : r < 1024 := by omega
    have hp : (r : Int) % 3 = (p : Int) := by omega
    obtain ⟨t, ht'⟩ : ∃ t, t = k / 16 % 8 := ⟨_, rfl⟩
    have ht : (k : Int) / 16 % 8 = (t : Int) := by omega
    have ht8 : t < 8 := by omega
    clear hk4 hmz hp' hr' ht'
    have hwr : ∀ y : Int, Blk (w3.setCell ⟨g, p, none⟩ (.int .u8 (bits .xor .u8 (bAt x.i p) y))) g ((x.i.set p (Go.Pm.byteOf (bits .xor .u8 (bAt x.i p) y))).map u8v).toArray 25 ∧ Blk (w3.setCell ⟨g, p, none⟩ (.int .u8 (bits .xor .u8 (bAt x.i p) y))) (w.heap.size + 1) z 25 ∧ Kept None w (w3.setCell ⟨g, p, none⟩ (.int .u8 (bits .xor .u8 (bAt x.i p) y))) ∧ (x.i.set p (Go.Pm.byteOf (bits .xor .u8 (bAt x.i p) y))).length = 32 := fun y => ⟨h3.setByte p _ (byte_xor _ _).1 (byte_xor _ _).2, Z3.out.setOther (a := ⟨g, p, none⟩) (Ne.symm hne) _, K3.out.setNew hn1 p _, by simpa using X32⟩
    have E9 := hid hwr
    clear hwr
    go_wp2_with (first | go_skip | (refine wpList_load_blk rfl _ _ rfl rfl (E9.out _).1 (aH32 (E9.out _).2.2.2) ?_) | (refine wpList_store_blk rfl _ _ _ rfl rfl rfl (E9.out _).2.1 (aH32 (E9.out _).2.2.2) (by rw [hz]; simp [X32]) (u8v_all' _) ?_; intro w5 h5 k5) | fail)
    exact bodyPost_ret (v := .agg _) (results_blk rfl _ rfl h5 (aH32 (E9.out _).2.2.2)) rfl ⟨_, (E9.out _).2.2.2, rfl, (E9.out _).2.2.1.then k5 (fun i hi (h : i = w.heap.size + 1) => by omega)⟩
  · have hk4' : (k : Int) % 4 = 3 := hk4
    clear hk4 hmz
    go_wp2_with (first | go_skip | (refine wpList_load_blk rfl _ _ rfl rfl h3 (aH32 X32) ?_) | (refine wpList_store_blk rfl _ _ _ rfl rfl rfl Z3.out (aH32 X32) (by rw [hz]; simp [X32]) (u8v_all' _) ?_; intro w5 h5 k5) | fail)
    exact bodyPost_ret (v := .agg _) (results_blk rfl _ rfl h5 (aH32 X32)) rfl ⟨_, X32, rfl, K3.out.then k5 (fun i hi (h : i = w.heap.size + 1) => by omega)⟩
set_option maxRecDepth 100000 in
set_option maxHeartbeats 1000000 in
/-- index, the hash as it is. -/
theorem index_raw (a : Option Addr) (n cap k : Nat) (raw : List UInt8) (w : World) (_g1 : n ≤ cap) (_g2' : cap ≤ 9223372036854775807) (hk : k < 65536) (hr : raw.length = 32) (h0 : n = 0 ∨ k % 4 = 0) :
    Calls Try.prog 21 #[.slice a n cap, .int .u16 k, .agg (raw.map u8v).toArray] w fun e w' => ∃ h, h.length = 32 ∧ e = .returned (hashV h) ∧ Kept None w w' := by
  have aR := aH32 hr
  obtain ⟨RA, hRA⟩ : ∃ R : Array Value, R = (raw.map u8v).toArray := ⟨_, rfl⟩
  rw [← hRA] at aR ⊢
  have sR : 32 = RA.size := by rw [hRA]; simp [hr]
  have allR : RA.all (·.oneCell') = true := by rw [hRA]; exact u8v_all' _
  have HRA := hid (And.intro hRA (And.intro hr (And.intro allR sR)))
  clear hRA hr allR sR
  rcases Nat.eq_zero_or_pos n with hn | hn
  · have hz0 : ((n : Int) == 0) = true := by rw [beq_iff_eq]; omega
    clear h0 hn
    go_enter Try.func21, Try.ntmps21
    go_wp2_with (first | go_skip | (refine wpList_load_blk rfl _ _ rfl rfl ((Blk.new w _ _).alloc _) aR ?_) | (refine wpList_store_blk rfl _ _ _ rfl rfl rfl (Blk.new2 w _ _ _) aR HRA.out.2.2.2 HRA.out.2.2.1 ?_; intro w9 hR9 k9) | fail)
    exact bodyPost_ret (v := .agg RA) (results_blk rfl _ rfl hR9 aR) rfl ⟨raw, HRA.out.2.1, by rw [HRA.out.1], (((Kept.refl None w).alloc _).alloc _).then k9 (fun i hi (h : i = w.heap.size + 1) => by omega)⟩
  · have hz0 : ((n : Int) == 0) = false := by rw [beq_eq_false_iff_ne]; omega
    have hk4 : (k : Int) % 4 = 0 := by omega
    clear h0
    go_enter Try.func21, Try.ntmps21
    go_wp2_with (first | go_skip | (refine wpList_load_blk rfl _ _ rfl rfl ((Blk.new w _ _).alloc _) aR ?_) | (refine wpList_store_blk rfl _ _ _ rfl rfl rfl (Blk.new2 w _ _ _) aR HRA.out.2.2.2 HRA.out.2.2.1 ?_; intro w9 hR9 k9) | fail)
    exact bodyPost_ret (v := .agg RA) (results_blk rfl _ rfl hR9 aR) rfl ⟨raw, HRA.out.2.1, by rw [HRA.out.1], (((Kept.refl None w).alloc _).alloc _).then k9 (fun i hi (h : i = w.heap.size + 1) => by omega)⟩
/-- index. -/
theorem index (v : Value) (lo hi : Nat) (l : List It) (k : Nat) (raw : List UInt8) (w : World) (hv : Its w lo hi v l) (hk : k < 65536) (hr : raw.length = 32) :
    Calls Try.prog 21 #[v, .int .u16 k, hashV raw] w fun e w' => ∃ h, h.length = 32 ∧ e = .returned (hashV h) ∧ Kept None w w' := by
  obtain ⟨a, cap, rfl, g1, g2, g3⟩ := hv.form
  have g2' : cap ≤ 9223372036854775807 := g2
  by_cases h0 : l.length = 0 ∨ k % 4 = 0
  · exact index_raw a l.length cap k raw w g1 g2' hk hr h0
  · obtain ⟨b, o, rfl, _, _, hb, hc⟩ := hv.ne (by omega)
    have hjl : k / 4 % l.length < l.length := Nat.mod_lt _ (by omega)
    have hx32 := hv.1 l[k / 4 % l.length] (List.getElem_mem hjl)
    have rI := rangeAt_take (hc (k / 4 % l.length) l[k / 4 % l.length] (List.getElem?_eq_getElem hjl)) 32
    rw [show (itC l[k / 4 % l.length]).take 32 = l[k / 4 % l.length].i.map u8v from List.take_left' (by simp [hx32.1])] at rI
    exact index_item b o l.length cap k l[k / 4 % l.length] (raw.map u8v).toArray w hb rI hx32.1 (by omega) g1 g2' hk (by omega)
end Pr
end Go.Proofs.Ytkogkcaflhjlhaa

namespace Go.Pm
open Go Go.RowKit
theorem alike_more (a b : List UInt8) (k : Nat) : alikeB a b (k + 1) = (alikeB a b k && decide (bitI a k = bitI b k)) := by
  unfold alikeB
  rw [Bool.eq_iff_iff]
  simp only [decide_eq_true_eq, Bool.and_eq_true]
  constructor
  · intro h
    exact ⟨fun j hj => h j (by omega), h k (by omega)⟩
  · rintro ⟨h1, h2⟩ j hj
    by_cases e : j = k
    · rw [e]; exact h2
    · exact h1 j (by omega)
theorem alike_no (a b : List UInt8) (k n : Nat) (hk : k < n) (h : bitI a k ≠ bitI b k) : alikeB a b n = false := by
  unfold alikeB
  rw [decide_eq_false_iff_not]
  exact fun h2 => h (h2 k hk)
end Go.Pm
namespace Go.Proofs.Ytkogkcaflhjlhaa
open Go.RowKit Go.Pm
namespace RPr
set_option maxRecDepth 100000 in
set_option maxHeartbeats 2000000 in
/-- ProofRight. -/
theorem right (i : List UInt8) (s : Value) (p : Pf) (w : World) (hi : i.length = 32) (hp : p.Ok) (hs : Rh 0 w s p.path) : Calls Try.prog 30 #[hashV i, pfV s p] w fun e w' => e = .returned (.bool (rightP i p)) ∧ Kept None w w' := by
  obtain ⟨q0, hv⟩ := hs
  obtain ⟨a, c, rfl, g1, g2, g3⟩ := hv.form
  obtain ⟨n, hn⟩ : ∃ n, n = p.path.length := ⟨_, rfl⟩
  rw [← hn] at g1
  rw [show pfV (.slice a p.path.length c) p = .agg (pfC (.slice a n c) p).toArray by rw [hn]]
  obtain ⟨X, hX⟩ : ∃ X, X = (pfC (.slice a n c) p).toArray := ⟨_, rfl⟩
  obtain ⟨L, hL⟩ : ∃ L : Array Value, L = (i.map u8v).toArray := ⟨_, rfl⟩
  obtain ⟨CI, hCI⟩ : ∃ CI : List Value, CI = p.x.i.map u8v := ⟨_, rfl⟩
  obtain ⟨CX, hCX⟩ : ∃ CX : List Value, CX = itC p.x := ⟨_, rfl⟩
  obtain ⟨bI, hbI⟩ : ∃ b, b = (p.x.i == i) := ⟨_, rfl⟩
  obtain ⟨bX, hbX⟩ : ∃ b, b = itEq p.x zeroIt := ⟨_, rfl⟩
  obtain ⟨bA, hbA⟩ : ∃ b, b = alikeB p.x.i i n := ⟨_, rfl⟩
  have E1 := Tr.eqHash p.x.i i hp.2.1 hi
  have E3 := Pr.eqItem p.x zeroIt hp.2 ⟨rfl, rfl⟩
  have aL := Pr.aH32 hi
  have aI := Pr.aH32' hp.2.1
  have aX := Pr.aI64' hp.2
  have hres : rightP i p = (decide (n ≤ 256) && (if p.e = 0 then bI else if p.e = 1 then bX else if p.e = 2 then !bI && bA else false)) := by
    unfold rightP
    rw [hbI, hbX, hbA, itEq_is, hn]
  rw [Pr.zero_item] at E3
  show Calls Try.prog 30 #[.agg (i.map u8v).toArray, .agg (pfC (.slice a n c) p).toArray] w _
  have f1 : ∀ (j : Nat) W, j < 256 → Calls Try.prog 54 #[.agg (p.x.i.map u8v).toArray, .int .i64 j] W fun e w' => e = .returned (.int .i64 (bitI p.x.i j : Nat)) ∧ Kept None W w' := fun j W hj => RTr.bit p.x.i hp.2.1 j hj W
  have f2 : ∀ (j : Nat) W, j < 256 → Calls Try.prog 54 #[.agg (i.map u8v).toArray, .int .i64 j] W fun e w' => e = .returned (.int .i64 (bitI i j : Nat)) ∧ Kept None W w' := fun j W hj => RTr.bit i hi j hj W
  have k0 : Kept None w ((w.alloc (.cells L 25)).alloc (.cells X 45)) := ((Kept.refl _ _).alloc _).alloc _
  have bL : Blk ((w.alloc (.cells L 25)).alloc (.cells X 45)) w.heap.size L 25 := (Blk.new w _ _).alloc _
  have b0 : Blk ((w.alloc (.cells L 25)).alloc (.cells X 45)) (w.heap.size + 1) X 45 := Blk.new2 w _ _ _
  have rI : World.rangeAt ((w.alloc (.cells L 25)).alloc (.cells X 45)) (w.heap.size + 1) 2 CI := hCI ▸ pf_ri (hX ▸ b0 : Blk ((w.alloc (.cells L 25)).alloc (.cells X 45)) (w.heap.size + 1) (pfC (.slice a n c) p).toArray 45) hp
  have rX : World.rangeAt ((w.alloc (.cells L 25)).alloc (.cells X 45)) (w.heap.size + 1) 2 CX := hCX ▸ pf_rx (hX ▸ b0 : Blk ((w.alloc (.cells L 25)).alloc (.cells X 45)) (w.heap.size + 1) (pfC (.slice a n c) p).toArray 45)
  rw [← hL, ← hCI, ← hbI] at E1
  rw [← hCX, ← hbX] at E3
  rw [← hCI] at f1
  rw [← hL] at f2
  rw [← hL, ← hX]
  rw [← hL] at aL
  rw [← hCI] at aI
  rw [← hCX] at aX
  have hc0 : X[0]? = some (.slice a n c) := by rw [hX]; rfl
  have hc1 : X[1]? = some (.int .i64 p.e) := by rw [hX]; rfl
  obtain ⟨r, hr⟩ : ∃ r, r = rightP i p := ⟨_, rfl⟩
  rw [hres] at hr
  rw [hres, ← hr]
  have HR := hid hr
  have HA := hid hbA
  have FB := hid (And.intro f1 f2)
  have B0 := hid (And.intro b0 hc0)
  clear hX hL hCI hCX hbI hbX hbA hres hr b0 hv hn g3 f1 f2
  by_cases h256 : n ≤ 256
  · have hle : ¬ (256 : Int) < (n : Int) := by omega
    by_cases h0 : p.e = 0
    · rw [h0] at hc1
      clear E3 rX aX
      go_enter Try.func30, Try.ntmps30
      go_wp2_with (first | (refine wpList_load_at rfl _ _ rfl rfl rI aI ?_) | (refine wpList_load_blk rfl _ _ rfl rfl bL aL ?_) | fail)
      go_ret
      exact ⟨by rw [HR.out, decide_eq_true h256, if_pos h0]; rfl, k0⟩
    by_cases h1 : p.e = 1
    · rw [h1] at hc1
      clear E1
      go_enter Try.func30, Try.ntmps30
      go_wp2_with (first | (refine wpList_load_at rfl _ _ rfl rfl rX aX ?_) | fail)
      go_ret
      exact ⟨by rw [HR.out, decide_eq_true h256, if_neg h0, if_pos h1]; rfl, k0⟩
    by_cases h2 : p.e = 2
    · rw [h2] at hc1
      clear E3 rX aX
      cases bI with
      | true =>
        go_enter Try.func30, Try.ntmps30
        go_wp2_with (first | (refine wpList_load_at rfl _ _ rfl rfl rI aI ?_) | (refine wpList_load_blk rfl _ _ rfl rfl bL aL ?_) | fail)
        go_ret
        exact ⟨by rw [HR.out, decide_eq_true h256, if_neg h0, if_neg h1, if_pos h2]; rfl, k0⟩
      | false =>
        have HI := hid rI
        have HBL := hid bL
        obtain ⟨wB, hwB⟩ : ∃ wB, wB = ((w.alloc (.cells L 25)).alloc (.cells X 45)) := ⟨_, rfl⟩
        have HW := hid hwB
        go_enter Try.func30, Try.ntmps30
        go_wp2_with (first | (refine wpList_load_at rfl _ _ rfl rfl rI aI ?_) | (refine wpList_load_blk rfl _ _ rfl rfl bL aL ?_) | fail)
        rw [HW.out] at hwB
        clear hwB
        go_loopg [5] n (fun kx s5 wr => ∃ k : Nat, s5 = .int .i64 k ∧ k ≤ n ∧ n - k ≤ kx ∧ Hid (Kept None ((w.alloc (.cells L 25)).alloc (.cells X 45)) wr) ∧ Hid (alikeB p.x.i i k = true))
        case atStart => exact ⟨0, rfl, Nat.zero_le _, Nat.le_refl _, Kept.refl _ _, hid (by unfold alikeB; rw [decide_eq_true_eq]; exact fun k hk => by omega)⟩
        case round =>
          obtain ⟨k, rfl, hk, hkx, HK, HT⟩ := hrel
          have cX : wr.cell? ⟨w.heap.size + 1, 0, none⟩ = some (.slice a n c) := by
            rw [(B0.out.1.kept HK.out (fun h => h)).cell]
            exact B0.out.2
          obtain ⟨wo, rfl⟩ : ∃ wo : World, wo = wr := ⟨_, rfl⟩
          by_cases hlt : k < n
          · have hz : (k : Int) < (n : Int) := by omega
            have hk256 : k < 256 := by omega
            have HK256 := hid hk256
            obtain ⟨b1, hb1⟩ : ∃ b, b = bitI p.x.i k := ⟨_, rfl⟩
            obtain ⟨b2, hb2⟩ : ∃ b, b = bitI i k := ⟨_, rfl⟩
            have F1 := hid (fun W => FB.out.1 k W hk256)
            have F2 := hid (fun W => FB.out.2 k W hk256)
            rw [← hb1] at F1
            rw [← hb2] at F2
            have HB := hid (And.intro hb1 hb2)
            have RI := hid (rangeAt_kept HI.out HK.out)
            have BL := hid (HBL.out.kept HK.out (fun h => h))
            clear hb1 hb2 hk256
            by_cases hbb : b1 = b2
            · subst hbb
              go_wp2_with fail
              have hs : Steady [.val 4 (.int .i64 (b1 : Nat)), .val 7 (.int .i64 (b1 : Nat))] := Go.Pm.Steady.val (Go.Pm.Steady.val (Go.Pm.Steady.nil))
              refine wp_region_kn wo _ hs (Kept.refl _ _) (by kernel_rfl) (by kernel_rfl) (by kernel_rfl) ?_
              iterate 2 (refine wpPar_pure rfl (by rfl) _ (fun W hW => by
                  go_simp
                  exact rfl) ?_; simp only [Act.put, List.setIfInBounds_toArray, List.set_cons_zero, List.set_cons_succ])
              refine wpPar_pure rfl (by rfl) _ (fun W hW => by first | exact exec_load_at rfl rfl (rangeAt_kept RI.out hW) aI | exact exec_load_blk _ _ rfl rfl (BL.out.kept hW (fun h => h)) aL | (go_simp; exact rfl)) ?_; simp only [Act.put, List.setIfInBounds_toArray, List.set_cons_zero, List.set_cons_succ]
              iterate 1 (refine wpPar_pure rfl (by rfl) _ (fun W hW => by
                  go_simp
                  exact rfl) ?_; simp only [Act.put, List.setIfInBounds_toArray, List.set_cons_zero, List.set_cons_succ])
              refine wpKn_adds hs rfl (by rfl) (fun W hW hd => ?_) (fun v4 hv => ?_)
              · unfold Gives
                go_simp
                refine gives_call (F1.out W) ?_
                rintro e w3 ⟨rfl, k3⟩
                exact ⟨_, rfl, k3, rfl, trivial⟩
              obtain rfl : v4 = .int .i64 (b1 : Nat) := hv
              simp only [Act.put, List.setIfInBounds_toArray, List.set_cons_zero, List.set_cons_succ]
              refine wpPar_pure rfl (by rfl) _ (fun W hW => by first | exact exec_load_at rfl rfl (rangeAt_kept RI.out hW) aI | exact exec_load_blk _ _ rfl rfl (BL.out.kept hW (fun h => h)) aL | (go_simp; exact rfl)) ?_; simp only [Act.put, List.setIfInBounds_toArray, List.set_cons_zero, List.set_cons_succ]
              iterate 1 (refine wpPar_pure rfl (by rfl) _ (fun W hW => by
                  go_simp
                  exact rfl) ?_; simp only [Act.put, List.setIfInBounds_toArray, List.set_cons_zero, List.set_cons_succ])
              refine wpKn_adds hs rfl (by rfl) (fun W hW hd => ?_) (fun v7 hv => ?_)
              · unfold Gives
                go_simp
                refine gives_call (F2.out W) ?_
                rintro e w3 ⟨rfl, k3⟩
                exact ⟨_, rfl, k3, rfl, trivial⟩
              obtain rfl : v7 = .int .i64 (b1 : Nat) := hv
              simp only [Act.put, List.setIfInBounds_toArray, List.set_cons_zero, List.set_cons_succ]
              iterate 1 (refine wpPar_pure rfl (by rfl) _ (fun W hW => by
                  go_simp
                  exact rfl) ?_; simp only [Act.put, List.setIfInBounds_toArray, List.set_cons_zero, List.set_cons_succ])
              refine wpPar_nil (fun w6 hW hG => ?_)
              have HW6 := hid (HK.out.trans hW)
              have HT2 : Hid (alikeB p.x.i i (k + 1) = true) := hid (by rw [alike_more, HT.out, ← HB.out.1, ← HB.out.2]; simp)
              clear hG hs hW HK cX
              go_wp2
              go_roundg (n - (k + 1))
              case measure => omega
              case rel => exact ⟨k + 1, by go_num, by omega, Nat.le_refl _, HW6, HT2⟩
            · have hnz : ((b1 : Int) != (b2 : Int)) = true := by rw [bne_iff_ne]; omega
              have hnz2 : ((b1 : Int) == (b2 : Int)) = false := by rw [beq_eq_false_iff_ne]; omega
              have HBB := hid hbb
              clear hbb
              go_wp2_with fail
              have hs : Steady [.val 4 (.int .i64 (b1 : Nat)), .val 7 (.int .i64 (b2 : Nat))] := Go.Pm.Steady.val (Go.Pm.Steady.val (Go.Pm.Steady.nil))
              refine wp_region_kn wo _ hs (Kept.refl _ _) (by kernel_rfl) (by kernel_rfl) (by kernel_rfl) ?_
              iterate 2 (refine wpPar_pure rfl (by rfl) _ (fun W hW => by
                  go_simp
                  exact rfl) ?_; simp only [Act.put, List.setIfInBounds_toArray, List.set_cons_zero, List.set_cons_succ])
              refine wpPar_pure rfl (by rfl) _ (fun W hW => by first | exact exec_load_at rfl rfl (rangeAt_kept RI.out hW) aI | exact exec_load_blk _ _ rfl rfl (BL.out.kept hW (fun h => h)) aL | (go_simp; exact rfl)) ?_; simp only [Act.put, List.setIfInBounds_toArray, List.set_cons_zero, List.set_cons_succ]
              iterate 1 (refine wpPar_pure rfl (by rfl) _ (fun W hW => by
                  go_simp
                  exact rfl) ?_; simp only [Act.put, List.setIfInBounds_toArray, List.set_cons_zero, List.set_cons_succ])
              refine wpKn_adds hs rfl (by rfl) (fun W hW hd => ?_) (fun v4 hv => ?_)
              · unfold Gives
                go_simp
                refine gives_call (F1.out W) ?_
                rintro e w3 ⟨rfl, k3⟩
                exact ⟨_, rfl, k3, rfl, trivial⟩
              obtain rfl : v4 = .int .i64 (b1 : Nat) := hv
              simp only [Act.put, List.setIfInBounds_toArray, List.set_cons_zero, List.set_cons_succ]
              refine wpPar_pure rfl (by rfl) _ (fun W hW => by first | exact exec_load_at rfl rfl (rangeAt_kept RI.out hW) aI | exact exec_load_blk _ _ rfl rfl (BL.out.kept hW (fun h => h)) aL | (go_simp; exact rfl)) ?_; simp only [Act.put, List.setIfInBounds_toArray, List.set_cons_zero, List.set_cons_succ]
              iterate 1 (refine wpPar_pure rfl (by rfl) _ (fun W hW => by
                  go_simp
                  exact rfl) ?_; simp only [Act.put, List.setIfInBounds_toArray, List.set_cons_zero, List.set_cons_succ])
              refine wpKn_adds hs rfl (by rfl) (fun W hW hd => ?_) (fun v7 hv => ?_)
              · unfold Gives
                go_simp
                refine gives_call (F2.out W) ?_
                rintro e w3 ⟨rfl, k3⟩
                exact ⟨_, rfl, k3, rfl, trivial⟩
              obtain rfl : v7 = .int .i64 (b2 : Nat) := hv
              simp only [Act.put, List.setIfInBounds_toArray, List.set_cons_zero, List.set_cons_succ]
              iterate 1 (refine wpPar_pure rfl (by rfl) _ (fun W hW => by
                  go_simp
                  exact rfl) ?_; simp only [Act.put, List.setIfInBounds_toArray, List.set_cons_zero, List.set_cons_succ])
              refine wpPar_nil (fun w6 hW hG => ?_)
              have HW6 := hid (HK.out.trans hW)
              clear hG hs hW HK cX
              go_wp2
              go_ret
              exact ⟨by rw [HR.out, decide_eq_true h256, if_neg h0, if_neg h1, if_pos h2, HA.out, alike_no p.x.i i k n hlt (by rw [← HB.out.1, ← HB.out.2]; exact HBB.out)]; rfl, k0.trans HW6.out⟩
          · have hz : ¬ (k : Int) < (n : Int) := by omega
            obtain rfl : k = n := by omega
            go_wp2
            go_ret
            exact ⟨by rw [HR.out, decide_eq_true h256, if_neg h0, if_neg h1, if_pos h2, HA.out, HT.out]; rfl, k0.trans HK.out⟩
    · have n0 : (p.e == 0) = false := by simpa using h0
      have n1 : (p.e == 1) = false := by simpa using h1
      have n2 : (p.e == 2) = false := by simpa using h2
      go_enter Try.func30, Try.ntmps30
      go_wp2
      go_ret
      exact ⟨by rw [HR.out, decide_eq_true h256, if_neg h0, if_neg h1, if_neg h2]; rfl, k0⟩
  · have hle : (256 : Int) < (n : Int) := by omega
    go_enter Try.func30, Try.ntmps30
    go_wp2
    go_ret
    exact ⟨by rw [HR.out, decide_eq_false h256]; rfl, k0⟩
end RPr
end Go.Proofs.Ytkogkcaflhjlhaa

namespace Go.Pm
open Go Go.RowKit
/-- It has nothing in block g. -/
def Off (g a b : Nat) : Prop := g < a ∨ b ≤ g
/-- A slice of lists of bytes, in blocks from lo on, that has nothing in block g. -/
def RlX (g lo : Nat) (w : World) (v : Value) (ls : List (List UInt8)) : Prop :=
  ∃ (xs : List Value) (a b : Nat), lo ≤ a ∧ Off g a b ∧ Vs w a b v xs ∧ xs.length = ls.length ∧ ∀ (i : Nat) (x : Value) (l : List UInt8), xs[i]? = some x → ls[i]? = some l → ∃ c d, lo ≤ c ∧ Off g c d ∧ Bs w c d x l
theorem RlX.kept {S : Nat → Prop} {g lo : Nat} {w w' : World} {v : Value} {ls : List (List UInt8)} (h : RlX g lo w v ls) (hk : Kept S w w') (hs : ∀ k, S k → k = g) : RlX g lo w' v ls := by
  obtain ⟨xs, a, b, h1, h2, h3, h4, h5⟩ := h
  refine ⟨xs, a, b, h1, h2, h3.kept hk (fun k q1 q2 q => by have := hs k q; unfold Off at h2; omega), h4, fun i x l e1 e2 => ?_⟩
  obtain ⟨c, d, q1, q2, q3⟩ := h5 i x l e1 e2
  exact ⟨c, d, q1, q2, q3.kept hk (fun k p1 p2 q => by have := hs k q; unfold Off at q2; omega)⟩
theorem RlX.rl {g lo : Nat} {w : World} {v : Value} {ls : List (List UInt8)} (h : RlX g lo w v ls) : Rl lo w v ls := by
  obtain ⟨xs, a, b, h1, h2, h3, h4, h5⟩ := h
  refine Rl.of (h3.wider h1 (Nat.le_refl _)) h4 (fun i x l e1 e2 => ?_)
  obtain ⟨c, d, q1, q2, q3⟩ := h5 i x l e1 e2
  exact ⟨d, Vs.wider q3 q1 (Nat.le_refl _)⟩
theorem RlX.form {g lo : Nat} {w : World} {v : Value} {ls : List (List UInt8)} (h : RlX g lo w v ls) : ∃ a c, v = .slice a ls.length c := h.rl.form
theorem Rl.off {lo : Nat} {w : World} {v : Value} {ls : List (List UInt8)} (h : Rl lo w v ls) : RlX w.heap.size lo w v ls := by
  obtain ⟨hi, xs, hv, hl, hx⟩ := h
  exact ⟨xs, lo, min hi w.heap.size, Nat.le_refl _, .inr (Nat.min_le_right _ _), hv.lt, hl, fun i x l e1 e2 => ⟨lo, w.heap.size, Nat.le_refl _, .inr (Nat.le_refl _), hx i x l e1 e2⟩⟩
theorem Rb.off {lo g : Nat} {w : World} {v : Value} {l : List UInt8} (h : Rb lo w v l) (hg : g < lo) : ∃ c d, lo ≤ c ∧ Off g c d ∧ Bs w c d v l := by
  obtain ⟨hi, h⟩ := h
  exact ⟨lo, hi, Nat.le_refl _, .inl hg, h⟩
theorem run_append_rlx {P : Program} {w : World} {t ty e : TypeId} {z : Value} {bytes : Nat} (hT : RowTyK P t e z 1 bytes) (hb : bytes ≤ 128) {g lo gy : Nat} (hg : g < gy) (hlo : lo ≤ gy) {y : Value} {e' : TypeId} (hv : Blk w gy #[y] e') {l : List UInt8} (hy : ∃ c d, lo ≤ c ∧ Off g c d ∧ Bs w c d y l) {u : Value} {ls : List (List UInt8)} (hu : RlX g lo w u ls) (hl : ls.length ≤ 1000000) :
    ∃ a c w', (Builtin.append_ #[t, t] ty #[.slice (some ⟨gy, 0, none⟩) 1 1, u]).run P w = .ok (.slice a (l :: ls).length c) w' ∧ RlX g lo w' (.slice a (l :: ls).length c) (l :: ls) ∧ Kept None w w' := by
  obtain ⟨xs, a0, b0, h1, h2, h3, h4, h5⟩ := hu
  have hf := h3.fs
  rw [h4] at hf
  obtain ⟨a, c, w', hr, ⟨hi1, q⟩, k⟩ := run_append_full (ty := ty) hT hv (n := 1) rfl (by decide) hf (by omega) hb
  have e1 : (l :: ls).length = 1 + ls.length := by rw [List.length_cons]; omega
  refine ⟨a, c, w', by rw [e1]; exact hr, ?_, k⟩
  rw [e1]
  refine ⟨_, gy, hi1, hlo, .inl hg, q.vs, by simp [h4], fun i x m hxi hmi => ?_⟩
  cases i with
  | zero =>
    simp at hxi hmi
    subst hxi hmi
    obtain ⟨c1, d1, p1, p2, p3⟩ := hy
    exact ⟨c1, d1, p1, p2, p3.kept k (fun _ _ _ h => h)⟩
  | succ i =>
    have h6 : xs[i]? = some x := by simpa using hxi
    have h7 : ls[i]? = some m := by simpa using hmi
    obtain ⟨c1, d1, p1, p2, p3⟩ := h5 i x m h6 h7
    exact ⟨c1, d1, p1, p2, p3.kept k (fun _ _ _ h => h)⟩
theorem wpList_append_rlx {P : Program} {ops : Array Oper} {rest : List Oper} {o : Oper} {a : Act} {w : World} {Q : Exit → Act → World → Prop} (hgd : o.guard = none) (s x : Operand) (t : TypeId)
    (ho : o.op = .call { callee := .builtin .append, args := #[s, x], argTypes := #[t, t] }) {e : TypeId} {z : Value} {bytes : Nat} (hT : RowTyK P t e z 1 bytes) (hb : bytes ≤ 128)
    {g lo gy : Nat} (hg : g < gy) (hlo : lo ≤ gy) (hs : a.eval s = .slice (some ⟨gy, 0, none⟩) 1 1) {u : Value} (hx : a.eval x = u) {y : Value} {e' : TypeId} (hv : Blk w gy #[y] e') {l : List UInt8} (hy : ∃ c d, lo ≤ c ∧ Off g c d ∧ Bs w c d y l) {ls : List (List UInt8)} (hu : RlX g lo w u ls) (hl : ls.length ≤ 1000000)
    (h : ∀ a' c' w', RlX g lo w' (.slice a' (l :: ls).length c') (l :: ls) → Kept None w w' → wpList P ops Q rest (a.put o.dst (.slice a' (l :: ls).length c')) w') : wpList P ops Q (o :: rest) a w := by
  obtain ⟨a', c', w', hr, r2, r3⟩ := run_append_rlx (ty := o.type) hT hb hg hlo hv hy hu hl
  exact wpList_append_run hgd s x t ho hs hx hr (h a' c' w' r2 r3)
end Go.Pm
namespace Go.Proofs.Ytkogkcaflhjlhaa
open Go.RowKit Go.Pm
namespace RPr
set_option maxRecDepth 100000 in
set_option maxHeartbeats 4000000 in
/-- texts. -/
theorem texts (i : List UInt8) (s : Value) (p : Pf) (w : World) (hi : i.length = 32) (hp : p.Ok) (hs : Rh 0 w s p.path) (hn256 : p.path.length ≤ 256) : Calls Try.prog 59 #[hashV i, pfV s p] w fun e w' => ∃ u, e = .returned u ∧ Kept None w w' ∧ Rl w.heap.size w' u (textsP i p) := by
  obtain ⟨a, c, rfl⟩ := hs.form
  obtain ⟨n, hn⟩ : ∃ n, n = p.path.length := ⟨_, rfl⟩
  rw [show pfV (.slice a p.path.length c) p = .agg (pfC (.slice a n c) p).toArray by rw [hn]]
  rw [← hn] at hs hn256
  obtain ⟨X, hX⟩ : ∃ X, X = (pfC (.slice a n c) p).toArray := ⟨_, rfl⟩
  obtain ⟨L, hL⟩ : ∃ L : Array Value, L = (i.map u8v).toArray := ⟨_, rfl⟩
  have aL := Pr.aH32 hi
  obtain ⟨hx1, hx2⟩ := hp.2
  have hT0 := fun w => Ref.text 122 (.slice none 0 0) 0 0 0 0 [] w (by decide) (by decide) ⟨[], Vs.nil w 0 0, rfl, fun i x l h _ => by simp at h⟩ (by simp) (by simp [total])
  have hT1 := fun v lo hi lo' hi' w hv => Ref.text 108 v lo hi lo' hi' [p.x.i, p.x.v] w (by decide) (by decide) hv (by simp) (by simp [total]; omega)
  have hBit : ∀ (j : Nat) W, j < 256 → Calls Try.prog 54 #[.agg (i.map u8v).toArray, .int .i64 j] W fun e w' => e = .returned (.int .i64 (bitI i j : Nat)) ∧ Kept None W w' := fun j W hj => RTr.bit i hi j hj W
  show Calls Try.prog 59 #[.agg (i.map u8v).toArray, .agg (pfC (.slice a n c) p).toArray] w _
  rw [← hL] at aL hBit
  rw [← hL, ← hX]
  have k0 : Kept None w ((w.alloc (.cells L 25)).alloc (.cells X 45)) := ((Kept.refl _ _).alloc _).alloc _
  have bL : Blk ((w.alloc (.cells L 25)).alloc (.cells X 45)) w.heap.size L 25 := (Blk.new w _ _).alloc _
  have bX : Blk ((w.alloc (.cells L 25)).alloc (.cells X 45)) (w.heap.size + 1) X 45 := Blk.new2 w _ _ _
  have hc0 : X[0]? = some (.slice a n c) := by rw [hX]; rfl
  have hc1 : X[1]? = some (.int .i64 p.e) := by rw [hX]; rfl
  obtain ⟨ft, hft⟩ : ∃ t, t = footB p := ⟨_, rfl⟩
  have HFT := hid hft
  have HX := hid (And.intro hX (And.intro hx1 (And.intro hx2 (And.intro hc0 hc1))))
  have HT0 := hid hT0
  have HT1 := hid hT1
  have HB := hid hBit
  have HP := hid hp
  have HS := hid hs
  have HNN := hid (And.intro hn hn256)
  have BL0 := hid bL
  have BX0 := hid bX
  clear hX hL hx1 hx2 hT0 hT1 hBit hft hs hn hn256 hp hi bL bX hc0
  go_enter Try.func59, Try.ntmps59
  go_wp2_with fail
  refine Calls.nm ?_
  intro w1 e1
  have K1 : Hid (Kept None w w1) := hid (by rw [e1]; exact k0)
  have BL1 : Hid (Blk w1 w.heap.size L 25) := hid (by rw [e1]; exact BL0.out)
  have BX1 : Hid (Blk w1 (w.heap.size + 1) X 45) := hid (by rw [e1]; exact BX0.out)
  clear e1 k0 BL0 BX0
  refine (HT0.out w1).mono ?_
  rintro e w2 ⟨u2, rfl, k2, b2⟩
  obtain ⟨a2, c2, rfl⟩ := b2.form
  have R2 := hid b2.rb
  have K2 := hid k2
  have cE : w2.cell? ⟨w.heap.size + 1, 1, none⟩ = some (.int .i64 p.e) := by rw [(BX1.out.kept k2 (fun h => h)).cell]; exact HX.out.2.2.2.2
  clear hc1 k2 b2
  go_upto_if 13 with fail
  clear cE
  go_cut [5] (fun s5 wx => ∃ (a5 : Option Addr) (c5 : Nat), s5 = .slice a5 ft.length c5 ∧ Hid (Kept None w1 wx) ∧ Hid (Rb w1.heap.size wx (.slice a5 ft.length c5) ft))
  case first =>
    by_cases he : p.e = 1
    · have hz : (p.e == 1) = true := by rw [he]; rfl
      have hz2 : (p.e != 1) = false := by rw [he]; rfl
      have hf : ft = textB 122 [] := by rw [HFT.out]; unfold footB; rw [if_pos he]
      have HF := hid hf
      have HN2 : Hid ((Value.slice a2 (textB 122 []).length c2) = .slice a2 ft.length c2) := hid (by rw [hf])
      clear hf he
      go_wp2_with fail
      go_meet
      exact ⟨a2, c2, HN2.out, K2, hid (by have h := R2.out; rw [HN2.out, ← HF.out] at h; exact h)⟩
    · have hz : (p.e == 1) = false := by simpa using he
      have hz2 : (p.e != 1) = true := by simpa using he
      have hf : ft = textB 108 [p.x.i, p.x.v] := by rw [HFT.out]; unfold footB; rw [if_neg he]
      have HF := hid hf
      rw [← hf] at HT1
      have hq : ∀ W, Kept None w2 W → Bs W 0 W.heap.size (.slice (some ⟨w.heap.size + 1, 2, none⟩) 32 32) p.x.i ∧ Bs W 0 W.heap.size (.slice (some ⟨w.heap.size + 1, 34, none⟩) 32 32) p.x.v := fun W hW => by
        have hb : Blk W (w.heap.size + 1) (pfC (.slice a n c) p).toArray 45 := HX.out.1 ▸ (BX1.out.kept (K2.out.trans hW) (fun h => h))
        exact ⟨(range_bs (pf_ri hb HP.out) HX.out.2.1 (by decide)).all, (range_bs (pf_rv hb HP.out) HX.out.2.2.1 (by decide)).all⟩
      have HQ := hid hq
      have HSZ := hid K2.out.size
      clear hf he hq
      go_wp2_with fail
      have hs : Steady [.lists 6 [p.x.i, p.x.v], .rb 7 w1.heap.size ft [6]] := Go.Pm.Steady.lists (Go.Pm.Steady.rb (Go.Pm.Steady.nil))
      refine wp_region_kn w2 _ hs (Kept.refl _ _) (by kernel_rfl) (by kernel_rfl) (by kernel_rfl) ?_
      iterate 6 (refine wpPar_pure rfl (by rfl) _ (fun W hW => by
          go_simp
          exact rfl) ?_; simp only [Act.put, List.setIfInBounds_toArray, List.set_cons_zero, List.set_cons_succ])
      refine wpKn_adds hs rfl (by rfl) (fun W hW hd => ?_) (fun v6 hv => ?_)
      · unfold Gives
        go_simp
        exact ⟨(Kept.refl None W).alloc _, ⟨_, _, rfl⟩, _, _, _, _, Bss.new W #[.slice (some ⟨w.heap.size + 1, 2, none⟩) 32 32, .slice (some ⟨w.heap.size + 1, 34, none⟩) 32 32] 22 [p.x.i, p.x.v] 2 rfl (by decide) ⟨(HQ.out W hW).1, (HQ.out W hW).2, trivial⟩⟩
      obtain ⟨a6, c6, rfl⟩ : ∃ a c, v6 = .slice a 2 c := hv
      simp only [Act.put, List.setIfInBounds_toArray, List.set_cons_zero, List.set_cons_succ]
      refine wpKn_adds hs rfl (by rfl) (fun W hW hd => ?_) (fun v7 hv => ?_)
      · unfold Gives
        obtain ⟨lo1, hi1, lo2, hi2, h1⟩ : ∃ lo hi lo' hi', Bss W lo hi lo' hi' (.slice a6 2 c6) [p.x.i, p.x.v] := hd 6 (List.Mem.head _)
        go_simp
        refine gives_call (HT1.out _ _ _ _ _ _ h1) ?_
        rintro e w3 ⟨u, rfl, k3, b3⟩
        obtain ⟨a3, c3, rfl⟩ := b3.form
        exact ⟨_, rfl, k3, ⟨_, _, rfl⟩, b3.rb.mono (Nat.le_trans HSZ.out hW.size)⟩
      obtain ⟨a7, c7, rfl⟩ : ∃ a c, v7 = .slice a ft.length c := hv
      simp only [Act.put, List.setIfInBounds_toArray, List.set_cons_zero, List.set_cons_succ]
      iterate 1 (refine wpPar_pure rfl (by rfl) _ (fun W hW => by
          go_simp
          exact rfl) ?_; simp only [Act.put, List.setIfInBounds_toArray, List.set_cons_zero, List.set_cons_succ])
      refine wpPar_nil (fun w6 hW hG => ?_)
      have R7 : Rb w1.heap.size w6 (.slice a7 ft.length c7) ft := hG 7
      have HR7 := hid R7
      have HK6 := hid (K2.out.trans hW)
      clear hG hs hW R7
      go_wp2_with fail
      go_meet
      exact ⟨a7, c7, rfl, HK6, HR7⟩
  case rest =>
    obtain ⟨a5, c5, rfl, K5, R5⟩ := hcut
    clear R2 K2
    have BX5 := hid (BX1.out.kept K5.out (fun h => h))
    have BL5 := hid (BL1.out.kept K5.out (fun h => h))
    have K05 := hid (K1.out.trans K5.out)
    have HSZ1 := hid (And.intro K1.out.size (And.intro K5.out.size BX1.out.lt))
    have hsum := fun w v lo hi h => Ref.sum v lo hi ft w h (by rw [HFT.out]; unfold footB; have := HX.out; split <;> simp [textB, lumpB, leB_length] <;> omega)
    obtain ⟨h0, hh0⟩ : ∃ h, h = sumB ft := ⟨_, rfl⟩
    have h32 : h0.length = 32 := by rw [hh0]; exact sumB_len _
    rw [← hh0] at hsum
    have HSUM := hid hsum
    have HH0 := hid (And.intro hh0 h32)
    have aH0 := Pr.aH32 h32
    have sH0 : (h0.map u8v).toArray.size = 32 := by simpa using h32
    have HSH := hid sH0
    obtain ⟨nf, hnf⟩ : ∃ m, m = ft.length := ⟨_, rfl⟩
    rw [← hnf] at R5 ⊢
    clear hsum hh0 h32 sH0
    have kr : Kept None (wc) (wc.alloc (.cells #[.slice a5 nf c5] 22)) := (Kept.refl _ _).alloc _
    obtain ⟨hi5, b5⟩ := R5.out
    have hone := Rl.one wc (K5.out.size) 22 R5.out
    have HONE := hid hone
    have KR := hid kr
    have B5 := hid (Bs.kept b5 kr (fun _ _ _ h => h))
    clear kr b5 hone hnf
    go_wp2_with fail
    refine (HSUM.out _ _ _ _ B5.out).mono ?_
    rintro e w6 ⟨rfl, k6⟩
    obtain ⟨z6, hz6, hZ6⟩ := Blk.any (n := 32) (Blk.new w6 #[.int .u8 0, .int .u8 0, .int .u8 0, .int .u8 0, .int .u8 0, .int .u8 0, .int .u8 0, .int .u8 0, .int .u8 0, .int .u8 0, .int .u8 0, .int .u8 0, .int .u8 0, .int .u8 0, .int .u8 0, .int .u8 0, .int .u8 0, .int .u8 0, .int .u8 0, .int .u8 0, .int .u8 0, .int .u8 0, .int .u8 0, .int .u8 0, .int .u8 0, .int .u8 0, .int .u8 0, .int .u8 0, .int .u8 0, .int .u8 0, .int .u8 0, .int .u8 0] 25) (by rfl)
    have E6 := hid (hz6.trans HSH.out.symm)
    have K6 := hid (KR.out.trans k6)
    have O6 := hid (((HONE.out.kept k6).mono HSZ1.out.1).off)
    clear k6 hz6 HONE KR B5 HSUM
    have HSL := hid (HS.out.kept (K05.out.trans K6.out))
    have cX6 : ∀ W, Kept None w6 W → W.cell? ⟨w.heap.size + 1, 0, none⟩ = some (.slice a n c) := fun W hW => by
      rw [(BX5.out.kept (K6.out.trans hW) (fun h => h)).cell]
      exact HX.out.2.2.2.1
    have CX6 := hid cX6
    clear cX6
    obtain ⟨nz, hnz⟩ : ∃ z : Int, z = (n : Int) - 1 := ⟨_, rfl⟩
    have rn : IntKind.i64.wrap ((n : Int) - 1) = nz := by rw [IntKind.wrap_i64, hnz]; have := HNN.out; omega
    have HNZ := hid hnz
    clear hnz
    go_wp2_with (first | (refine wpList_store_blk rfl _ _ _ rfl rfl rfl hZ6 aH0 E6.out (u8v_all' _) ?_; intro w7 h7 k7; have k67 := k7.fresh; have cc7 := CX6.out _ k67) | fail)
    clear cc7
    obtain ⟨g7, hg7⟩ : ∃ g, g = w6.heap.size := ⟨_, rfl⟩
    rw [← hg7] at O6 h7 ⊢
    have O7 := hid (O6.out.kept (S := None) k67 (fun _ h => h.elim))
    have KL := hid ((K05.out.trans K6.out).trans k67)
    have BXL := hid (BX5.out.kept (K6.out.trans k67) (fun h => h))
    have BLL := hid (BL5.out.kept (K6.out.trans k67) (fun h => h))
    have H7 := hid h7
    have HG7 : Hid (w.heap.size + 1 < g7 ∧ g7 < w7.heap.size) := hid (by
      have h1 := K6.out.size
      have h2 := HSZ1.out
      have h3 := h7.lt
      constructor
      · rw [hg7]; omega
      · exact h3)
    clear k7 k67 h7 hg7 hZ6 E6 CX6 O6 K6 HSL
    go_loopg [6, 8] (n + 1) (fun kx s6 s8 wr => ∃ (ao : Option Addr) (ln co : Nat) (z : Int) (j : Nat), s6 = .slice ao ln co ∧ s8 = .int .i64 z ∧ j ≤ n ∧ j ≤ kx ∧ Hid (z = (j : Int) - 1) ∧ Hid (Kept (Just g7) w7 wr) ∧ Hid (RlX g7 w.heap.size wr (.slice ao ln co) (climbB i ft (p.path.drop j) j)) ∧ Hid (Blk wr g7 ((climbH i ft (p.path.drop j) j).map u8v).toArray 25))
    case atStart =>
      have hd : p.path.drop n = [] := by rw [HNN.out.1, List.drop_length]
      refine ⟨_, _, _, nz, n, rfl, rfl, Nat.le_refl _, Nat.le_succ _, HNZ, Kept.refl _ _, ?_, ?_⟩
      · rw [hd]; exact O7
      · rw [hd, climbH_nil, ← HH0.out.1]; exact H7
    case round =>
      obtain ⟨ao, ln, co, z, j, rfl, rfl, hj, hjx, HZ, HK, HO, HB7⟩ := hrel
      obtain ⟨wo, rfl⟩ : ∃ wo : World, wo = wr := ⟨_, rfl⟩
      match j, hj, hjx, HZ, HO, HB7 with
      | 0, hj, hjx, HZ, HO, HB7 =>
        have hz : ¬ (0 : Int) ≤ z := by have := HZ.out; omega
        go_wp2
        go_ret
        exact ⟨_, rfl, KL.out.then HK.out (fun q _ h => by have h : q = g7 := h; have := HG7.out; omega), by unfold textsP; rw [← HFT.out]; exact HO.out.rl⟩
      | m + 1, hj, hjx, HZ, HO, HB7 =>
        obtain rfl : z = (m : Int) := by have := HZ.out; omega
        have hz : (0 : Int) ≤ (m : Int) := by omega
        have hmn : (m : Int) < (n : Int) := by omega
        have hml : m < p.path.length := by have := HNN.out.1; omega
        have hm256 : m < 256 := by have := HNN.out.2; omega
        have HKw : Hid (Kept None w wo) := hid (KL.out.then HK.out (fun q _ h => by have h : q = g7 := h; have := HG7.out; omega))
        have hSo := HS.out.kept HKw.out
        obtain ⟨b0, o0, hab, rR⟩ : ∃ b o, a = some ⟨b, o, none⟩ ∧ wo.rangeAt b (o + m * 32) ((p.path[m]'hml).map u8v) := by
          obtain ⟨hi, h⟩ := hSo
          exact h.at hml
        obtain rfl := hab
        have hdr := List.drop_eq_getElem_cons hml
        obtain ⟨R, hR⟩ : ∃ R, R = p.path[m]'hml := ⟨_, rfl⟩
        have lR : R.length = 32 := by rw [hR]; exact HP.out.1 _ (List.getElem_mem hml)
        rw [← hR] at rR hdr
        obtain ⟨hh, hhh⟩ : ∃ x, x = climbH i ft (p.path.drop (m + 1)) (m + 1) := ⟨_, rfl⟩
        have lh : hh.length = 32 := by rw [hhh]; exact climbH_len _ _ _ _
        obtain ⟨LS, hLS⟩ : ∃ x, x = climbB i ft (p.path.drop (m + 1)) (m + 1) := ⟨_, rfl⟩
        have hLl : LS.length ≤ 1000 := by rw [hLS, climbB_len, List.length_drop]; have := HNN.out; omega
        rw [← hLS] at HO
        rw [← hhh] at HB7
        obtain ⟨tx, htx⟩ : ∃ x, x = (if bitI i m = 1 then textB 110 [R, hh] else textB 110 [hh, R]) := ⟨_, rfl⟩
        have hnB : climbB i ft (p.path.drop m) m = tx :: LS := by
          rw [hdr, climbB, htx, hLS, hhh]
          unfold climbH
          split <;> rfl
        have hnH : climbH i ft (p.path.drop m) m = sumB tx := by
          unfold climbH
          rw [hnB]
          rfl
        have hT1 := fun v lo hi lo' hi' w hv => Ref.text 110 v lo hi lo' hi' [hh, R] w (by decide) (by decide) hv (by simp) (by simp [total]; omega)
        have hT2 := fun v lo hi lo' hi' w hv => Ref.text 110 v lo hi lo' hi' [R, hh] w (by decide) (by decide) hv (by simp) (by simp [total]; omega)
        have htl : tx.length ≤ 1000 := by rw [htx]; split <;> simp [textB, lumpB, leB_length] <;> omega
        have hsm := fun w v lo hi h => Ref.sum v lo hi tx w h (by omega)
        obtain ⟨sm, hsme⟩ : ∃ x, x = sumB tx := ⟨_, rfl⟩
        have lsm : sm.length = 32 := by rw [hsme]; exact sumB_len _
        rw [← hsme] at hsm hnH
        have HBW := hid (fun W => HB.out m W hm256)
        have aSM := Pr.aH32 lsm
        have HSM := hid (show (hh.map u8v).toArray.size = (sm.map u8v).toArray.size by simp [lh, lsm])
        have HN2 := hid (And.intro hnB hnH)
        have BLo := hid (BLL.out.kept HK.out (fun h => by have h : w.heap.size = g7 := h; have := HG7.out; omega))
        have BXo := hid (BXL.out.kept HK.out (fun h => by have h : w.heap.size + 1 = g7 := h; have := HG7.out; omega))
        have hcX : ∀ W, Kept None wo W → W.cell? ⟨w.heap.size + 1, 0, none⟩ = some (.slice (some ⟨b0, o0, none⟩) n c) := fun W hW => by
          rw [(BXo.out.kept hW (fun h => h)).cell]
          exact HX.out.2.2.2.1
        have hq : ∀ W, Kept None wo W → Bs W 0 W.heap.size (.slice (some ⟨g7, 0, none⟩) 32 32) hh ∧ Bs W 0 W.heap.size (.slice (some ⟨b0, o0 + m * 32, none⟩) 32 32) R := fun W hW => by
          have q1 := (HB7.out.kept hW (fun h => h)).bs 0 32 (by omega) (by decide)
          rw [List.drop_zero, List.take_of_length_le (by omega)] at q1
          exact ⟨q1.all, (range_bs (rangeAt_kept rR hW) lR (by decide)).all⟩
        have HCX := hid hcX
        have HQ := hid hq
        have HT1' := hid hT1
        have HT2' := hid hT2
        have HSUM := hid hsm
        have HTX := hid (And.intro htx (And.intro htl (And.intro hLl lsm)))
        have HGO := hid (show g7 < wo.heap.size from HB7.out.lt)
        have HWO := hid HKw.out.size
        obtain ⟨z', hz'⟩ : ∃ z : Int, z = (m : Int) - 1 := ⟨_, rfl⟩
        have rz : IntKind.i64.wrap ((m : Int) - 1) = z' := by rw [IntKind.wrap_i64, hz']; omega
        have HZ' := hid hz'
        have hlo := HO.out.form
        obtain ⟨_, _, hln⟩ := hlo
        have hlnn : ln = LS.length := by injection hln
        subst hlnn
        clear hT1 hT2 hsm hq hcX hnB hnH htx htl hLl lsm hsme hLS hhh hR lR lh rR hdr hSo hm256 hml hz' hln
        obtain ⟨t1, ht1⟩ : ∃ x, x = textB 110 [hh, R] := ⟨_, rfl⟩
        rw [← ht1] at HT1'
        obtain ⟨bv, hbv⟩ : ∃ x, x = bitI i m := ⟨_, rfl⟩
        rw [← hbv] at HBW
        have HBV := hid (And.intro hbv ht1)
        clear hbv ht1
        go_wp2_with fail
        have hs : Steady [.lists 6 [hh, R], .rb 7 wo.heap.size t1 [6]] := Go.Pm.Steady.lists (Go.Pm.Steady.rb (Go.Pm.Steady.nil))
        refine wp_region_kn wo _ hs (Kept.refl _ _) (by kernel_rfl) (by kernel_rfl) (by kernel_rfl) ?_
        iterate 6 (refine wpPar_pure rfl (by rfl) _ (fun W hW => by
            have c0 := HCX.out W hW
            go_simp
            exact rfl) ?_; simp only [Act.put, List.setIfInBounds_toArray, List.set_cons_zero, List.set_cons_succ])
        refine wpKn_adds hs rfl (by rfl) (fun W hW hd => ?_) (fun v6 hv => ?_)
        · unfold Gives
          go_simp
          exact ⟨(Kept.refl None W).alloc _, ⟨_, _, rfl⟩, _, _, _, _, Bss.new W #[.slice (some ⟨g7, 0, none⟩) 32 32, .slice (some ⟨b0, o0 + m * 32, none⟩) 32 32] 22 [hh, R] 2 rfl (by decide) ⟨(HQ.out W hW).1, (HQ.out W hW).2, trivial⟩⟩
        obtain ⟨a6, c6, rfl⟩ : ∃ a c, v6 = .slice a 2 c := hv
        simp only [Act.put, List.setIfInBounds_toArray, List.set_cons_zero, List.set_cons_succ]
        refine wpKn_adds hs rfl (by rfl) (fun W hW hd => ?_) (fun v7 hv => ?_)
        · unfold Gives
          obtain ⟨lo1, hi1, lo2, hi2, h1⟩ : ∃ lo hi lo' hi', Bss W lo hi lo' hi' (.slice a6 2 c6) [hh, R] := hd 6 (List.Mem.head _)
          go_simp
          refine gives_call (HT1'.out _ _ _ _ _ _ h1) ?_
          rintro e w3 ⟨u, rfl, k3, b3⟩
          obtain ⟨a3, c3, rfl⟩ := b3.form
          exact ⟨_, rfl, k3, ⟨_, _, rfl⟩, b3.rb.mono (hW.size)⟩
        obtain ⟨a7, c7, rfl⟩ : ∃ a c, v7 = .slice a t1.length c := hv
        simp only [Act.put, List.setIfInBounds_toArray, List.set_cons_zero, List.set_cons_succ]
        iterate 1 (refine wpPar_pure rfl (by rfl) _ (fun W hW => by
            have c0 := HCX.out W hW
            go_simp
            exact rfl) ?_; simp only [Act.put, List.setIfInBounds_toArray, List.set_cons_zero, List.set_cons_succ])
        refine wpPar_nil (fun w3 hW hG => ?_)
        have R7 : Rb wo.heap.size w3 (.slice a7 t1.length c7) t1 := hG 7
        have HR7 := hid R7
        have K3 := hid hW
        have bL3 := BLo.out.kept hW (fun h => h)
        clear hG hs hW R7
        go_wp2_with (first | (refine wpList_load_blk rfl _ _ rfl rfl bL3 aL ?_) | fail)
        refine (HBW.out w3).mono ?_
        rintro e w4 ⟨rfl, k4⟩
        have K4 := hid (K3.out.trans k4)
        have HR4 := hid (HR7.out.kept k4)
        clear k4 bL3 HR7 K3
        by_cases hb : bv = 1
        · have hbz : ((bv : Int) == 1) = true := by rw [hb]; rfl
          have htx : tx = textB 110 [R, hh] := by rw [HTX.out.1, if_pos (by rw [← HBV.out.1]; exact hb)]
          rw [← htx] at HT2'
          have HQ2 : Hid (∀ W, Kept None w4 W → Bs W 0 W.heap.size (.slice (some ⟨b0, o0 + m * 32, none⟩) 32 32) R ∧ Bs W 0 W.heap.size (.slice (some ⟨g7, 0, none⟩) 32 32) hh) := hid (fun W hW => ⟨(HQ.out W (K4.out.trans hW)).2, (HQ.out W (K4.out.trans hW)).1⟩)
          have HCX2 : Hid (∀ W, Kept None w4 W → W.cell? ⟨w.heap.size + 1, 0, none⟩ = some (.slice (some ⟨b0, o0, none⟩) n c)) := hid (fun W hW => HCX.out W (K4.out.trans hW))
          have HS4 := hid K4.out.size
          clear hb htx HQ HCX HR4
          go_wp2_with fail
          have hs : Steady [.lists 6 [R, hh], .rb 7 wo.heap.size tx [6]] := Go.Pm.Steady.lists (Go.Pm.Steady.rb (Go.Pm.Steady.nil))
          refine wp_region_kn w4 _ hs (Kept.refl _ _) (by kernel_rfl) (by kernel_rfl) (by kernel_rfl) ?_
          iterate 6 (refine wpPar_pure rfl (by rfl) _ (fun W hW => by
              have c0 := HCX2.out W hW
              go_simp
              exact rfl) ?_; simp only [Act.put, List.setIfInBounds_toArray, List.set_cons_zero, List.set_cons_succ])
          refine wpKn_adds hs rfl (by rfl) (fun W hW hd => ?_) (fun v6 hv => ?_)
          · unfold Gives
            go_simp
            exact ⟨(Kept.refl None W).alloc _, ⟨_, _, rfl⟩, _, _, _, _, Bss.new W #[.slice (some ⟨b0, o0 + m * 32, none⟩) 32 32, .slice (some ⟨g7, 0, none⟩) 32 32] 22 [R, hh] 2 rfl (by decide) ⟨(HQ2.out W hW).1, (HQ2.out W hW).2, trivial⟩⟩
          obtain ⟨a6, c6, rfl⟩ : ∃ a c, v6 = .slice a 2 c := hv
          simp only [Act.put, List.setIfInBounds_toArray, List.set_cons_zero, List.set_cons_succ]
          refine wpKn_adds hs rfl (by rfl) (fun W hW hd => ?_) (fun v7 hv => ?_)
          · unfold Gives
            obtain ⟨lo1, hi1, lo2, hi2, h1⟩ : ∃ lo hi lo' hi', Bss W lo hi lo' hi' (.slice a6 2 c6) [R, hh] := hd 6 (List.Mem.head _)
            go_simp
            refine gives_call (HT2'.out _ _ _ _ _ _ h1) ?_
            rintro e w3 ⟨u, rfl, k3, b3⟩
            obtain ⟨a3, c3, rfl⟩ := b3.form
            exact ⟨_, rfl, k3, ⟨_, _, rfl⟩, b3.rb.mono (Nat.le_trans HS4.out hW.size)⟩
          obtain ⟨a7, c7, rfl⟩ : ∃ a c, v7 = .slice a tx.length c := hv
          simp only [Act.put, List.setIfInBounds_toArray, List.set_cons_zero, List.set_cons_succ]
          iterate 1 (refine wpPar_pure rfl (by rfl) _ (fun W hW => by
              have c0 := HCX2.out W hW
              go_simp
              exact rfl) ?_; simp only [Act.put, List.setIfInBounds_toArray, List.set_cons_zero, List.set_cons_succ])
          refine wpPar_nil (fun w5 hW hG => ?_)
          have R7 : Rb wo.heap.size w5 (.slice a7 tx.length c7) tx := hG 7
          have RT := hid R7
          have K5 := hid (K4.out.trans hW)
          clear hG hs hW R7
          have KT := hid (K5.out)
          have HO1 := hid ((HO.out.kept KT.out (fun _ h => h.elim)).kept ((Kept.refl None w5).alloc (.cells #[.slice a7 tx.length c7] 22)) (fun _ h => h.elim))
          have RT1 := hid (RT.out.kept ((Kept.refl None w5).alloc (.cells #[.slice a7 tx.length c7] 22)))
          have HY : Hid (∃ c d, w.heap.size ≤ c ∧ Off g7 c d ∧ Bs (w5.alloc (.cells #[.slice a7 tx.length c7] 22)) c d (.slice a7 tx.length c7) tx) := hid (by
            obtain ⟨c1, d1, q1, q2, q3⟩ := RT1.out.off HGO.out
            exact ⟨c1, d1, Nat.le_trans HWO.out q1, q2, q3⟩)
          have BY := hid (Blk.new w5 #[.slice a7 tx.length c7] 22)
          have HSW := hid KT.out.size
          go_wp2_with (first | (at_builtin; refine wpList_append_rlx rfl _ _ 66 rfl Pr.rtLists (by decide) (g := g7) (lo := w.heap.size) (gy := w5.heap.size) (Nat.lt_of_lt_of_le HGO.out HSW.out) (Nat.le_trans HWO.out HSW.out) rfl rfl BY.out HY.out HO1.out (Nat.le_trans HTX.out.2.2.1 (by decide)) ?_; intro a9 c9 w9 p9 k9) | fail)
          have K9 := hid ((KT.out.alloc (.cells #[.slice a7 tx.length c7] 22)).trans k9)
          have P9 := hid p9
          obtain ⟨hiT, bT⟩ := RT1.out.kept k9
          clear p9 k9
          refine (HSUM.out w9 _ _ _ bT).mono ?_
          rintro e w10 ⟨rfl, k10⟩
          have K10 := hid (K9.out.trans k10)
          have P10 := hid (P9.out.kept k10 (fun _ h => h.elim))
          have hB10 := HB7.out.kept K10.out (fun h => h)
          clear k10 bT
          go_wp2_with (first | (refine wpList_store_blk rfl _ _ _ rfl rfl rfl hB10 aSM HSM.out (u8v_all' _) ?_; intro w11 h11 k11) | fail)
          have K11 : Hid (Kept (Just g7) w7 w11) := hid ((HK.out.then K10.out (fun _ _ h => h.elim)).trans k11)
          have P11 : Hid (RlX g7 w.heap.size w11 (.slice a9 (tx :: LS).length c9) (climbB i ft (p.path.drop m) m)) := hid (by rw [HN2.out.1]; exact P10.out.kept k11 (fun _ h => h))
          have H11 : Hid (Blk w11 g7 ((climbH i ft (p.path.drop m) m).map u8v).toArray 25) := hid (by rw [HN2.out.2]; exact h11)
          clear k11 h11 hB10
          go_roundg m
          case measure => omega
          case rel => exact ⟨_, _, _, z', m, rfl, rfl, by omega, Nat.le_refl _, HZ', K11, P11, H11⟩
        · have hbz : ((bv : Int) == 1) = false := by rw [beq_eq_false_iff_ne]; omega
          have htx : t1 = tx := by rw [HTX.out.1, if_neg (by rw [← HBV.out.1]; exact hb), HBV.out.2]
          subst htx
          have RT := HR4
          clear hb HQ HCX
          have KT := hid (K4.out)
          have HO1 := hid ((HO.out.kept KT.out (fun _ h => h.elim)).kept ((Kept.refl None w4).alloc (.cells #[.slice a7 t1.length c7] 22)) (fun _ h => h.elim))
          have RT1 := hid (RT.out.kept ((Kept.refl None w4).alloc (.cells #[.slice a7 t1.length c7] 22)))
          have HY : Hid (∃ c d, w.heap.size ≤ c ∧ Off g7 c d ∧ Bs (w4.alloc (.cells #[.slice a7 t1.length c7] 22)) c d (.slice a7 t1.length c7) t1) := hid (by
            obtain ⟨c1, d1, q1, q2, q3⟩ := RT1.out.off HGO.out
            exact ⟨c1, d1, Nat.le_trans HWO.out q1, q2, q3⟩)
          have BY := hid (Blk.new w4 #[.slice a7 t1.length c7] 22)
          have HSW := hid KT.out.size
          go_wp2_with (first | (at_builtin; refine wpList_append_rlx rfl _ _ 66 rfl Pr.rtLists (by decide) (g := g7) (lo := w.heap.size) (gy := w4.heap.size) (Nat.lt_of_lt_of_le HGO.out HSW.out) (Nat.le_trans HWO.out HSW.out) rfl rfl BY.out HY.out HO1.out (Nat.le_trans HTX.out.2.2.1 (by decide)) ?_; intro a9 c9 w9 p9 k9) | fail)
          have K9 := hid ((KT.out.alloc (.cells #[.slice a7 t1.length c7] 22)).trans k9)
          have P9 := hid p9
          obtain ⟨hiT, bT⟩ := RT1.out.kept k9
          clear p9 k9
          refine (HSUM.out w9 _ _ _ bT).mono ?_
          rintro e w10 ⟨rfl, k10⟩
          have K10 := hid (K9.out.trans k10)
          have P10 := hid (P9.out.kept k10 (fun _ h => h.elim))
          have hB10 := HB7.out.kept K10.out (fun h => h)
          clear k10 bT
          go_wp2_with (first | (refine wpList_store_blk rfl _ _ _ rfl rfl rfl hB10 aSM HSM.out (u8v_all' _) ?_; intro w11 h11 k11) | fail)
          have K11 : Hid (Kept (Just g7) w7 w11) := hid ((HK.out.then K10.out (fun _ _ h => h.elim)).trans k11)
          have P11 : Hid (RlX g7 w.heap.size w11 (.slice a9 (t1 :: LS).length c9) (climbB i ft (p.path.drop m) m)) := hid (by rw [HN2.out.1]; exact P10.out.kept k11 (fun _ h => h))
          have H11 : Hid (Blk w11 g7 ((climbH i ft (p.path.drop m) m).map u8v).toArray 25) := hid (by rw [HN2.out.2]; exact h11)
          clear k11 h11 hB10
          go_roundg m
          case measure => omega
          case rel => exact ⟨_, _, _, z', m, rfl, rfl, by omega, Nat.le_refl _, HZ', K11, P11, H11⟩
end RPr
end Go.Proofs.Ytkogkcaflhjlhaa

namespace Go.Pm
open Go Go.RowKit
/-- It tells lists of bytes, at least one. -/
abbrev Fct.rlp (k lo n : Nat) (ls : List (List UInt8)) (uses : List Nat := []) : Fct := { k := k, uses := uses, pure := fun u => ∃ b o c, u = .slice (some ⟨b, o, none⟩) n c, fact := fun u W => Rl lo W u ls }
theorem Steady.rlp {l : List Fct} {k lo n : Nat} {us : List Nat} {ls : List (List UInt8)} (h : Steady l) : Steady (.rlp k lo n ls us :: l) := .cons ⟨_, 0, 0, 0, rfl⟩ (fun _ _ _ hk hb => Rl.kept hb hk) h
end Go.Pm
namespace Go.Proofs.Ytkogkcaflhjlhaa
open Go.RowKit Go.Pm
namespace RPr
set_option maxRecDepth 100000 in
set_option maxHeartbeats 2000000 in
/-- ProofCheck. -/
theorem check (root i : List UInt8) (s : Value) (p : Pf) (w : World) (hr : root.length = 32) (hi : i.length = 32) (hp : p.Ok) (hs : Rh 0 w s p.path) :
    Calls Try.prog 28 #[hashV root, hashV i, pfV s p] w fun e w' => e = .returned (.tuple #[hashV (checkV root i p), .bool (checkH root i p), .bool (okP root i p)]) ∧ Kept None w w' := by
  obtain ⟨X, hX⟩ : ∃ X, X = (pfC s p).toArray := ⟨_, rfl⟩
  obtain ⟨L, hL⟩ : ∃ L : Array Value, L = (i.map u8v).toArray := ⟨_, rfl⟩
  obtain ⟨RO, hRO⟩ : ∃ RO : Array Value, RO = (root.map u8v).toArray := ⟨_, rfl⟩
  have hRi : ∀ w, Rh 0 w s p.path → Calls Try.prog 30 #[.agg (i.map u8v).toArray, .agg (pfC s p).toArray] w fun e w' => e = .returned (.bool (rightP i p)) ∧ Kept None w w' := fun w h => right i s p w hi hp h
  have hTx : p.path.length ≤ 256 → ∀ w, Rh 0 w s p.path → Calls Try.prog 59 #[.agg (i.map u8v).toArray, .agg (pfC s p).toArray] w fun e w' => ∃ u, e = .returned u ∧ Kept None w w' ∧ Rl w.heap.size w' u (textsP i p) := fun hn w h => texts i s p w hi hp h hn
  obtain ⟨tx, rest, htl⟩ : ∃ tx rest, textsP i p = tx :: rest := by
    unfold textsP
    match hpp : p.path with
    | [] => exact ⟨_, _, rfl⟩
    | r :: rs => exact ⟨_, _, rfl⟩
  have hroot : rootP i p = sumB tx := by
    unfold rootP climbH
    have h : climbB i (footB p) p.path 0 = tx :: rest := htl
    rw [h]; rfl
  have htxl : rightP i p = true → tx.length ≤ 1000 := fun _ => by
    have h : climbB i (footB p) p.path 0 = tx :: rest := htl
    match hpp : p.path with
    | [] =>
      rw [hpp, climbB] at h
      injection h with h
      rw [← h]
      unfold footB
      have := hp.2
      split <;> simp [textB, lumpB, leB_length] <;> omega
    | r :: rs =>
      rw [hpp, climbB] at h
      injection h with h
      rw [← h]
      have h1 : r.length = 32 := hp.1 r (by rw [hpp]; exact List.mem_cons_self ..)
      have h2 := sumB_len ((climbB i (footB p) rs (0 + 1)).headD [])
      obtain ⟨sb, hsb⟩ : ∃ x, x = sumB ((climbB i (footB p) rs (0 + 1)).headD []) := ⟨_, rfl⟩
      rw [← hsb] at h2 ⊢
      split <;> simp [textB, lumpB, leB_length, h1, h2]
  have aP' : AggTy Try.prog 45 (pfC s p).toArray.size := Pr.aP hp
  have aL := Pr.aH32 hi
  have aO := Pr.aH32 hr
  have aV := Pr.aH32' hp.2.2
  have hE := Tr.neqHash (rootP i p) root (climbH_len _ _ _ _) hr
  have hlen : rightP i p = true → p.path.length ≤ 256 := rightP_len
  have hV : checkV root i p = if rightP i p && (rootP i p == root) then saysV p else zero32 := rfl
  have hH : checkH root i p = (rightP i p && (rootP i p == root) && saysH p) := rfl
  have hO : okP root i p = (rightP i p && (rootP i p == root)) := rfl
  have hsV : saysV p = if p.e = 0 then p.x.v else zero32 := rfl
  have hsH : saysH p = decide (p.e = 0) := rfl
  have hsm : tx.length ≤ 1000 → ∀ v lo hi w, Bs w lo hi v tx → Calls Try.prog 58 #[v] w fun e w' => e = .returned (hashV (sumB tx)) ∧ Kept None w w' := fun h v lo hi w hb => Ref.sum v lo hi tx w hb (by omega)
  rw [← hroot] at hsm
  obtain ⟨cv, hcv⟩ : ∃ r, r = checkV root i p := ⟨_, rfl⟩
  obtain ⟨ch, hch⟩ : ∃ r, r = checkH root i p := ⟨_, rfl⟩
  obtain ⟨co, hco⟩ : ∃ r, r = okP root i p := ⟨_, rfl⟩
  rw [← hcv, ← hch, ← hco]
  rw [hV, hsV] at hcv
  rw [hH, hsH] at hch
  rw [hO] at hco
  obtain ⟨PV_, hPV⟩ : ∃ C : List Value, C = p.x.v.map u8v := ⟨_, rfl⟩
  show Calls Try.prog 28 #[.agg (root.map u8v).toArray, .agg (i.map u8v).toArray, .agg (pfC s p).toArray] w _
  have k0 : Kept None w ((((w.alloc (.cells RO 25)).alloc (.cells L 25)).alloc (.cells X 45)).alloc (.cells #[.int .u8 0, .int .u8 0, .int .u8 0, .int .u8 0, .int .u8 0, .int .u8 0, .int .u8 0, .int .u8 0, .int .u8 0, .int .u8 0, .int .u8 0, .int .u8 0, .int .u8 0, .int .u8 0, .int .u8 0, .int .u8 0, .int .u8 0, .int .u8 0, .int .u8 0, .int .u8 0, .int .u8 0, .int .u8 0, .int .u8 0, .int .u8 0, .int .u8 0, .int .u8 0, .int .u8 0, .int .u8 0, .int .u8 0, .int .u8 0, .int .u8 0, .int .u8 0] 25)) := ((((Kept.refl _ _).alloc _).alloc _).alloc _).alloc _
  have bO : Blk ((((w.alloc (.cells RO 25)).alloc (.cells L 25)).alloc (.cells X 45)).alloc (.cells #[.int .u8 0, .int .u8 0, .int .u8 0, .int .u8 0, .int .u8 0, .int .u8 0, .int .u8 0, .int .u8 0, .int .u8 0, .int .u8 0, .int .u8 0, .int .u8 0, .int .u8 0, .int .u8 0, .int .u8 0, .int .u8 0, .int .u8 0, .int .u8 0, .int .u8 0, .int .u8 0, .int .u8 0, .int .u8 0, .int .u8 0, .int .u8 0, .int .u8 0, .int .u8 0, .int .u8 0, .int .u8 0, .int .u8 0, .int .u8 0, .int .u8 0, .int .u8 0] 25)) w.heap.size RO 25 := (((Blk.new w _ _).alloc _).alloc _).alloc _
  have bL : Blk ((((w.alloc (.cells RO 25)).alloc (.cells L 25)).alloc (.cells X 45)).alloc (.cells #[.int .u8 0, .int .u8 0, .int .u8 0, .int .u8 0, .int .u8 0, .int .u8 0, .int .u8 0, .int .u8 0, .int .u8 0, .int .u8 0, .int .u8 0, .int .u8 0, .int .u8 0, .int .u8 0, .int .u8 0, .int .u8 0, .int .u8 0, .int .u8 0, .int .u8 0, .int .u8 0, .int .u8 0, .int .u8 0, .int .u8 0, .int .u8 0, .int .u8 0, .int .u8 0, .int .u8 0, .int .u8 0, .int .u8 0, .int .u8 0, .int .u8 0, .int .u8 0] 25)) (w.heap.size + 1) L 25 := ((Blk.new2 w _ _ _).alloc _).alloc _
  have bX : Blk ((((w.alloc (.cells RO 25)).alloc (.cells L 25)).alloc (.cells X 45)).alloc (.cells #[.int .u8 0, .int .u8 0, .int .u8 0, .int .u8 0, .int .u8 0, .int .u8 0, .int .u8 0, .int .u8 0, .int .u8 0, .int .u8 0, .int .u8 0, .int .u8 0, .int .u8 0, .int .u8 0, .int .u8 0, .int .u8 0, .int .u8 0, .int .u8 0, .int .u8 0, .int .u8 0, .int .u8 0, .int .u8 0, .int .u8 0, .int .u8 0, .int .u8 0, .int .u8 0, .int .u8 0, .int .u8 0, .int .u8 0, .int .u8 0, .int .u8 0, .int .u8 0] 25)) (w.heap.size + 1 + 1) X 45 := (Blk.new3 w _ _ _ _).alloc _
  have v0 : Blk ((((w.alloc (.cells RO 25)).alloc (.cells L 25)).alloc (.cells X 45)).alloc (.cells #[.int .u8 0, .int .u8 0, .int .u8 0, .int .u8 0, .int .u8 0, .int .u8 0, .int .u8 0, .int .u8 0, .int .u8 0, .int .u8 0, .int .u8 0, .int .u8 0, .int .u8 0, .int .u8 0, .int .u8 0, .int .u8 0, .int .u8 0, .int .u8 0, .int .u8 0, .int .u8 0, .int .u8 0, .int .u8 0, .int .u8 0, .int .u8 0, .int .u8 0, .int .u8 0, .int .u8 0, .int .u8 0, .int .u8 0, .int .u8 0, .int .u8 0, .int .u8 0] 25)) (w.heap.size + 1 + 1 + 1) #[.int .u8 0, .int .u8 0, .int .u8 0, .int .u8 0, .int .u8 0, .int .u8 0, .int .u8 0, .int .u8 0, .int .u8 0, .int .u8 0, .int .u8 0, .int .u8 0, .int .u8 0, .int .u8 0, .int .u8 0, .int .u8 0, .int .u8 0, .int .u8 0, .int .u8 0, .int .u8 0, .int .u8 0, .int .u8 0, .int .u8 0, .int .u8 0, .int .u8 0, .int .u8 0, .int .u8 0, .int .u8 0, .int .u8 0, .int .u8 0, .int .u8 0, .int .u8 0] 25 := by simpa using Blk.new3 (w.alloc _) _ _ _ _
  obtain ⟨z, hz, hZ⟩ := Blk.any (n := 32) v0 (by rfl)
  have rV : World.rangeAt ((((w.alloc (.cells RO 25)).alloc (.cells L 25)).alloc (.cells X 45)).alloc (.cells #[.int .u8 0, .int .u8 0, .int .u8 0, .int .u8 0, .int .u8 0, .int .u8 0, .int .u8 0, .int .u8 0, .int .u8 0, .int .u8 0, .int .u8 0, .int .u8 0, .int .u8 0, .int .u8 0, .int .u8 0, .int .u8 0, .int .u8 0, .int .u8 0, .int .u8 0, .int .u8 0, .int .u8 0, .int .u8 0, .int .u8 0, .int .u8 0, .int .u8 0, .int .u8 0, .int .u8 0, .int .u8 0, .int .u8 0, .int .u8 0, .int .u8 0, .int .u8 0] 25)) (w.heap.size + 1 + 1) 34 PV_ := hPV ▸ pf_rv (hX ▸ bX : Blk ((((w.alloc (.cells RO 25)).alloc (.cells L 25)).alloc (.cells X 45)).alloc (.cells #[.int .u8 0, .int .u8 0, .int .u8 0, .int .u8 0, .int .u8 0, .int .u8 0, .int .u8 0, .int .u8 0, .int .u8 0, .int .u8 0, .int .u8 0, .int .u8 0, .int .u8 0, .int .u8 0, .int .u8 0, .int .u8 0, .int .u8 0, .int .u8 0, .int .u8 0, .int .u8 0, .int .u8 0, .int .u8 0, .int .u8 0, .int .u8 0, .int .u8 0, .int .u8 0, .int .u8 0, .int .u8 0, .int .u8 0, .int .u8 0, .int .u8 0, .int .u8 0] 25)) (w.heap.size + 1 + 1) (pfC s p).toArray 45) hp
  have hc1 : X[1]? = some (.int .i64 p.e) := by rw [hX]; rfl
  rw [← hX, ← hL] at hRi hTx
  rw [← hX] at aP'
  rw [← hL] at aL
  rw [← hRO] at aO hE
  rw [← hPV] at aV
  rw [← hX, ← hL, ← hRO]
  obtain ⟨rp, hrp⟩ : ∃ r, r = rootP i p := ⟨_, rfl⟩
  rw [← hrp] at hE hsm hcv hch hco
  have hrl : rp.length = 32 := by rw [hrp]; exact climbH_len _ _ _ _
  obtain ⟨bR, hbR⟩ : ∃ r, r = rightP i p := ⟨_, rfl⟩
  rw [← hbR] at hRi hlen hcv hch hco htxl
  obtain ⟨bE, hbE⟩ : ∃ r, r = (rp == root) := ⟨_, rfl⟩
  rw [← hbE] at hE hcv hch hco
  rw [htl] at hTx
  have HPV := hid (And.intro hPV hp.2.2)
  have HC1 := hid hc1
  have HRE := hid (And.intro hcv (And.intro hch hco))
  have HR := hid hRi
  have HT := hid hTx
  have HL := hid (And.intro hlen htxl)
  have HSV := hid hs
  have HSM := hid hsm
  have HE := hid hE
  have HV0 := hid rV
  obtain ⟨tn, htn⟩ : ∃ n, n = (tx :: rest).length := ⟨_, rfl⟩
  have HTN := hid htn
  have HTN0 : 0 < tn := by rw [htn]; simp
  clear hcv hch hco hX hL hRO hRi hTx hrp hbR hbE hV hH hO hlen hs htl hroot htxl hsV hsH hsm hPV v0 rV hE hrl htn hc1
  go_enter Try.func28, Try.ntmps28
  go_wp2_with fail
  refine wp_nm ?_
  intro w1 e1
  rw [← e1] at k0 bO bL bX hZ HV0
  clear e1
  have BO := hid bO
  have BL := hid bL
  have BX := hid bX
  clear bO bL bX
  cases bR with
  | false =>
    have hs : Steady [.val 2 (.bool false)] := Go.Pm.Steady.val (Go.Pm.Steady.nil)
    refine wp_region_kn w1 _ hs (Kept.refl _ _) (by kernel_rfl) (by kernel_rfl) (by kernel_rfl) ?_
    refine wpPar_pure rfl (by rfl) _ (fun W hW => by first | exact exec_load_blk _ _ rfl rfl (BL.out.kept hW (fun h => h)) aL | exact exec_load_blk _ _ rfl rfl (BX.out.kept hW (fun h => h)) aP' | exact exec_load_blk _ _ rfl rfl (BO.out.kept hW (fun h => h)) aO | (go_simp; exact rfl)) ?_; simp only [Act.put, List.setIfInBounds_toArray, List.set_cons_zero, List.set_cons_succ]
    refine wpPar_pure rfl (by rfl) _ (fun W hW => by first | exact exec_load_blk _ _ rfl rfl (BL.out.kept hW (fun h => h)) aL | exact exec_load_blk _ _ rfl rfl (BX.out.kept hW (fun h => h)) aP' | exact exec_load_blk _ _ rfl rfl (BO.out.kept hW (fun h => h)) aO | (go_simp; exact rfl)) ?_; simp only [Act.put, List.setIfInBounds_toArray, List.set_cons_zero, List.set_cons_succ]
    refine wpKn_adds hs rfl (by rfl) (fun W hW hd => ?_) (fun v2 hv => ?_)
    · unfold Gives
      go_simp
      refine gives_call (HR.out W (HSV.out.kept (k0.trans hW))) ?_
      rintro e w3 ⟨rfl, k3⟩
      exact ⟨_, rfl, k3, rfl, trivial⟩
    obtain rfl : v2 = .bool false := hv
    simp only [Act.put, List.setIfInBounds_toArray, List.set_cons_zero, List.set_cons_succ]
    iterate 2 (refine wpPar_pure rfl (by rfl) _ (fun W hW => by
        go_simp
        exact rfl) ?_; simp only [Act.put, List.setIfInBounds_toArray, List.set_cons_zero, List.set_cons_succ])
    refine wpPar_skip (by kernel_rfl) ?_; simp only [Act.put, List.setIfInBounds_toArray, List.set_cons_zero, List.set_cons_succ]
    refine wpPar_skip (by kernel_rfl) ?_; simp only [Act.put, List.setIfInBounds_toArray, List.set_cons_zero, List.set_cons_succ]
    refine wpPar_skip (by kernel_rfl) ?_; simp only [Act.put, List.setIfInBounds_toArray, List.set_cons_zero, List.set_cons_succ]
    refine wpPar_skip (by kernel_rfl) ?_; simp only [Act.put, List.setIfInBounds_toArray, List.set_cons_zero, List.set_cons_succ]
    refine wpPar_skip (by kernel_rfl) ?_; simp only [Act.put, List.setIfInBounds_toArray, List.set_cons_zero, List.set_cons_succ]
    refine wpPar_skip (by kernel_rfl) ?_; simp only [Act.put, List.setIfInBounds_toArray, List.set_cons_zero, List.set_cons_succ]
    refine wpPar_skip (by kernel_rfl) ?_; simp only [Act.put, List.setIfInBounds_toArray, List.set_cons_zero, List.set_cons_succ]
    refine wpPar_skip (by kernel_rfl) ?_; simp only [Act.put, List.setIfInBounds_toArray, List.set_cons_zero, List.set_cons_succ]
    iterate 1 (refine wpPar_pure rfl (by rfl) _ (fun W hW => by
        go_simp
        exact rfl) ?_; simp only [Act.put, List.setIfInBounds_toArray, List.set_cons_zero, List.set_cons_succ])
    refine wpPar_nil (fun w3 hW hG => ?_)
    have k03 := k0.trans hW
    have hZ3 := hZ.kept hW (fun h => h)
    clear hG hs hW k0 hZ HE
    go_wp2_with (first | (refine wpList_store_blk rfl _ _ _ rfl rfl rfl hZ3 Sp.aH hz Pr.zero_all32 ?_; intro w9 hR9 k9) | fail)
    exact bodyPost_ret (v := .tuple #[.agg #[.int .u8 0, .int .u8 0, .int .u8 0, .int .u8 0, .int .u8 0, .int .u8 0, .int .u8 0, .int .u8 0, .int .u8 0, .int .u8 0, .int .u8 0, .int .u8 0, .int .u8 0, .int .u8 0, .int .u8 0, .int .u8 0, .int .u8 0, .int .u8 0, .int .u8 0, .int .u8 0, .int .u8 0, .int .u8 0, .int .u8 0, .int .u8 0, .int .u8 0, .int .u8 0, .int .u8 0, .int .u8 0, .int .u8 0, .int .u8 0, .int .u8 0, .int .u8 0], .bool false, .bool false]) (res_cell_tmp2 rfl _ rfl rfl rfl hR9 Sp.aH) rfl ⟨by rw [HRE.out.1, HRE.out.2.1, HRE.out.2.2]; rfl, k03.then k9 (fun i hi (h : i = w.heap.size + 1 + 1 + 1) => by omega)⟩
  | true =>
    have h256 := hid (HL.out.1 rfl)
    have h1000 := hid (HL.out.2 rfl)
    have hs : Steady [.val 2 (.bool true), .rlp 7 0 tn (tx :: rest), .rb 9 0 tx [7], .val 10 (hashV rp) [9]] := Go.Pm.Steady.val (Go.Pm.Steady.rlp (Go.Pm.Steady.rb (Go.Pm.Steady.val (Go.Pm.Steady.nil))))
    refine wp_region_kn w1 _ hs (Kept.refl _ _) (by kernel_rfl) (by kernel_rfl) (by kernel_rfl) ?_
    refine wpPar_pure rfl (by rfl) _ (fun W hW => by first | exact exec_load_blk _ _ rfl rfl (BL.out.kept hW (fun h => h)) aL | exact exec_load_blk _ _ rfl rfl (BX.out.kept hW (fun h => h)) aP' | exact exec_load_blk _ _ rfl rfl (BO.out.kept hW (fun h => h)) aO | (have q1 := HE.out; go_simp; exact rfl)) ?_; simp only [Act.put, List.setIfInBounds_toArray, List.set_cons_zero, List.set_cons_succ]
    refine wpPar_pure rfl (by rfl) _ (fun W hW => by first | exact exec_load_blk _ _ rfl rfl (BL.out.kept hW (fun h => h)) aL | exact exec_load_blk _ _ rfl rfl (BX.out.kept hW (fun h => h)) aP' | exact exec_load_blk _ _ rfl rfl (BO.out.kept hW (fun h => h)) aO | (have q1 := HE.out; go_simp; exact rfl)) ?_; simp only [Act.put, List.setIfInBounds_toArray, List.set_cons_zero, List.set_cons_succ]
    refine wpKn_adds hs rfl (by rfl) (fun W hW hd => ?_) (fun v2 hv => ?_)
    · unfold Gives
      go_simp
      refine gives_call (HR.out W (HSV.out.kept (k0.trans hW))) ?_
      rintro e w3 ⟨rfl, k3⟩
      exact ⟨_, rfl, k3, rfl, trivial⟩
    obtain rfl : v2 = .bool true := hv
    simp only [Act.put, List.setIfInBounds_toArray, List.set_cons_zero, List.set_cons_succ]
    iterate 2 (refine wpPar_pure rfl (by rfl) _ (fun W hW => by
        have q1 := HE.out
        go_simp
        exact rfl) ?_; simp only [Act.put, List.setIfInBounds_toArray, List.set_cons_zero, List.set_cons_succ])
    refine wpPar_pure rfl (by kernel_rfl) _ (fun W hW => by first | exact exec_load_blk _ _ rfl rfl (BL.out.kept hW (fun h => h)) aL | exact exec_load_blk _ _ rfl rfl (BX.out.kept hW (fun h => h)) aP' | exact exec_load_blk _ _ rfl rfl (BO.out.kept hW (fun h => h)) aO | (have q1 := HE.out; go_simp; exact rfl)) ?_; simp only [Act.put, List.setIfInBounds_toArray, List.set_cons_zero, List.set_cons_succ]
    refine wpPar_pure rfl (by kernel_rfl) _ (fun W hW => by first | exact exec_load_blk _ _ rfl rfl (BL.out.kept hW (fun h => h)) aL | exact exec_load_blk _ _ rfl rfl (BX.out.kept hW (fun h => h)) aP' | exact exec_load_blk _ _ rfl rfl (BO.out.kept hW (fun h => h)) aO | (have q1 := HE.out; go_simp; exact rfl)) ?_; simp only [Act.put, List.setIfInBounds_toArray, List.set_cons_zero, List.set_cons_succ]
    refine wpKn_adds hs rfl (by kernel_rfl) (fun W hW hd => ?_) (fun v7 hv => ?_)
    · unfold Gives
      go_simp
      refine gives_call (HT.out h256.out W (HSV.out.kept (k0.trans hW))) ?_
      rintro e w3 ⟨u, rfl, k3, b3⟩
      obtain ⟨a3, c3, rfl⟩ := b3.form
      obtain ⟨b, o, _, _, e1, _, _⟩ := Rl.at b3 (i := 0) (by simp)
      obtain rfl := e1
      exact ⟨_, rfl, k3, ⟨b, o, c3, by rw [HTN.out]⟩, b3.mono (Nat.zero_le _)⟩
    obtain ⟨b7, o7, c7, rfl⟩ : ∃ b o c, v7 = .slice (some ⟨b, o, none⟩) tn c := hv
    simp only [Act.put, List.setIfInBounds_toArray, List.set_cons_zero, List.set_cons_succ]
    refine wpPar_pure rfl (by kernel_rfl) _ (fun W hW => by
        have q1 := HE.out
        go_simp
        exact rfl) ?_; simp only [Act.put, List.setIfInBounds_toArray, List.set_cons_zero, List.set_cons_succ]
    refine wpKn_adds hs rfl (by kernel_rfl) (fun W hW hd => ?_) (fun v9 hv => ?_)
    · unfold Gives
      have b7' : Rl 0 W (.slice (some ⟨b7, o7, none⟩) tn c7) (tx :: rest) := hd 7 (List.Mem.head _)
      obtain ⟨b, o, a1, c1, e1, cc, rb⟩ := Rl.at b7' (i := 0) (by simp)
      obtain ⟨e2, e3⟩ : b7 = b ∧ o7 = o := by injection e1 with e1; injection e1 with e1 e2; exact ⟨e1, e2⟩
      subst e2 e3
      rw [Nat.add_zero] at cc
      have cc : W.cell? ⟨b7, o7, none⟩ = some (.slice a1 tx.length c1) := cc
      go_simp
      exact ⟨Kept.refl _ _, ⟨_, _, rfl⟩, rb⟩
    obtain ⟨a9, c9, rfl⟩ : ∃ a c, v9 = .slice a tx.length c := hv
    simp only [Act.put, List.setIfInBounds_toArray, List.set_cons_zero, List.set_cons_succ]
    refine wpKn_adds hs rfl (by kernel_rfl) (fun W hW hd => ?_) (fun v10 hv => ?_)
    · unfold Gives
      obtain ⟨hi9, b9⟩ : Rb 0 W (.slice a9 tx.length c9) tx := hd 9 (List.Mem.head _)
      go_simp
      refine gives_call (HSM.out h1000.out _ _ _ W b9) ?_
      rintro e w3 ⟨rfl, k3⟩
      exact ⟨_, rfl, k3, rfl, trivial⟩
    obtain rfl : v10 = hashV rp := hv
    simp only [Act.put, List.setIfInBounds_toArray, List.set_cons_zero, List.set_cons_succ]
    refine wpPar_pure rfl (by kernel_rfl) _ (fun W hW => by first | exact exec_load_blk _ _ rfl rfl (BL.out.kept hW (fun h => h)) aL | exact exec_load_blk _ _ rfl rfl (BX.out.kept hW (fun h => h)) aP' | exact exec_load_blk _ _ rfl rfl (BO.out.kept hW (fun h => h)) aO | (have q1 := HE.out; go_simp; exact rfl)) ?_; simp only [Act.put, List.setIfInBounds_toArray, List.set_cons_zero, List.set_cons_succ]
    refine wpPar_pure rfl (by kernel_rfl) _ (fun W hW => by
        have q1 := HE.out
        go_simp
        exact rfl) ?_; simp only [Act.put, List.setIfInBounds_toArray, List.set_cons_zero, List.set_cons_succ]
    iterate 1 (refine wpPar_pure rfl (by rfl) _ (fun W hW => by
        have q1 := HE.out
        go_simp
        exact rfl) ?_; simp only [Act.put, List.setIfInBounds_toArray, List.set_cons_zero, List.set_cons_succ])
    refine wpPar_nil (fun w3 hW hG => ?_)
    have k03 := k0.trans hW
    have hZ3 := hZ.kept hW (fun h => h)
    have c3 : w3.cell? ⟨w.heap.size + 1 + 1, 1, none⟩ = some (.int .i64 p.e) := by rw [(BX.out.kept hW (fun h => h)).cell]; exact HC1.out
    have rV3 := rangeAt_kept HV0.out hW
    clear hG hs hW k0 hZ HE
    cases bE with
    | false =>
      clear c3 rV3
      go_wp2_with (first | (refine wpList_store_blk rfl _ _ _ rfl rfl rfl hZ3 Sp.aH hz Pr.zero_all32 ?_; intro w9 hR9 k9) | fail)
      exact bodyPost_ret (v := .tuple #[.agg #[.int .u8 0, .int .u8 0, .int .u8 0, .int .u8 0, .int .u8 0, .int .u8 0, .int .u8 0, .int .u8 0, .int .u8 0, .int .u8 0, .int .u8 0, .int .u8 0, .int .u8 0, .int .u8 0, .int .u8 0, .int .u8 0, .int .u8 0, .int .u8 0, .int .u8 0, .int .u8 0, .int .u8 0, .int .u8 0, .int .u8 0, .int .u8 0, .int .u8 0, .int .u8 0, .int .u8 0, .int .u8 0, .int .u8 0, .int .u8 0, .int .u8 0, .int .u8 0], .bool false, .bool false]) (res_cell_tmp2 rfl _ rfl rfl rfl hR9 Sp.aH) rfl ⟨by rw [HRE.out.1, HRE.out.2.1, HRE.out.2.2]; rfl, k03.then k9 (fun i hi (h : i = w.heap.size + 1 + 1 + 1) => by omega)⟩
    | true =>
      by_cases h0 : p.e = 0
      · have hez : (p.e == 0) = true := by rw [h0]; rfl
        have HE0 := hid h0
        clear h0
        have E9 : Hid (z.size = PV_.toArray.size) := hid (by rw [hz, HPV.out.1]; simp [HPV.out.2])
        have AV : Hid (PV_.toArray.all (·.oneCell') = true) := hid (by rw [HPV.out.1]; exact u8v_all' _)
        have aV' : AggTy Try.prog 25 PV_.toArray.size := by simpa using aV
        go_wp2_with (first | (refine wpList_load_at rfl _ _ rfl rfl rV3 aV ?_) | (refine wpList_store_blk rfl _ _ _ rfl rfl rfl hZ3 aV' E9.out AV.out ?_; intro w9 hR9 k9) | fail)
        exact bodyPost_ret (v := .tuple #[.agg PV_.toArray, .bool true, .bool true]) (res_cell_tmp2 rfl _ rfl rfl rfl hR9 aV') rfl ⟨by rw [HRE.out.1, HRE.out.2.1, HRE.out.2.2, HE0.out, HPV.out.1]; rfl, k03.then k9 (fun i hi (h : i = w.heap.size + 1 + 1 + 1) => by omega)⟩
      · have hez : (p.e == 0) = false := by simpa using h0
        have HE0 := hid h0
        clear h0 rV3
        go_wp2_with (first | (refine wpList_store_blk rfl _ _ _ rfl rfl rfl hZ3 Sp.aH hz Pr.zero_all32 ?_; intro w9 hR9 k9) | fail)
        exact bodyPost_ret (v := .tuple #[.agg #[.int .u8 0, .int .u8 0, .int .u8 0, .int .u8 0, .int .u8 0, .int .u8 0, .int .u8 0, .int .u8 0, .int .u8 0, .int .u8 0, .int .u8 0, .int .u8 0, .int .u8 0, .int .u8 0, .int .u8 0, .int .u8 0, .int .u8 0, .int .u8 0, .int .u8 0, .int .u8 0, .int .u8 0, .int .u8 0, .int .u8 0, .int .u8 0, .int .u8 0, .int .u8 0, .int .u8 0, .int .u8 0, .int .u8 0, .int .u8 0, .int .u8 0, .int .u8 0], .bool false, .bool true]) (res_cell_tmp2 rfl _ rfl rfl rfl hR9 Sp.aH) rfl ⟨by rw [HRE.out.1, HRE.out.2.1, HRE.out.2.2, if_neg HE0.out, decide_eq_false HE0.out]; rfl, k03.then k9 (fun i hi (h : i = w.heap.size + 1 + 1 + 1) => by omega)⟩
end RPr
end Go.Proofs.Ytkogkcaflhjlhaa

namespace Go.Pm
open Go Go.RowKit
theorem fill_two_row (z A B : Array Value) (hz : z.size = 64) (hA : A.size = 32) (hB : B.size = 32) : Instr.fill (fun i => some (i * 32, 32)) z [(0, .agg A), (1, .agg B)] = some (A ++ B) := by
  have h := fill_two z A B hz hA hB
  have ha := fold_put 0 A.toList 0 z (by simp; omega)
  have hb := fold_put 32 B.toList 0 (A ++ (z.toList.drop 32).toArray) (by simp; omega)
  have e1 : A.zipIdx.foldl (fun cs (c, j) => cs.setIfInBounds (0 + j) c) z = A ++ (z.toList.drop 32).toArray := by
    rw [← Array.foldl_toList, Array.toList_zipIdx]
    refine ha.trans ?_
    apply Array.ext'
    simp [hA]
  have e2 : B.zipIdx.foldl (fun cs (c, j) => cs.setIfInBounds (32 + j) c) (A ++ (z.toList.drop 32).toArray) = A ++ B := by
    rw [← Array.foldl_toList, Array.toList_zipIdx]
    refine hb.trans ?_
    apply Array.ext'
    have h1 : (A.toList ++ z.toList.drop 32).take 32 = A.toList := List.take_left' (by simpa using hA)
    have h2 : (A.toList ++ z.toList.drop 32).drop 64 = [] := List.drop_eq_nil_of_le (by simp; omega)
    simp [hB, h1, h2]
  rw [fill_cons (v := .agg A) (off := 0) (size := 32) (by simp) (show (Value.agg A).cells.size = 32 from hA) (by show 0 + A.size ≤ z.size; omega)]
  rw [show (Value.agg A).cells = A from rfl, e1]
  rw [fill_cons (v := .agg B) (off := 32) (size := 32) (by simp) (show (Value.agg B).cells.size = 32 from hB) (by show 32 + B.size ≤ _; simp; omega)]
  rw [show (Value.agg B).cells = B from rfl, e2]
  rfl
/-- A new row of two hashes, for the walk. -/
theorem wpList_two_hash {P : Program} {ops : Array Oper} {rest : List Oper} {o : Oper} {a : Act} {w : World} {Q : Exit → Act → World → Prop} (hg : o.guard = none) (t : TypeId) (x y : Operand) (ho : o.op = .buildSlice t 2 #[(0, x), (1, y)])
    {e : TypeId} {z : Value} {bytes : Nat} (hT : RowTyK P t e z 32 bytes) {A B : Array Value} (hx : a.eval x = .agg A) (hy : a.eval y = .agg B) (hA : A.size = 32) (hB : B.size = 32)
    (h : wpList P ops Q rest (a.put o.dst (.slice (some ⟨w.heap.size, 0, none⟩) 2 2)) (w.alloc (.cells (A ++ B) e))) : wpList P ops Q (o :: rest) a w := by
  obtain ⟨i, hi, hz, hs, hb⟩ := hT.info
  have hp := hT.pos
  refine wpList_buildSlice hg t e 2 #[(0, x), (1, y)] ho (A ++ B) i z hT.sl hi hz (by omega) (by omega) ?_ h
  rw [hs, show ((#[(0, x), (1, y)] : Array (Nat × Operand)).map fun (i, x) => (i, a.eval x)).toList = [(0, .agg A), (1, .agg B)] by simp [hx, hy]]
  exact fill_two_row _ A B (by simp) hA hB
theorem Hs.two {w : World} {g : Nat} {p q : List UInt8} {e : TypeId} (hb : Blk w g ((p.map u8v).toArray ++ (q.map u8v).toArray) e) (hp : p.length = 32) (hq : q.length = 32) : Hs w g (g + 1) (.slice (some ⟨g, 0, none⟩) 2 2) [p, q] := by
  have h2 : H32 [p, q] := H32.cons hp (H32.one hq)
  refine ⟨h2, hsC_each h2, ?_⟩
  exact Fs.ofBlk hb (by simp [hsC, hp, hq]) (Nat.le_refl _) (by decide) (fun i x hx => by simpa [hsC] using hx)
theorem fill_three (k : Nat) (z A B C : Array Value) (hz : z.size = 3 * k) (hA : A.size = k) (hB : B.size = k) (hC : C.size = k) : Instr.fill (fun i => some (i * k, k)) z [(0, .agg A), (1, .agg B), (2, .agg C)] = some (A ++ B ++ C) := by
  have ha := fold_put 0 A.toList 0 z (by simp; omega)
  have hb := fold_put (1 * k) B.toList 0 (A ++ (z.toList.drop k).toArray) (by simp; omega)
  have hc := fold_put (2 * k) C.toList 0 (A ++ B ++ (z.toList.drop (2 * k)).toArray) (by simp; omega)
  have e1 : A.zipIdx.foldl (fun cs (c, j) => cs.setIfInBounds (0 * k + j) c) z = A ++ (z.toList.drop k).toArray := by
    rw [← Array.foldl_toList, Array.toList_zipIdx, Nat.zero_mul]
    refine ha.trans ?_
    apply Array.ext'
    simp [hA]
  have e2 : B.zipIdx.foldl (fun cs (c, j) => cs.setIfInBounds (1 * k + j) c) (A ++ (z.toList.drop k).toArray) = A ++ B ++ (z.toList.drop (2 * k)).toArray := by
    rw [← Array.foldl_toList, Array.toList_zipIdx]
    refine hb.trans ?_
    apply Array.ext'
    have h1 : (A.toList ++ z.toList.drop k).take k = A.toList := List.take_left' (by simpa using hA)
    have h2 : (A.toList ++ z.toList.drop k).drop (k + B.size) = z.toList.drop (2 * k) := by
      rw [hB, List.drop_append, List.drop_eq_nil_of_le (by simp; omega), List.nil_append, List.drop_drop]
      congr 1
      simp only [Array.length_toList]
      omega
    simp [h1, h2]
  have e3 : C.zipIdx.foldl (fun cs (c, j) => cs.setIfInBounds (2 * k + j) c) (A ++ B ++ (z.toList.drop (2 * k)).toArray) = A ++ B ++ C := by
    rw [← Array.foldl_toList, Array.toList_zipIdx]
    refine hc.trans ?_
    apply Array.ext'
    have h1 : (A.toList ++ (B.toList ++ z.toList.drop (2 * k))).take (2 * k) = A.toList ++ B.toList := by
      rw [← List.append_assoc]
      exact List.take_left' (by simp; omega)
    have h2 : (A.toList ++ (B.toList ++ z.toList.drop (2 * k))).drop (2 * k + C.size) = [] := List.drop_eq_nil_of_le (by simp; omega)
    simp [h1, h2]
  rw [fill_cons (v := .agg A) (off := 0 * k) (size := k) (by simp) (show (Value.agg A).cells.size = k from hA) (by show 0 * k + A.size ≤ z.size; omega)]
  rw [show (Value.agg A).cells = A from rfl, e1]
  rw [fill_cons (v := .agg B) (off := 1 * k) (size := k) (by simp) (show (Value.agg B).cells.size = k from hB) (by show 1 * k + B.size ≤ _; simp; omega)]
  rw [show (Value.agg B).cells = B from rfl, e2]
  rw [fill_cons (v := .agg C) (off := 2 * k) (size := k) (by simp) (show (Value.agg C).cells.size = k from hC) (by show 2 * k + C.size ≤ _; simp; omega)]
  rw [show (Value.agg C).cells = C from rfl, e3]
  rfl
/-- A new row of three, in a drawn region. -/
theorem exec_three {P : Program} {o : Oper} {ev : Operand → Value} {w : World} (t : TypeId) (x y u : Operand) (ho : o.op = .buildSlice t 3 #[(0, x), (1, y), (2, u)])
    {e : TypeId} {z : Value} {k bytes : Nat} (hT : RowTyK P t e z k bytes) (hk : k ≤ 1000) {A B C : Array Value} (hx : ev x = .agg A) (hy : ev y = .agg B) (hu : ev u = .agg C) (hA : A.size = k) (hB : B.size = k) (hC : C.size = k) :
    (execOp ev o).run P w = .ok (.value (.slice (some ⟨w.heap.size, 0, none⟩) 3 3)) (w.alloc (.cells (A ++ B ++ C) e)) := by
  obtain ⟨i, hi, hz, hs, hb⟩ := hT.info
  have hp := hT.pos
  have hr := run_buildSlice (P := P) w t e 3 #[(0, .agg A), (1, .agg B), (2, .agg C)] (A ++ B ++ C) i z hT.sl hi hz (by omega) (by omega) (by rw [hs]; exact fill_three k _ A B C (by simp) hA hB hC)
  unfold execOp
  simp only [ho, Sem.run_bind]
  rw [show (#[(0, x), (1, y), (2, u)] : Array (Nat × Operand)).map (fun (i, x) => (i, ev x)) = #[(0, .agg A), (1, .agg B), (2, .agg C)] by simp [hx, hy, hu]]
  rw [hr]
  rfl
/-- It is a row of three proofs, the last one known by what it reads as. -/
abbrev Fct.three (k lo : Nat) (t : TypeId) (A B : Array Value) (m : Pf) (uses : List Nat := []) : Fct := { k := k, uses := uses, pure := fun u => ∃ g, u = .slice (some ⟨g, 0, none⟩) 3 3, fact := fun u W => ∃ g C, u = .slice (some ⟨g, 0, none⟩) 3 3 ∧ lo ≤ g ∧ Blk W g (A ++ B ++ C) t ∧ PV m W C }
theorem Steady.three {l : List Fct} {k lo : Nat} {t : TypeId} {A B : Array Value} {m : Pf} {us : List Nat} (h : Steady l) : Steady (.three k lo t A B m us :: l) := .cons ⟨_, 0, rfl⟩ (fun _ _ _ hk ⟨g, C, h1, h2, h3, h4⟩ => ⟨g, C, h1, h2, h3.kept hk (fun h => h), h4.kept hk⟩) h
/-- Each third of a row of three. -/
theorem three_at {w : World} {g k : Nat} {t : TypeId} {A B C : Array Value} (hb : Blk w g (A ++ B ++ C) t) (hA : A.size = k) (hB : B.size = k) : w.rangeAt g 0 A.toList ∧ w.rangeAt g k B.toList ∧ w.rangeAt g (2 * k) C.toList := by
  refine ⟨fun j v hv => ?_, fun j v hv => ?_, fun j v hv => ?_⟩
  · have h := hb.cell (0 + j)
    rw [h]
    have hj : j < A.size := by simpa using (List.getElem?_eq_some_iff.1 hv).1
    have : (A ++ B ++ C)[0 + j]? = some v := by
      rw [Nat.zero_add, Array.append_assoc, Array.getElem?_append_left hj, ← Array.getElem?_toList]; exact hv
    exact this
  · have h := hb.cell (k + j)
    rw [h]
    have hj : j < B.size := by simpa using (List.getElem?_eq_some_iff.1 hv).1
    have : (A ++ B ++ C)[k + j]? = some v := by
      rw [Array.append_assoc, Array.getElem?_append_right (by omega), show k + j - A.size = j by omega, Array.getElem?_append_left hj, ← Array.getElem?_toList]; exact hv
    exact this
  · have h := hb.cell (2 * k + j)
    rw [h]
    have : (A ++ B ++ C)[2 * k + j]? = some v := by
      rw [Array.getElem?_append_right (by simp; omega), show 2 * k + j - (A ++ B).size = j by simp; omega, ← Array.getElem?_toList]; exact hv
    exact this
end Go.Pm
namespace Go.Proofs.Ytkogkcaflhjlhaa
open Go.RowKit Go.Pm
namespace Pr
theorem rtProofs : RowTyK Try.prog 53 45 (.agg Try.zeroCells45) 66 96 := Hk.rtyK (by kernel_rfl) (by kernel_rfl) (by rfl) (by decide)
end Pr
end Go.Proofs.Ytkogkcaflhjlhaa
