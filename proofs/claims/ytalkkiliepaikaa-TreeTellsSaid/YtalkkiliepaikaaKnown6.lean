/- postmarklaw6.known: true. -/
import Derived.Test.YtalkkiliepaikaaRoots6
namespace Go.Proofs.Ytalkkiliepaikaa
open Go.RowKit Go.Pm

namespace Tr
def nameA : ByteArray := { data := #[97] }
def x0 : It := ⟨indexH nameA, valueH 1 2⟩
theorem sums_unlike : leafH x0 ≠ emptyH := by decide +kernel
theorem bit_40 : bitI (64 :: List.replicate 31 0) 1 = 1 := by decide
theorem rootOf_nil : rootOf [] = emptyH := rfl
theorem rootOf_one (x : It) : rootOf [x] = leafH x := by
  unfold rootOf
  rw [show setI [x] = [x] from rfl]
  exact RTr.rootI_one 256 0 x
set_option maxRecDepth 100000 in
set_option maxHeartbeats 4000000 in
theorem known (w : World) : Calls Try.prog 7 #[] w fun e w' => e = .returned (.bool true) ∧ Kept None w w' := by
  obtain ⟨x, hx⟩ : ∃ x, x = x0 := ⟨_, rfl⟩
  have hxl : x.i.length = 32 ∧ x.v.length = 32 := by rw [hx]; exact ⟨indexH_len _, valueH_len _ _⟩
  have h64 := itC_len hxl
  have f0 : ∀ W, Calls Try.prog 12 #[.slice none 0 0] W fun e w' => e = .returned (hashV emptyH) ∧ Kept None W w' := fun W => by
    have h := root (.slice none 0 0) 0 0 [] W (Its.nil _ _ _) (by simp)
    rwa [rootOf_nil] at h
  have f1 : ∀ W, Calls Try.prog 22 #[] W fun e w' => e = .returned (hashV emptyH) ∧ Kept None W w' := fun W => empty W
  have f2 : ∀ v lo hi W, Its W lo hi v [x] → Calls Try.prog 12 #[v] W fun e w' => e = .returned (hashV (leafH x)) ∧ Kept None W w' := fun v lo hi W h => by
    have h := root v lo hi [x] W h (by simp)
    rwa [rootOf_one] at h
  have f3 : ∀ W, Calls Try.prog 18 #[.agg (itC x).toArray] W fun e w' => e = .returned (hashV (leafH x)) ∧ Kept None W w' := fun W => by
    have h := leaf x W hxl
    rwa [show itemV x = .agg (itC x).toArray by simp [itemV, itC]] at h
  have f4 : ∀ W, Calls Try.prog 14 #[.string { data := #[97] }] W fun e w' => e = .returned (hashV x.i) ∧ Kept None W w' := fun W => by
    rw [hx]; exact index nameA W (by decide)
  have f5 : ∀ W, Calls Try.prog 16 #[.int .i64 1, .int .u64 2] W fun e w' => e = .returned (hashV x.v) ∧ Kept None W w' := fun W => by
    rw [hx]; exact value 1 2 W (by decide)
  have f6 : ∀ W, Calls Try.prog 24 #[.agg #[.int .u8 64, .int .u8 0, .int .u8 0, .int .u8 0, .int .u8 0, .int .u8 0, .int .u8 0, .int .u8 0, .int .u8 0, .int .u8 0, .int .u8 0, .int .u8 0, .int .u8 0, .int .u8 0, .int .u8 0, .int .u8 0, .int .u8 0, .int .u8 0, .int .u8 0, .int .u8 0, .int .u8 0, .int .u8 0, .int .u8 0, .int .u8 0, .int .u8 0, .int .u8 0, .int .u8 0, .int .u8 0, .int .u8 0, .int .u8 0, .int .u8 0, .int .u8 0], .int .i64 1] W fun e w' => e = .returned (.int .i64 1) ∧ Kept None W w' := fun W => by
    have h := bit (64 :: List.replicate 31 0) (by simp) 1 (by decide) W
    rw [bit_40] at h
    exact h
  have f7 : ∀ W, Calls Try.prog 24 #[.agg #[.int .u8 64, .int .u8 0, .int .u8 0, .int .u8 0, .int .u8 0, .int .u8 0, .int .u8 0, .int .u8 0, .int .u8 0, .int .u8 0, .int .u8 0, .int .u8 0, .int .u8 0, .int .u8 0, .int .u8 0, .int .u8 0, .int .u8 0, .int .u8 0, .int .u8 0, .int .u8 0, .int .u8 0, .int .u8 0, .int .u8 0, .int .u8 0, .int .u8 0, .int .u8 0, .int .u8 0, .int .u8 0, .int .u8 0, .int .u8 0, .int .u8 0, .int .u8 0], .int .i64 300] W fun e w' => e = .returned (.int .i64 0) ∧ Kept None W w' := fun W =>
    bit_out (64 :: List.replicate 31 0) 300 (.inr (by decide)) W
  have f8 : ∀ W, Calls Try.prog 15 #[.string { data := #[97] }] W fun e w' => e = .returned (hashV x.i) ∧ Kept None W w' := fun W => by
    rw [hx]; exact RTr.index nameA W (by decide)
  have fI : ∀ W, Calls Try.prog 27 #[.agg #[.string { data := #[97] }, .int .i64 1, .int .u64 2]] W fun e w' => e = .returned (.agg (itC x).toArray) ∧ Kept None W w' := fun W => by
    have h := item nameA 1 2 W (by decide) (by decide)
    rw [show itemV ⟨indexH nameA, valueH 1 2⟩ = .agg (itC x).toArray by rw [hx]; simp [itemV, itC, x0]] at h
    exact h
  have e1 := eqHash emptyH emptyH (sumB_len _) (sumB_len _)
  have e2 := eqHash (leafH x) (leafH x) (sumB_len _) (sumB_len _)
  have e3 := neqHash (leafH x) emptyH (sumB_len _) (sumB_len _)
  have e4 := eqHash x.i x.i hxl.1 hxl.1
  have e5 := eqHash x.v x.v hxl.2 hxl.2
  rw [show (leafH x == emptyH) = false by rw [beq_eq_false_iff_ne, hx]; exact sums_unlike] at e3
  simp only [beq_self_eq_true, Bool.not_false] at e1 e2 e3 e4 e5
  obtain ⟨CE, hCE⟩ : ∃ CE, CE = emptyH.map u8v := ⟨_, rfl⟩
  obtain ⟨CL, hCL⟩ : ∃ CL, CL = (leafH x).map u8v := ⟨_, rfl⟩
  obtain ⟨CI, hCI⟩ : ∃ CI, CI = x.i.map u8v := ⟨_, rfl⟩
  obtain ⟨CV, hCV⟩ : ∃ CV, CV = x.v.map u8v := ⟨_, rfl⟩
  obtain ⟨CX, hCX⟩ : ∃ CX, CX = itC x := ⟨_, rfl⟩
  have hCXX : CX = CI ++ CV := by rw [hCX, hCI, hCV]; rfl
  have lI : CI.length = 32 := by rw [hCI, List.length_map]; exact hxl.1
  have lV : CV.length = 32 := by rw [hCV, List.length_map]; exact hxl.2
  rw [show hashV emptyH = .agg CE.toArray by rw [hCE]] at f0
  rw [show hashV emptyH = .agg CE.toArray by rw [hCE]] at f1
  rw [show hashV (leafH x) = .agg CL.toArray by rw [hCL]] at f2
  rw [show hashV (leafH x) = .agg CL.toArray by rw [hCL], ← hCX] at f3
  rw [show hashV x.i = .agg CI.toArray by rw [hCI]] at f4
  rw [show hashV x.v = .agg CV.toArray by rw [hCV]] at f5
  rw [show hashV x.i = .agg CI.toArray by rw [hCI]] at f8
  rw [← hCX] at fI
  rw [← hCE] at e1
  rw [← hCL] at e2
  rw [← hCL, ← hCE] at e3
  rw [← hCI] at e4
  rw [← hCV] at e5
  have H := hid (And.intro f0 (And.intro f1 (And.intro f2 (And.intro f3 (And.intro f4 (And.intro f5 (And.intro f6 (And.intro f7 f8))))))))
  have HI := hid fI
  rw [← hCX] at h64
  have HX64 := hid h64
  have HXL := hid hxl
  have HCX := hid hCX
  have HXX := hid hCXX
  have aX : AggTy Try.prog 35 CX.length := by rw [h64]; exact RTr.aI64
  have aI : AggTy Try.prog 24 CI.length := by rw [lI]; exact Sp.aH
  have aV : AggTy Try.prog 24 CV.length := by rw [lV]; exact Sp.aH
  have LI := hid lI
  have A1 : CX.toArray.all (·.oneCell') = true := all_oneCell_toArray (fun c hc => itsC_one [x] c (by simpa [itsC, ← hCX] using hc))
  have aX' : AggTy Try.prog 35 CX.toArray.size := by simpa using aX
  clear f0 f1 f2 f3 f4 f5 f6 f7 f8 fI hCE hCL hCI hCV hCX hCXX hx hxl h64 lI lV
  go_enter Try.func7, Try.ntmps7
  go_wp2_with fail
  refine (HI.out _).mono ?_
  rintro e w1 ⟨rfl, k1⟩
  have k0 : Kept None w (w1.alloc (.cells #[.int .u8 0, .int .u8 0, .int .u8 0, .int .u8 0, .int .u8 0, .int .u8 0, .int .u8 0, .int .u8 0, .int .u8 0, .int .u8 0, .int .u8 0, .int .u8 0, .int .u8 0, .int .u8 0, .int .u8 0, .int .u8 0, .int .u8 0, .int .u8 0, .int .u8 0, .int .u8 0, .int .u8 0, .int .u8 0, .int .u8 0, .int .u8 0, .int .u8 0, .int .u8 0, .int .u8 0, .int .u8 0, .int .u8 0, .int .u8 0, .int .u8 0, .int .u8 0, .int .u8 0, .int .u8 0, .int .u8 0, .int .u8 0, .int .u8 0, .int .u8 0, .int .u8 0, .int .u8 0, .int .u8 0, .int .u8 0, .int .u8 0, .int .u8 0, .int .u8 0, .int .u8 0, .int .u8 0, .int .u8 0, .int .u8 0, .int .u8 0, .int .u8 0, .int .u8 0, .int .u8 0, .int .u8 0, .int .u8 0, .int .u8 0, .int .u8 0, .int .u8 0, .int .u8 0, .int .u8 0, .int .u8 0, .int .u8 0, .int .u8 0, .int .u8 0] 35)) := k1.alloc _
  have v0 := Blk.new w1 #[.int .u8 0, .int .u8 0, .int .u8 0, .int .u8 0, .int .u8 0, .int .u8 0, .int .u8 0, .int .u8 0, .int .u8 0, .int .u8 0, .int .u8 0, .int .u8 0, .int .u8 0, .int .u8 0, .int .u8 0, .int .u8 0, .int .u8 0, .int .u8 0, .int .u8 0, .int .u8 0, .int .u8 0, .int .u8 0, .int .u8 0, .int .u8 0, .int .u8 0, .int .u8 0, .int .u8 0, .int .u8 0, .int .u8 0, .int .u8 0, .int .u8 0, .int .u8 0, .int .u8 0, .int .u8 0, .int .u8 0, .int .u8 0, .int .u8 0, .int .u8 0, .int .u8 0, .int .u8 0, .int .u8 0, .int .u8 0, .int .u8 0, .int .u8 0, .int .u8 0, .int .u8 0, .int .u8 0, .int .u8 0, .int .u8 0, .int .u8 0, .int .u8 0, .int .u8 0, .int .u8 0, .int .u8 0, .int .u8 0, .int .u8 0, .int .u8 0, .int .u8 0, .int .u8 0, .int .u8 0, .int .u8 0, .int .u8 0, .int .u8 0, .int .u8 0] 35
  obtain ⟨z, hz, hR⟩ : ∃ z : Array Value, z.size = 64 ∧ Blk (w1.alloc (.cells #[.int .u8 0, .int .u8 0, .int .u8 0, .int .u8 0, .int .u8 0, .int .u8 0, .int .u8 0, .int .u8 0, .int .u8 0, .int .u8 0, .int .u8 0, .int .u8 0, .int .u8 0, .int .u8 0, .int .u8 0, .int .u8 0, .int .u8 0, .int .u8 0, .int .u8 0, .int .u8 0, .int .u8 0, .int .u8 0, .int .u8 0, .int .u8 0, .int .u8 0, .int .u8 0, .int .u8 0, .int .u8 0, .int .u8 0, .int .u8 0, .int .u8 0, .int .u8 0, .int .u8 0, .int .u8 0, .int .u8 0, .int .u8 0, .int .u8 0, .int .u8 0, .int .u8 0, .int .u8 0, .int .u8 0, .int .u8 0, .int .u8 0, .int .u8 0, .int .u8 0, .int .u8 0, .int .u8 0, .int .u8 0, .int .u8 0, .int .u8 0, .int .u8 0, .int .u8 0, .int .u8 0, .int .u8 0, .int .u8 0, .int .u8 0, .int .u8 0, .int .u8 0, .int .u8 0, .int .u8 0, .int .u8 0, .int .u8 0, .int .u8 0, .int .u8 0] 35)) w1.heap.size z 35 := ⟨_, by rfl, v0⟩
  have E := hid (hz.trans (show 64 = CX.toArray.size by simpa using HX64.out.symm))
  have hsz := k1.size
  clear v0 k1 HI hz
  go_wp2_with (first | (refine wpList_store_blk (.refl _) _ _ _ rfl rfl rfl hR aX' E.out A1 ?_; intro w5 hB5 k5) | fail)
  have k05 : Kept None w w5 := k0.then k5 (fun i hi (e : i = w1.heap.size) => by omega)
  have hX : w5.rangeAt w1.heap.size 0 CX := fun j c hj => by rw [Nat.zero_add, hB5.cell]; simpa using hj
  have hI : w5.rangeAt w1.heap.size 0 CI := fun j c hj => by
    have hi := (List.getElem?_eq_some_iff.1 hj).1
    refine hX j c ?_
    rw [HXX.out, List.getElem?_append_left hi]; exact hj
  have hV : w5.rangeAt w1.heap.size 32 CV := fun j c hj => by
    have h := hX (32 + j) c (by rw [HXX.out, List.getElem?_append_right (by rw [LI.out]; omega), LI.out, Nat.add_sub_cancel_left]; exact hj)
    rwa [Nat.zero_add] at h
  clear hR k5 k0 hB5 hsz E
  have hs : Steady [.val 0 (.agg CE.toArray), .val 1 (.agg CE.toArray), .its 5 [x], .val 6 (.agg CL.toArray) [5], .val 8 (.agg CL.toArray), .val 13 (.agg CL.toArray), .val 14 (.agg CE.toArray), .val 20 (.agg CI.toArray), .val 26 (.agg CV.toArray), .val 31 (.int .i64 1), .val 36 (.int .i64 0), .val 42 (.agg CI.toArray)] := Steady.val (Steady.val (Steady.its (Steady.val (Steady.val (Steady.val (Steady.val (Steady.val (Steady.val (Steady.val (Steady.val (Steady.val (Steady.nil))))))))))))
  refine wp_region_kn w5 _ hs (Kept.refl _ _) (by kernel_rfl) (by kernel_rfl) (by kernel_rfl) ?_
  refine wpKn_adds hs rfl (by rfl) (fun W hW hd => ?_) (fun v0 hv => ?_)
  · unfold Gives
    go_simp
    refine gives_call (H.out.1 W) ?_
    rintro e w3 ⟨rfl, k3⟩
    exact ⟨_, rfl, k3, rfl, trivial⟩
  obtain rfl : v0 = .agg CE.toArray := hv
  simp only [Act.put, List.setIfInBounds_toArray, List.set_cons_zero, List.set_cons_succ]
  refine wpKn_adds hs rfl (by rfl) (fun W hW hd => ?_) (fun v1 hv => ?_)
  · unfold Gives
    go_simp
    refine gives_call (H.out.2.1 W) ?_
    rintro e w3 ⟨rfl, k3⟩
    exact ⟨_, rfl, k3, rfl, trivial⟩
  obtain rfl : v1 = .agg CE.toArray := hv
  simp only [Act.put, List.setIfInBounds_toArray, List.set_cons_zero, List.set_cons_succ]
  iterate 2 (refine wpPar_pure rfl (by rfl) _ (fun W hW => by
      go_simp
      exact rfl) ?_; simp only [Act.put, List.setIfInBounds_toArray, List.set_cons_zero, List.set_cons_succ])
  refine wpPar_pure rfl (by rfl) _ (fun W hW => exec_load_at rfl rfl (rangeAt_kept hX hW) aX) ?_; simp only [Act.put, List.setIfInBounds_toArray, List.set_cons_zero, List.set_cons_succ]
  refine wpKn_adds hs rfl (by rfl) (fun W hW hd => ?_) (fun v5 hv => ?_)
  · unfold Gives
    rw [exec_one_item 25 (.tmp 8) rfl RTr.rtItems (by decide) (A := CX.toArray) rfl (by simpa using HX64.out)]
    exact ⟨(Kept.refl None W).alloc _, ⟨_, _, rfl⟩, _, _, by rw [HCX.out]; exact Its.one W 35 x HXL.out⟩
  obtain ⟨a5, c5, rfl⟩ : ∃ a c, v5 = .slice a 1 c := hv
  simp only [Act.put, List.setIfInBounds_toArray, List.set_cons_zero, List.set_cons_succ]
  refine wpKn_adds hs rfl (by rfl) (fun W hW hd => ?_) (fun v6 hv => ?_)
  · unfold Gives
    obtain ⟨lo2, hi2, h2⟩ : ∃ lo hi, Its W lo hi (.slice a5 1 c5) [x] := hd 5 (List.Mem.head _)
    go_simp
    refine gives_call (H.out.2.2.1 _ _ _ W h2) ?_
    rintro e w3 ⟨rfl, k3⟩
    exact ⟨_, rfl, k3, rfl, trivial⟩
  obtain rfl : v6 = .agg CL.toArray := hv
  simp only [Act.put, List.setIfInBounds_toArray, List.set_cons_zero, List.set_cons_succ]
  refine wpPar_pure rfl (by rfl) _ (fun W hW => exec_load_at rfl rfl (rangeAt_kept hX hW) aX) ?_; simp only [Act.put, List.setIfInBounds_toArray, List.set_cons_zero, List.set_cons_succ]
  refine wpKn_adds hs rfl (by rfl) (fun W hW hd => ?_) (fun v8 hv => ?_)
  · unfold Gives
    go_simp
    refine gives_call (H.out.2.2.2.1 W) ?_
    rintro e w3 ⟨rfl, k3⟩
    exact ⟨_, rfl, k3, rfl, trivial⟩
  obtain rfl : v8 = .agg CL.toArray := hv
  simp only [Act.put, List.setIfInBounds_toArray, List.set_cons_zero, List.set_cons_succ]
  iterate 3 (refine wpPar_pure rfl (by rfl) _ (fun W hW => by
      go_simp
      exact rfl) ?_; simp only [Act.put, List.setIfInBounds_toArray, List.set_cons_zero, List.set_cons_succ])
  refine wpPar_pure rfl (by rfl) _ (fun W hW => exec_load_at rfl rfl (rangeAt_kept hX hW) aX) ?_; simp only [Act.put, List.setIfInBounds_toArray, List.set_cons_zero, List.set_cons_succ]
  refine wpKn_adds hs rfl (by rfl) (fun W hW hd => ?_) (fun v13 hv => ?_)
  · unfold Gives
    go_simp
    refine gives_call (H.out.2.2.2.1 W) ?_
    rintro e w3 ⟨rfl, k3⟩
    exact ⟨_, rfl, k3, rfl, trivial⟩
  obtain rfl : v13 = .agg CL.toArray := hv
  simp only [Act.put, List.setIfInBounds_toArray, List.set_cons_zero, List.set_cons_succ]
  refine wpKn_adds hs rfl (by rfl) (fun W hW hd => ?_) (fun v14 hv => ?_)
  · unfold Gives
    go_simp
    refine gives_call (H.out.2.1 W) ?_
    rintro e w3 ⟨rfl, k3⟩
    exact ⟨_, rfl, k3, rfl, trivial⟩
  obtain rfl : v14 = .agg CE.toArray := hv
  simp only [Act.put, List.setIfInBounds_toArray, List.set_cons_zero, List.set_cons_succ]
  iterate 4 (refine wpPar_pure rfl (by rfl) _ (fun W hW => by
      go_simp
      exact rfl) ?_; simp only [Act.put, List.setIfInBounds_toArray, List.set_cons_zero, List.set_cons_succ])
  refine wpPar_pure rfl (by rfl) _ (fun W hW => exec_load_at rfl rfl (rangeAt_kept hI hW) aI) ?_; simp only [Act.put, List.setIfInBounds_toArray, List.set_cons_zero, List.set_cons_succ]
  refine wpKn_adds hs rfl (by rfl) (fun W hW hd => ?_) (fun v20 hv => ?_)
  · unfold Gives
    go_simp
    refine gives_call (H.out.2.2.2.2.1 W) ?_
    rintro e w3 ⟨rfl, k3⟩
    exact ⟨_, rfl, k3, rfl, trivial⟩
  obtain rfl : v20 = .agg CI.toArray := hv
  simp only [Act.put, List.setIfInBounds_toArray, List.set_cons_zero, List.set_cons_succ]
  iterate 4 (refine wpPar_pure rfl (by rfl) _ (fun W hW => by
      go_simp
      exact rfl) ?_; simp only [Act.put, List.setIfInBounds_toArray, List.set_cons_zero, List.set_cons_succ])
  refine wpPar_pure rfl (by rfl) _ (fun W hW => exec_load_at rfl rfl (rangeAt_kept hV hW) aV) ?_; simp only [Act.put, List.setIfInBounds_toArray, List.set_cons_zero, List.set_cons_succ]
  refine wpKn_adds hs rfl (by rfl) (fun W hW hd => ?_) (fun v26 hv => ?_)
  · unfold Gives
    go_simp
    refine gives_call (H.out.2.2.2.2.2.1 W) ?_
    rintro e w3 ⟨rfl, k3⟩
    exact ⟨_, rfl, k3, rfl, trivial⟩
  obtain rfl : v26 = .agg CV.toArray := hv
  simp only [Act.put, List.setIfInBounds_toArray, List.set_cons_zero, List.set_cons_succ]
  iterate 4 (refine wpPar_pure rfl (by rfl) _ (fun W hW => by
      go_simp
      exact rfl) ?_; simp only [Act.put, List.setIfInBounds_toArray, List.set_cons_zero, List.set_cons_succ])
  refine wpKn_adds hs rfl (by rfl) (fun W hW hd => ?_) (fun v31 hv => ?_)
  · unfold Gives
    go_simp
    refine gives_call (H.out.2.2.2.2.2.2.1 W) ?_
    rintro e w3 ⟨rfl, k3⟩
    exact ⟨_, rfl, k3, rfl, trivial⟩
  obtain rfl : v31 = .int .i64 1 := hv
  simp only [Act.put, List.setIfInBounds_toArray, List.set_cons_zero, List.set_cons_succ]
  iterate 4 (refine wpPar_pure rfl (by rfl) _ (fun W hW => by
      go_simp
      exact rfl) ?_; simp only [Act.put, List.setIfInBounds_toArray, List.set_cons_zero, List.set_cons_succ])
  refine wpKn_adds hs rfl (by rfl) (fun W hW hd => ?_) (fun v36 hv => ?_)
  · unfold Gives
    go_simp
    refine gives_call (H.out.2.2.2.2.2.2.2.1 W) ?_
    rintro e w3 ⟨rfl, k3⟩
    exact ⟨_, rfl, k3, rfl, trivial⟩
  obtain rfl : v36 = .int .i64 0 := hv
  simp only [Act.put, List.setIfInBounds_toArray, List.set_cons_zero, List.set_cons_succ]
  iterate 4 (refine wpPar_pure rfl (by rfl) _ (fun W hW => by
      go_simp
      exact rfl) ?_; simp only [Act.put, List.setIfInBounds_toArray, List.set_cons_zero, List.set_cons_succ])
  refine wpPar_pure rfl (by rfl) _ (fun W hW => exec_load_at rfl rfl (rangeAt_kept hI hW) aI) ?_; simp only [Act.put, List.setIfInBounds_toArray, List.set_cons_zero, List.set_cons_succ]
  refine wpKn_adds hs rfl (by rfl) (fun W hW hd => ?_) (fun v42 hv => ?_)
  · unfold Gives
    go_simp
    refine gives_call (H.out.2.2.2.2.2.2.2.2 W) ?_
    rintro e w3 ⟨rfl, k3⟩
    exact ⟨_, rfl, k3, rfl, trivial⟩
  obtain rfl : v42 = .agg CI.toArray := hv
  simp only [Act.put, List.setIfInBounds_toArray, List.set_cons_zero, List.set_cons_succ]
  iterate 3 (refine wpPar_pure rfl (by rfl) _ (fun W hW => by
      go_simp
      exact rfl) ?_; simp only [Act.put, List.setIfInBounds_toArray, List.set_cons_zero, List.set_cons_succ])
  refine wpPar_nil (fun w9 hW hG => ?_)
  have k09 := k05.trans hW
  clear hG hs hW k05 e1 e2 e3 e4 e5
  go_wp2
  go_ret
  exact ⟨rfl, k09⟩
end Tr
end Go.Proofs.Ytalkkiliepaikaa
