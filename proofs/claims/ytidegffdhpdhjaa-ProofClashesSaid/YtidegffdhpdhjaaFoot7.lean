/- Package proof, foot: by contract. -/
import Derived.Test.YtidegffdhpdhjaaApp7
import Derived.Test.YtidegffdhpdhjaaSplit7
namespace Go.Proofs.Ytidegffdhpdhjaa
open Go.RowKit Go.Pm

namespace Pr
theorem aH32 {l : List UInt8} (h : l.length = 32) : AggTy Try.prog 23 (l.map u8v).toArray.size := by
  rw [show (l.map u8v).toArray.size = 32 by simpa using h]; exact Sp.aH
theorem aH32' {l : List UInt8} (h : l.length = 32) : AggTy Try.prog 23 (l.map u8v).length := by rw [List.length_map, h]; exact Sp.aH
theorem aI64' {x : It} (h : x.i.length = 32 ∧ x.v.length = 32) : AggTy Try.prog 61 (itC x).length := by rw [itC_len h]; exact RTr.aI64
theorem aP66 : AggTy Try.prog 63 66 := aggOf (by kernel_rfl) (by kernel_rfl)
theorem aP {s : Value} {p : Pf} (h : p.Ok) : AggTy Try.prog 63 (pfC s p).toArray.size := by
  rw [show (pfC s p).toArray.size = 66 by simpa using pfC_len s h]; exact aP66
theorem rtLists : RowTyK Try.prog 52 29 (.slice none 0 0) 1 24 := RTr.rtyK (by kernel_rfl) (by kernel_rfl) (by rfl) (by decide)
theorem rtHashes : RowTyK Try.prog 59 23 (.agg (Array.replicate 32 (.int .u8 0))) 32 32 := RTr.rtyK (by kernel_rfl) (by kernel_rfl) (by rfl) (by decide)

set_option maxRecDepth 100000 in
set_option maxHeartbeats 4000000 in
/-- foot. -/
theorem foot (s : Value) (p : Pf) (w : World) (hp : p.Ok) : Calls Try.prog 108 #[pfV s p] w fun e w' => ∃ u, e = .returned (.tuple #[hashV (sumB (footB p)), u]) ∧ Kept None w w' ∧ Rb w.heap.size w' u (footB p) := by
  obtain ⟨X, hX⟩ : ∃ X, X = (pfC s p).toArray := ⟨_, rfl⟩
  show Calls Try.prog 108 #[.agg (pfC s p).toArray] w _
  rw [← hX]
  have HX := hid hX
  clear hX
  by_cases he : p.e = 1
  · have hf : footB p = textB 122 [] := by unfold footB; rw [if_pos he]
    rw [hf]
    have h1 := fun w => Tr.empty w
    have h2 := fun w => Sp.text 122 (.slice none 0 0) 0 0 0 0 [] w (by decide) (by decide) ⟨[], Vs.nil w 0 0, rfl, fun i x l h _ => by simp at h⟩ (by simp) (by simp [total])
    have e32 : (sumB (textB 122 [])).length = 32 := sumB_len _
    rw [show emptyH = sumB (textB 122 []) from rfl] at h1
    obtain ⟨res, hres⟩ : ∃ res, res = sumB (textB 122 []) := ⟨_, rfl⟩
    obtain ⟨tx, htx⟩ : ∃ tx, tx = textB 122 [] := ⟨_, rfl⟩
    rw [← hres] at h1 e32 ⊢
    rw [← htx] at h2 ⊢
    have H1 := hid h1
    have H2 := hid h2
    have H32 := hid e32
    have hc1 : X[1]? = some (.int .i64 1) := by rw [HX.out]; simp [pfC, he]
    clear h1 h2 e32 hres htx hf he
    go_enter Try.func108, Try.ntmps108
    go_wp2_with fail
    refine Calls.nm ?_
    intro w1 e1
    have k1 : Kept None w w1 := by rw [e1]; exact ((Kept.refl _ _).alloc _).alloc _
    obtain ⟨z, hz, hR⟩ : ∃ z : Array Value, z.size = 32 ∧ Blk w1 (w.heap.size + 1) z 23 := by
      rw [e1]
      exact Blk.any (Blk.new2 w _ _ _) (by rfl)
    clear e1 hc1
    refine (H1.out _).mono ?_
    rintro e w2 ⟨rfl, k2⟩
    have k02 := k1.trans k2
    have hR2 := hR.kept k2 (fun h => h)
    clear k1 k2 hR
    go_wp2_with fail
    refine (H2.out _).mono ?_
    rintro e w3 ⟨u, rfl, k3, b3⟩
    have k03 := k02.trans k3
    have hR3 := hR2.kept k3 (fun h => h)
    have hb3 := b3.rb
    obtain ⟨a3, c3, rfl⟩ := b3.form
    have hlt := hid hR2.lt
    have hle := hid k02.size
    clear k02 k3 hR2 b3
    have aH' := aH32 H32.out
    have E := hid (hz.trans (show 32 = (res.map u8v).toArray.size by simpa using H32.out.symm))
    clear hz
    go_wp2_with (first | (refine wpList_store_blk rfl _ _ _ rfl rfl rfl hR3 aH' E.out (u8v_all _) ?_; intro w9 hR9 k9) | fail)
    exact bodyPost_ret (v := .tuple #[hashV res, .slice a3 tx.length c3]) (res_cell_tmp rfl _ rfl rfl hR9 aH') rfl ⟨_, rfl, k03.then k9 (fun i hi (h : i = w.heap.size + 1) => by omega), (hb3.keptS k9 (fun k h1 h => by have := hlt.out; have : k = w.heap.size + 1 := h; omega)).mono hle.out⟩
  · have hf : footB p = textB 108 [p.x.i, p.x.v] := by unfold footB; rw [if_neg he]
    rw [hf]
    obtain ⟨hx1, hx2⟩ := hp.2
    have h1 := fun w => Tr.leaf p.x w hp.2
    have h2 := fun v lo hi lo' hi' w hv => Sp.text 108 v lo hi lo' hi' [p.x.i, p.x.v] w (by decide) (by decide) hv (by simp) (by simp [total]; omega)
    have e32 : (sumB (textB 108 [p.x.i, p.x.v])).length = 32 := sumB_len _
    rw [show leafH p.x = sumB (textB 108 [p.x.i, p.x.v]) from rfl] at h1
    obtain ⟨res, hres⟩ : ∃ res, res = sumB (textB 108 [p.x.i, p.x.v]) := ⟨_, rfl⟩
    obtain ⟨tx, htx⟩ : ∃ tx, tx = textB 108 [p.x.i, p.x.v] := ⟨_, rfl⟩
    rw [← hres] at h1 e32 ⊢
    rw [← htx] at h2 ⊢
    obtain ⟨IV, hIV⟩ : ∃ IV : Value, IV = .agg (itC p.x).toArray := ⟨_, rfl⟩
    rw [show itemV p.x = .agg (itC p.x).toArray by simp [itemV, itC], ← hIV] at h1
    have HIV := hid hIV
    have H1 := hid h1
    have H2 := hid h2
    have H32 := hid e32
    have hc1 : X[1]? = some (.int .i64 p.e) := by rw [HX.out]; simp [pfC]
    have he1 : (p.e == 1) = false := by simpa using he
    clear h1 h2 e32 hres htx hf hIV
    go_enter Try.func108, Try.ntmps108
    go_wp2_with fail
    refine wp_nm ?_
    intro w1 e1
    have k1 : Kept None w w1 := by rw [e1]; exact ((Kept.refl _ _).alloc _).alloc _
    have hX1 : Blk w1 w.heap.size X 63 := by rw [e1]; exact (Blk.new w _ _).alloc _
    obtain ⟨z, hz, hR⟩ : ∃ z : Array Value, z.size = 32 ∧ Blk w1 (w.heap.size + 1) z 23 := by
      rw [e1]
      exact Blk.any (Blk.new2 w _ _ _) (by rfl)
    have hr : ∀ W, Kept None w1 W → W.rangeAt w.heap.size 2 (itC p.x) ∧ Rb w.heap.size W (.slice (some ⟨w.heap.size, 2, none⟩) 32 32) p.x.i ∧ Rb w.heap.size W (.slice (some ⟨w.heap.size, 34, none⟩) 32 32) p.x.v := fun W hW => by
      have hb : Blk W w.heap.size (pfC s p).toArray 63 := HX.out ▸ (hX1.kept hW (fun h => h))
      exact ⟨pf_rx hb, range_bs (pf_ri hb hp) hx1 (by decide), range_bs (pf_rv hb hp) hx2 (by decide)⟩
    have HR := hid hr
    have aY := aI64' hp.2
    clear e1 hc1 hr hX1
    have hs : Steady [.val 2 (hashV res), .lists 9 [p.x.i, p.x.v], .rb 10 w1.heap.size tx [9]] := Steady.val (Steady.lists (Steady.rb (Steady.nil)))
    refine wp_region_kn_tail 11 w1 _ hs (Kept.refl _ _) (by kernel_rfl) (by kernel_rfl) (by kernel_rfl) ?_
    simp only [List.take_succ_cons, List.take_zero, List.drop_succ_cons, List.drop_zero]
    iterate 1 (refine wpPar_pure rfl (by rfl) _ (fun W hW => by
        go_simp
        exact rfl) ?_; simp only [Act.put, List.setIfInBounds_toArray, List.set_cons_zero, List.set_cons_succ])
    refine wpPar_pure rfl (by rfl) IV (fun W hW => by rw [HIV.out]; exact exec_load_at rfl rfl (HR.out W hW).1 aY) ?_; simp only [Act.put, List.setIfInBounds_toArray, List.set_cons_zero, List.set_cons_succ]
    refine wpKn_adds hs rfl (by rfl) (fun W hW hd => ?_) (fun v2 hv => ?_)
    · unfold Gives
      go_simp
      refine gives_call (H1.out W) ?_
      rintro e w3 ⟨rfl, k3⟩
      exact ⟨_, rfl, k3, rfl, trivial⟩
    obtain rfl : v2 = hashV res := hv
    simp only [Act.put, List.setIfInBounds_toArray, List.set_cons_zero, List.set_cons_succ]
    iterate 6 (refine wpPar_pure rfl (by rfl) _ (fun W hW => by
        go_simp
        exact rfl) ?_; simp only [Act.put, List.setIfInBounds_toArray, List.set_cons_zero, List.set_cons_succ])
    refine wpKn_adds hs rfl (by rfl) (fun W hW hd => ?_) (fun v9 hv => ?_)
    · unfold Gives
      go_simp
      exact ⟨(Kept.refl None W).alloc _, ⟨_, _, rfl⟩, _, _, _, _, Bss.new W #[.slice (some ⟨w.heap.size, 2, none⟩) 32 32, .slice (some ⟨w.heap.size, 34, none⟩) 32 32] 29 [p.x.i, p.x.v] 2 rfl (by decide) ⟨(HR.out W hW).2.1.all, (HR.out W hW).2.2.all, trivial⟩⟩
    obtain ⟨a9, c9, rfl⟩ : ∃ a c, v9 = .slice a 2 c := hv
    simp only [Act.put, List.setIfInBounds_toArray, List.set_cons_zero, List.set_cons_succ]
    refine wpKn_adds hs rfl (by rfl) (fun W hW hd => ?_) (fun v10 hv => ?_)
    · unfold Gives
      obtain ⟨lo1, hi1, lo2, hi2, h1⟩ : ∃ lo hi lo' hi', Bss W lo hi lo' hi' (.slice a9 2 c9) [p.x.i, p.x.v] := hd 9 (List.Mem.head _)
      go_simp
      refine gives_call (H2.out _ _ _ _ _ _ h1) ?_
      rintro e w3 ⟨u, rfl, k3, b3⟩
      obtain ⟨a3, c3, rfl⟩ := b3.form
      exact ⟨_, rfl, k3, ⟨_, _, rfl⟩, b3.rb.mono hW.size⟩
    obtain ⟨a10, c10, rfl⟩ : ∃ a c, v10 = .slice a tx.length c := hv
    simp only [Act.put, List.setIfInBounds_toArray, List.set_cons_zero, List.set_cons_succ]
    refine wpPar_nil (fun W hW hG => ?_)
    have hb : Rb w1.heap.size W (.slice a10 tx.length c10) tx := hG 10
    have k03 := k1.trans hW
    have hR3 := hR.kept hW (fun h => h)
    have hlt := hid hR.lt
    have hle := hid k1.size
    clear hG hs hW k1 hR HR H1 H2
    have aH' := aH32 H32.out
    have E := hid (hz.trans (show 32 = (res.map u8v).toArray.size by simpa using H32.out.symm))
    clear hz aY
    go_wp2_with (first | (refine wpList_store_blk rfl _ _ _ rfl rfl rfl hR3 aH' E.out (u8v_all _) ?_; intro w9 hR9 k9) | fail)
    exact bodyPost_ret (v := .tuple #[hashV res, .slice a10 tx.length c10]) (res_cell_tmp rfl _ rfl rfl hR9 aH') rfl ⟨_, rfl, k03.then k9 (fun i hi (h : i = w.heap.size + 1) => by omega), (hb.keptS k9 (fun k h1 h => by have := hlt.out; have : k = w.heap.size + 1 := h; omega)).mono hle.out⟩
end Pr
end Go.Proofs.Ytidegffdhpdhjaa
