/- Package proof, Right; postmarkref5.ProofRight: by contract. -/
import Derived.Test.YtidegffdhpdhjaaSays7
namespace Go.Proofs.Ytidegffdhpdhjaa
open Go.RowKit Go.Pm
namespace Pr
set_option maxRecDepth 100000 in
set_option maxHeartbeats 1000000 in
/-- Right. -/
theorem right (i : List UInt8) (s : Value) (p : Pf) (w : World) (hi : i.length = 32) (hp : p.Ok) (hs : Rh 0 w s p.path) : Calls Try.prog 61 #[hashV i, pfV s p] w fun e w' => e = .returned (.bool (rightP i p)) ∧ Kept None w w' := by
  obtain ⟨q0, hv⟩ := hs
  obtain ⟨a, c, rfl, g1, g2, g3⟩ := hv.form
  obtain ⟨n, hn⟩ : ∃ n, n = p.path.length := ⟨_, rfl⟩
  rw [← hn] at g1
  rw [show pfV (.slice a p.path.length c) p = .agg (pfC (.slice a n c) p).toArray by rw [hn]]
  obtain ⟨X, hX⟩ : ∃ X, X = (pfC (.slice a n c) p).toArray := ⟨_, rfl⟩
  obtain ⟨L, hL⟩ : ∃ L : Array Value, L = (i.map u8v).toArray := ⟨_, rfl⟩
  obtain ⟨CI, hCI⟩ : ∃ CI : List Value, CI = p.x.i.map u8v := ⟨_, rfl⟩
  obtain ⟨CX, hCX⟩ : ∃ CX : List Value, CX = itC p.x := ⟨_, rfl⟩
  obtain ⟨bI, hbI⟩ : ∃ b, b = (p.x.i == i) := ⟨_, rfl⟩
  obtain ⟨bX, hbX⟩ : ∃ b, b = itEq p.x zeroIt := ⟨_, rfl⟩
  obtain ⟨bA, hbA⟩ : ∃ b, b = alikeB p.x.i i n := ⟨_, rfl⟩
  have E1 := Tr.eqHash p.x.i i hp.2.1 hi
  have E2 := Tr.neqHash p.x.i i hp.2.1 hi
  have E3 := eqItem p.x zeroIt hp.2 ⟨rfl, rfl⟩
  have E4 := fun w (h : n ≤ 256) => alike p.x.i i n w hp.2.1 hi h
  have aL := aH32 hi
  have aI := aH32' hp.2.1
  have aX := aI64' hp.2
  have hres : rightP i p = (decide (n ≤ 256) && (if p.e = 0 then bI else if p.e = 1 then bX else if p.e = 2 then !bI && bA else false)) := by
    unfold rightP
    rw [hbI, hbX, hbA, itEq_is, hn]
  rw [zero_item] at E3
  show Calls Try.prog 61 #[.agg (i.map u8v).toArray, .agg (pfC (.slice a n c) p).toArray] w _
  have E4 : ∀ w, n ≤ 256 → Calls Try.prog 105 #[.agg (p.x.i.map u8v).toArray, .agg (i.map u8v).toArray, .int .i64 n] w fun e w' => e = .returned (.bool (alikeB p.x.i i n)) ∧ Kept None w w' := E4
  have k0 : Kept None w ((w.alloc (.cells L 23)).alloc (.cells X 63)) := ((Kept.refl _ _).alloc _).alloc _
  have bL : Blk ((w.alloc (.cells L 23)).alloc (.cells X 63)) w.heap.size L 23 := (Blk.new w _ _).alloc _
  have b0 : Blk ((w.alloc (.cells L 23)).alloc (.cells X 63)) (w.heap.size + 1) X 63 := Blk.new2 w _ _ _
  have rI : World.rangeAt ((w.alloc (.cells L 23)).alloc (.cells X 63)) (w.heap.size + 1) 2 CI := hCI ▸ pf_ri (hX ▸ b0 : Blk ((w.alloc (.cells L 23)).alloc (.cells X 63)) (w.heap.size + 1) (pfC (.slice a n c) p).toArray 63) hp
  have rX : World.rangeAt ((w.alloc (.cells L 23)).alloc (.cells X 63)) (w.heap.size + 1) 2 CX := hCX ▸ pf_rx (hX ▸ b0 : Blk ((w.alloc (.cells L 23)).alloc (.cells X 63)) (w.heap.size + 1) (pfC (.slice a n c) p).toArray 63)
  rw [← hL, ← hCI, ← hbI] at E1 E2
  rw [← hCX, ← hbX] at E3
  rw [← hL, ← hCI, ← hbA] at E4
  rw [← hL, ← hX]
  rw [← hL] at aL
  rw [← hCI] at aI
  rw [← hCX] at aX
  have hc0 : X[0]? = some (.slice a n c) := by rw [hX]; rfl
  have hc1 : X[1]? = some (.int .i64 p.e) := by rw [hX]; rfl
  obtain ⟨r, hr⟩ : ∃ r, r = rightP i p := ⟨_, rfl⟩
  rw [hres] at hr
  rw [hres, ← hr]
  have HR := hid hr
  have H4 := hid E4
  clear hX hL hCI hCX hbI hbX hbA hres hr E4 b0 hv hn g3
  by_cases h256 : n ≤ 256
  · have hle : ¬ (256 : Int) < (n : Int) := by omega
    by_cases h0 : p.e = 0
    · rw [h0] at hc1
      clear E2 E3 rX aX
      go_enter Try.func61, Try.ntmps61
      go_wp2_with (first | (refine wpList_load_at rfl _ _ rfl rfl rI aI ?_) | (refine wpList_load_blk rfl _ _ rfl rfl bL aL ?_) | fail)
      go_ret
      exact ⟨by rw [HR.out, decide_eq_true h256, if_pos h0]; rfl, k0⟩
    by_cases h1 : p.e = 1
    · rw [h1] at hc1
      clear E1 E2
      go_enter Try.func61, Try.ntmps61
      go_wp2_with (first | (refine wpList_load_at rfl _ _ rfl rfl rX aX ?_) | fail)
      go_ret
      exact ⟨by rw [HR.out, decide_eq_true h256, if_neg h0, if_pos h1]; rfl, k0⟩
    by_cases h2 : p.e = 2
    · rw [h2] at hc1
      clear E1 E3 rX aX
      cases bI with
      | true =>
        go_enter Try.func61, Try.ntmps61
        go_wp2_with (first | go_skip | (refine wpList_load_wr (by kernel_rfl) rfl rfl rI aI ?_) | (refine wpList_load_bw (by kernel_rfl) rfl rfl bL aL ?_) | fail)
        go_ret
        exact ⟨by rw [HR.out, decide_eq_true h256, if_neg h0, if_neg h1, if_pos h2]; rfl, k0⟩
      | false =>
        go_enter Try.func61, Try.ntmps61
        go_wp2_with (first | go_skip | (refine wpList_load_wr (by kernel_rfl) rfl rfl rI aI ?_) | (refine wpList_load_bw (by kernel_rfl) rfl rfl bL aL ?_) | fail)
        refine (H4.out _ h256).mono ?_
        rintro e w3 ⟨rfl, k3⟩
        have k03 := k0.trans k3
        clear k0 k3 rI bL aI aL E2
        go_wp2
        go_ret
        exact ⟨by rw [HR.out, decide_eq_true h256, if_neg h0, if_neg h1, if_pos h2]; rfl, k03⟩
    · have n0 : (p.e == 0) = false := by simpa using h0
      have n1 : (p.e == 1) = false := by simpa using h1
      have n2 : (p.e == 2) = false := by simpa using h2
      go_enter Try.func61, Try.ntmps61
      go_wp2
      go_ret
      exact ⟨by rw [HR.out, decide_eq_true h256, if_neg h0, if_neg h1, if_neg h2]; rfl, k0⟩
  · have hle : (256 : Int) < (n : Int) := by omega
    go_enter Try.func61, Try.ntmps61
    go_wp2
    go_ret
    exact ⟨by rw [HR.out, decide_eq_false h256]; rfl, k0⟩
end Pr
end Go.Proofs.Ytidegffdhpdhjaa
