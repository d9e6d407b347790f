/- postmarklaw4.known: true. -/
import Derived.Test.YtpoaehhmahkeaaaCheck4
import Derived.Test.YtpoaehhmahkeaaaPut4
import Derived.Test.YtpoaehhmahkeaaaConv
namespace Go.Proofs.Ytpoaehhmahkeaaa
open Go.RowKit Go.Pm

set_option maxHeartbeats 4000000 in
theorem known (w : World) : Calls Try.prog 8 #[] w fun e w' => e = .returned (.bool true) ∧ Kept None w w' := by
  have hsg := fun v lo hi w h => Sg.sign 9 v lo hi [109] w h (by decide)
  have hp := fun w => Sg.pub 9 w
  have h0 : ∀ w, Calls Try.prog 12 #[.int .u64 0] w fun e w' => e = .returned (.int .u64 1) ∧ Kept None w w' := fun w => by
    have h := Sg.pub 0 w
    rw [pub0] at h
    exact h
  have h1 : ∀ w, Calls Try.prog 12 #[.int .u64 1] w fun e w' => e = .returned (.int .u64 7) ∧ Kept None w w' := fun w => by
    have h := Sg.pub 1 w
    rw [pub1] at h
    exact h
  have b1 := sigR_lt 9 [109]
  have b2 := sigS_lt 9 [109]
  have e1 := check_sign 9 [109]
  have e2 := check9n
  have e3 := check_y (y := 0) [109] (sigR 9 [109]) (sigS 9 [109]) fits_none
  have hu := fun w => Sg.put (sigR 9 [109]) (sigS 9 [109]) w (Nat.lt_trans b1 (by decide)) (Nat.lt_trans b2 (by decide))
  clear b1 b2
  obtain ⟨R, hR⟩ : ∃ R, R = sigR 9 [109] := ⟨_, rfl⟩
  obtain ⟨S, hS⟩ : ∃ S, S = sigS 9 [109] := ⟨_, rfl⟩
  obtain ⟨Y, hY⟩ : ∃ Y, Y = pubN 9 := ⟨_, rfl⟩
  rw [← hR, ← hS] at hsg e1 e2 e3 hu
  rw [← hY] at hp e1 e2
  have hc1 := fun v lo hi w h => Sg.check Y R S v lo hi [109] w h (by decide)
  have hc2 := fun v lo hi w h => Sg.check Y R S v lo hi [110] w h (by decide)
  have hc3 : ∀ (v : Value) (lo hi : Nat) (w : World), Bs w lo hi v [109] → Calls Try.prog 13 #[.int .u64 0, v, Sg.sigV R S] w fun e w' => e = .returned (.bool (checkN 0 [109] R S)) ∧ Kept None w w' := fun v lo hi w h => Sg.check 0 R S v lo hi [109] w h (by decide)
  rw [e1] at hc1
  rw [e2] at hc2
  rw [e3] at hc3
  have HS := hid hsg
  have HP := hid hp
  have H0 := hid h0
  have H1 := hid h1
  have HC := hid (And.intro hc1 (And.intro hc2 hc3))
  have HU := hid hu
  clear hsg hp h0 h1 e1 e2 e3 hu hc1 hc2 hc3 hR hS hY
  have kc := fun (w : World) (C : Array Value) (n c g : Nat) (hg : g = w.heap.size) => constBytes w C n c g hg
  go_enter Try.func8, Try.ntmps8
  go_wp2_with fail
  have bA := Bs.newMark w #[.int .u8 109] 5 (1, 2) 1 rfl (by decide) [109] rfl
  refine (HS.out _ _ _ _ bA).mono ?_
  rintro e w2 ⟨rfl, k2⟩
  have k02 := ((Kept.refl None w).alloc (.cells #[.int .u8 109] 5 (1, 2))).then k2 (fun _ _ h => h)
  clear bA k2 kc
  go_wp2_with fail
  obtain ⟨w1, hw1⟩ : ∃ w1, w1 = w2.alloc (.cells #[.int .u64 (R : Int), .int .u64 (S : Int)] 25) := ⟨_, rfl⟩
  have hB : Blk w1 w2.heap.size #[.int .u64 (R : Int), .int .u64 (S : Int)] 25 := by rw [hw1]; exact Blk.new w2 _ _
  have hk : Kept None w w1 := by rw [hw1]; exact k02.alloc _
  rw [← hw1]
  have hc0 : ∀ W, Kept None w1 W → W.cell? ⟨w2.heap.size, 0, none⟩ = some (.int .u64 (R : Int)) := fun W hW => (hB.kept hW (fun h => h)).cell 0
  have hc1 : ∀ W, Kept None w1 W → W.cell? ⟨w2.heap.size, 1, none⟩ = some (.int .u64 (S : Int)) := fun W hW => (hB.kept hW (fun h => h)).cell 1
  clear hB k02 hw1
  have ht : Tame [.val 0 (.int .u64 (Y : Int)), .raw 5 1 (w1.heap.size) ([109]), .bytes 2 ([109]) [1], .val 4 (.bool true) [2], .val 6 (.int .u64 (Y : Int)), .raw 5 7 (w1.heap.size) ([110]), .bytes 8 ([110]) [7], .val 10 (.bool false) [8], .raw 5 14 (w1.heap.size) ([109]), .bytes 15 ([109]) [14], .val 17 (.bool false) [15], .val 21 (.int .u64 1), .val 25 (.int .u64 7), .bytes 30 (Sg.sigB R S)] := Tame.val (Tame.raw (Tame.bytes (Tame.val (Tame.val (Tame.raw (Tame.bytes (Tame.val (Tame.raw (Tame.bytes (Tame.val (Tame.val (Tame.val (Tame.bytes (Tame.nil))))))))))))))
  have hs := ht.steady
  refine wp_region_kn w1 _ hs (Kept.refl _ _) (by kernel_rfl) (by kernel_rfl) (by kernel_rfl) ?_
  refine wpKn_adds hs rfl (by rfl) (fun W hW hd => ?_) (fun v0 hv => ?_)
  · unfold Gives
    go_simp
    refine gives_call (HP.out W) ?_
    rintro e w3 ⟨rfl, k3⟩
    exact ⟨_, rfl, k3, rfl, trivial⟩
  obtain rfl : v0 = .int .u64 (Y : Int) := hv
  simp only [Act.put, List.setIfInBounds_toArray, List.set_cons_zero, List.set_cons_succ]
  refine wpKn_adds hs rfl (by rfl) (fun W hW hd => ?_) (fun v1 hv => ?_)
  · unfold Gives
    go_simp
    exact ⟨(Kept.refl None W).alloc _, ⟨_, _, rfl⟩, Raw.new 5 W w1.heap.size ([109]) #[.int .u8 109] rfl hW.size⟩
  obtain ⟨a1, c1, rfl⟩ : ∃ a c, v1 = .slice a 1 c := hv
  simp only [Act.put, List.setIfInBounds_toArray, List.set_cons_zero, List.set_cons_succ]
  refine wpKn_mark ht rfl (by rfl) (fun W hW hd => ?_) (fun v2 hv => ?_)
  · have hr : Raw 5 W w1.heap.size (.slice a1 1 c1) ([109]) := hd 1 (List.Mem.head _)
    obtain ⟨ad, had, hcv⟩ := run_convert_raw hr tBytes' tByte
    unfold Gives
    go_simp
    exact ⟨hW.freeze ad 1 had, soft_freeze W ad 1, ⟨_, _, rfl⟩, _, _, (hr.bs (by decide)).soft (soft_freeze W ad 1)⟩
  obtain ⟨a2, c2, rfl⟩ : ∃ a c, v2 = .slice a 1 c := hv
  simp only [Act.put, List.setIfInBounds_toArray, List.set_cons_zero, List.set_cons_succ]
  iterate 1 (refine wpPar_pure rfl (by rfl) _ (fun W hW => by
      have c0 := hc0 W hW
      have c1 := hc1 W hW
      go_simp
      exact rfl) ?_; simp only [Act.put, List.setIfInBounds_toArray, List.set_cons_zero, List.set_cons_succ])
  refine wpKn_adds hs rfl (by rfl) (fun W hW hd => ?_) (fun v4 hv => ?_)
  · unfold Gives
    obtain ⟨lo1, hi1, h1⟩ : ∃ lo hi, Bs W lo hi (.slice a2 1 c2) [109] := hd 2 (List.Mem.head _)
    go_simp
    refine gives_call (HC.out.1 _ _ _ W h1) ?_
    rintro e w3 ⟨rfl, k3⟩
    exact ⟨_, rfl, k3, rfl, trivial⟩
  obtain rfl : v4 = .bool true := hv
  simp only [Act.put, List.setIfInBounds_toArray, List.set_cons_zero, List.set_cons_succ]
  iterate 1 (refine wpPar_pure rfl (by rfl) _ (fun W hW => by
      go_simp
      exact rfl) ?_; simp only [Act.put, List.setIfInBounds_toArray, List.set_cons_zero, List.set_cons_succ])
  refine wpKn_adds hs rfl (by rfl) (fun W hW hd => ?_) (fun v6 hv => ?_)
  · unfold Gives
    go_simp
    refine gives_call (HP.out W) ?_
    rintro e w3 ⟨rfl, k3⟩
    exact ⟨_, rfl, k3, rfl, trivial⟩
  obtain rfl : v6 = .int .u64 (Y : Int) := hv
  simp only [Act.put, List.setIfInBounds_toArray, List.set_cons_zero, List.set_cons_succ]
  refine wpKn_adds hs rfl (by rfl) (fun W hW hd => ?_) (fun v7 hv => ?_)
  · unfold Gives
    go_simp
    exact ⟨(Kept.refl None W).alloc _, ⟨_, _, rfl⟩, Raw.new 5 W w1.heap.size ([110]) #[.int .u8 110] rfl hW.size⟩
  obtain ⟨a7, c7, rfl⟩ : ∃ a c, v7 = .slice a 1 c := hv
  simp only [Act.put, List.setIfInBounds_toArray, List.set_cons_zero, List.set_cons_succ]
  refine wpKn_mark ht rfl (by rfl) (fun W hW hd => ?_) (fun v8 hv => ?_)
  · have hr : Raw 5 W w1.heap.size (.slice a7 1 c7) ([110]) := hd 7 (List.Mem.head _)
    obtain ⟨ad, had, hcv⟩ := run_convert_raw hr tBytes' tByte
    unfold Gives
    go_simp
    exact ⟨hW.freeze ad 1 had, soft_freeze W ad 1, ⟨_, _, rfl⟩, _, _, (hr.bs (by decide)).soft (soft_freeze W ad 1)⟩
  obtain ⟨a8, c8, rfl⟩ : ∃ a c, v8 = .slice a 1 c := hv
  simp only [Act.put, List.setIfInBounds_toArray, List.set_cons_zero, List.set_cons_succ]
  iterate 1 (refine wpPar_pure rfl (by rfl) _ (fun W hW => by
      have c0 := hc0 W hW
      have c1 := hc1 W hW
      go_simp
      exact rfl) ?_; simp only [Act.put, List.setIfInBounds_toArray, List.set_cons_zero, List.set_cons_succ])
  refine wpKn_adds hs rfl (by rfl) (fun W hW hd => ?_) (fun v10 hv => ?_)
  · unfold Gives
    obtain ⟨lo1, hi1, h1⟩ : ∃ lo hi, Bs W lo hi (.slice a8 1 c8) [110] := hd 8 (List.Mem.head _)
    go_simp
    refine gives_call (HC.out.2.1 _ _ _ W h1) ?_
    rintro e w3 ⟨rfl, k3⟩
    exact ⟨_, rfl, k3, rfl, trivial⟩
  obtain rfl : v10 = .bool false := hv
  simp only [Act.put, List.setIfInBounds_toArray, List.set_cons_zero, List.set_cons_succ]
  iterate 3 (refine wpPar_pure rfl (by rfl) _ (fun W hW => by
      go_simp
      exact rfl) ?_; simp only [Act.put, List.setIfInBounds_toArray, List.set_cons_zero, List.set_cons_succ])
  refine wpKn_adds hs rfl (by rfl) (fun W hW hd => ?_) (fun v14 hv => ?_)
  · unfold Gives
    go_simp
    exact ⟨(Kept.refl None W).alloc _, ⟨_, _, rfl⟩, Raw.new 5 W w1.heap.size ([109]) #[.int .u8 109] rfl hW.size⟩
  obtain ⟨a14, c14, rfl⟩ : ∃ a c, v14 = .slice a 1 c := hv
  simp only [Act.put, List.setIfInBounds_toArray, List.set_cons_zero, List.set_cons_succ]
  refine wpKn_mark ht rfl (by rfl) (fun W hW hd => ?_) (fun v15 hv => ?_)
  · have hr : Raw 5 W w1.heap.size (.slice a14 1 c14) ([109]) := hd 14 (List.Mem.head _)
    obtain ⟨ad, had, hcv⟩ := run_convert_raw hr tBytes' tByte
    unfold Gives
    go_simp
    exact ⟨hW.freeze ad 1 had, soft_freeze W ad 1, ⟨_, _, rfl⟩, _, _, (hr.bs (by decide)).soft (soft_freeze W ad 1)⟩
  obtain ⟨a15, c15, rfl⟩ : ∃ a c, v15 = .slice a 1 c := hv
  simp only [Act.put, List.setIfInBounds_toArray, List.set_cons_zero, List.set_cons_succ]
  iterate 1 (refine wpPar_pure rfl (by rfl) _ (fun W hW => by
      have c0 := hc0 W hW
      have c1 := hc1 W hW
      go_simp
      exact rfl) ?_; simp only [Act.put, List.setIfInBounds_toArray, List.set_cons_zero, List.set_cons_succ])
  refine wpKn_adds hs rfl (by rfl) (fun W hW hd => ?_) (fun v17 hv => ?_)
  · unfold Gives
    obtain ⟨lo1, hi1, h1⟩ : ∃ lo hi, Bs W lo hi (.slice a15 1 c15) [109] := hd 15 (List.Mem.head _)
    go_simp
    refine gives_call (HC.out.2.2 _ _ _ W h1) ?_
    rintro e w3 ⟨rfl, k3⟩
    exact ⟨_, rfl, k3, rfl, trivial⟩
  obtain rfl : v17 = .bool false := hv
  simp only [Act.put, List.setIfInBounds_toArray, List.set_cons_zero, List.set_cons_succ]
  iterate 3 (refine wpPar_pure rfl (by rfl) _ (fun W hW => by
      go_simp
      exact rfl) ?_; simp only [Act.put, List.setIfInBounds_toArray, List.set_cons_zero, List.set_cons_succ])
  refine wpKn_adds hs rfl (by rfl) (fun W hW hd => ?_) (fun v21 hv => ?_)
  · unfold Gives
    go_simp
    refine gives_call (H0.out W) ?_
    rintro e w3 ⟨rfl, k3⟩
    exact ⟨_, rfl, k3, rfl, trivial⟩
  obtain rfl : v21 = .int .u64 1 := hv
  simp only [Act.put, List.setIfInBounds_toArray, List.set_cons_zero, List.set_cons_succ]
  iterate 3 (refine wpPar_pure rfl (by rfl) _ (fun W hW => by
      go_simp
      exact rfl) ?_; simp only [Act.put, List.setIfInBounds_toArray, List.set_cons_zero, List.set_cons_succ])
  refine wpKn_adds hs rfl (by rfl) (fun W hW hd => ?_) (fun v25 hv => ?_)
  · unfold Gives
    go_simp
    refine gives_call (H1.out W) ?_
    rintro e w3 ⟨rfl, k3⟩
    exact ⟨_, rfl, k3, rfl, trivial⟩
  obtain rfl : v25 = .int .u64 7 := hv
  simp only [Act.put, List.setIfInBounds_toArray, List.set_cons_zero, List.set_cons_succ]
  iterate 4 (refine wpPar_pure rfl (by rfl) _ (fun W hW => by
      have c0 := hc0 W hW
      have c1 := hc1 W hW
      go_simp
      exact rfl) ?_; simp only [Act.put, List.setIfInBounds_toArray, List.set_cons_zero, List.set_cons_succ])
  refine wpKn_adds hs rfl (by rfl) (fun W hW hd => ?_) (fun v30 hv => ?_)
  · unfold Gives
    go_simp
    refine gives_call (HU.out W) ?_
    rintro e w3 ⟨u, rfl, k3, b3⟩
    exact ⟨_, rfl, k3, b3.form, _, _, b3.bs (Nat.le_refl _)⟩
  obtain ⟨a30, c30, rfl⟩ : ∃ a c, v30 = .slice a 16 c := hv
  simp only [Act.put, List.setIfInBounds_toArray, List.set_cons_zero, List.set_cons_succ]
  iterate 4 (refine wpPar_pure rfl (by rfl) _ (fun W hW => by
      go_simp
      exact rfl) ?_; simp only [Act.put, List.setIfInBounds_toArray, List.set_cons_zero, List.set_cons_succ])
  refine wpPar_nil (fun W hW _ => ?_)
  have k01 := hk.then hW (fun _ _ h => h)
  clear hc0 hc1 ht hs hk hW
  go_wp2
  go_ret
  exact ⟨rfl, k01⟩
end Go.Proofs.Ytpoaehhmahkeaaa
