/- Package proof, split: by contract. -/
import Derived.Test.YtidegffdhpdhjaaNm7
import Derived.Test.YtidegffdhpdhjaaRoots6
import Derived.Deep.LoopGhost
namespace Go.Proofs.Ytidegffdhpdhjaa
open Go.RowKit Go.Pm

namespace Pr
set_option maxRecDepth 100000 in
set_option maxHeartbeats 4000000 in
/-- The test of split. -/
theorem closure (bl bp : Nat) (v : Value) (lo hi : Nat) (l : List It) (j i : Nat) (w : World) (hv : Its w lo hi v l) (cl : w.cell? ⟨bl, 0, none⟩ = some v) (cp : w.cell? ⟨bp, 0, none⟩ = some (.int .i64 j)) (hi : i < l.length) (hj : j < 256) :
    Calls Try.prog 145 #[.int .i64 i, .pointer (some ⟨bl, 0, none⟩), .pointer (some ⟨bp, 0, none⟩)] w fun e w' => e = .returned (.bool (decide (bitI l[i].i j = 1))) ∧ Kept None w w' := by
  obtain ⟨a, cap, rfl, g1, g2, g3⟩ := hv.form
  have g2' : cap ≤ 9223372036854775807 := g2
  obtain ⟨b, o, rfl, _, _, q3, hc⟩ := hv.ne (by omega)
  have hx := hc i l[i] (List.getElem?_eq_getElem hi)
  have hxl := hv.1 l[i] (List.getElem_mem hi)
  have hilt : (i : Int) < (l.length : Int) := by omega
  obtain ⟨n, hn⟩ : ∃ n, n = l.length := ⟨_, rfl⟩
  rw [← hn] at cl hilt g1
  generalize l[i] = x at *
  have hx : w.rangeAt b (o + i * 64) (x.i.map u8v) := by
    have h := rangeAt_take hx 32
    rwa [show (itC x).take 32 = x.i.map u8v from List.take_left' (by simp [hxl.1])] at h
  have aX : AggTy Try.prog 23 (x.i.map u8v).length := by rw [List.length_map, hxl.1]; exact Sp.aH
  have k1 : ∀ W, Kept None w W → W.cell? ⟨bl, 0, none⟩ = some (.slice (some ⟨b, o, none⟩) n cap) := fun W hW => by rw [hW.cell (block_lt_of_cell cl) (fun h => h)]; exact cl
  have k2 : ∀ W, Kept None w W → W.cell? ⟨bp, 0, none⟩ = some (.int .i64 j) := fun W hW => by rw [hW.cell (block_lt_of_cell cp) (fun h => h)]; exact cp
  have hK := hid (And.intro k1 k2)
  clear hv hc cl cp k1 k2 hn hi g3 q3 g2
  go_enter Try.func145, Try.ntmps145
  go_wp2_with fail
  have hs : Steady [.val 6 (.int .i64 (bitI x.i j : Nat))] := Steady.val (Steady.nil)
  refine wp_region_kn w _ hs (Kept.refl _ _) (by kernel_rfl) (by kernel_rfl) (by kernel_rfl) ?_
  iterate 4 (refine wpPar_pure rfl (by rfl) _ (fun W hW => by
      have c0 := hK.out.1 W hW
      have c1 := hK.out.2 W hW
      go_simp
      exact rfl) ?_; simp only [Act.put, List.setIfInBounds_toArray, List.set_cons_zero, List.set_cons_succ])
  refine wpPar_pure rfl (by rfl) _ (fun W hW => exec_load_at rfl rfl (rangeAt_kept hx hW) aX) ?_; simp only [Act.put, List.setIfInBounds_toArray, List.set_cons_zero, List.set_cons_succ]
  iterate 1 (refine wpPar_pure rfl (by rfl) _ (fun W hW => by
      have c0 := hK.out.1 W hW
      have c1 := hK.out.2 W hW
      go_simp
      exact rfl) ?_; simp only [Act.put, List.setIfInBounds_toArray, List.set_cons_zero, List.set_cons_succ])
  refine wpKn_adds hs rfl (by rfl) (fun W hW hd => ?_) (fun v6 hv => ?_)
  · unfold Gives
    go_simp
    refine gives_call (Tr.bit x.i hxl.1 j hj W) ?_
    rintro e w3 ⟨rfl, k3⟩
    exact ⟨_, rfl, k3, rfl, trivial⟩
  obtain rfl : v6 = .int .i64 (bitI x.i j : Nat) := hv
  simp only [Act.put, List.setIfInBounds_toArray, List.set_cons_zero, List.set_cons_succ]
  iterate 2 (refine wpPar_pure rfl (by rfl) _ (fun W hW => by
      go_simp
      exact rfl) ?_; simp only [Act.put, List.setIfInBounds_toArray, List.set_cons_zero, List.set_cons_succ])
  refine wpPar_nil (fun w6 hW hG => ?_)
  clear hG hs
  go_wp2
  go_ret
  exact ⟨by show Ending.returned (Value.bool (((bitI x.i j : Nat) : Int) == 1)) = _; rw [Tr.beq_one], hW⟩
set_option maxRecDepth 100000 in
set_option maxHeartbeats 4000000 in
/-- sort.Search by the test of split. -/
theorem search (bl bp : Nat) (v : Value) (lo hi : Nat) (l : List It) (j : Nat) (w : World) (hv : Its w lo hi v l) (cl : w.cell? ⟨bl, 0, none⟩ = some v) (cp : w.cell? ⟨bp, 0, none⟩ = some (.int .i64 j)) (hj : j < 256) (hlen : l.length ≤ 1099511627776)
    (hmono : ∀ a b (hab : a ≤ b) (hb : b < l.length), bitI (l[a]'(by omega)).i j = 1 → bitI l[b].i j = 1) :
    Calls Try.prog 144 #[.int .i64 l.length, .func (.func 145) #[] #[.pointer (some ⟨bl, 0, none⟩), .pointer (some ⟨bp, 0, none⟩)]] w fun e w' => ∃ k : Nat, e = .returned (.int .i64 k) ∧ k ≤ l.length ∧ half l j 0 = l.take k ∧ half l j 1 = l.drop k ∧ Kept None w w' := by
  have hC : ∀ (i : Nat) (W : World) (hi : i < l.length), Kept None w W → Calls Try.prog 145 #[.int .i64 i, .pointer (some ⟨bl, 0, none⟩), .pointer (some ⟨bp, 0, none⟩)] W fun e w' => e = .returned (.bool (decide (bitI l[i].i j = 1))) ∧ Kept None W w' := fun i W hi hW =>
    closure bl bp v lo _ l j i W (hv.kept hW (fun _ _ _ h => h)) (by rw [hW.cell (block_lt_of_cell cl) (fun h => h)]; exact cl) (by rw [hW.cell (block_lt_of_cell cp) (fun h => h)]; exact cp) hi hj
  have HC := hid hC
  have HM := hid hmono
  obtain ⟨n, hn⟩ : ∃ n, n = l.length := ⟨_, rfl⟩
  rw [← hn] at hlen ⊢
  have HN := hid hn
  clear hC hmono hv cl cp hn
  go_enter Try.func144, Try.ntmps144
  go_wp2
  go_loopg [5, 6, 7] n (fun kx s5 s6 s7 wr => ∃ (a b : Nat) (v7 : Value), s5 = .int .i64 a ∧ s6 = .int .i64 b ∧ s7 = v7 ∧ a ≤ b ∧ b ≤ n ∧ b - a ≤ kx ∧ Hid (Kept None w wr) ∧ Hid ((∀ i (h : i < l.length), i < a → bitI l[i].i j = 0) ∧ (∀ i (h : i < l.length), b ≤ i → bitI l[i].i j = 1)))
  case atStart => exact ⟨0, n, _, rfl, rfl, rfl, Nat.zero_le _, Nat.le_refl _, Nat.le_refl _, Kept.refl _ _, ⟨fun i h h2 => by omega, fun i h h2 => by have := HN.out; omega⟩⟩
  case round =>
    obtain ⟨a, b, v7, rfl, rfl, rfl, hab, hbn, hkx, HK, HI⟩ := hrel
    by_cases h0 : a < b
    · have h0z : (a : Int) < (b : Int) := by omega
      obtain ⟨h, hh⟩ : ∃ h : Nat, h = (a + b) / 2 := ⟨_, rfl⟩
      have eh : ((a : Int) + (b : Int)) / 2 = (h : Int) := by omega
      have h1 : a ≤ h := by omega
      have h2 : h < b := by omega
      have hl : h < l.length := by have := HN.out; omega
      clear hh
      rcases bitI_two l[h].i j with hb | hb
      · have hc := HC.out h _ hl HK.out
        rw [show decide (bitI l[h].i j = 1) = false by rw [hb]; rfl] at hc
        have HCC := hid hc
        have HB := hid hb
        clear hc hb
        go_wp2_with fail
        refine HCC.out.mono ?_
        rintro e w3 ⟨rfl, k3⟩
        go_wp2
        go_roundg (b - (h + 1))
        case measure => omega
        case rel => exact ⟨h + 1, b, _, by go_num, rfl, rfl, by omega, hbn, Nat.le_refl _, HK.out.trans k3, ⟨(fun i hi hi2 => by
          rcases bitI_two l[i].i j with q | q
          · exact q
          · have := HM.out i h (by omega) hl q
            rw [HB.out] at this
            cases this), HI.out.2⟩⟩
      · have hc := HC.out h _ hl HK.out
        rw [show decide (bitI l[h].i j = 1) = true by rw [hb]; rfl] at hc
        have HCC := hid hc
        have HB := hid hb
        clear hc hb
        go_wp2_with fail
        refine HCC.out.mono ?_
        rintro e w3 ⟨rfl, k3⟩
        go_wp2
        go_roundg (h - a)
        case measure => omega
        case rel => exact ⟨a, h, _, rfl, rfl, rfl, by omega, by omega, Nat.le_refl _, HK.out.trans k3, ⟨HI.out.1, fun i hi hi2 => HM.out h i hi2 hi HB.out⟩⟩
    · have h0z : ¬ (a : Int) < (b : Int) := by omega
      obtain rfl : a = b := by omega
      have hf := half_split (by have := HN.out; omega) HI.out.1 HI.out.2
      have HF := hid hf
      clear hf
      go_wp2
      go_ret
      exact ⟨a, rfl, hbn, HF.out.1, HF.out.2, HK.out⟩

set_option maxRecDepth 100000 in
set_option maxHeartbeats 4000000 in
/-- split. -/
theorem split (l : List It) (j : Nat) (v : Value) (lo hi : Nat) (w : World) (hv : Its w lo hi v l) (hl : l.length ≤ 549755813888) (hj : j < 256)
    (hmono : ∀ a b (hab : a ≤ b) (hb : b < l.length), bitI (l[a]'(by omega)).i j = 1 → bitI l[b].i j = 1) :
    Calls Try.prog 127 #[v, .int .i64 j] w fun e w' => ∃ va vb, e = .returned (.tuple #[va, vb]) ∧ Its w' lo hi va (half l j 0) ∧ Its w' lo hi vb (half l j 1) ∧ Kept None w w' := by
  obtain ⟨a, cap, rfl, g1, g2, g3⟩ := hv.form
  have g2' : cap ≤ 9223372036854775807 := g2
  have HM := hid hmono
  clear hmono g3
  go_enter Try.func127, Try.ntmps127
  go_wp2_with fail
  refine Calls.nm ?_
  intro w1 e1
  have k0 : Kept None w w1 := by rw [e1]; exact ((Kept.refl _ _).alloc _).alloc _
  have bl : Blk w1 w.heap.size #[.slice a l.length cap] 64 := by rw [e1]; exact (Blk.new w _ _).alloc _
  have bp : Blk w1 (w.heap.size + 1) #[.int .i64 j] 3 := by rw [e1]; exact Blk.new2 w _ _ _
  have hV := hv.kept k0 (fun _ _ _ h => h)
  clear e1 hv
  refine (search w.heap.size (w.heap.size + 1) _ lo hi l j w1 hV (bl.cell 0) (bp.cell 0) hj (by omega) HM.out).mono ?_
  rintro e w3 ⟨k, rfl, hkl, e0, e1, k3⟩
  obtain ⟨a1, s1, i1⟩ := items_to Tr.tItems' Tr.zItems' (hV.kept k3 (fun _ _ _ h => h)) .i64 k hkl
  obtain ⟨a2, s2, i2⟩ := items_from Tr.tItems' Tr.zItems' (hV.kept k3 (fun _ _ _ h => h)) .i64 k hkl
  rw [← e0] at i1
  rw [← e1] at i2
  have kc : ∀ W, Kept None w3 W → W.cell? ⟨w.heap.size, 0, none⟩ = some (.slice a l.length cap) := fun W hW => ((bl.kept k3 (fun h => h)).kept hW (fun h => h)).cell 0
  have k03 := k0.trans k3
  have hklz : (k : Int) ≤ (l.length : Int) := by omega
  clear k0 k3 hV e0 e1 bl bp HM
  go_wp2_with fail
  have hs : Steady [] := Steady.nil
  refine wp_region_kn w3 _ hs (Kept.refl _ _) (by kernel_rfl) (by kernel_rfl) (by kernel_rfl) ?_
  iterate 8 (refine wpPar_pure rfl (by rfl) _ (fun W hW => by
      have c0 := kc W hW
      have q1 := s1 W
      have q2 := s2 W
      go_simp
      exact rfl) ?_; simp only [Act.put, List.setIfInBounds_toArray, List.set_cons_zero, List.set_cons_succ])
  refine wpPar_nil (fun w6 hW hG => ?_)
  have k06 := k03.trans hW
  have i1' := i1.kept hW (fun _ _ _ h => h)
  have i2' := i2.kept hW (fun _ _ _ h => h)
  clear hG hs k03 hW i1 i2 s1 s2 kc
  go_wp2
  go_ret2
  exact ⟨_, _, rfl, i1', i2', k06⟩
end Pr
end Go.Proofs.Ytidegffdhpdhjaa
