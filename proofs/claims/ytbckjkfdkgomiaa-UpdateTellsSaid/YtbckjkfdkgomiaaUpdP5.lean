/- update.Put, by contract. -/
import Derived.Test.YtbckjkfdkgomiaaUpdS5
namespace Go.Proofs.Ytbckjkfdkgomiaa
open Go.RowKit Go.Pm
namespace Up

theorem put_flat (n : ByteArray) (v c : Int) (k r s : Nat) : [lumpB (strB n), leB (U6 v), leB (k : Int), leB (U6 c), leB (r : Int) ++ leB (s : Int)].flatten = putB n v k c r s := by simp [putB, fieldsB]

set_option maxRecDepth 100000 in
set_option maxHeartbeats 4000000 in
/-- update.Put. -/
theorem put (n : ByteArray) (v c : Int) (k r s : Nat) (w : World) (hr : r < 18446744073709551616) (hs : s < 18446744073709551616) :
    Calls Try.prog 11 #[updV n v k c r s] w fun e w' => ∃ u, e = .returned (.tuple #[u, .int .i64 (putE n.size v k c)]) ∧ Kept None w w' ∧ Ob w' w.heap.size u (putL n v k c r s) := by
  have hq := fun w => right n v c k r s w
  have hB0 := Blk.new w #[.string n, .int .i64 v, .int .u64 (k : Int), .int .i64 c, .int .u64 (r : Int), .int .u64 (s : Int)] 26
  have k0 : Kept None w (w.alloc (.cells #[.string n, .int .i64 v, .int .u64 (k : Int), .int .i64 c, .int .u64 (r : Int), .int .u64 (s : Int)] 26)) := (Kept.refl _ _).alloc _
  cases hb : rightB n.size v k c with
  | false =>
    rw [hb] at hq
    have e1 : putE n.size v k c = 23 := by unfold putE; rw [hb]; rfl
    have e2 : putL n v k c r s = [] := by unfold putL; rw [hb]; rfl
    rw [e1, e2]
    have H := hid hq
    clear hq hb e1 e2
    go_enter Try.func11, Try.ntmps11
    go_wp2_with (first | (refine wpList_load_blk rfl _ _ rfl rfl hB0 aUpd ?_) | fail)
    refine (H.out _).mono ?_
    rintro e w1 ⟨rfl, k1⟩
    have k01 := k0.trans k1
    go_wp2
    go_ret2
    exact ⟨_, rfl, k01, Bo.nil _ _ _⟩
  | true =>
    have e1 : putE n.size v k c = 0 := by unfold putE; rw [hb]; rfl
    have e2 : putL n v k c r s = putB n v k c r s := by unfold putL; rw [hb]; rfl
    have hh := (rightB_iff _ _ _ _).1 hb
    have hk : k < 18446744073709551616 := Nat.lt_trans hh.1.2.2.2.2.2 (by decide)
    have hn : n.size ≤ 32 := hh.1.2.1
    rw [e1, e2]
    rw [hb] at hq
    have hg := fun w => Sg.put r s w hr hs
    have hsn := strB_len n
    have hw1 : IntKind.u64.wrap v = U6 v := by rw [IntKind.wrap_u64]
    have hw2 : IntKind.u64.wrap c = U6 c := by rw [IntKind.wrap_u64]
    have hf := put_flat n v c k r s
    have HV0 := And.intro (U6_ge v) (And.intro (U6_lt v) (And.intro (U6_ge c) (And.intro (U6_lt c) hk)))
    have hG2 : (leB (r : Int) ++ leB (s : Int)).length = 16 := rfl
    obtain ⟨V, hV⟩ : ∃ V, V = U6 v := ⟨_, rfl⟩
    obtain ⟨C, hC⟩ : ∃ C, C = U6 c := ⟨_, rfl⟩
    rw [← hV] at hw1 hf HV0
    rw [← hC] at hw2 hf HV0
    rw [show Sg.sigB r s = leB r ++ leB s from rfl] at hg
    obtain ⟨G, hGG⟩ : ∃ G, G = leB (r : Int) ++ leB (s : Int) := ⟨_, rfl⟩
    rw [← hGG] at hg hf hG2
    obtain ⟨T, hTT⟩ : ∃ T, T = putB n v k c r s := ⟨_, rfl⟩
    rw [← hTT] at hf ⊢
    obtain ⟨L, hL⟩ : ∃ L, L = lumpB (strB n) := ⟨_, rfl⟩
    have hLl : L.length ≤ 40 ∧ G.length = 16 := ⟨by rw [hL, lumpB_len, hsn]; omega, hG2⟩
    have hj : ∀ v lo hi W, Bs W lo hi v (strB n) → Calls Try.prog 29 #[v] W fun en w' => ∃ v', en = .returned v' ∧ Kept None W w' ∧ Ob w' W.heap.size v' L := by
      intro v lo hi W h
      rw [hL]
      exact Bin.lump v lo hi (strB n) W h (by omega)
    rw [← hL] at hf
    have HJ := hid hj
    have HT := hid hf
    have HV := hid HV0
    have HQ := hid hq
    have HG := hid hg
    have HL := hid hLl
    have HN := hid hn
    clear hj hf HV0 hq hg hLl hL hTT hGG hC hV hG2 hh hb e1 e2 hn hk hr hs
    go_enter Try.func11, Try.ntmps11
    go_wp2_with (first | (refine wpList_load_blk rfl _ _ rfl rfl hB0 aUpd ?_) | fail)
    refine (HQ.out _).mono ?_
    rintro e w1 ⟨rfl, k1⟩
    have k01 := k0.trans k1
    have hB1 := hB0.kept k1 (fun h => h)
    have c0 : w1.cell? ⟨w.heap.size, 0, none⟩ = some (.string n) := hB1.cell 0
    clear k0 k1 hB0
    go_wp2_with (first | (refine wpList_bytes rfl 9 32 5 _ rfl tString tBytes' tByte rfl (by have := HN.out; omega) ?_; intro gB cB w2 hgB kB bB) | fail)
    refine (HJ.out _ _ _ _ bB).mono ?_
    rintro e w3 ⟨u, rfl, k3, b3⟩
    have kk := kB.trans k3
    have hB3 := hB1.kept kk (fun h => h)
    have k03 := k01.trans kk
    have hbL := b3.bs (Nat.le_refl _)
    obtain ⟨aL, cL, rfl⟩ := b3.form
    clear hB1 k01 kB bB k3 kk b3 c0
    obtain ⟨w2, rfl⟩ : ∃ w2, w2 = w3 := ⟨_, rfl⟩
    go_wp2_with fail
    have hc0 : ∀ W, Kept None w2 W → W.cell? ⟨w.heap.size, 0, none⟩ = some (.string n) := fun W hW => (hB3.kept hW (fun h => h)).cell 0
    have hc1 : ∀ W, Kept None w2 W → W.cell? ⟨w.heap.size, 1, none⟩ = some (.int .i64 v) := fun W hW => (hB3.kept hW (fun h => h)).cell 1
    have hc2 : ∀ W, Kept None w2 W → W.cell? ⟨w.heap.size, 2, none⟩ = some (.int .u64 (k : Int)) := fun W hW => (hB3.kept hW (fun h => h)).cell 2
    have hc3 : ∀ W, Kept None w2 W → W.cell? ⟨w.heap.size, 3, none⟩ = some (.int .i64 c) := fun W hW => (hB3.kept hW (fun h => h)).cell 3
    have hc4 : ∀ W, Kept None w2 W → W.cell? ⟨w.heap.size, 4, none⟩ = some (.int .u64 (r : Int)) := fun W hW => (hB3.kept hW (fun h => h)).cell 4
    have hc5 : ∀ W, Kept None w2 W → W.cell? ⟨w.heap.size, 5, none⟩ = some (.int .u64 (s : Int)) := fun W hW => (hB3.kept hW (fun h => h)).cell 5
    clear hB3
    have hs : Steady [.bytes 4 (leB V), .bytes 7 (leB k), .bytes 11 (leB C), .bytes 14 (G), .lists 15 ([L, leB V, leB k, leB C, G]) [4, 7, 11, 14], .own 5 16 (w2.heap.size) (T) [15]] := Steady.bytes (Steady.bytes (Steady.bytes (Steady.bytes (Steady.lists (Steady.own (Steady.nil))))))
    refine wp_region_kn w2 _ hs (Kept.refl _ _) (by kernel_rfl) (by kernel_rfl) (by kernel_rfl) ?_
    iterate 4 (refine wpPar_pure rfl (by rfl) _ (fun W hW => by
        have c1 := hc1 W hW
        have c2 := hc2 W hW
        have c3 := hc3 W hW
        have c4 := hc4 W hW
        have c5 := hc5 W hW
        go_simp
        exact rfl) ?_; simp only [Act.put, List.setIfInBounds_toArray, List.set_cons_zero, List.set_cons_succ])
    refine wpKn_adds hs rfl (by rfl) (fun W hW hd => ?_) (fun v4 hv => ?_)
    · unfold Gives
      go_simp
      refine gives_call (Bin.num V W HV.out.1 HV.out.2.1) ?_
      rintro e w3 ⟨u, rfl, k3, b3⟩
      exact ⟨_, rfl, k3, b3.form, _, _, b3.bs (Nat.le_refl _)⟩
    obtain ⟨a4, c4, rfl⟩ : ∃ a c, v4 = .slice a 8 c := hv
    simp only [Act.put, List.setIfInBounds_toArray, List.set_cons_zero, List.set_cons_succ]
    iterate 2 (refine wpPar_pure rfl (by rfl) _ (fun W hW => by
        have c1 := hc1 W hW
        have c2 := hc2 W hW
        have c3 := hc3 W hW
        have c4 := hc4 W hW
        have c5 := hc5 W hW
        go_simp
        exact rfl) ?_; simp only [Act.put, List.setIfInBounds_toArray, List.set_cons_zero, List.set_cons_succ])
    refine wpKn_adds hs rfl (by rfl) (fun W hW hd => ?_) (fun v7 hv => ?_)
    · unfold Gives
      go_simp
      refine gives_call (Bin.num k W (by omega) (by have := HV.out; omega)) ?_
      rintro e w3 ⟨u, rfl, k3, b3⟩
      exact ⟨_, rfl, k3, b3.form, _, _, b3.bs (Nat.le_refl _)⟩
    obtain ⟨a7, c7, rfl⟩ : ∃ a c, v7 = .slice a 8 c := hv
    simp only [Act.put, List.setIfInBounds_toArray, List.set_cons_zero, List.set_cons_succ]
    iterate 3 (refine wpPar_pure rfl (by rfl) _ (fun W hW => by
        have c1 := hc1 W hW
        have c2 := hc2 W hW
        have c3 := hc3 W hW
        have c4 := hc4 W hW
        have c5 := hc5 W hW
        go_simp
        exact rfl) ?_; simp only [Act.put, List.setIfInBounds_toArray, List.set_cons_zero, List.set_cons_succ])
    refine wpKn_adds hs rfl (by rfl) (fun W hW hd => ?_) (fun v11 hv => ?_)
    · unfold Gives
      go_simp
      refine gives_call (Bin.num C W HV.out.2.2.1 HV.out.2.2.2.1) ?_
      rintro e w3 ⟨u, rfl, k3, b3⟩
      exact ⟨_, rfl, k3, b3.form, _, _, b3.bs (Nat.le_refl _)⟩
    obtain ⟨a11, c11, rfl⟩ : ∃ a c, v11 = .slice a 8 c := hv
    simp only [Act.put, List.setIfInBounds_toArray, List.set_cons_zero, List.set_cons_succ]
    iterate 2 (refine wpPar_pure rfl (by rfl) _ (fun W hW => by
        have c1 := hc1 W hW
        have c2 := hc2 W hW
        have c3 := hc3 W hW
        have c4 := hc4 W hW
        have c5 := hc5 W hW
        go_simp
        exact rfl) ?_; simp only [Act.put, List.setIfInBounds_toArray, List.set_cons_zero, List.set_cons_succ])
    refine wpKn_adds hs rfl (by rfl) (fun W hW hd => ?_) (fun v14 hv => ?_)
    · unfold Gives
      go_simp
      refine gives_call (HG.out W) ?_
      rintro e w3 ⟨u, rfl, k3, b3⟩
      exact ⟨_, rfl, k3, b3.form, _, _, b3.bs (Nat.le_refl _)⟩
    obtain ⟨a14, c14, rfl⟩ : ∃ a c, v14 = .slice a G.length c := hv
    simp only [Act.put, List.setIfInBounds_toArray, List.set_cons_zero, List.set_cons_succ]
    refine wpKn_adds hs rfl (by rfl) (fun W hW hd => ?_) (fun v15 hv => ?_)
    · unfold Gives
      have h0 := hbL.kept hW (fun _ _ _ h => h)
      obtain ⟨lo2, hi2, h2⟩ : ∃ lo hi, Bs W lo hi (.slice a4 8 c4) (leB V) := hd 4 (List.Mem.head _)
      obtain ⟨lo3, hi3, h3⟩ : ∃ lo hi, Bs W lo hi (.slice a7 8 c7) (leB k) := hd 7 (List.Mem.tail _ (List.Mem.head _))
      obtain ⟨lo4, hi4, h4⟩ : ∃ lo hi, Bs W lo hi (.slice a11 8 c11) (leB C) := hd 11 (List.Mem.tail _ (List.Mem.tail _ (List.Mem.head _)))
      obtain ⟨lo5, hi5, h5⟩ : ∃ lo hi, Bs W lo hi (.slice a14 G.length c14) G := hd 14 (List.Mem.tail _ (List.Mem.tail _ (List.Mem.tail _ (List.Mem.head _))))
      go_simp
      exact ⟨(Kept.refl None W).alloc _, ⟨_, _, rfl⟩, _, _, _, _, Bss.new W #[.slice aL L.length cL, .slice a4 8 c4, .slice a7 8 c7, .slice a11 8 c11, .slice a14 G.length c14] 32 [L, leB V, leB k, leB C, G] 5 rfl (by decide) ⟨h0.all, h2.all, h3.all, h4.all, h5.all, trivial⟩⟩
    obtain ⟨a15, c15, rfl⟩ : ∃ a c, v15 = .slice a 5 c := hv
    simp only [Act.put, List.setIfInBounds_toArray, List.set_cons_zero, List.set_cons_succ]
    refine wpKn_adds hs rfl (by rfl) (fun W hW hd => ?_) (fun v16 hv => ?_)
    · unfold Gives
      obtain ⟨lo1, hi1, lo2, hi2, h1⟩ : ∃ lo hi lo' hi', Bss W lo hi lo' hi' (.slice a15 5 c15) [L, leB V, leB k, leB C, G] := hd 15 (List.Mem.head _)
      go_simp
      refine gives_call (Bin.join _ _ _ _ _ _ W h1 (by have := HL.out; simp [total, leB_length]; omega)) ?_
      rintro e w3 ⟨u, rfl, k3, b3⟩
      have b4 := b3.base hW.size
      rw [HT.out] at b4
      exact ⟨_, rfl, k3, b4.form, b4⟩
    obtain ⟨a16, c16, rfl⟩ : ∃ a c, v16 = .slice a T.length c := hv
    simp only [Act.put, List.setIfInBounds_toArray, List.set_cons_zero, List.set_cons_succ]
    iterate 2 (refine wpPar_pure rfl (by rfl) _ (fun W hW => by
        go_simp
        exact rfl) ?_; simp only [Act.put, List.setIfInBounds_toArray, List.set_cons_zero, List.set_cons_succ])
    refine wpPar_nil (fun W hW hG => ?_)
    have hb : Ob W w2.heap.size (.slice a16 T.length c16) T := hG 16
    have hb1 := hb.base k03.size
    have k04 := k03.then hW (fun _ _ h => h)
    clear hG hb hc0 hc1 hc2 hc3 hc4 hc5 hs k03 hW hbL
    go_wp2
    go_ret2
    exact ⟨_, rfl, k04, hb1⟩
end Up
end Go.Proofs.Ytbckjkfdkgomiaa
