/- Texts joined: RPutJ14, RRead13, LowRdN, LowRd, LowRdL, LowUpdRead, RInt1, RUpOf. -/
import Derived.Test.YtpbkdeljhehkdaaPk4
import Derived.Deep.QuietTactic
import Derived.BigQuiet
import Derived.Test.YtpbkdeljhehkdaaPk2
namespace Go.Proofs.Ytpbkdeljhehkdaa
open Go.RowKit Go.Pm
namespace R12
theorem u64_in {x : Int} (h0 : 0 ≤ x) (h1 : x ≤ 1152921504606846976) : IntKind.u64.wrap x = x := by rw [IntKind.wrap_u64]; omega
set_option maxRecDepth 100000 in
set_option maxHeartbeats 4000000 in
theorem rput1 (s g cn : Int) (w : World) (h : rightJ ⟨1, s, g, cn, Req.none, 0, 0⟩ = true) :
    Calls Try.prog 12 #[(⟨1, s, g, cn, Req.none, 0, 0⟩ : Rec).V] w fun en w' => ∃ u, en = .returned (.tuple #[u, .int .i64 0]) ∧ Kept None w w' ∧ Ob w' w.heap.size u (putF 1 s (bodyJ ⟨1, s, g, cn, Req.none, 0, 0⟩)) := by
  have hl := bodyJ_len h
  have hs := ((rightJ_iff _).1 h).1
  obtain ⟨B, hB0⟩ : ∃ B, B = bodyJ ⟨1, s, g, cn, Req.none, 0, 0⟩ := ⟨_, rfl⟩
  have hBe : B = leB g ++ leB cn := hB0
  rw [← hB0] at hl ⊢
  have HP := hid (fun v lo hi W (hv : Bs W lo hi v B) => show Calls Try.prog 19 #[.int .i64 1, .int .i64 s, v] W fun e w' => ∃ u, e = .returned (.tuple #[u, .int .i64 0]) ∧ Kept None W w' ∧ Ob w' W.heap.size u (putF 1 s B) from by
    obtain ⟨e1, e2⟩ := Fm.putFL_ok (k := 1) (s := s) (b := B) (by decide) (by decide) hs.1 (by omega)
    have hp := put 1 s v lo hi B W hv (by have := hs.2; simp only at this; omega) (by omega)
    rw [e1, e2] at hp
    exact hp)
  obtain ⟨_, h1⟩ := (baseJ_iff _).1 (by unfold rightJ at h; simpa [pendJ, doneJ, seqJ, hs.1, hs.2] using h)
  have WG := hid (u64_in h1.1 h1.2.1)
  have WC := hid (u64_in h1.2.2.1 (Int.le_trans h1.2.2.2 (by decide)))
  have WG0 := hid (show 0 ≤ g ∧ g < 18446744073709551616 from ⟨h1.1, Int.lt_of_le_of_lt h1.2.1 (by decide)⟩)
  have WC0 := hid (show 0 ≤ cn ∧ cn < 18446744073709551616 from ⟨h1.2.2.1, Int.lt_of_le_of_lt h1.2.2.2 (by decide)⟩)
  clear h1
  have HBe := hid hBe
  clear hs hB0 hl hBe
  have HR := hid (fun W => right ⟨1, s, g, cn, Req.none, 0, 0⟩ W)
  rw [h] at HR
  have heq : (⟨1, s, g, cn, Req.none, 0, 0⟩ : Rec).V = .agg #[.int .i64 1, .int .i64 s, .int .i64 g, .int .i64 cn, .string ⟨#[]⟩, .int .i64 0, .int .u64 0, .int .i64 0, .int .u64 0, .int .u64 0, .int .i64 0, .int .i64 0] := rfl
  unfold Rec.V Rec.C at HR ⊢
  go_enter Try.func12, Try.ntmps12
  go_wp2_with fail
  refine (HR.out _).mono ?_
  rintro e1 w1 ⟨rfl, k1⟩
  have hB := ((Blk.new w #[.int .i64 1, .int .i64 s, .int .i64 g, .int .i64 cn, .string ⟨#[]⟩, .int .i64 0, .int .u64 0, .int .i64 0, .int .u64 0, .int .u64 0, .int .i64 0, .int .i64 0] 28)).kept k1 (fun h => h)
  have K1 := hid (show Kept None w w1 from ((Kept.refl _ _).alloc _).trans k1)
  have HC := hid (fun W (hW : Kept None w1 W) => (by
      have hb := hB.kept hW (fun h => h)
      exact ⟨hb.cell 0, hb.cell 1, hb.cell 2, hb.cell 3, hb.cell 4, hb.cell 5, hb.cell 6, hb.cell 7, hb.cell 8, hb.cell 9, hb.cell 10, hb.cell 11⟩ : W.cell? ⟨w.heap.size, 0, none⟩ = some (.int .i64 1) ∧ W.cell? ⟨w.heap.size, 1, none⟩ = some (.int .i64 s) ∧ W.cell? ⟨w.heap.size, 2, none⟩ = some (.int .i64 g) ∧ W.cell? ⟨w.heap.size, 3, none⟩ = some (.int .i64 cn) ∧ W.cell? ⟨w.heap.size, 4, none⟩ = some (.string ⟨#[]⟩) ∧ W.cell? ⟨w.heap.size, 5, none⟩ = some (.int .i64 0) ∧ W.cell? ⟨w.heap.size, 6, none⟩ = some (.int .u64 0) ∧ W.cell? ⟨w.heap.size, 7, none⟩ = some (.int .i64 0) ∧ W.cell? ⟨w.heap.size, 8, none⟩ = some (.int .u64 0) ∧ W.cell? ⟨w.heap.size, 9, none⟩ = some (.int .u64 0) ∧ W.cell? ⟨w.heap.size, 10, none⟩ = some (.int .i64 0) ∧ W.cell? ⟨w.heap.size, 11, none⟩ = some (.int .i64 0)))
  clear k1 hB heq HR
  obtain ⟨c0, c1, c2, c3, c4, c5, c6, c7, c8, c9, c10, c11⟩ := HC.out w1 (Kept.refl _ _)
  go_wp2_with fail
  clear c0 c1 c2 c3 c4 c5 c6 c7 c8 c9 c10 c11
  have hs : Steady [.own 5 3 (w1.heap.size) (leB g), .own 5 7 (w1.heap.size) (leB cn), .own 5 8 (w1.heap.size) B [3, 7] [3, 7]] := Steady.own (Steady.own (Steady.own (Steady.nil)))
  refine wp_region_kn w1 _ hs (Kept.refl _ _) (by kernel_rfl) (by kernel_rfl) (by kernel_rfl) ?_
  iterate 3 (refine wpPar_pure rfl (by rfl) _ (fun W hW => by
      obtain ⟨c0, c1, c2, c3, c4, c5, c6, c7, c8, c9, c10, c11⟩ := HC.out W hW
      go_simp
      exact rfl) ?_; simp only [Act.put, List.setIfInBounds_toArray, List.set_cons_zero, List.set_cons_succ])
  refine wpKn_adds hs rfl (by rfl) (fun W hW hd => ?_) (fun v3 hv => ?_)
  · unfold Gives
    go_simp
    rw [WG.out]
    refine gives_call (Ref.num g W WG0.out.1 WG0.out.2) ?_
    rintro e w3 ⟨u, rfl, k3, b3⟩
    exact ⟨_, rfl, k3, b3.form, b3.base hW.size⟩
  obtain ⟨a3, c3, rfl⟩ : ∃ a c, v3 = .slice a 8 c := hv
  simp only [Act.put, List.setIfInBounds_toArray, List.set_cons_zero, List.set_cons_succ]
  iterate 3 (refine wpPar_pure rfl (by rfl) _ (fun W hW => by
      obtain ⟨c0, c1, c2, c3, c4, c5, c6, c7, c8, c9, c10, c11⟩ := HC.out W hW
      go_simp
      exact rfl) ?_; simp only [Act.put, List.setIfInBounds_toArray, List.set_cons_zero, List.set_cons_succ])
  refine wpKn_adds hs rfl (by rfl) (fun W hW hd => ?_) (fun v7 hv => ?_)
  · unfold Gives
    go_simp
    rw [WC.out]
    refine gives_call (Ref.num cn W WC0.out.1 WC0.out.2) ?_
    rintro e w3 ⟨u, rfl, k3, b3⟩
    exact ⟨_, rfl, k3, b3.form, b3.base hW.size⟩
  obtain ⟨a7, c7, rfl⟩ : ∃ a c, v7 = .slice a 8 c := hv
  simp only [Act.put, List.setIfInBounds_toArray, List.set_cons_zero, List.set_cons_succ]
  refine wpPar_adds rfl (by rfl) (fun W hW hd => ?_) (fun v8 hv => ?_)
  · have h1 : Ob W w1.heap.size (.slice a3 8 c3) (leB g) := hd 3 (List.Mem.head _)
    have h2 : Ob W w1.heap.size (.slice a7 8 c7) (leB cn) := hd 7 (List.Mem.tail _ (List.Mem.head _))
    refine gives_append_bo _ _ 29 rfl rtBytes rfl rfl h1 (h2.bs (Nat.le_refl _)) (by simp [leB_length]) hW.size ?_
    intro a' n' c' W' h3 h4 _
    rw [← HBe.out] at h3
    refine ⟨Kept.own hW h4 (fun k hk => (h1.own k hk).1), h3.form, h3, keeps_of fun f hf hs _ hne u hfu => ?_⟩
    simp only [List.mem_cons, List.not_mem_nil, or_false] at hf
    rcases hf with rfl | rfl | rfl
    · exact absurd (List.Mem.head _) hs
    · exact absurd (List.Mem.tail _ (List.Mem.head _)) hs
    · exact absurd rfl hne
  obtain ⟨a8, c8, rfl⟩ : ∃ a c, v8 = .slice a B.length c := hv
  simp only [Act.put, List.setIfInBounds_toArray, List.set_cons_zero, List.set_cons_succ]
  iterate 1 (refine wpPar_pure rfl (by rfl) _ (fun W hW => by
      go_simp
      exact rfl) ?_; simp only [Act.put, List.setIfInBounds_toArray, List.set_cons_zero, List.set_cons_succ])
  refine wpPar_nil (fun W hW hG => ?_)
  have hb : Ob W w1.heap.size (.slice a8 B.length c8) B := hG 8
  have HB := hid (hb.bs (Nat.le_refl _))
  have KW := hid (K1.out.trans hW)
  have hW' : Kept None w1 W := hW
  obtain ⟨c0, c1, _⟩ := HC.out W hW'
  clear hG hs hW hb hW' HC
  go_wp2_with fail
  refine (HP.out _ _ _ _ HB.out).mono ?_
  rintro e2 w9 ⟨u9, rfl, k9, b9⟩
  have kk := KW.out.trans k9
  have hb9 := b9.base KW.out.size
  clear k9 b9
  go_wp2
  go_ret2
  exact ⟨_, rfl, kk, hb9⟩
set_option maxRecDepth 100000 in
set_option maxHeartbeats 4000000 in
theorem rput3 (s ep : Int) (w : World) (h : rightJ ⟨3, s, 0, 0, Req.none, 0, ep⟩ = true) :
    Calls Try.prog 12 #[(⟨3, s, 0, 0, Req.none, 0, ep⟩ : Rec).V] w fun en w' => ∃ u, en = .returned (.tuple #[u, .int .i64 0]) ∧ Kept None w w' ∧ Ob w' w.heap.size u (putF 3 s (bodyJ ⟨3, s, 0, 0, Req.none, 0, ep⟩)) := by
  have hl := bodyJ_len h
  have hs := ((rightJ_iff _).1 h).1
  obtain ⟨B, hB0⟩ : ∃ B, B = bodyJ ⟨3, s, 0, 0, Req.none, 0, ep⟩ := ⟨_, rfl⟩
  have hBe : B = leB ep := hB0
  rw [← hB0] at hl ⊢
  have HP := hid (fun v lo hi W (hv : Bs W lo hi v B) => show Calls Try.prog 19 #[.int .i64 3, .int .i64 s, v] W fun e w' => ∃ u, e = .returned (.tuple #[u, .int .i64 0]) ∧ Kept None W w' ∧ Ob w' W.heap.size u (putF 3 s B) from by
    obtain ⟨e1, e2⟩ := Fm.putFL_ok (k := 3) (s := s) (b := B) (by decide) (by decide) hs.1 (by omega)
    have hp := put 3 s v lo hi B W hv (by have := hs.2; simp only at this; omega) (by omega)
    rw [e1, e2] at hp
    exact hp)
  obtain ⟨_, h1⟩ := (doneJ_iff _).1 (by unfold rightJ at h; simpa [baseJ, pendJ, seqJ, hs.1, hs.2] using h)
  have we : IntKind.u64.wrap ep = ep := u64_in (Int.le_trans (by decide) h1.1) (Int.le_trans h1.2 (by decide))
  have HN := hid (fun W => Ref.num ep W (Int.le_trans (by decide) h1.1) (Int.lt_of_le_of_lt h1.2 (by decide)))
  rw [← hBe] at HN
  clear h1
  have HBe := hid hBe
  clear hs hB0 hl hBe
  have HR := hid (fun W => right ⟨3, s, 0, 0, Req.none, 0, ep⟩ W)
  rw [h] at HR
  have heq : (⟨3, s, 0, 0, Req.none, 0, ep⟩ : Rec).V = .agg #[.int .i64 3, .int .i64 s, .int .i64 0, .int .i64 0, .string ⟨#[]⟩, .int .i64 0, .int .u64 0, .int .i64 0, .int .u64 0, .int .u64 0, .int .i64 0, .int .i64 ep] := rfl
  unfold Rec.V Rec.C at HR ⊢
  go_enter Try.func12, Try.ntmps12
  go_wp2_with fail
  refine (HR.out _).mono ?_
  rintro e1 w1 ⟨rfl, k1⟩
  have hB := ((Blk.new w #[.int .i64 3, .int .i64 s, .int .i64 0, .int .i64 0, .string ⟨#[]⟩, .int .i64 0, .int .u64 0, .int .i64 0, .int .u64 0, .int .u64 0, .int .i64 0, .int .i64 ep] 28)).kept k1 (fun h => h)
  have K1 := hid (show Kept None w w1 from ((Kept.refl _ _).alloc _).trans k1)
  have HC := hid (fun W (hW : Kept None w1 W) => (by
      have hb := hB.kept hW (fun h => h)
      exact ⟨hb.cell 0, hb.cell 1, hb.cell 2, hb.cell 3, hb.cell 4, hb.cell 5, hb.cell 6, hb.cell 7, hb.cell 8, hb.cell 9, hb.cell 10, hb.cell 11⟩ : W.cell? ⟨w.heap.size, 0, none⟩ = some (.int .i64 3) ∧ W.cell? ⟨w.heap.size, 1, none⟩ = some (.int .i64 s) ∧ W.cell? ⟨w.heap.size, 2, none⟩ = some (.int .i64 0) ∧ W.cell? ⟨w.heap.size, 3, none⟩ = some (.int .i64 0) ∧ W.cell? ⟨w.heap.size, 4, none⟩ = some (.string ⟨#[]⟩) ∧ W.cell? ⟨w.heap.size, 5, none⟩ = some (.int .i64 0) ∧ W.cell? ⟨w.heap.size, 6, none⟩ = some (.int .u64 0) ∧ W.cell? ⟨w.heap.size, 7, none⟩ = some (.int .i64 0) ∧ W.cell? ⟨w.heap.size, 8, none⟩ = some (.int .u64 0) ∧ W.cell? ⟨w.heap.size, 9, none⟩ = some (.int .u64 0) ∧ W.cell? ⟨w.heap.size, 10, none⟩ = some (.int .i64 0) ∧ W.cell? ⟨w.heap.size, 11, none⟩ = some (.int .i64 ep)))
  clear k1 hB heq HR
  obtain ⟨c0, c1, c2, c3, c4, c5, c6, c7, c8, c9, c10, c11⟩ := HC.out w1 (Kept.refl _ _)
  go_wp2_with fail
  clear c0 c1 c2 c3 c4 c5 c6 c7 c8 c9 c10 c11
  refine (HN.out _).mono ?_
  rintro e1 w2 ⟨v2, rfl, k2, b2⟩
  obtain ⟨a2, c2, rfl⟩ := b2.form
  have KW := hid (K1.out.trans k2)
  have HB := hid (b2.bs (Nat.le_refl _))
  obtain ⟨c0, c1, _⟩ := HC.out w2 k2
  clear k2 b2 HC
  go_wp2_with fail
  refine (HP.out _ _ _ _ HB.out).mono ?_
  rintro e2 w9 ⟨u9, rfl, k9, b9⟩
  have kk := KW.out.trans k9
  have hb9 := b9.base KW.out.size
  clear k9 b9
  go_wp2
  go_ret2
  exact ⟨_, rfl, kk, hb9⟩
set_option maxRecDepth 100000 in
set_option maxHeartbeats 4000000 in
theorem rput2 (s t : Int) (n : ByteArray) (v cl : Int) (k rr ss : Nat) (hrr : rr < 18446744073709551616) (hss : ss < 18446744073709551616) (w : World) (h : rightJ ⟨2, s, 0, 0, ⟨n, v, k, cl, rr, ss⟩, t, 0⟩ = true) :
    Calls Try.prog 12 #[(⟨2, s, 0, 0, ⟨n, v, k, cl, rr, ss⟩, t, 0⟩ : Rec).V] w fun en w' => ∃ u, en = .returned (.tuple #[u, .int .i64 0]) ∧ Kept None w w' ∧ Ob w' w.heap.size u (putF 2 s (bodyJ ⟨2, s, 0, 0, ⟨n, v, k, cl, rr, ss⟩, t, 0⟩)) := by
  have hl := bodyJ_len h
  have hs := ((rightJ_iff _).1 h).1
  obtain ⟨B, hB0⟩ : ∃ B, B = bodyJ ⟨2, s, 0, 0, ⟨n, v, k, cl, rr, ss⟩, t, 0⟩ := ⟨_, rfl⟩
  have hBe : B = leB t ++ putB n v k cl rr ss := hB0
  rw [← hB0] at hl ⊢
  have HP := hid (fun v lo hi W (hv : Bs W lo hi v B) => show Calls Try.prog 19 #[.int .i64 2, .int .i64 s, v] W fun e w' => ∃ u, e = .returned (.tuple #[u, .int .i64 0]) ∧ Kept None W w' ∧ Ob w' W.heap.size u (putF 2 s B) from by
    obtain ⟨e1, e2⟩ := Fm.putFL_ok (k := 2) (s := s) (b := B) (by decide) (by decide) hs.1 (by omega)
    have hp := put 2 s v lo hi B W hv (by have := hs.2; simp only at this; omega) (by omega)
    rw [e1, e2] at hp
    exact hp)
  obtain ⟨_, h1⟩ := (pendJ_iff _).1 (by unfold rightJ at h; simpa [baseJ, doneJ, seqJ, hs.1, hs.2] using h)
  have hr : rightB n.size v k cl = true := h1.1
  have hi := ((rightB_iff _ _ _ _).1 hr).1
  have wt : IntKind.u64.wrap t = t := u64_in h1.2.1 h1.2.2
  have HN := hid (fun W => Ref.num t W h1.2.1 (Int.lt_of_le_of_lt h1.2.2 (by decide)))
  have HU := hid (fun W => RUp.put_yes n v cl k rr ss W hr (by omega) (Nat.lt_trans hi.2.2.2.2.2 (by decide)) hrr hss)
  have hul : (putB n v k cl rr ss).length = 48 + n.size := putB_len _ _ _ _ _ _
  have HUL := hid (show (putB n v k cl rr ss).length ≤ 80 by omega)
  obtain ⟨UB, hUB⟩ : ∃ UB, UB = putB n v k cl rr ss := ⟨_, rfl⟩
  rw [← hUB] at HU HUL hBe
  clear h1 hr hi hrr hss hul hUB
  have HBe := hid hBe
  clear hs hB0 hl hBe
  have HR := hid (fun W => right ⟨2, s, 0, 0, ⟨n, v, k, cl, rr, ss⟩, t, 0⟩ W)
  rw [h] at HR
  have heq : (⟨2, s, 0, 0, ⟨n, v, k, cl, rr, ss⟩, t, 0⟩ : Rec).V = .agg #[.int .i64 2, .int .i64 s, .int .i64 0, .int .i64 0, .string n, .int .i64 v, .int .u64 (k : Int), .int .i64 cl, .int .u64 (rr : Int), .int .u64 (ss : Int), .int .i64 t, .int .i64 0] := rfl
  unfold Rec.V Rec.C at HR ⊢
  go_enter Try.func12, Try.ntmps12
  go_wp2_with fail
  refine (HR.out _).mono ?_
  rintro e1 w1 ⟨rfl, k1⟩
  have hB := ((Blk.new w #[.int .i64 2, .int .i64 s, .int .i64 0, .int .i64 0, .string n, .int .i64 v, .int .u64 (k : Int), .int .i64 cl, .int .u64 (rr : Int), .int .u64 (ss : Int), .int .i64 t, .int .i64 0] 28)).kept k1 (fun h => h)
  have K1 := hid (show Kept None w w1 from ((Kept.refl _ _).alloc _).trans k1)
  have HC := hid (fun W (hW : Kept None w1 W) => (by
      have hb := hB.kept hW (fun h => h)
      exact ⟨hb.cell 0, hb.cell 1, hb.cell 2, hb.cell 3, hb.cell 4, hb.cell 5, hb.cell 6, hb.cell 7, hb.cell 8, hb.cell 9, hb.cell 10, hb.cell 11⟩ : W.cell? ⟨w.heap.size, 0, none⟩ = some (.int .i64 2) ∧ W.cell? ⟨w.heap.size, 1, none⟩ = some (.int .i64 s) ∧ W.cell? ⟨w.heap.size, 2, none⟩ = some (.int .i64 0) ∧ W.cell? ⟨w.heap.size, 3, none⟩ = some (.int .i64 0) ∧ W.cell? ⟨w.heap.size, 4, none⟩ = some (.string n) ∧ W.cell? ⟨w.heap.size, 5, none⟩ = some (.int .i64 v) ∧ W.cell? ⟨w.heap.size, 6, none⟩ = some (.int .u64 (k : Int)) ∧ W.cell? ⟨w.heap.size, 7, none⟩ = some (.int .i64 cl) ∧ W.cell? ⟨w.heap.size, 8, none⟩ = some (.int .u64 (rr : Int)) ∧ W.cell? ⟨w.heap.size, 9, none⟩ = some (.int .u64 (ss : Int)) ∧ W.cell? ⟨w.heap.size, 10, none⟩ = some (.int .i64 t) ∧ W.cell? ⟨w.heap.size, 11, none⟩ = some (.int .i64 0)))
  clear k1 hB heq HR
  obtain ⟨c0, c1, c2, c3, c4, c5, c6, c7, c8, c9, c10, c11⟩ := HC.out w1 (Kept.refl _ _)
  go_wp2_with fail
  clear c0 c1 c2 c3 c4 c5 c6 c7 c8 c9 c10 c11
  refine (HU.out _).mono ?_
  rintro e1 w2 ⟨v2, rfl, k2, b2⟩
  obtain ⟨a2, c2, rfl⟩ := b2.form
  have K2 := hid k2
  have B2 := hid (b2.bs (Nat.le_refl _)).all
  have c10 := (HC.out w2 k2).2.2.2.2.2.2.2.2.2.2.1
  clear k2 b2
  go_wp2_with fail
  clear c10
  refine (HN.out _).mono ?_
  rintro e1 w3 ⟨v3, rfl, k3, b3⟩
  obtain ⟨a3, c3, rfl⟩ := b3.form
  have K3 := hid (K2.out.trans k3)
  have hu := (B2.out.kept k3 (fun _ _ _ h => h)).all
  have hln : (leB t).length + UB.length ≤ 140737488355328 := by have := HUL.out; rw [leB_length]; omega
  have hsz := k3.size
  clear k3
  obtain ⟨c0, c1, _⟩ := HC.out w3 K3.out
  go_upto_region 11 with (first | (refine wpList_append_bo rfl _ _ 29 rfl rtBytes rfl rfl b3 hu hln hsz ?_; intro a4 n4 c4 w4 hB4 hK4) | fail)
  have k4 := K3.out.then hK4 (fun q hq h => Nat.lt_irrefl _ (Nat.lt_of_lt_of_le hq (Nat.le_trans K2.out.size (b3.own q h).1)))
  have KW := hid (K1.out.trans k4)
  rw [← HBe.out] at hB4
  have HB := hid (hB4.bs (Nat.le_refl _))
  obtain ⟨_, _, hfm⟩ := hB4.form
  obtain rfl : n4 = B.length := by injection hfm
  obtain ⟨d0, d1, _⟩ := HC.out w4 k4
  clear hB4 hK4 k4 b3 hu hln hsz c0 c1 HC hfm
  go_wp2_with fail
  refine (HP.out _ _ _ _ HB.out).mono ?_
  rintro e2 w9 ⟨u9, rfl, k9, b9⟩
  have kk := KW.out.trans k9
  have hb9 := b9.base KW.out.size
  clear k9 b9
  go_wp2
  go_ret2
  exact ⟨_, rfl, kk, hb9⟩
set_option maxRecDepth 100000 in
set_option maxHeartbeats 4000000 in
theorem rput (r : Rec) (w : World) (hf : r.u.r < 18446744073709551616 ∧ r.u.s < 18446744073709551616) :
    Calls Try.prog 12 #[r.V] w fun e w' => ∃ u, e = .returned (.tuple #[u, .int .i64 (putJE r)]) ∧ Kept None w w' ∧ Ob w' w.heap.size u (putJL r) := by
  by_cases h : rightJ r = true
  · have e1 : putJE r = 0 := by unfold putJE; rw [if_pos h]
    have e2 : putJL r = putF r.kind r.seq (bodyJ r) := by unfold putJL; rw [if_pos h]
    rw [e1, e2]
    obtain ⟨kd, s, g, c, ⟨n, v, k, cl, rr, ss⟩, t, e⟩ := r
    rcases ((rightJ_iff _).1 h).2 with ⟨h1, _⟩ | ⟨h1, _⟩ | ⟨h1, _⟩
    · simp only [Rec.mk.injEq] at h1
      obtain ⟨rfl, _, _, _, h2, rfl, rfl⟩ := h1
      rw [h2] at h ⊢
      exact rput1 s g c w h
    · simp only [Rec.mk.injEq] at h1
      obtain ⟨rfl, _, rfl, rfl, _, _, rfl⟩ := h1
      exact rput2 s t n v cl k rr ss hf.1 hf.2 w h
    · simp only [Rec.mk.injEq] at h1
      obtain ⟨rfl, _, rfl, rfl, h2, rfl, _⟩ := h1
      rw [h2] at h ⊢
      exact rput3 s e w h
  · have h : rightJ r = false := by simpa using h
    have e1 : putJE r = 23 := by unfold putJE; rw [h]; rfl
    have e2 : putJL r = [] := by unfold putJL; rw [h]; rfl
    rw [e1, e2]
    obtain ⟨kd, s, g, c, ⟨n, v, k, cl, rr, ss⟩, t, e⟩ := r
    have HR := hid (fun W => right ⟨kd, s, g, c, ⟨n, v, k, cl, rr, ss⟩, t, e⟩ W)
    rw [h] at HR
    unfold Rec.V Rec.C at HR ⊢
    clear h e1 e2 hf
    go_enter Try.func12, Try.ntmps12
    go_wp2_with fail
    refine (HR.out _).mono ?_
    rintro e1 w1 ⟨rfl, k1⟩
    have kk : Kept None w w1 := ((Kept.refl _ _).alloc _).trans k1
    clear k1
    go_wp2
    go_ret2
    exact ⟨_, rfl, kk, Bo.nil _ _ _⟩
end R12
end Go.Proofs.Ytpbkdeljhehkdaa
namespace Go.Pm
open Go Go.RowKit
theorem results_tmp5 {fn : Func} {a b c d e : Tmp} (h : fn.results = #[.tmp a, .tmp b, .tmp c, .tmp d, .tmp e]) (tmps : Array Value) (P : Program) (w : World) :
    (results fn tmps).run P w = .ok (.tuple #[tmps.getD a undef, tmps.getD b undef, tmps.getD c undef, tmps.getD d undef, tmps.getD e undef]) w := by
  simp [results, h]
theorem or_i64 (M k : Nat) (hM : 2 ^ k = M) (h64 : M ≤ 18446744073709551616) (x y : Int) (h0 : 0 ≤ x) (h1 : x < M) (h2 : 0 ≤ y) (h3 : x + y * M < 9223372036854775808) : bits .or .i64 x (y * M) = x + y * M := by
  have h := or_join M k hM h64 x y h0 h1 h2 (by omega)
  have e1 : bits .or .i64 x (y * M) = IntKind.i64.wrap ((BitVec.ofInt 64 x ||| BitVec.ofInt 64 (y * M)).toNat : Int) := rfl
  have e2 : bits .or .u64 x (y * M) = IntKind.u64.wrap ((BitVec.ofInt 64 x ||| BitVec.ofInt 64 (y * M)).toNat : Int) := rfl
  have hlt := (BitVec.ofInt 64 x ||| BitVec.ofInt 64 (y * M)).isLt
  rw [e2, IntKind.wrap_u64] at h
  rw [e1, IntKind.wrap_i64]
  omega
theorem wrapI (x : Int) (h0 : -9223372036854775808 ≤ x) (h1 : x < 9223372036854775808) : IntKind.i64.wrap x = x := by rw [IntKind.wrap_i64]; omega
theorem wrapIn (x : Int) (h0 : -9223372036854775808 ≤ x) (h1 : x < 9223372036854775808) : wrap64 x = x := by unfold wrap64; omega
/-- Four bytes, each shifted to its place. -/
theorem or_four (x0 x1 x2 x3 : Int) (a0 : 0 ≤ x0) (b0 : x0 < 256) (a1 : 0 ≤ x1) (b1 : x1 < 256) (a2 : 0 ≤ x2) (b2 : x2 < 256) (a3 : 0 ≤ x3) (b3 : x3 < 256) :
    bits .or .i64 (bits .or .i64 (bits .or .i64 x0 (x1 * 256)) (x2 * 65536)) (x3 * 16777216) = x0 + x1 * 256 + x2 * 65536 + x3 * 16777216 := by
  have e1 : bits .or .i64 x0 (x1 * 256) = x0 + x1 * 256 := or_i64 256 8 rfl (by decide) x0 x1 (by omega) (by omega) (by omega) (by omega)
  have e2 : bits .or .i64 (x0 + x1 * 256) (x2 * 65536) = x0 + x1 * 256 + x2 * 65536 := or_i64 65536 16 rfl (by decide) (x0 + x1 * 256) x2 (by omega) (by omega) (by omega) (by omega)
  have e3 : bits .or .i64 (x0 + x1 * 256 + x2 * 65536) (x3 * 16777216) = x0 + x1 * 256 + x2 * 65536 + x3 * 16777216 := or_i64 16777216 24 rfl (by decide) (x0 + x1 * 256 + x2 * 65536) x3 (by omega) (by omega) (by omega) (by omega)
  rw [e1, e2, e3]
theorem four_bytes (b : List UInt8) : bits .or .i64 (bits .or .i64 (bits .or .i64 (IntKind.i64.wrap (bAt b 0)) (IntKind.i64.wrap (IntKind.i64.wrap (bAt b 1) * 256))) (IntKind.i64.wrap (IntKind.i64.wrap (bAt b 2) * 65536))) (IntKind.i64.wrap (IntKind.i64.wrap (bAt b 3) * 16777216)) = le4V b := by
  have y0 := bAt_ge b 0
  have y1 := bAt_ge b 1
  have y2 := bAt_ge b 2
  have y3 := bAt_ge b 3
  have z0 := bAt_lt b 0
  have z1 := bAt_lt b 1
  have z2 := bAt_lt b 2
  have z3 := bAt_lt b 3
  have w0 : IntKind.i64.wrap (bAt b 0) = bAt b 0 := wrapI _ (by omega) (by omega)
  have w1 : IntKind.i64.wrap (bAt b 1) = bAt b 1 := wrapI _ (by omega) (by omega)
  have w2 : IntKind.i64.wrap (bAt b 2) = bAt b 2 := wrapI _ (by omega) (by omega)
  have w3 : IntKind.i64.wrap (bAt b 3) = bAt b 3 := wrapI _ (by omega) (by omega)
  rw [w0, w1, w2, w3]
  clear w0 w1 w2 w3
  rw [wrapI (bAt b 1 * 256) (by omega) (by omega), wrapI (bAt b 2 * 65536) (by omega) (by omega), wrapI (bAt b 3 * 16777216) (by omega) (by omega), or_four _ _ _ _ y0 z0 y1 z1 y2 z2 y3 z3]
  rfl
theorem lt_lit {S : Nat} (h : 9223372036854775807 < S) : decide ((9223372036854775807 : Int) < (S : Int)) = true ∧ decide (9223372036854775807 < S) = true := ⟨by simp; omega, by simpa using h⟩
theorem le_lit {S : Nat} (h : ¬ 9223372036854775807 < S) : decide ((9223372036854775807 : Int) < (S : Int)) = false ∧ decide (9223372036854775807 < S) = false := ⟨by simp; omega, by simpa using h⟩
theorem sums13 {M P Q : Nat} (h : M ≤ 4096) (hP : P = 13 + M) (hQ : Q = 21 + M) : (wrap64 (13 + (M : Int)) = (P : Int) ∧ wrap64 ((P : Int) + 8) = (Q : Int) ∧ wrap64 (21 + (M : Int)) = (Q : Int)) ∧ IntKind.i64.wrap (13 + (M : Int)) = (P : Int) ∧ IntKind.i64.wrap (21 + (M : Int)) = (Q : Int) :=
  ⟨⟨by rw [wrapIn _ (by omega) (by omega)]; omega, by rw [wrapIn _ (by omega) (by omega)]; omega, by rw [wrapIn _ (by omega) (by omega)]; omega⟩, by rw [wrapI _ (by omega) (by omega)]; omega, by rw [wrapI _ (by omega) (by omega)]; omega⟩
end Go.Pm
namespace Go.Proofs.Ytpbkdeljhehkdaa
open Go.RowKit Go.Pm
namespace R12
set_option maxRecDepth 100000 in
set_option maxHeartbeats 8000000 in
theorem read (v : Value) (lo hi : Nat) (b : List UInt8) (w : World) (hv : Bs w lo hi v b) (hl : b.length ≤ 1099511627000) :
    Calls Try.prog 38 #[v] w fun e w' => ∃ u, e = .returned (.tuple #[.int .i64 (readF b).kind, .int .i64 (readF b).seq, u, .int .i64 (readF b).n, .int .i64 (readF b).e]) ∧ Kept None w w' ∧ Bs w' lo hi u (readF b).body := by
  obtain ⟨av, cv, rfl, g1, g2, g3⟩ := hv.shape
  by_cases h13 : b.length < 13
  · have er : readF b = ⟨0, 0, [], 0, 21⟩ := by unfold readF; rw [if_pos h13]
    rw [er]
    have d1 : decide ((b.length : Int) < 13) = true := by simp; omega
    have d2 : decide (b.length < 13) = true := by simpa using h13
    clear er hv h13 g3
    go_enter Try.func38, Try.ntmps38
    go_wp2
    (try simp only [Exit.inBlock, Exit.then])
    refine bodyPost_ret (results_tmp5 rfl _ _ _) rfl ?_
    exact ⟨.slice none 0 0, rfl, Kept.refl _ _, Bs.nil _ _ _⟩
  · have d1 : decide ((b.length : Int) < 13) = false := by simp; omega
    have d2 : decide (b.length < 13) = false := by simp; omega
    obtain ⟨bb, o, rfl, q1, q2, q3, hcell⟩ := hv.ne (by omega)
    have HC := hid (fun W (hW : Kept None w W) => (⟨(hW.cell (p := ⟨bb, o + 0, none⟩) q3 (fun h => h)).trans (hcell 0 (by omega)), (hW.cell (p := ⟨bb, o + 1, none⟩) q3 (fun h => h)).trans (hcell 1 (by omega)), (hW.cell (p := ⟨bb, o + 2, none⟩) q3 (fun h => h)).trans (hcell 2 (by omega)), (hW.cell (p := ⟨bb, o + 3, none⟩) q3 (fun h => h)).trans (hcell 3 (by omega)), (hW.cell (p := ⟨bb, o + 4, none⟩) q3 (fun h => h)).trans (hcell 4 (by omega))⟩ : W.cell? ⟨bb, o + 0, none⟩ = some (.int .u8 (bAt b 0)) ∧ W.cell? ⟨bb, o + 1, none⟩ = some (.int .u8 (bAt b 1)) ∧ W.cell? ⟨bb, o + 2, none⟩ = some (.int .u8 (bAt b 2)) ∧ W.cell? ⟨bb, o + 3, none⟩ = some (.int .u8 (bAt b 3)) ∧ W.cell? ⟨bb, o + 4, none⟩ = some (.int .u8 (bAt b 4))))
    simp only [Nat.add_zero] at HC
    have i0 : 0 < b.length := by omega
    have i1 : (1 : Int) < (b.length : Int) := by omega
    have i2 : (2 : Int) < (b.length : Int) := by omega
    have i3 : (3 : Int) < (b.length : Int) := by omega
    have i4 : (4 : Int) < (b.length : Int) := by omega
    obtain ⟨M, hM⟩ : ∃ M : Nat, M = (le4V b).toNat := ⟨_, rfl⟩
    obtain ⟨K, hK⟩ : ∃ K : Nat, K = (b.getD 4 0).toNat := ⟨_, rfl⟩
    obtain ⟨S, hS⟩ : ∃ S : Nat, S = (leV (b.drop 5)).toNat := ⟨_, rfl⟩
    have eM : le4V b = (M : Int) := by rw [hM, Int.toNat_of_nonneg (le4V_ge b)]
    have eK : bAt b 4 = (K : Int) := by rw [hK]; rfl
    have eS : leV (b.drop 5) = (S : Int) := by rw [hS, Int.toNat_of_nonneg (leV_ge _)]
    have HMM := hid (And.intro eM (And.intro eK eS))
    have HKB := hid (show K < 256 by have := bAt_lt b 4; omega)
    have HB := hid ((four_bytes b).trans eM)
    have HKw := hid (wrapI (K : Int) (by omega) (by have := HKB.out; omega))
    rw [eK] at HC
    clear g2
    obtain ⟨a5, hsl5, hv5⟩ := slice_mid tBytes zBytes hv .i64 .i64 5 13 (by decide) (by decide) (by omega)
    have HWd := hid (fun W (hW : Kept None w W) => (by
      have h5 : Bs W lo hi (.slice a5 8 (cv - 5)) ((b.take 13).drop 5) := by
        have := hv5.kept hW (fun _ _ _ h => h)
        unfold Bs
        rw [List.map_drop, List.map_take]
        exact this
      have hl5 : ((b.take 13).drop 5).length = 8 := by simp; omega
      have h := Ref.word _ _ _ _ W h5 hl5
      have e : leV ((b.take 13).drop 5) = (S : Int) := by rw [List.drop_take, leV_take]; exact eS
      rw [e] at h
      exact h : Calls Try.prog 62 #[.slice a5 8 (cv - 5)] W fun en w' => en = .returned (.int .u64 (S : Int)) ∧ W = w'))
    have HV := hid hv
    have HL := hid (And.intro hl h13)
    clear hcell q1 q2 q3 hv hl h13 hM hK hS eM eK eS hv5
    go_enter Try.func38, Try.ntmps38
    go_wp2_with fail
    have hs : Steady [] := Go.Pm.Steady.nil
    refine wp_region_kn w _ hs (Kept.refl _ _) (by kernel_rfl) (by kernel_rfl) (by kernel_rfl) ?_
    iterate 23 (refine wpPar_pure rfl (by rfl) _ (fun W hW => by
        obtain ⟨c0, c1, c2, c3, c4⟩ := HC.out W hW
        go_simp
        exact rfl) ?_; simp only [Act.put, List.setIfInBounds_toArray, List.set_cons_zero, List.set_cons_succ])
    refine wpPar_nil (fun W hW hG => ?_)
    have kW := hid hW
    clear hG hs hW
    rw [HB.out]
    go_wp2_with fail
    have hs : Steady [.val 6 (.int .u64 (S : Int))] := Go.Pm.Steady.val (Go.Pm.Steady.nil)
    refine wp_region_kn W _ hs (Kept.refl _ _) (by kernel_rfl) (by kernel_rfl) (by kernel_rfl) ?_
    iterate 6 (refine wpPar_pure rfl (by rfl) _ (fun Wx hW => by
        obtain ⟨c0, c1, c2, c3, c4⟩ := HC.out _ (kW.out.trans hW)
        go_simp
        exact rfl) ?_; simp only [Act.put, List.setIfInBounds_toArray, List.set_cons_zero, List.set_cons_succ])
    refine wpKn_adds hs rfl (by rfl) (fun Wx hW hd => ?_) (fun v6 hv => ?_)
    · unfold Gives
      go_simp
      refine gives_call ((HWd.out _ (kW.out.trans hW))) ?_
      rintro e w3 ⟨rfl, rfl⟩
      exact ⟨_, rfl, Kept.refl _ _, rfl, trivial⟩
    obtain rfl : v6 = .int .u64 (S : Int) := hv
    simp only [Act.put, List.setIfInBounds_toArray, List.set_cons_zero, List.set_cons_succ]
    iterate 2 (refine wpPar_pure rfl (by rfl) _ (fun Wx hW => by
        obtain ⟨c0, c1, c2, c3, c4⟩ := HC.out _ (kW.out.trans hW)
        go_simp
        exact rfl) ?_; simp only [Act.put, List.setIfInBounds_toArray, List.set_cons_zero, List.set_cons_succ])
    refine wpPar_nil (fun W2 hW2 hG => ?_)
    have kW2 := hid (kW.out.trans hW2)
    clear hG hs hW2 i0 i1 i2 i3 i4
    rw [HKw.out]
    by_cases h1 : 4096 < M
    · have ER := hid (readF_bad HL.out.2 HMM.out (.inl h1))
      have c1 : decide ((4096 : Int) < (M : Int)) = true := by simp; omega
      have c1' : decide (4096 < M) = true := by simp; omega
      clear h1
      go_wp2
      (try simp only [Exit.inBlock, Exit.then])
      refine bodyPost_ret (results_tmp5 rfl _ _ _) rfl ?_
      rw [ER.out]
      exact ⟨.slice none 0 0, rfl, kW2.out, Bs.nil _ _ _⟩
    by_cases h2 : K = 0
    · have ER := hid (readF_bad HL.out.2 HMM.out (.inr (.inl h2)))
      subst h2
      have c1 : decide ((4096 : Int) < (M : Int)) = false := by simp; omega
      have c1' : decide (4096 < M) = false := by simp; omega
      clear h1
      go_wp2
      (try simp only [Exit.inBlock, Exit.then])
      refine bodyPost_ret (results_tmp5 rfl _ _ _) rfl ?_
      rw [ER.out]
      exact ⟨.slice none 0 0, rfl, kW2.out, Bs.nil _ _ _⟩
    by_cases h3 : 9223372036854775807 < S
    · have ER := hid (readF_bad HL.out.2 HMM.out (.inr (.inr h3)))
      have c1 : decide ((4096 : Int) < (M : Int)) = false := by simp; omega
      have c1' : decide (4096 < M) = false := by simp; omega
      have c2 : ((K : Int) == 0) = false := by simp; omega
      have c2' : ¬ K = 0 := h2
      have c3 := (lt_lit h3).1
      have c3' := (lt_lit h3).2
      clear h1 h2 h3
      go_wp2
      (try simp only [Exit.inBlock, Exit.then])
      refine bodyPost_ret (results_tmp5 rfl _ _ _) rfl ?_
      rw [ER.out]
      exact ⟨.slice none 0 0, rfl, kW2.out, Bs.nil _ _ _⟩
    have HN := hid (show ¬ (4096 < M ∨ K = 0 ∨ 9223372036854775807 < S) from fun h => h.elim h1 (fun h => h.elim h2 h3))
    have c1 : decide ((4096 : Int) < (M : Int)) = false := by simp; omega
    have c1' : decide (4096 < M) = false := by simp; omega
    have c2 : ((K : Int) == 0) = false := by simp; omega
    have c2' : ¬ K = 0 := h2
    have c3 := (le_lit h3).1
    have c3' := (le_lit h3).2
    obtain ⟨P, hP⟩ : ∃ P, P = 13 + M := ⟨_, rfl⟩
    obtain ⟨Q, hQ⟩ : ∃ Q, Q = 21 + M := ⟨_, rfl⟩
    have HP := hid (sums13 (Nat.le_of_not_lt h1) hP hQ)
    have HMS := hid (And.intro (Nat.le_of_not_lt h1) (Nat.le_of_not_lt h3))
    have HPQ := hid (And.intro hP hQ)
    clear hP hQ h1 h2 h3
    by_cases h4 : b.length < Q
    · have ER := hid (readF_short HL.out.2 HMM.out HN.out (by rw [← HPQ.out.2]; exact h4))
      have c4 : decide ((b.length : Int) < (Q : Int)) = true := by simp; omega
      have c4' : decide (b.length < Q) = true := by simpa using h4
      clear h4
      obtain ⟨p1, p2, _⟩ := HP.out.1
      go_wp2
      (try simp only [Exit.inBlock, Exit.then])
      refine bodyPost_ret (results_tmp5 rfl _ _ _) rfl ?_
      rw [ER.out]
      exact ⟨.slice none 0 0, rfl, kW2.out, Bs.nil _ _ _⟩
    · have c4 : decide ((b.length : Int) < (Q : Int)) = false := by simp; omega
      have c4' : decide (b.length < Q) = false := by simp; omega
      have HQL := hid h4
      clear h4
      obtain ⟨p1, p2, p3⟩ := HP.out.1
      obtain ⟨a6, hsl6, hv6⟩ := slice_mid tBytes zBytes HV.out .i64 .i64 (13 : Int) (P : Int) (by decide) (by have := HPQ.out.1; omega) (by have := HPQ.out; have := HQL.out; omega)
      obtain ⟨a7, hsl7, hv7⟩ := slice_mid tBytes zBytes HV.out .i64 .i64 (P : Int) (Q : Int) (by omega) (by have := HPQ.out; omega) (by have := HQL.out; omega)
      simp only [Int.toNat_natCast, show (13 : Int).toNat = 13 from rfl] at hsl6 hv6 hsl7 hv7
      rw [show P - 13 = M by have := HPQ.out.1; omega] at hsl6 hv6
      rw [show Q - P = 8 by have := HPQ.out; omega] at hsl7 hv7
      obtain ⟨BD, hBD⟩ : ∃ BD, BD = (b.drop 13).take M := ⟨_, rfl⟩
      have HBD := hid hBD
      have HV6 := hid (show Bs w lo hi (.slice a6 M (cv - 13)) BD by
        unfold Bs
        rw [hBD, show (b.drop 13).take M = (b.take P).drop 13 by rw [List.drop_take]; congr 1; have := HPQ.out.1; omega, List.map_drop, List.map_take]
        exact hv6)
      have HV7 := hid (show Bs w lo hi (.slice a7 8 (cv - P)) ((b.drop P).take 8) by
        unfold Bs
        rw [show (b.drop P).take 8 = (b.take Q).drop P by rw [List.drop_take]; congr 1; have := HPQ.out; omega, List.map_drop, List.map_take]
        exact hv7)
      obtain ⟨MK, hMK⟩ : ∃ MK, MK = markF (K : Int) (S : Int) BD := ⟨_, rfl⟩
      have HMK := hid hMK.symm
      have HML := hid (show MK.length = 8 by rw [hMK]; simp [markF, sumB_len])
      have HS1 := hid (wrapI (S : Int) (by omega) (Int.lt_of_le_of_lt (Int.ofNat_le.2 HMS.out.2) (by decide)))
      have hBDl : BD.length ≤ 1099511627000 := by rw [hBD, List.length_take]; have := HMS.out.1; omega
      have HMC := hid (fun W (hW : Kept None w W) => (by
        have h := mark (K : Int) (S : Int) (.slice a6 M (cv - 13)) lo hi BD W (HV6.out.kept hW (fun _ _ _ h => h)) (by omega) (by have := HKB.out; omega) (by omega) (Int.lt_of_le_of_lt (Int.ofNat_le.2 HMS.out.2) (by decide)) hBDl
        rw [← hMK] at h
        exact h))
      obtain ⟨X, hX⟩ : ∃ X, X = (b.drop P).take 8 := ⟨_, rfl⟩
      rw [← hX] at HV7
      have HC7 := hid (fun W (hW : Kept None w W) => cvBytes (HV7.out.kept hW (fun _ _ _ h => h)))
      clear hv6 hv7 hBD hMK hBDl
      go_wp2_with fail
      clear p1 p2 p3 c1 c1' c2 c2' c3 c3' c4 c4' d1 d2
      have HX := hid hX
      by_cases hm : MK = X
      · subst hm
        have HMX := hid hX
        have HNE := hid True.intro
        clear hX
        go_wp2_with fail
        have hs : Steady [.bytes 4 (MK), .val 5 (.string ⟨(MK).toArray⟩) [4]] := Go.Pm.Steady.bytes (Go.Pm.Steady.val (Go.Pm.Steady.nil))
        refine wp_region_kn W2 _ hs (Kept.refl _ _) (by kernel_rfl) (by kernel_rfl) (by kernel_rfl) ?_
        iterate 2 (refine wpPar_pure rfl (by rfl) _ (fun W hW => by
            have cvx := HC7.out _ (kW2.out.trans hW)
            go_simp
            exact rfl) ?_; simp only [Act.put, List.setIfInBounds_toArray, List.set_cons_zero, List.set_cons_succ])
        refine wpPar_pure rfl (by rfl) (.int .i64 (S : Int)) (fun W hW => by have q := HS1.out; go_simp) ?_; simp only [Act.put, List.setIfInBounds_toArray, List.set_cons_zero, List.set_cons_succ]
        iterate 1 (refine wpPar_pure rfl (by rfl) _ (fun W hW => by
            have cvx := HC7.out _ (kW2.out.trans hW)
            go_simp
            exact rfl) ?_; simp only [Act.put, List.setIfInBounds_toArray, List.set_cons_zero, List.set_cons_succ])
        refine wpKn_adds hs rfl (by rfl) (fun W hW hd => ?_) (fun v4 hv => ?_)
        · unfold Gives
          go_simp
          refine gives_call (HMC.out _ (kW2.out.trans hW)) ?_
          rintro e w3 ⟨a, c, rfl, k3, b3⟩
          exact ⟨_, rfl, k3, ⟨_, _, by rw [HML.out]⟩, _, _, b3⟩
        obtain ⟨a8, c8, rfl⟩ : ∃ a c, v4 = .slice a (MK).length c := hv
        simp only [Act.put, List.setIfInBounds_toArray, List.set_cons_zero, List.set_cons_succ]
        refine wpKn_adds hs rfl (by rfl) (fun W hW hd => ?_) (fun v5 hv => ?_)
        · unfold Gives
          obtain ⟨lo, hi, hb⟩ : ∃ lo hi, Bs W lo hi (.slice a8 (MK).length c8) (MK) := hd 4 (List.Mem.head _)
          have hcv := cvBytes hb
          go_simp
          exact ⟨Kept.refl _ _, rfl, trivial⟩
        obtain rfl : v5 = .string ⟨(MK).toArray⟩ := hv
        simp only [Act.put, List.setIfInBounds_toArray, List.set_cons_zero, List.set_cons_succ]
        iterate 2 (refine wpPar_pure rfl (by rfl) _ (fun W hW => by
            have cvx := HC7.out _ (kW2.out.trans hW)
            go_simp
            exact rfl) ?_; simp only [Act.put, List.setIfInBounds_toArray, List.set_cons_zero, List.set_cons_succ])
        refine wpPar_pure rfl (by rfl) (.int .i64 (P : Int)) (fun W hW => by have q := HP.out.2.1; go_simp) ?_; simp only [Act.put, List.setIfInBounds_toArray, List.set_cons_zero, List.set_cons_succ]
        iterate 1 (refine wpPar_pure rfl (by rfl) _ (fun W hW => by
            have cvx := HC7.out _ (kW2.out.trans hW)
            go_simp
            exact rfl) ?_; simp only [Act.put, List.setIfInBounds_toArray, List.set_cons_zero, List.set_cons_succ])
        refine wpPar_pure rfl (by rfl) (.int .i64 (Q : Int)) (fun W hW => by have q := HP.out.2.2; go_simp) ?_; simp only [Act.put, List.setIfInBounds_toArray, List.set_cons_zero, List.set_cons_succ]
        iterate 2 (refine wpPar_pure rfl (by rfl) _ (fun W hW => by
            have cvx := HC7.out _ (kW2.out.trans hW)
            go_simp
            exact rfl) ?_; simp only [Act.put, List.setIfInBounds_toArray, List.set_cons_zero, List.set_cons_succ])
        refine wpPar_pure rfl (by rfl) (.bool false) (fun W hW => by have q := HNE.out; go_simp) ?_; simp only [Act.put, List.setIfInBounds_toArray, List.set_cons_zero, List.set_cons_succ]
        refine wpPar_nil (fun W3 hW3 hG => ?_)
        have k3 := kW2.out.trans hW3
        clear hG hs hW3
        have ER := hid (readF_ok HL.out.2 HMM.out HN.out (by rw [← HPQ.out.2]; exact HQL.out) (by rw [← HPQ.out.1, ← HMX.out, ← HBD.out]; exact HMK.out))
        have cs1 := HS1.out
        have p3 := HP.out.1.2.2
        have hbd := HV6.out.kept k3 (fun _ _ _ h => h)
        go_wp2
        (try simp only [Exit.inBlock, Exit.then])
        refine bodyPost_ret (results_tmp5 rfl _ _ _) rfl ?_
        rw [ER.out]
        refine ⟨.slice a6 M (cv - 13), ?_, k3, by rw [← HBD.out]; exact hbd⟩
        rw [← HPQ.out.2]
        show Ending.returned (.tuple #[.int .i64 (K : Int), .int .i64 (S : Int), .slice a6 M (cv - 13), .int .i64 (wrap64 (21 + (M : Int))), .int .i64 0]) = _
        rw [HP.out.1.2.2]
      · have HNE := hid hm
        clear hm hX
        go_wp2_with fail
        have hs : Steady [.bytes 4 (MK), .val 5 (.string ⟨(MK).toArray⟩) [4]] := Go.Pm.Steady.bytes (Go.Pm.Steady.val (Go.Pm.Steady.nil))
        refine wp_region_kn W2 _ hs (Kept.refl _ _) (by kernel_rfl) (by kernel_rfl) (by kernel_rfl) ?_
        iterate 2 (refine wpPar_pure rfl (by rfl) _ (fun W hW => by
            have cvx := HC7.out _ (kW2.out.trans hW)
            go_simp
            exact rfl) ?_; simp only [Act.put, List.setIfInBounds_toArray, List.set_cons_zero, List.set_cons_succ])
        refine wpPar_pure rfl (by rfl) (.int .i64 (S : Int)) (fun W hW => by have q := HS1.out; go_simp) ?_; simp only [Act.put, List.setIfInBounds_toArray, List.set_cons_zero, List.set_cons_succ]
        iterate 1 (refine wpPar_pure rfl (by rfl) _ (fun W hW => by
            have cvx := HC7.out _ (kW2.out.trans hW)
            go_simp
            exact rfl) ?_; simp only [Act.put, List.setIfInBounds_toArray, List.set_cons_zero, List.set_cons_succ])
        refine wpKn_adds hs rfl (by rfl) (fun W hW hd => ?_) (fun v4 hv => ?_)
        · unfold Gives
          go_simp
          refine gives_call (HMC.out _ (kW2.out.trans hW)) ?_
          rintro e w3 ⟨a, c, rfl, k3, b3⟩
          exact ⟨_, rfl, k3, ⟨_, _, by rw [HML.out]⟩, _, _, b3⟩
        obtain ⟨a8, c8, rfl⟩ : ∃ a c, v4 = .slice a (MK).length c := hv
        simp only [Act.put, List.setIfInBounds_toArray, List.set_cons_zero, List.set_cons_succ]
        refine wpKn_adds hs rfl (by rfl) (fun W hW hd => ?_) (fun v5 hv => ?_)
        · unfold Gives
          obtain ⟨lo, hi, hb⟩ : ∃ lo hi, Bs W lo hi (.slice a8 (MK).length c8) (MK) := hd 4 (List.Mem.head _)
          have hcv := cvBytes hb
          go_simp
          exact ⟨Kept.refl _ _, rfl, trivial⟩
        obtain rfl : v5 = .string ⟨(MK).toArray⟩ := hv
        simp only [Act.put, List.setIfInBounds_toArray, List.set_cons_zero, List.set_cons_succ]
        iterate 2 (refine wpPar_pure rfl (by rfl) _ (fun W hW => by
            have cvx := HC7.out _ (kW2.out.trans hW)
            go_simp
            exact rfl) ?_; simp only [Act.put, List.setIfInBounds_toArray, List.set_cons_zero, List.set_cons_succ])
        refine wpPar_pure rfl (by rfl) (.int .i64 (P : Int)) (fun W hW => by have q := HP.out.2.1; go_simp) ?_; simp only [Act.put, List.setIfInBounds_toArray, List.set_cons_zero, List.set_cons_succ]
        iterate 1 (refine wpPar_pure rfl (by rfl) _ (fun W hW => by
            have cvx := HC7.out _ (kW2.out.trans hW)
            go_simp
            exact rfl) ?_; simp only [Act.put, List.setIfInBounds_toArray, List.set_cons_zero, List.set_cons_succ])
        refine wpPar_pure rfl (by rfl) (.int .i64 (Q : Int)) (fun W hW => by have q := HP.out.2.2; go_simp) ?_; simp only [Act.put, List.setIfInBounds_toArray, List.set_cons_zero, List.set_cons_succ]
        iterate 2 (refine wpPar_pure rfl (by rfl) _ (fun W hW => by
            have cvx := HC7.out _ (kW2.out.trans hW)
            go_simp
            exact rfl) ?_; simp only [Act.put, List.setIfInBounds_toArray, List.set_cons_zero, List.set_cons_succ])
        refine wpPar_pure rfl (by rfl) (.bool true) (fun W hW => by have q := HNE.out; go_simp) ?_; simp only [Act.put, List.setIfInBounds_toArray, List.set_cons_zero, List.set_cons_succ]
        refine wpPar_nil (fun W3 hW3 hG => ?_)
        have k3 := kW2.out.trans hW3
        clear hG hs hW3
        have ER := hid (readF_sum HL.out.2 HMM.out HN.out (by rw [← HPQ.out.2]; exact HQL.out) (by rw [← HPQ.out.1, ← HX.out, ← HBD.out, HMK.out]; exact HNE.out))
        go_wp2
        (try simp only [Exit.inBlock, Exit.then])
        refine bodyPost_ret (results_tmp5 rfl _ _ _) rfl ?_
        rw [ER.out]
        exact ⟨.slice none 0 0, rfl, k3, Bs.nil _ _ _⟩
end R12
end Go.Proofs.Ytpbkdeljhehkdaa
namespace Go.Proofs.Ytpbkdeljhehkdaa
open Go.RowKit Go.Pm

namespace Bin
/-- A Reader of package bin at block r: its bytes lie in blocks from lo on, below hi. -/
def Rd (w : World) (lo hi r : Nat) (s : St) : Prop := s.Ok ∧ ∃ v, Blk w r #[v, .int .i64 s.e] 118 ∧ Bs w lo hi v s.l
theorem Rd.kept {S : Nat → Prop} {w w' : World} {lo hi r : Nat} {s : St} (h : Rd w lo hi r s) (hk : Kept S w w') (h1 : ∀ k, lo ≤ k → k < hi → ¬ S k) (h2 : ¬ S r) : Rd w' lo hi r s := by
  obtain ⟨ok, v, hb, hv⟩ := h
  exact ⟨ok, v, hb.kept hk h2, hv.kept hk h1⟩
theorem Rd.lt {w : World} {lo hi r : Nat} {s : St} (h : Rd w lo hi r s) : r < w.heap.size := by
  obtain ⟨ok, v, hb, hv⟩ := h
  exact hb.lt

/-- bytes.Clone. -/
theorem clone (v : Value) (lo hi : Nat) (l : List UInt8) (w : World) (hv : Bs w lo hi v l) (hl : l.length ≤ 140737488355328) :
    Calls Try.prog 54 #[v] w fun en w' => ∃ v', en = .returned v' ∧ Kept None w w' ∧ Ob w' w.heap.size v' l := by
  obtain ⟨a, cap, rfl, g1, g2, g3⟩ := hv.shape
  cases a with
  | none =>
    have := g3 rfl
    subst this
    have hn : l = [] := List.eq_nil_of_length_eq_zero (by omega)
    subst hn
    have e1 := @Lib.run_eql_slice_nil Try.prog
    go_enter Try.func54, Try.ntmps54
    go_wp2
    go_ret
    exact ⟨_, rfl, Kept.refl _ _, Bo.nil _ _ _⟩
  | some ad =>
    have e1 := @Lib.run_eql_slice_nil Try.prog
    clear g3
    go_enter Try.func54, Try.ntmps54
    go_wp2_with (at_builtin; refine wpList_append_bo (l := []) (m := l) (base := w.heap.size) (lo := lo) (hi := hi) rfl _ _ 29 rfl rtBytes rfl rfl ?h1 ?h2 ?h3 ?h4 ?h5)
    case h1 => exact Bo.new w 5 [] #[] rfl 0 rfl (by decide)
    case h2 => exact hv.kept ((Kept.refl None _).alloc _) (fun _ _ _ h => h)
    case h3 => simpa using hl
    case h4 => simp
    intro a' n' cap' w' hb hk
    have hk' := Kept.own ((Kept.refl None w).alloc (Obj.cells #[] 5)) hk (fun k hk => by simp [Value.ownBlock] at hk; omega)
    go_wp2
    go_ret
    exact ⟨_, rfl, hk', by simpa using hb⟩

/-- The first error stays. -/
def firstErr (e e' : Int) : Int := if e = 0 then e' else e

set_option maxHeartbeats 400000 in
theorem fail (r : Nat) (v : Value) (e e' : Int) (w : World) (hb : Blk w r #[v, .int .i64 e] 118) :
    Calls Try.prog 85 #[.pointer (some ⟨r, 0, none⟩), .int .i64 e'] w fun en w' => en = .returned (.tuple #[]) ∧ Blk w' r #[.slice none 0 0, .int .i64 (firstErr e e')] 118 ∧ Kept (Just r) w w' := by
  have c0 := hb.cell 0
  have c1 := hb.cell 1
  have f0 := hb.free 0
  have f1 := hb.free 1
  have r1 : Blk ((w.setCell ⟨r, 1, none⟩ (.int .i64 e')).setCell ⟨r, 0, none⟩ (.slice none 0 0)) r #[.slice none 0 0, .int .i64 e'] 118 := (hb.set 1 _).set 0 _
  have r2 : Blk (w.setCell ⟨r, 0, none⟩ (.slice none 0 0)) r #[.slice none 0 0, .int .i64 e] 118 := hb.set 0 _
  have k1 : Kept (Just r) w ((w.setCell ⟨r, 1, none⟩ (.int .i64 e')).setCell ⟨r, 0, none⟩ (.slice none 0 0)) := (Kept.one w r 1 _).one' 0 _
  have k2 : Kept (Just r) w (w.setCell ⟨r, 0, none⟩ (.slice none 0 0)) := Kept.one w r 0 _
  simp at c0 c1
  by_cases he : e = 0
  · subst he
    have e1 : firstErr 0 e' = e' := rfl
    rw [e1]
    go_enter Try.func85, Try.ntmps85
    go_wp2
    go_end0
    exact ⟨rfl, r1, k1⟩
  · have e1 : firstErr e e' = e := if_neg he
    rw [e1]
    have he' : (e == 0) = false := by simpa using he
    clear e1
    go_enter Try.func85, Try.ntmps85
    go_wp2
    go_end0
    exact ⟨rfl, r2, k2⟩

/-- take, where there are so many. -/
theorem take_yes (r : Nat) (lo hi : Nat) (s : St) (n : Int) (w : World) (hr : Rd w lo hi r s) (h0 : 0 ≤ n) (h1 : n ≤ s.l.length) (hlo : hi ≤ r) :
    Calls Try.prog 75 #[.pointer (some ⟨r, 0, none⟩), .int .i64 n] w fun en w' => ∃ v, en = .returned v ∧ Kept (Just r) w w' ∧ Bs w' lo hi v (s.raw n) ∧ Rd w' lo hi r (s.rawS n) := by
  have ok' := St.rawS_ok hr.1 n
  obtain ⟨ok, v, hb, hv⟩ := hr
  have e1 : s.raw n = s.l.take n.toNat := by
    unfold St.raw
    by_cases he : s.e = 0
    · rw [if_pos ⟨he, h1⟩]
    · rw [if_neg (fun h => he h.1), ok he]; simp
  have e2 : s.rawS n = ⟨s.l.drop n.toNat, s.e⟩ := by
    unfold St.rawS
    by_cases he : s.e = 0
    · rw [if_pos he, if_pos h1, he]
    · rw [if_neg he]; obtain ⟨l, e⟩ := s; have := ok he; simp only at this; subst this; simp
  rw [e2] at ok'
  rw [e1, e2]
  clear e1 e2 ok
  obtain ⟨l, e⟩ := s
  simp only at h1 hb hv ok' ⊢
  obtain ⟨a, cap, rfl, g1, g2, g3⟩ := hv.shape
  have c0 := hb.cell 0
  have c1 := hb.cell 1
  have f0 := hb.free 0
  have f1 := hb.free 1
  simp at c0 c1
  obtain ⟨a1, s1, p1⟩ := slice_to tBytes zBytes hv .i64 n h0 h1
  obtain ⟨a2, s2, p2⟩ := slice_from tBytes zBytes hv .i64 n h0 h1
  have hw := hb.set 0 (.slice a2 (l.length - n.toNat) (cap - n.toNat))
  have hk := Kept.one w r 0 (.slice a2 (l.length - n.toNat) (cap - n.toNat))
  have q1 := p1.kept hk (fun k _ h e => by unfold Just at e; omega)
  have q2 := p2.kept hk (fun k _ h e => by unfold Just at e; omega)
  rw [← List.map_take] at q1
  rw [← List.map_drop] at q2
  have fin : ∃ v, Ending.returned (.slice a1 n.toNat cap) = .returned v ∧ Kept (Just r) w (w.setCell ⟨r, 0, none⟩ (.slice a2 (l.length - n.toNat) (cap - n.toNat))) ∧ Bs (w.setCell ⟨r, 0, none⟩ (.slice a2 (l.length - n.toNat) (cap - n.toNat))) lo hi v (l.take n.toNat) ∧ Rd (w.setCell ⟨r, 0, none⟩ (.slice a2 (l.length - n.toNat) (cap - n.toNat))) lo hi r ⟨l.drop n.toNat, e⟩ :=
    ⟨_, rfl, hk, q1, ok', _, hw, q2⟩
  clear p1 p2 hw hk q1 q2 hv hb g3 ok'
  go_enter Try.func75, Try.ntmps75
  go_wp2
  go_ret
  exact fin

theorem take_no (r : Nat) (lo hi : Nat) (s : St) (n : Int) (w : World) (hr : Rd w lo hi r s) (_h0 : 0 ≤ n) (_h2 : n < 9223372036854775808) (h1 : s.l.length < n) :
    Calls Try.prog 75 #[.pointer (some ⟨r, 0, none⟩), .int .i64 n] w fun en w' => ∃ v, en = .returned v ∧ Kept (Just r) w w' ∧ Bs w' lo hi v (s.raw n) ∧ Rd w' lo hi r (s.rawS n) := by
  have ok' := St.rawS_ok hr.1 n
  obtain ⟨ok, v, hb, hv⟩ := hr
  have e1 : s.raw n = [] := by
    unfold St.raw
    rw [if_neg (fun h => by omega)]
  have e2 : s.rawS n = ⟨[], firstErr s.e 21⟩ := by
    unfold St.rawS firstErr
    by_cases he : s.e = 0
    · rw [if_pos he, if_neg (by omega), if_pos he]
    · rw [if_neg he, if_neg he, ← ok he]
  rw [e2] at ok'
  rw [e1, e2]
  clear e1 e2 ok
  obtain ⟨l, e⟩ := s
  simp only at h1 hb hv ok' ⊢
  obtain ⟨a, cap, rfl, g1, g2, g3⟩ := hv.shape
  have c0 := hb.cell 0
  have c1 := hb.cell 1
  simp at c0 c1
  clear hv g3
  have HB := hid hb
  clear hb
  go_enter Try.func75, Try.ntmps75
  go_wp2_with fail
  refine (fail r _ e 21 w HB.out).mono ?_
  rintro e1 w1 ⟨rfl, h1, h2⟩
  go_wp2
  go_ret
  exact ⟨_, rfl, h2, Bs.nil _ _ _, ok', _, h1, Bs.nil _ _ _⟩

/-- (*bin.Reader).take. -/
theorem take (r : Nat) (lo hi : Nat) (s : St) (n : Int) (w : World) (hr : Rd w lo hi r s) (h0 : 0 ≤ n) (h2 : n < 9223372036854775808) (hlo : hi ≤ r) :
    Calls Try.prog 75 #[.pointer (some ⟨r, 0, none⟩), .int .i64 n] w fun en w' => ∃ v, en = .returned v ∧ Kept (Just r) w w' ∧ Bs w' lo hi v (s.raw n) ∧ Rd w' lo hi r (s.rawS n) := by
  by_cases h : n ≤ s.l.length
  · exact take_yes r lo hi s n w hr h0 h hlo
  · exact take_no r lo hi s n w hr h0 h2 (by omega)

set_option maxHeartbeats 1000000 in
/-- (*bin.Reader).Num. -/
theorem rnum (r : Nat) (lo hi : Nat) (s : St) (w : World) (hr : Rd w lo hi r s) (hlo : hi ≤ r) :
    Calls Try.prog 56 #[.pointer (some ⟨r, 0, none⟩)] w fun en w' => en = .returned (.int .u64 s.num) ∧ Kept (Just r) w w' ∧ Rd w' lo hi r s.numS := by
  have eS : s.rawS 8 = s.numS := by
    unfold St.rawS St.numS
    by_cases h : 8 ≤ s.l.length
    · rw [if_pos (show (8 : Int) ≤ s.l.length by omega), if_pos h]; rfl
    · rw [if_neg (show ¬ (8 : Int) ≤ s.l.length by omega), if_neg h]
  rw [← eS]
  by_cases hc : s.e = 0 ∧ 8 ≤ s.l.length
  · have eN : s.num = leV s.l := if_pos hc
    have eR : s.raw 8 = s.l.take 8 := by unfold St.raw; rw [if_pos ⟨hc.1, by omega⟩]; rfl
    rw [eN, ← leV_take, ← eR]
    have hl : (s.raw 8).length = 8 := by rw [eR]; simp; omega
    have hv : leV (s.raw 8) = leV (s.raw 8) := rfl
    conv at hv => rhs; unfold leV
    generalize leV (s.raw 8) = V at hv ⊢
    have HV := hid hv
    clear hv eN eR hc eS
    go_enter Try.func56, Try.ntmps56
    go_wp2_with fail
    refine (take r lo hi s 8 w hr (by omega) (by omega) hlo).mono ?_
    rintro e1 w1 ⟨v, rfl, hk, hb, hr'⟩
    obtain ⟨b, o, cap, rfl, g1, g2, q1, q2, q3, hc⟩ := Bs.lit hb 8 hl (by omega)
    have c0 := hc 0 (by omega)
    have c1 := hc 1 (by omega)
    have c2 := hc 2 (by omega)
    have c3 := hc 3 (by omega)
    have c4 := hc 4 (by omega)
    have c5 := hc 5 (by omega)
    have c6 := hc 6 (by omega)
    have c7 := hc 7 (by omega)
    simp only [Nat.add_zero] at c0
    have B := fun i => bAt_lt (s.raw 8) i
    have A := fun i => bAt_ge (s.raw 8) i
    clear hc hb hl
    have b0 := B 0
    have a0 := A 0
    have b1 := B 1
    have a1 := A 1
    have b2 := B 2
    have a2 := A 2
    have b3 := B 3
    have a3 := A 3
    have b4 := B 4
    have a4 := A 4
    have b5 := B 5
    have a5 := A 5
    have b6 := B 6
    have a6 := A 6
    have b7 := B 7
    have a7 := A 7
    clear A B
    generalize bAt (s.raw 8) 0 = x0 at *
    generalize bAt (s.raw 8) 1 = x1 at *
    generalize bAt (s.raw 8) 2 = x2 at *
    generalize bAt (s.raw 8) 3 = x3 at *
    generalize bAt (s.raw 8) 4 = x4 at *
    generalize bAt (s.raw 8) 5 = x5 at *
    generalize bAt (s.raw 8) 6 = x6 at *
    generalize bAt (s.raw 8) 7 = x7 at *
    go_wp2
    refine wp_loop_rounds 9 ?_
    iterate 9 (rw [rounds_succ]; go_wp2)
    go_ret
    refine ⟨?_, hk, hr'⟩
    rw [HV.out, ← or_up x0 x1 x2 x3 x4 x5 x6 x7 a0 b0 a1 b1 a2 b2 a3 b3 a4 b4 a5 b5 a6 b6 a7 b7]
    rfl
  · have eN : s.num = 0 := if_neg hc
    have eR : s.raw 8 = [] := by unfold St.raw; rw [if_neg (fun h => hc ⟨h.1, by omega⟩)]
    rw [eN]
    clear eN eS
    go_enter Try.func56, Try.ntmps56
    go_wp2_with fail
    refine (take r lo hi s 8 w hr (by omega) (by omega) hlo).mono ?_
    rintro e1 w1 ⟨v, rfl, hk, hb, hr'⟩
    rw [eR] at hb
    obtain ⟨a, cap, rfl, g1, g2, g3⟩ := hb.shape
    simp only [List.length_nil]
    clear eR g3 hb
    go_wp2
    refine wp_loop_rounds 1 ?_
    rw [rounds_succ]
    go_wp2
    go_ret
    exact ⟨rfl, hk, hr'⟩

theorem reach {s : St} {n : Int} {m : Nat} (h : s.l.length ≤ m) : (s.raw n).length ≤ m := Nat.le_trans (St.raw_len s n) h

/-- bin.New. -/
theorem new (v : Value) (lo hi : Nat) (l : List UInt8) (w : World) (hv : Bs w lo hi v l) (hl : l.length ≤ 140737488355328) :
    Calls Try.prog 55 #[v] w fun en w' => ∃ r, en = .returned (.pointer (some ⟨r, 0, none⟩)) ∧ Kept None w w' ∧ w.heap.size ≤ r ∧ Rd w' w.heap.size r r ⟨l, 0⟩ := by
  go_enter Try.func55, Try.ntmps55
  go_wp2_with fail
  refine (clone v lo hi l w hv hl).mono ?_
  rintro e1 w1 ⟨v1, rfl, hk, hb⟩
  have hs := hb.bs (Nat.le_refl _)
  obtain ⟨a, cap, rfl⟩ := hb.form
  have hsz := hk.size
  clear hb
  go_wp2
  go_ret
  refine ⟨_, rfl, hk.alloc _, hsz, fun h => absurd rfl h, _, Blk.new _ _ _, ?_⟩
  exact hs.kept ((Kept.refl None _).alloc _) (fun _ _ _ h => h)

end Bin
end Go.Proofs.Ytpbkdeljhehkdaa
/- Package bin, what reads: each function by its contract. -/
namespace Go.Proofs.Ytpbkdeljhehkdaa
open Go.RowKit Go.Pm

namespace Bin
set_option maxHeartbeats 400000 in
/-- (*bin.Reader).Raw. -/
theorem rraw (r : Nat) (lo hi : Nat) (s : St) (n : Int) (w : World) (hr : Rd w lo hi r s) (h1 : -9223372036854775808 ≤ n) (h2 : n < 9223372036854775808) (hlo : hi ≤ r) (hl : s.l.length ≤ 140737488355328) :
    Calls Try.prog 58 #[.pointer (some ⟨r, 0, none⟩), .int .i64 n] w fun en w' => ∃ v, en = .returned v ∧ Kept (Just r) w w' ∧ Ob w' w.heap.size v (s.raw n) ∧ Rd w' lo hi r (s.rawS n) := by
  have key : ∀ m : Int, m = max n 0 → 0 ≤ m → m < 9223372036854775808 → s.raw m = s.raw n ∧ s.rawS m = s.rawS n := fun m h _ _ => by rw [h]; exact ⟨St.raw_max s n, St.rawS_max s n⟩
  have hm0 : 0 ≤ max n 0 := by omega
  have hm1 : max n 0 < 9223372036854775808 := by omega
  have KEY := hid key
  clear key
  go_enter Try.func58, Try.ntmps58
  go_wp2_with fail
  all_goals
    refine (take r lo hi s _ w hr (by omega) (by omega) hlo).mono ?_
    rintro e1 w1 ⟨v, rfl, hk, hb, hr'⟩
    rw [(KEY.out _ (by omega) (by omega) (by omega)).1] at hb
    rw [(KEY.out _ (by omega) (by omega) (by omega)).2] at hr'
    have hsz := hk.size
    go_wp2_with fail
    refine (clone v lo hi (s.raw n) w1 hb (reach hl)).mono ?_
    rintro e2 w2 ⟨v2, rfl, hk2, hb2⟩
    go_wp2
    go_ret
    have hlt := hr'.lt
    exact ⟨_, rfl, hk.then hk2 (fun _ _ h => h.elim), hb2.base hsz, hr'.kept hk2 (fun _ _ _ h => h) (fun h => h)⟩

/-- (*bin.Reader).Left. -/
theorem rleft (r : Nat) (lo hi : Nat) (s : St) (w : World) (hr : Rd w lo hi r s) (_hl : s.l.length ≤ 140737488355328) :
    Calls Try.prog 59 #[.pointer (some ⟨r, 0, none⟩)] w fun en w' => en = .returned (.int .i64 s.l.length) ∧ w = w' := by
  obtain ⟨ok, v, hb, hv⟩ := hr
  obtain ⟨a, cap, rfl, g1, g2, g3⟩ := hv.shape
  have c0 := hb.cell 0
  simp at c0
  clear hv hb g3
  go_enter Try.func59, Try.ntmps59
  go_wp2
  go_ret
  exact ⟨rfl, rfl⟩

/-- (*bin.Reader).Err. -/
theorem rerr (r : Nat) (lo hi : Nat) (s : St) (w : World) (hr : Rd w lo hi r s) :
    Calls Try.prog 77 #[.pointer (some ⟨r, 0, none⟩)] w fun en w' => en = .returned (.int .i64 s.e) ∧ w = w' := by
  obtain ⟨ok, v, hb, hv⟩ := hr
  have c0 := hb.cell 1
  simp at c0
  clear hv hb
  go_enter Try.func77, Try.ntmps77
  go_wp2
  go_ret
  exact ⟨rfl, rfl⟩

end Bin
end Go.Proofs.Ytpbkdeljhehkdaa

/- Package postmarkref1, its Reader: each function by its contract, over the same plain functions as package bin. -/
namespace Go.Proofs.Ytpbkdeljhehkdaa
open Go.RowKit Go.Pm

namespace Ref
/-- A Reader of package postmarkref1 at block r. -/
def Rd (w : World) (lo hi r : Nat) (s : St) : Prop := s.Ok ∧ ∃ v, Blk w r #[v, .int .i64 s.e] 80 ∧ Bs w lo hi v s.l
theorem Rd.kept {S : Nat → Prop} {w w' : World} {lo hi r : Nat} {s : St} (h : Rd w lo hi r s) (hk : Kept S w w') (h1 : ∀ k, lo ≤ k → k < hi → ¬ S k) (h2 : ¬ S r) : Rd w' lo hi r s := by
  obtain ⟨ok, v, hb, hv⟩ := h
  exact ⟨ok, v, hb.kept hk h2, hv.kept hk h1⟩
theorem Rd.lt {w : World} {lo hi r : Nat} {s : St} (h : Rd w lo hi r s) : r < w.heap.size := by
  obtain ⟨ok, v, hb, hv⟩ := h
  exact hb.lt

set_option maxHeartbeats 400000 in
/-- (*postmarkref1.Reader).fail. -/
theorem fail (r : Nat) (v : Value) (e e' : Int) (w : World) (hb : Blk w r #[v, .int .i64 e] 80) :
    Calls Try.prog 89 #[.pointer (some ⟨r, 0, none⟩), .int .i64 e'] w fun en w' => en = .returned (.tuple #[]) ∧ Blk w' r #[.slice none 0 0, .int .i64 e'] 80 ∧ Kept (Just r) w w' := by
  have c0 := hb.cell 0
  have c1 := hb.cell 1
  have f0 := hb.free 0
  have f1 := hb.free 1
  have r1 : Blk ((w.setCell ⟨r, 0, none⟩ (.slice none 0 0)).setCell ⟨r, 1, none⟩ (.int .i64 e')) r #[.slice none 0 0, .int .i64 e'] 80 := (hb.set 0 _).set 1 _
  have k1 : Kept (Just r) w ((w.setCell ⟨r, 0, none⟩ (.slice none 0 0)).setCell ⟨r, 1, none⟩ (.int .i64 e')) := (Kept.one w r 0 _).one' 1 _
  simp at c0 c1
  go_enter Try.func89, Try.ntmps89
  go_wp2
  go_end0
  exact ⟨rfl, r1, k1⟩

set_option maxHeartbeats 1000000 in
/-- (*postmarkref1.Reader).Raw. -/
theorem rraw (r : Nat) (lo hi : Nat) (s : St) (n : Int) (w : World) (hr : Rd w lo hi r s) (h1 : -9223372036854775808 ≤ n) (h2 : n < 9223372036854775808) (hlo : hi ≤ r) :
    Calls Try.prog 80 #[.pointer (some ⟨r, 0, none⟩), .int .i64 n] w fun en w' => ∃ v, en = .returned v ∧ Kept (Just r) w w' ∧ Bs w' lo hi v (s.raw n) ∧ Rd w' lo hi r (s.rawS n) := by
  have ok' := St.rawS_ok hr.1 n
  obtain ⟨ok, v, hb, hv⟩ := hr
  by_cases he : s.e = 0
  · by_cases hn : n ≤ s.l.length
    · have e1 : s.raw n = s.l.take n.toNat := if_pos ⟨he, hn⟩
      have e2 : s.rawS n = ⟨s.l.drop n.toNat, 0⟩ := by unfold St.rawS; rw [if_pos he, if_pos hn]
      rw [e2] at ok'
      rw [e1, e2]
      clear e1 e2 ok
      obtain ⟨l, e⟩ := s
      simp only at he hn hb hv ok' ⊢
      subst he
      obtain ⟨a, cap, rfl, g1, g2, g3⟩ := hv.shape
      have c0 := hb.cell 0
      have c1 := hb.cell 1
      have f0 := hb.free 0
      have f1 := hb.free 1
      simp at c0 c1
      by_cases h0 : n < 0
      · have ez : n.toNat = 0 := by omega
        rw [ez] at ok' ⊢
        obtain ⟨a1, s1, p1⟩ := slice_to tBytes zBytes hv .i64 0 (by omega) (by omega)
        obtain ⟨a2, s2, p2⟩ := slice_from tBytes zBytes hv .i64 0 (by omega) (by omega)
        simp only [Int.toNat_zero, Nat.sub_zero] at s1 s2 p1 p2
        have hw := hb.set 0 (.slice a2 l.length cap)
        have hk := Kept.one w r 0 (.slice a2 l.length cap)
        have q1 := p1.kept hk (fun k _ h e => by unfold Just at e; omega)
        have q2 := p2.kept hk (fun k _ h e => by unfold Just at e; omega)
        rw [← List.map_take] at q1
        rw [← List.map_drop] at q2
        have fin : ∃ v, Ending.returned (.slice a1 0 cap) = .returned v ∧ Kept (Just r) w (w.setCell ⟨r, 0, none⟩ (.slice a2 l.length cap)) ∧ Bs (w.setCell ⟨r, 0, none⟩ (.slice a2 l.length cap)) lo hi v (l.take 0) ∧ Rd (w.setCell ⟨r, 0, none⟩ (.slice a2 l.length cap)) lo hi r ⟨l.drop 0, 0⟩ :=
          ⟨_, rfl, hk, q1, ok', _, hw, q2⟩
        have hn0 : ¬ (l.length : Int) < 0 := by omega
        clear p1 p2 hw hk q1 q2 hv hb g3 ok' ez hn
        go_enter Try.func80, Try.ntmps80
        go_wp2
        go_ret
        exact fin
      · obtain ⟨a1, s1, p1⟩ := slice_to tBytes zBytes hv .i64 n (by omega) hn
        obtain ⟨a2, s2, p2⟩ := slice_from tBytes zBytes hv .i64 n (by omega) hn
        have hw := hb.set 0 (.slice a2 (l.length - n.toNat) (cap - n.toNat))
        have hk := Kept.one w r 0 (.slice a2 (l.length - n.toNat) (cap - n.toNat))
        have q1 := p1.kept hk (fun k _ h e => by unfold Just at e; omega)
        have q2 := p2.kept hk (fun k _ h e => by unfold Just at e; omega)
        rw [← List.map_take] at q1
        rw [← List.map_drop] at q2
        have fin : ∃ v, Ending.returned (.slice a1 n.toNat cap) = .returned v ∧ Kept (Just r) w (w.setCell ⟨r, 0, none⟩ (.slice a2 (l.length - n.toNat) (cap - n.toNat))) ∧ Bs (w.setCell ⟨r, 0, none⟩ (.slice a2 (l.length - n.toNat) (cap - n.toNat))) lo hi v (l.take n.toNat) ∧ Rd (w.setCell ⟨r, 0, none⟩ (.slice a2 (l.length - n.toNat) (cap - n.toNat))) lo hi r ⟨l.drop n.toNat, 0⟩ :=
          ⟨_, rfl, hk, q1, ok', _, hw, q2⟩
        clear p1 p2 hw hk q1 q2 hv hb g3 ok'
        go_enter Try.func80, Try.ntmps80
        go_wp2
        go_ret
        exact fin
    · have e1 : s.raw n = [] := if_neg (fun h => hn h.2)
      have e2 : s.rawS n = ⟨[], 21⟩ := by unfold St.rawS; rw [if_pos he, if_neg hn]
      rw [e2] at ok'
      rw [e1, e2]
      clear e1 e2 ok
      obtain ⟨l, e⟩ := s
      simp only at he hn hb hv ok' ⊢
      subst he
      obtain ⟨a, cap, rfl, g1, g2, g3⟩ := hv.shape
      have c0 := hb.cell 0
      have c1 := hb.cell 1
      simp at c0 c1
      have h0 : ¬ n < 0 := by omega
      have HB := hid hb
      have OK' := hid ok'
      clear hv g3 hb ok'
      go_enter Try.func80, Try.ntmps80
      go_wp2_with fail
      refine (fail r _ 0 21 w HB.out).mono ?_
      rintro e1 w1 ⟨rfl, h1, h2⟩
      go_wp2
      go_ret
      exact ⟨_, rfl, h2, Bs.nil _ _ _, OK'.out, _, h1, Bs.nil _ _ _⟩
  · have e1 : s.raw n = [] := if_neg (fun h => he h.1)
    have e2 : s.rawS n = s := if_neg he
    rw [e2] at ok'
    rw [e1, e2]
    have hfin : ∃ v, Ending.returned (.slice none 0 0) = .returned v ∧ Kept (Just r) w w ∧ Bs w lo hi v [] ∧ Rd w lo hi r s := ⟨_, rfl, Kept.refl _ _, Bs.nil _ _ _, ok, v, hb, hv⟩
    have c1 := hb.cell 1
    have he' : (s.e != 0) = true := by simpa using he
    simp at c1
    clear e1 e2 ok hb hv ok'
    go_enter Try.func80, Try.ntmps80
    go_wp2
    all_goals
      go_ret
      exact hfin

set_option maxHeartbeats 400000 in
/-- (*postmarkref1.Reader).Num. -/
theorem rnum (r : Nat) (lo hi : Nat) (s : St) (w : World) (hr : Rd w lo hi r s) (hlo : hi ≤ r) :
    Calls Try.prog 63 #[.pointer (some ⟨r, 0, none⟩)] w fun en w' => en = .returned (.int .u64 s.num) ∧ Kept (Just r) w w' ∧ Rd w' lo hi r s.numS := by
  have eS : s.rawS 8 = s.numS := by
    unfold St.rawS St.numS
    by_cases h : 8 ≤ s.l.length
    · rw [if_pos (show (8 : Int) ≤ s.l.length by omega), if_pos h]; rfl
    · rw [if_neg (show ¬ (8 : Int) ≤ s.l.length by omega), if_neg h]
  rw [← eS]
  by_cases hc : s.e = 0 ∧ 8 ≤ s.l.length
  · have eN : s.num = leV s.l := if_pos hc
    have eR : s.raw 8 = s.l.take 8 := by unfold St.raw; rw [if_pos ⟨hc.1, by omega⟩]; rfl
    have eE : (s.rawS 8).e = 0 := by unfold St.rawS; rw [if_pos hc.1]; rw [if_pos (by omega)]
    rw [eN, ← leV_take, ← eR]
    have hl : (s.raw 8).length = 8 := by rw [eR]; simp; omega
    have HL := hid hl
    have EE := hid eE
    clear eN eR hc eS hl eE
    go_enter Try.func63, Try.ntmps63
    go_wp2_with fail
    refine (rraw r lo hi s 8 w hr (by omega) (by omega) hlo).mono ?_
    rintro e1 w1 ⟨v, rfl, hk, hb, hr'⟩
    have hr2 := hr'
    obtain ⟨ok, v', hb', hv'⟩ := hr'
    rw [EE.out] at hb'
    have c1 := hb'.cell 1
    simp at c1
    clear hb' hv' ok
    go_wp2_with fail
    refine (word v lo hi _ w1 hb HL.out).mono ?_
    rintro e1 w2 ⟨rfl, rfl⟩
    go_wp2
    go_ret
    exact ⟨rfl, hk, hr2⟩
  · have eN : s.num = 0 := if_neg hc
    have eE : (s.rawS 8).e ≠ 0 := by
      unfold St.rawS
      by_cases h : s.e = 0
      · rw [if_pos h, if_neg (fun h2 => hc ⟨h, by omega⟩)]; decide
      · rw [if_neg h]; exact h
    rw [eN]
    have eB : ((s.rawS 8).e != 0) = true := by simpa using eE
    clear eN eS eE
    go_enter Try.func63, Try.ntmps63
    go_wp2_with fail
    refine (rraw r lo hi s 8 w hr (by omega) (by omega) hlo).mono ?_
    rintro e1 w1 ⟨v, rfl, hk, hb, hr'⟩
    have hr2 := hr'
    obtain ⟨ok, v', hb', hv'⟩ := hr'
    have c1 := hb'.cell 1
    simp at c1
    clear hb' hv' ok
    go_wp2
    go_ret
    exact ⟨rfl, hk, hr2⟩

end Ref
end Go.Proofs.Ytpbkdeljhehkdaa
namespace Go.Proofs.Ytpbkdeljhehkdaa
open Go.RowKit Go.Pm
namespace Bin
set_option maxHeartbeats 400000 in
/-- (*bin.Reader).Lump. -/
theorem rlump (r : Nat) (lo hi : Nat) (s : St) (m : Int) (w : World) (hr : Rd w lo hi r s) (h1 : -9223372036854775808 ≤ m) (h2 : m < 9223372036854775808) (hlo : hi ≤ r) (hl : s.l.length ≤ 140737488355328) :
    Calls Try.prog 86 #[.pointer (some ⟨r, 0, none⟩), .int .i64 m] w fun en w' => ∃ v, en = .returned v ∧ Kept (Just r) w w' ∧ Ob w' w.heap.size v (s.lump m) ∧ Rd w' lo hi r (s.lumpS m) := by
  have n0 := s.num_ge
  have n1 := s.num_lt
  have nl : s.numS.l.length ≤ 140737488355328 := Nat.le_trans (St.numS_len s) hl
  have no : ¬ s.num ≤ max m 0 → s.numS.e = 0 ∧ s.lump m = [] ∧ s.lumpS m = ⟨[], firstErr s.numS.e 22⟩ := fun h => by
    have h0 : s.numS.e = 0 := by
      have h3 : s.e = 0 ∧ 8 ≤ s.l.length := by
        by_cases h4 : s.e = 0 ∧ 8 ≤ s.l.length
        · exact h4
        · have : s.num = 0 := if_neg h4
          omega
      unfold St.numS
      rw [if_pos h3.1, if_pos h3.2]
    refine ⟨h0, ?_, ?_⟩
    · unfold St.lump; rw [if_neg (fun h5 => h h5.2)]
    · unfold St.lumpS; rw [if_pos h0, if_neg h, h0]; rfl
  have yes : s.num ≤ max m 0 → s.lump m = s.numS.raw s.num ∧ s.lumpS m = s.numS.rawS s.num := fun h => by
    unfold St.lump St.lumpS
    by_cases h0 : s.numS.e = 0
    · rw [if_pos ⟨h0, h⟩, if_pos h0, if_pos h]; exact ⟨rfl, rfl⟩
    · rw [if_neg (fun h5 => h0 h5.1), if_neg h0]
      constructor
      · unfold St.raw; rw [if_neg (fun h5 => h0 h5.1)]
      · unfold St.rawS; rw [if_neg h0]
  have ok' : (s.lumpS m).Ok := St.lumpS_ok hr.1 m
  have NO := hid no
  have YES := hid yes
  have OK' := hid ok'
  clear no yes ok'
  by_cases hc : s.num ≤ max m 0
  · rw [(YES.out hc).1, (YES.out hc).2]
    by_cases hm : m < 0
    · have hc' : s.num ≤ 0 := by omega
      clear hc
      go_enter Try.func86, Try.ntmps86
      go_wp2_with fail
      refine (rnum r lo hi s w hr hlo).mono ?_
      rintro e1 w1 ⟨rfl, hk, hr'⟩
      have hsz := hk.size
      go_wp2_with fail
      refine (rraw r lo hi s.numS _ w1 hr' (by omega) (by omega) hlo nl).mono ?_
      rintro e2 w2 ⟨v, rfl, hk2, hb2, hr2⟩
      go_wp2
      go_ret
      exact ⟨_, rfl, hk.trans hk2, hb2.base hsz, hr2⟩
    · have hc' : s.num ≤ m := by omega
      clear hc
      go_enter Try.func86, Try.ntmps86
      go_wp2_with fail
      refine (rnum r lo hi s w hr hlo).mono ?_
      rintro e1 w1 ⟨rfl, hk, hr'⟩
      have hsz := hk.size
      go_wp2_with fail
      refine (rraw r lo hi s.numS _ w1 hr' (by omega) (by omega) hlo nl).mono ?_
      rintro e2 w2 ⟨v, rfl, hk2, hb2, hr2⟩
      go_wp2
      go_ret
      exact ⟨_, rfl, hk.trans hk2, hb2.base hsz, hr2⟩
  · rw [(NO.out hc).2.1, (NO.out hc).2.2]
    rw [(NO.out hc).2.2] at OK'
    by_cases hm : m < 0
    · have hc' : 0 < s.num := by omega
      clear hc
      go_enter Try.func86, Try.ntmps86
      go_wp2_with fail
      refine (rnum r lo hi s w hr hlo).mono ?_
      rintro e1 w1 ⟨rfl, hk, ok2, v, hb', hv'⟩
      go_wp2_with fail
      refine (fail r v s.numS.e 22 w1 hb').mono ?_
      rintro e2 w2 ⟨rfl, hb2, hk2⟩
      go_wp2
      go_ret
      exact ⟨_, rfl, hk.trans hk2, Bo.nil _ _ _, OK'.out, _, hb2, Bs.nil _ _ _⟩
    · have hc' : m < s.num := by omega
      clear hc
      go_enter Try.func86, Try.ntmps86
      go_wp2_with fail
      refine (rnum r lo hi s w hr hlo).mono ?_
      rintro e1 w1 ⟨rfl, hk, ok2, v, hb', hv'⟩
      go_wp2_with fail
      refine (fail r v s.numS.e 22 w1 hb').mono ?_
      rintro e2 w2 ⟨rfl, hb2, hk2⟩
      go_wp2
      go_ret
      exact ⟨_, rfl, hk.trans hk2, Bo.nil _ _ _, OK'.out, _, hb2, Bs.nil _ _ _⟩

end Bin
namespace Ref
set_option maxHeartbeats 1000000 in
/-- (*postmarkref1.Reader).Lump. -/
theorem rlump (r : Nat) (lo hi : Nat) (s : St) (m : Int) (w : World) (hr : Rd w lo hi r s) (h1 : -9223372036854775808 ≤ m) (h2 : m < 9223372036854775808) (hlo : hi ≤ r) :
    Calls Try.prog 81 #[.pointer (some ⟨r, 0, none⟩), .int .i64 m] w fun en w' => ∃ v, en = .returned v ∧ Kept (Just r) w w' ∧ Bs w' lo hi v (s.lump m) ∧ Rd w' lo hi r (s.lumpS m) := by
  have n0 := s.num_ge
  have n1 := s.num_lt
  have ok' : (s.lumpS m).Ok := St.lumpS_ok hr.1 m
  have OK' := hid ok'
  clear ok'
  by_cases he : s.numS.e = 0
  · have heB : (s.numS.e != 0) = false := by simpa using he
    by_cases hc : s.num ≤ max m 0
    · have e1 : s.lump m = s.numS.raw s.num := if_pos ⟨he, hc⟩
      have e2 : s.lumpS m = s.numS.rawS s.num := by unfold St.lumpS; rw [if_pos he, if_pos hc]
      rw [e1, e2]
      clear e1 e2 he
      by_cases hm : m < 0
      · have hc' : s.num ≤ 0 := by omega
        clear hc
        go_enter Try.func81, Try.ntmps81
        go_wp2_with fail
        refine (rnum r lo hi s w hr hlo).mono ?_
        rintro e1 w1 ⟨rfl, hk, hr'⟩
        have hr2 := hr'
        obtain ⟨ok, v', hb', hv'⟩ := hr'
        have c1 := hb'.cell 1
        simp at c1
        clear hb' hv' ok
        go_wp2_with fail
        refine (rraw r lo hi s.numS _ w1 hr2 (by omega) (by omega) hlo).mono ?_
        rintro e2 w2 ⟨v, rfl, hk2, hb2, hr3⟩
        go_wp2
        go_ret
        exact ⟨_, rfl, hk.trans hk2, hb2, hr3⟩
      · have hc' : s.num ≤ m := by omega
        clear hc
        go_enter Try.func81, Try.ntmps81
        go_wp2_with fail
        refine (rnum r lo hi s w hr hlo).mono ?_
        rintro e1 w1 ⟨rfl, hk, hr'⟩
        have hr2 := hr'
        obtain ⟨ok, v', hb', hv'⟩ := hr'
        have c1 := hb'.cell 1
        simp at c1
        clear hb' hv' ok
        go_wp2_with fail
        refine (rraw r lo hi s.numS _ w1 hr2 (by omega) (by omega) hlo).mono ?_
        rintro e2 w2 ⟨v, rfl, hk2, hb2, hr3⟩
        go_wp2
        go_ret
        exact ⟨_, rfl, hk.trans hk2, hb2, hr3⟩
    · have e1 : s.lump m = [] := if_neg (fun h => hc h.2)
      have e2 : s.lumpS m = ⟨[], 22⟩ := by unfold St.lumpS; rw [if_pos he, if_neg hc]
      rw [e1, e2]
      rw [e2] at OK'
      clear e1 e2
      by_cases hm : m < 0
      · have hc' : 0 < s.num := by omega
        clear hc he
        go_enter Try.func81, Try.ntmps81
        go_wp2_with fail
        refine (rnum r lo hi s w hr hlo).mono ?_
        rintro e1 w1 ⟨rfl, hk, hr'⟩
        obtain ⟨ok, v', hb', hv'⟩ := hr'
        have c1 := hb'.cell 1
        simp at c1
        have HB := hid hb'
        clear hb' hv' ok
        go_wp2_with fail
        refine (fail r v' s.numS.e 22 w1 HB.out).mono ?_
        rintro e2 w2 ⟨rfl, hb2, hk2⟩
        go_wp2
        go_ret
        exact ⟨_, rfl, hk.trans hk2, Bs.nil _ _ _, OK'.out, _, hb2, Bs.nil _ _ _⟩
      · have hc' : m < s.num := by omega
        clear hc he
        go_enter Try.func81, Try.ntmps81
        go_wp2_with fail
        refine (rnum r lo hi s w hr hlo).mono ?_
        rintro e1 w1 ⟨rfl, hk, hr'⟩
        obtain ⟨ok, v', hb', hv'⟩ := hr'
        have c1 := hb'.cell 1
        simp at c1
        have HB := hid hb'
        clear hb' hv' ok
        go_wp2_with fail
        refine (fail r v' s.numS.e 22 w1 HB.out).mono ?_
        rintro e2 w2 ⟨rfl, hb2, hk2⟩
        go_wp2
        go_ret
        exact ⟨_, rfl, hk.trans hk2, Bs.nil _ _ _, OK'.out, _, hb2, Bs.nil _ _ _⟩
  · have heB : (s.numS.e != 0) = true := by simpa using he
    have e1 : s.lump m = [] := if_neg (fun h => he h.1)
    have e2 : s.lumpS m = s.numS := by unfold St.lumpS; rw [if_neg he]
    rw [e1, e2]
    clear e1 e2 he
    go_enter Try.func81, Try.ntmps81
    go_wp2_with fail
    refine (rnum r lo hi s w hr hlo).mono ?_
    rintro e1 w1 ⟨rfl, hk, hr'⟩
    have hr2 := hr'
    obtain ⟨ok, v', hb', hv'⟩ := hr'
    have c1 := hb'.cell 1
    simp at c1
    clear hb' hv' ok
    go_wp2
    go_ret
    exact ⟨_, rfl, hk, Bs.nil _ _ _, hr2⟩
end Ref
end Go.Proofs.Ytpbkdeljhehkdaa
/- update.Read, by contract. -/
namespace Go.Proofs.Ytpbkdeljhehkdaa
open Go.RowKit Go.Pm
namespace Up

theorem wholeI_le {n : Int} (h : n ≤ 9223372036854775807) : wholeI n = n := by unfold wholeI; omega
theorem wholeI_gt {n : Int} (h : 9223372036854775807 < n) : wholeI n = 9223372036854775807 := by unfold wholeI; omega
set_option maxRecDepth 100000 in
/-- update.whole. -/
theorem whole (n : Int) (w : World) (h0 : 0 ≤ n) (h1 : n < 18446744073709551616) : Calls Try.prog 87 #[.int .u64 n] w fun e w' => e = .returned (.int .i64 (wholeI n)) ∧ w = w' := by
  by_cases h : n ≤ 9223372036854775807
  · rw [wholeI_le h]
    go_enter Try.func87, Try.ntmps87
    go_wp2
    go_ret
    exact ⟨rfl, rfl⟩
  · rw [wholeI_gt (by omega)]
    go_enter Try.func87, Try.ntmps87
    go_wp2
    go_ret
    exact ⟨rfl, rfl⟩

set_option maxRecDepth 100000 in
set_option maxHeartbeats 8000000 in
/-- update.fields. -/
theorem fields (rr lo hi : Nat) (l : List UInt8) (w : World) (hr : Bin.Rd w lo hi rr ⟨l, 0⟩) (hlo : hi ≤ rr) (hl : l.length ≤ 512) :
    Calls Try.prog 76 #[.pointer (some ⟨rr, 0, none⟩)] w fun e w' => e = .returned (reqOf wholeI l).V ∧ Kept (Just rr) w w' ∧ Bin.Rd w' lo hi rr (rd6 l) := by
  have j0 := fun w h => Bin.rlump rr lo hi ⟨l, 0⟩ 32 w h (by decide) (by decide) hlo (by simp; omega)
  have q1 := fun w h => Bin.rnum rr lo hi (rd1 l) w h hlo
  have q2 := fun w h => Bin.rnum rr lo hi (rd2 l) w h hlo
  have q3 := fun w h => Bin.rnum rr lo hi (rd3 l) w h hlo
  have q4 := fun w h => Bin.rnum rr lo hi (rd4 l) w h hlo
  have q5 := fun w h => Bin.rnum rr lo hi (rd5 l) w h hlo
  have p1 := fun w => whole (rd1 l).num w (St.num_ge _) (St.num_lt _)
  have p3 := fun w => whole (rd3 l).num w (St.num_ge _) (St.num_lt _)
  rw [← St.nat_eq] at q2 q4 q5
  rw [show St.lump ⟨l, 0⟩ 32 = rdN l from rfl, show St.lumpS ⟨l, 0⟩ 32 = rd1 l from rfl] at j0
  rw [show (rd1 l).numS = rd2 l from rfl] at q1
  rw [show (rd2 l).numS = rd3 l from rfl] at q2
  rw [show (rd3 l).numS = rd4 l from rfl] at q3
  rw [show (rd4 l).numS = rd5 l from rfl] at q4
  rw [show (rd5 l).numS = rd6 l from rfl] at q5
  show Calls Try.prog 76 #[.pointer (some ⟨rr, 0, none⟩)] w fun e w' => e = .returned (updV ⟨(rdN l).toArray⟩ (wholeI (rd1 l).num) (rd2 l).nat (wholeI (rd3 l).num) (rd4 l).nat (rd5 l).nat) ∧ Kept (Just rr) w w' ∧ Bin.Rd w' lo hi rr (rd6 l)
  obtain ⟨N, hN⟩ : ∃ N, N = rdN l := ⟨_, rfl⟩
  obtain ⟨V, hV⟩ : ∃ V, V = wholeI (rd1 l).num := ⟨_, rfl⟩
  obtain ⟨K, hK⟩ : ∃ K, K = (rd2 l).nat := ⟨_, rfl⟩
  obtain ⟨C, hC⟩ : ∃ C, C = wholeI (rd3 l).num := ⟨_, rfl⟩
  obtain ⟨R, hR⟩ : ∃ R, R = (rd4 l).nat := ⟨_, rfl⟩
  obtain ⟨S, hS⟩ : ∃ S, S = (rd5 l).nat := ⟨_, rfl⟩
  rw [← hN, ← hV, ← hK, ← hC, ← hR, ← hS]
  rw [← hN] at j0
  rw [← hV] at p1
  rw [← hC] at p3
  rw [← hK] at q2
  rw [← hR] at q4
  rw [← hS] at q5
  obtain ⟨x1, hx1⟩ : ∃ x, x = (rd1 l).num := ⟨_, rfl⟩
  obtain ⟨x3, hx3⟩ : ∃ x, x = (rd3 l).num := ⟨_, rfl⟩
  rw [← hx1] at q1 p1
  rw [← hx3] at q3 p3
  obtain ⟨S0, hS0⟩ : ∃ S0, S0 = (⟨l, 0⟩ : St) := ⟨_, rfl⟩
  obtain ⟨S1, hS1⟩ : ∃ S1, S1 = rd1 l := ⟨_, rfl⟩
  obtain ⟨S2, hS2⟩ : ∃ S2, S2 = rd2 l := ⟨_, rfl⟩
  obtain ⟨S3, hS3⟩ : ∃ S3, S3 = rd3 l := ⟨_, rfl⟩
  obtain ⟨S4, hS4⟩ : ∃ S4, S4 = rd4 l := ⟨_, rfl⟩
  obtain ⟨S5, hS5⟩ : ∃ S5, S5 = rd5 l := ⟨_, rfl⟩
  obtain ⟨S6, hS6⟩ : ∃ S6, S6 = rd6 l := ⟨_, rfl⟩
  rw [← hS0] at hr j0
  rw [← hS1] at j0 q1
  rw [← hS2] at q1 q2
  rw [← hS3] at q2 q3
  rw [← hS4] at q3 q4
  rw [← hS5] at q4 q5
  rw [← hS6] at q5 ⊢
  have J := hid (And.intro j0 (And.intro q1 (And.intro q2 (And.intro q3 (And.intro q4 (And.intro q5 (And.intro p1 p3)))))))
  clear j0 q1 q2 q3 q4 q5 p1 p3 hN hV hK hC hR hS hx1 hx3 hS0 hS1 hS2 hS3 hS4 hS5 hS6 hl
  have hlt := hr.lt
  have NE : ∀ k, lo ≤ k → k < hi → ¬ Just (w.heap.size + 1) k := fun k _ h e => by unfold Just at e; omega
  have NR : ¬ Just (w.heap.size + 1) rr := fun e => by unfold Just at e; omega
  have NU : ¬ Just rr (w.heap.size + 1) := fun e => by unfold Just at e; omega
  have NV : ¬ Just rr w.heap.size := fun e => by unfold Just at e; omega
  have NW : ¬ Just (w.heap.size + 1) w.heap.size := fun e => by unfold Just at e; omega
  have NN := hid (And.intro NE (And.intro NR (And.intro NU (And.intro NV NW))))
  clear NE NR NU NV NW
  have k0 : Kept (Just rr) w ((w.alloc (.cells #[.string ⟨#[]⟩, .int .i64 0, .int .u64 0, .int .i64 0, .int .u64 0, .int .u64 0] 26)).alloc (.cells #[.string ⟨#[]⟩, .int .i64 0, .int .u64 0, .int .i64 0, .int .u64 0, .int .u64 0] 26)) := ((Kept.refl _ _).alloc _).alloc _
  have r0 := hr.kept (((Kept.refl None w).alloc (.cells #[.string ⟨#[]⟩, .int .i64 0, .int .u64 0, .int .i64 0, .int .u64 0, .int .u64 0] 26)).alloc (.cells #[.string ⟨#[]⟩, .int .i64 0, .int .u64 0, .int .i64 0, .int .u64 0, .int .u64 0] 26)) (fun _ _ _ h => h) (fun h => h)
  have u0 := Blk.new2 w (.cells #[.string ⟨#[]⟩, .int .i64 0, .int .u64 0, .int .i64 0, .int .u64 0, .int .u64 0] 26) #[.string ⟨#[]⟩, .int .i64 0, .int .u64 0, .int .i64 0, .int .u64 0, .int .u64 0] 26
  have v0 : Blk ((w.alloc (.cells #[.string ⟨#[]⟩, .int .i64 0, .int .u64 0, .int .i64 0, .int .u64 0, .int .u64 0] 26)).alloc (.cells #[.string ⟨#[]⟩, .int .i64 0, .int .u64 0, .int .i64 0, .int .u64 0, .int .u64 0] 26)) w.heap.size #[.string ⟨#[]⟩, .int .i64 0, .int .u64 0, .int .i64 0, .int .u64 0, .int .u64 0] 26 := (Blk.new w _ _).alloc _
  go_enter Try.func76, Try.ntmps76
  go_wp2_with fail
  refine (J.out.1 _ r0).mono ?_
  rintro e w1 ⟨uN, rfl, k1, b1, r1⟩
  have bN := b1.bs (Nat.le_refl _)
  obtain ⟨aN, cN, rfl⟩ := b1.form
  have kk1 := k0.trans k1
  have u1 := u0.kept k1 NN.out.2.2.1
  have v1 := v0.kept k1 NN.out.2.2.2.1
  have c0 : w1.cell? ⟨w.heap.size + 1, 0, none⟩ = some (.string ⟨#[]⟩) := u1.cell 0
  have f0 := u1.free 0
  have r1' := r1.kept (Kept.one w1 (w.heap.size + 1) 0 (.string ⟨N.toArray⟩)) NN.out.1 NN.out.2.1
  have u1' : Blk (w1.setCell ⟨w.heap.size + 1, 0, none⟩ (.string ⟨N.toArray⟩)) (w.heap.size + 1) #[.string ⟨N.toArray⟩, .int .i64 0, .int .u64 0, .int .i64 0, .int .u64 0, .int .u64 0] 26 := u1.set 0 _
  have v1' := v1.setOther (a := ⟨w.heap.size + 1, 0, none⟩) (by show w.heap.size ≠ w.heap.size + 1; omega) (.string ⟨N.toArray⟩)
  have kk1' := kk1.setNew (b := w.heap.size + 1) (by omega) 0 (.string ⟨N.toArray⟩)
  clear r0 u0 v0 k0 r1 b1 u1 v1 kk1 k1 hr
  go_wp2_with (first | (refine wpList_text rfl 29 9 5 _ rfl tBytes' tByte tString rfl bN ?_) | fail)
  refine (J.out.2.1 _ r1').mono ?_
  rintro e w2 ⟨rfl, k2, r2⟩
  have kk2 := kk1'.trans k2
  have u2 := u1'.kept k2 NN.out.2.2.1
  have v2 := v1'.kept k2 NN.out.2.2.2.1
  clear r1' u1' v1' kk1' k2 c0 f0
  go_wp2_with fail
  refine (J.out.2.2.2.2.2.2.1 _).mono ?_
  rintro e w2' ⟨rfl, rfl⟩
  have c1 : w2.cell? ⟨w.heap.size + 1, 1, none⟩ = some (.int .i64 0) := u2.cell 1
  have f1 := u2.free 1
  have r2' := r2.kept (Kept.one w2 (w.heap.size + 1) 1 (.int .i64 V)) NN.out.1 NN.out.2.1
  have u2' : Blk (w2.setCell ⟨w.heap.size + 1, 1, none⟩ (.int .i64 V)) (w.heap.size + 1) #[.string ⟨N.toArray⟩, .int .i64 V, .int .u64 0, .int .i64 0, .int .u64 0, .int .u64 0] 26 := u2.set 1 _
  have v2' := v2.setOther (a := ⟨w.heap.size + 1, 1, none⟩) (by show w.heap.size ≠ w.heap.size + 1; omega) (.int .i64 V)
  have kk2' := kk2.setNew (b := w.heap.size + 1) (by omega) 1 (.int .i64 V)
  clear r2 u2 v2 kk2
  go_wp2_with fail
  refine (J.out.2.2.1 _ r2').mono ?_
  rintro e w3 ⟨rfl, k3, r3⟩
  have kk3 := kk2'.trans k3
  have u3 := u2'.kept k3 NN.out.2.2.1
  have v3 := v2'.kept k3 NN.out.2.2.2.1
  have c2 : w3.cell? ⟨w.heap.size + 1, 2, none⟩ = some (.int .u64 0) := u3.cell 2
  have f2 := u3.free 2
  have r3' := r3.kept (Kept.one w3 (w.heap.size + 1) 2 (.int .u64 (K : Int))) NN.out.1 NN.out.2.1
  have u3' : Blk (w3.setCell ⟨w.heap.size + 1, 2, none⟩ (.int .u64 (K : Int))) (w.heap.size + 1) #[.string ⟨N.toArray⟩, .int .i64 V, .int .u64 (K : Int), .int .i64 0, .int .u64 0, .int .u64 0] 26 := u3.set 2 _
  have v3' := v3.setOther (a := ⟨w.heap.size + 1, 2, none⟩) (by show w.heap.size ≠ w.heap.size + 1; omega) (.int .u64 (K : Int))
  have kk3' := kk3.setNew (b := w.heap.size + 1) (by omega) 2 (.int .u64 (K : Int))
  clear r3 u3 v3 kk3 r2' u2' v2' kk2' k3 c1 f1
  go_wp2_with fail
  refine (J.out.2.2.2.1 _ r3').mono ?_
  rintro e w4 ⟨rfl, k4, r4⟩
  have kk4 := kk3'.trans k4
  have u4 := u3'.kept k4 NN.out.2.2.1
  have v4 := v3'.kept k4 NN.out.2.2.2.1
  clear r3' u3' v3' kk3' k4 c2 f2
  go_wp2_with fail
  refine (J.out.2.2.2.2.2.2.2 _).mono ?_
  rintro e w4' ⟨rfl, rfl⟩
  have c3 : w4.cell? ⟨w.heap.size + 1, 3, none⟩ = some (.int .i64 0) := u4.cell 3
  have f3 := u4.free 3
  have r4' := r4.kept (Kept.one w4 (w.heap.size + 1) 3 (.int .i64 C)) NN.out.1 NN.out.2.1
  have u4' : Blk (w4.setCell ⟨w.heap.size + 1, 3, none⟩ (.int .i64 C)) (w.heap.size + 1) #[.string ⟨N.toArray⟩, .int .i64 V, .int .u64 (K : Int), .int .i64 C, .int .u64 0, .int .u64 0] 26 := u4.set 3 _
  have v4' := v4.setOther (a := ⟨w.heap.size + 1, 3, none⟩) (by show w.heap.size ≠ w.heap.size + 1; omega) (.int .i64 C)
  have kk4' := kk4.setNew (b := w.heap.size + 1) (by omega) 3 (.int .i64 C)
  clear r4 u4 v4 kk4
  go_wp2_with fail
  refine (J.out.2.2.2.2.1 _ r4').mono ?_
  rintro e w5 ⟨rfl, k5, r5⟩
  have kk5 := kk4'.trans k5
  have u5 := u4'.kept k5 NN.out.2.2.1
  have v5 := v4'.kept k5 NN.out.2.2.2.1
  have c4 : w5.cell? ⟨w.heap.size + 1, 4, none⟩ = some (.int .u64 0) := u5.cell 4
  have f4 := u5.free 4
  have r5' := r5.kept (Kept.one w5 (w.heap.size + 1) 4 (.int .u64 (R : Int))) NN.out.1 NN.out.2.1
  have u5' : Blk (w5.setCell ⟨w.heap.size + 1, 4, none⟩ (.int .u64 (R : Int))) (w.heap.size + 1) #[.string ⟨N.toArray⟩, .int .i64 V, .int .u64 (K : Int), .int .i64 C, .int .u64 (R : Int), .int .u64 0] 26 := u5.set 4 _
  have v5' := v5.setOther (a := ⟨w.heap.size + 1, 4, none⟩) (by show w.heap.size ≠ w.heap.size + 1; omega) (.int .u64 (R : Int))
  have kk5' := kk5.setNew (b := w.heap.size + 1) (by omega) 4 (.int .u64 (R : Int))
  clear r5 u5 v5 kk5 r4' u4' v4' kk4' k5 c3 f3
  go_wp2_with fail
  refine (J.out.2.2.2.2.2.1 _ r5').mono ?_
  rintro e w6 ⟨rfl, k6, r6⟩
  have kk6 := kk5'.trans k6
  have u6 := u5'.kept k6 NN.out.2.2.1
  have v6 := v5'.kept k6 NN.out.2.2.2.1
  have c5 : w6.cell? ⟨w.heap.size + 1, 5, none⟩ = some (.int .u64 0) := u6.cell 5
  have f5 := u6.free 5
  have r6' := r6.kept (Kept.one w6 (w.heap.size + 1) 5 (.int .u64 (S : Int))) NN.out.1 NN.out.2.1
  have u6' : Blk (w6.setCell ⟨w.heap.size + 1, 5, none⟩ (.int .u64 (S : Int))) (w.heap.size + 1) #[.string ⟨N.toArray⟩, .int .i64 V, .int .u64 (K : Int), .int .i64 C, .int .u64 (R : Int), .int .u64 (S : Int)] 26 := u6.set 5 _
  have v6' := v6.setOther (a := ⟨w.heap.size + 1, 5, none⟩) (by show w.heap.size ≠ w.heap.size + 1; omega) (.int .u64 (S : Int))
  have kk6' := kk6.setNew (b := w.heap.size + 1) (by omega) 5 (.int .u64 (S : Int))
  clear r6 u6 v6 kk6 r5' u5' v5' kk5' k6 c4 f4
  go_wp2_with (first | (refine wpList_load_blk rfl _ _ rfl rfl u6' aUpd ?_) | (refine wpList_store_blk rfl _ _ _ rfl rfl rfl v6' aUpd rfl (upd_all _ _ _ _ _ _) ?_; intro w7 hR7 k7) | fail)
  exact bodyPost_ret (v := updV ⟨N.toArray⟩ V K C R S) (results_blk rfl _ rfl hR7 aUpd) rfl ⟨rfl, kk6'.then k7 (fun i hi (h : i = w.heap.size) => by omega), r6'.kept k7 (fun k _ h (e : k = w.heap.size) => by omega) (fun (e : rr = w.heap.size) => by omega)⟩
end Up
end Go.Proofs.Ytpbkdeljhehkdaa

/- update.Read, by contract: the whole. -/
namespace Go.Proofs.Ytpbkdeljhehkdaa
open Go.RowKit Go.Pm

theorem results_blk2 {P : Program} {fn : Func} {p q : Tmp} {ty : TypeId} (h : fn.results = #[.cell p ty, .tmp q]) (tmps : Array Value) {w : World} {g : Nat} {t : TypeId} {cs : Array Value} (hp : tmps.getD p undef = .pointer (some ⟨g, 0, none⟩)) {x : Value} (hq : tmps.getD q undef = x) (hb : Blk w g cs t)
    (hT : AggTy P ty cs.size) : (results fn tmps).run P w = .ok (.tuple #[.agg cs, x]) w := by
  obtain ⟨d, hu, hd⟩ := hT.ag
  have hp' : tmps[p]?.getD undef = .pointer (some ⟨g, 0, none⟩) := by simpa using hp
  have hq' : tmps[q]?.getD undef = x := by simpa using hq
  have hl := run_loadVar_row w g t ty cs (0, 0) d hb hu (by cases d <;> first | rfl | exact hd) hT.size
  simp [results, h, hp', hq', asAddr, hl]

namespace Up
theorem zero_all : (#[.string ⟨#[]⟩, .int .i64 0, .int .u64 0, .int .i64 0, .int .u64 0, .int .u64 0] : Array Value).all (·.oneCell') = true := by simp [Value.oneCell']
theorem readE_long {l : List UInt8} (h : 512 < l.length) : readE l = 22 := by unfold readE; rw [if_pos h]
theorem readE_err {l : List UInt8} (h : ¬ 512 < l.length) (h2 : (rd6 l).e ≠ 0) : readE l = (rd6 l).e := by unfold readE; rw [if_neg h, if_pos h2]
theorem readE_more {l : List UInt8} (h : ¬ 512 < l.length) (h2 : ¬ (rd6 l).e ≠ 0) (h3 : 0 < (rd6 l).l.length) : readE l = 20 := by unfold readE; rw [if_neg h, if_neg h2, if_pos h3]
theorem readE_form {l : List UInt8} (h : ¬ 512 < l.length) (h2 : ¬ (rd6 l).e ≠ 0) (h3 : ¬ 0 < (rd6 l).l.length) (h4 : (reqOf wholeI l).right = false) : readE l = 23 := by unfold readE; rw [if_neg h, if_neg h2, if_neg h3, h4]; rfl
theorem readE_ok {l : List UInt8} (h : ¬ 512 < l.length) (h2 : ¬ (rd6 l).e ≠ 0) (h3 : ¬ 0 < (rd6 l).l.length) (h4 : (reqOf wholeI l).right = true) : readE l = 0 := by unfold readE; rw [if_neg h, if_neg h2, if_neg h3, h4]; rfl
theorem readQ_none {l : List UInt8} {e : Int} (h : readE l = e) (h0 : e ≠ 0) : readQ l = Req.none := by unfold readQ; rw [h, if_neg h0]
theorem rd_len (l : List UInt8) (m : Nat) (h : l.length ≤ m) : (rd6 l).l.length ≤ m := by
  have h1 : (rd1 l).l.length ≤ l.length := St.lumpS_len ⟨l, 0⟩ 32
  have h2 := St.numS_len (rd1 l)
  have h3 := St.numS_len (rd2 l)
  have h4 := St.numS_len (rd3 l)
  have h5 := St.numS_len (rd4 l)
  have h6 := St.numS_len (rd5 l)
  unfold rd6 rd5 rd4 rd3 rd2 at *
  omega

set_option maxRecDepth 100000 in
set_option maxHeartbeats 8000000 in
theorem read_long (v : Value) (lo hi : Nat) (l : List UInt8) (w : World) (hv : Bs w lo hi v l) (h : 512 < l.length) : Calls Try.prog 57 #[v] w fun e w' => e = .returned (.tuple #[(readQ l).V, .int .i64 (readE l)]) ∧ Kept None w w' := by
  rw [readQ_none (readE_long h) (by decide), readE_long h]
  obtain ⟨a, cap, rfl, g1, g2, g3⟩ := hv.shape
  clear g3 hv
  have k0 : Kept None w (w.alloc (.cells #[.string ⟨#[]⟩, .int .i64 0, .int .u64 0, .int .i64 0, .int .u64 0, .int .u64 0] 26)) := (Kept.refl _ _).alloc _
  have u0 := Blk.new w #[.string ⟨#[]⟩, .int .i64 0, .int .u64 0, .int .i64 0, .int .u64 0, .int .u64 0] 26
  go_enter Try.func57, Try.ntmps57
  go_wp2_with (first | (refine wpList_store_blk rfl _ _ _ rfl rfl rfl u0 aUpd rfl zero_all ?_; intro w7 hR7 k7) | fail)
  exact bodyPost_ret (v := .tuple #[Req.none.V, .int .i64 22]) (results_blk2 rfl _ rfl rfl hR7 aUpd) rfl ⟨rfl, k0.then k7 (fun i hi (h : i = w.heap.size) => by omega)⟩

set_option maxRecDepth 100000 in
set_option maxHeartbeats 8000000 in
theorem read_err (v : Value) (lo hi : Nat) (l : List UInt8) (w : World) (hv : Bs w lo hi v l) (h : ¬ 512 < l.length) (h2 : (rd6 l).e ≠ 0) : Calls Try.prog 57 #[v] w fun e w' => e = .returned (.tuple #[(readQ l).V, .int .i64 (readE l)]) ∧ Kept None w w' := by
  rw [readQ_none (readE_err h h2) h2, readE_err h h2]
  have j0 : ∀ rr lo hi w, Bin.Rd w lo hi rr ⟨l, 0⟩ → hi ≤ rr → Calls Try.prog 76 #[.pointer (some ⟨rr, 0, none⟩)] w fun e w' => e = .returned (updV ⟨(rdN l).toArray⟩ (wholeI (rd1 l).num) (rd2 l).nat (wholeI (rd3 l).num) (rd4 l).nat (rd5 l).nat) ∧ Kept (Just rr) w w' ∧ Bin.Rd w' lo hi rr (rd6 l) := fun rr lo hi w hr hlo => fields rr lo hi l w hr hlo (by omega)
  have j1 := fun rr lo hi w h => Bin.rerr rr lo hi (rd6 l) w h
  have j2 := fun rr lo hi w h => Bin.rleft rr lo hi (rd6 l) w h (rd_len l _ (by omega))
  have j3 := fun w => right ⟨(rdN l).toArray⟩ (wholeI (rd1 l).num) (wholeI (rd3 l).num) (rd2 l).nat (rd4 l).nat (rd5 l).nat w
  obtain ⟨N, hN⟩ : ∃ N, N = rdN l := ⟨_, rfl⟩
  obtain ⟨V, hV⟩ : ∃ V, V = wholeI (rd1 l).num := ⟨_, rfl⟩
  obtain ⟨K, hK⟩ : ∃ K, K = (rd2 l).nat := ⟨_, rfl⟩
  obtain ⟨C, hC⟩ : ∃ C, C = wholeI (rd3 l).num := ⟨_, rfl⟩
  obtain ⟨R, hR⟩ : ∃ R, R = (rd4 l).nat := ⟨_, rfl⟩
  obtain ⟨S, hS⟩ : ∃ S, S = (rd5 l).nat := ⟨_, rfl⟩
  rw [← hN, ← hV, ← hK, ← hC, ← hR, ← hS] at j0 j3
  obtain ⟨S6, hS6⟩ : ∃ S6, S6 = rd6 l := ⟨_, rfl⟩
  rw [← hS6] at j0 j1 j2 h2 ⊢
  obtain ⟨E6, hE6⟩ : ∃ E6, E6 = S6.e := ⟨_, rfl⟩
  rw [← hE6] at j1 h2 ⊢
  have h2b : (E6 != 0) = true := by simpa using h2
  have H := hid (And.intro j0 (And.intro j1 (And.intro j2 j3)))
  clear j0 j1 j2 j3 hS6 hE6 h2
  clear hN hV hK hC hR hS
  obtain ⟨a, cap, rfl, g1, g2, g3⟩ := hv.shape
  clear g3
  have k0 : Kept None w (w.alloc (.cells #[.string ⟨#[]⟩, .int .i64 0, .int .u64 0, .int .i64 0, .int .u64 0, .int .u64 0] 26)) := (Kept.refl _ _).alloc _
  have v0 := Blk.new w #[.string ⟨#[]⟩, .int .i64 0, .int .u64 0, .int .i64 0, .int .u64 0, .int .u64 0] 26
  have hv0 := hv.kept ((Kept.refl None w).alloc (.cells #[.string ⟨#[]⟩, .int .i64 0, .int .u64 0, .int .i64 0, .int .u64 0, .int .u64 0] 26)) (fun _ _ _ h => h)
  clear hv
  go_enter Try.func57, Try.ntmps57
  go_wp2_with fail
  refine (Bin.new _ lo hi l _ hv0 (by omega)).mono ?_
  rintro e w1 ⟨rr, rfl, k1, hsz, r1⟩
  have hsz' : w.heap.size < rr := by simp at hsz; omega
  have k01 := k0.trans k1
  have v1 := v0.kept k1 (fun h => h)
  clear hv0 k0 k1 v0 hsz
  go_wp2_with fail
  refine (H.out.1 _ _ _ _ r1 (Nat.le_refl _)).mono ?_
  rintro e w2 ⟨rfl, k2, r2⟩
  have k02 := k01.then k2 (fun i hi (h : i = rr) => by omega)
  have v2 := v1.kept k2 (fun (h : w.heap.size = rr) => by omega)
  clear k01 k2 v1 r1
  have r3 := r2.kept ((Kept.refl None w2).alloc (.cells #[.string ⟨N.toArray⟩, .int .i64 V, .int .u64 (K : Int), .int .i64 C, .int .u64 (R : Int), .int .u64 (S : Int)] 26)) (fun _ _ _ h => h) (fun h => h)
  have v3 := v2.alloc (.cells #[.string ⟨N.toArray⟩, .int .i64 V, .int .u64 (K : Int), .int .i64 C, .int .u64 (R : Int), .int .u64 (S : Int)] 26)
  have u3 := Blk.new w2 #[.string ⟨N.toArray⟩, .int .i64 V, .int .u64 (K : Int), .int .i64 C, .int .u64 (R : Int), .int .u64 (S : Int)] 26
  have k03 := k02.alloc (.cells #[.string ⟨N.toArray⟩, .int .i64 V, .int .u64 (K : Int), .int .i64 C, .int .u64 (R : Int), .int .u64 (S : Int)] 26)
  clear k02 v2 r2
  go_wp2_with (first | (refine wpList_load_blk rfl _ _ rfl rfl u3 aUpd ?_) | fail)
  refine (H.out.2.1 _ _ _ _ r3).mono ?_
  rintro e w4 ⟨rfl, rfl⟩
  go_wp2_with fail
  refine (H.out.2.1 _ _ _ _ r3).mono ?_
  rintro e w4 ⟨rfl, rfl⟩
  clear r3 H
  go_wp2_with (first | (refine wpList_load_blk rfl _ _ rfl rfl u3 aUpd ?_) | (refine wpList_store_blk rfl _ _ _ rfl rfl rfl v3 aUpd rfl zero_all ?_; intro w7 hR7 k7) | fail)
  exact bodyPost_ret (v := .tuple #[Req.none.V, .int .i64 E6]) (results_blk2 rfl _ rfl rfl hR7 aUpd) rfl ⟨rfl, k03.then k7 (fun i hi (h : i = w.heap.size) => by omega)⟩

set_option maxRecDepth 100000 in
set_option maxHeartbeats 8000000 in
theorem read_more (v : Value) (lo hi : Nat) (l : List UInt8) (w : World) (hv : Bs w lo hi v l) (h : ¬ 512 < l.length) (h2 : ¬ (rd6 l).e ≠ 0) (h3 : 0 < (rd6 l).l.length) : Calls Try.prog 57 #[v] w fun e w' => e = .returned (.tuple #[(readQ l).V, .int .i64 (readE l)]) ∧ Kept None w w' := by
  rw [readQ_none (readE_more h h2 h3) (by decide), readE_more h h2 h3]
  have j0 : ∀ rr lo hi w, Bin.Rd w lo hi rr ⟨l, 0⟩ → hi ≤ rr → Calls Try.prog 76 #[.pointer (some ⟨rr, 0, none⟩)] w fun e w' => e = .returned (updV ⟨(rdN l).toArray⟩ (wholeI (rd1 l).num) (rd2 l).nat (wholeI (rd3 l).num) (rd4 l).nat (rd5 l).nat) ∧ Kept (Just rr) w w' ∧ Bin.Rd w' lo hi rr (rd6 l) := fun rr lo hi w hr hlo => fields rr lo hi l w hr hlo (by omega)
  have j1 := fun rr lo hi w h => Bin.rerr rr lo hi (rd6 l) w h
  have j2 := fun rr lo hi w h => Bin.rleft rr lo hi (rd6 l) w h (rd_len l _ (by omega))
  have j3 := fun w => right ⟨(rdN l).toArray⟩ (wholeI (rd1 l).num) (wholeI (rd3 l).num) (rd2 l).nat (rd4 l).nat (rd5 l).nat w
  obtain ⟨N, hN⟩ : ∃ N, N = rdN l := ⟨_, rfl⟩
  obtain ⟨V, hV⟩ : ∃ V, V = wholeI (rd1 l).num := ⟨_, rfl⟩
  obtain ⟨K, hK⟩ : ∃ K, K = (rd2 l).nat := ⟨_, rfl⟩
  obtain ⟨C, hC⟩ : ∃ C, C = wholeI (rd3 l).num := ⟨_, rfl⟩
  obtain ⟨R, hR⟩ : ∃ R, R = (rd4 l).nat := ⟨_, rfl⟩
  obtain ⟨S, hS⟩ : ∃ S, S = (rd5 l).nat := ⟨_, rfl⟩
  rw [← hN, ← hV, ← hK, ← hC, ← hR, ← hS] at j0 j3
  obtain ⟨S6, hS6⟩ : ∃ S6, S6 = rd6 l := ⟨_, rfl⟩
  have e6 : S6.e = 0 := by rw [hS6]; omega
  rw [← hS6] at j0 j1 j2 h3
  rw [e6] at j1
  have H := hid (And.intro j0 (And.intro j1 (And.intro j2 j3)))
  clear j0 j1 j2 j3 hS6 e6 h2
  clear hN hV hK hC hR hS
  obtain ⟨a, cap, rfl, g1, g2, g3⟩ := hv.shape
  clear g3
  have k0 : Kept None w (w.alloc (.cells #[.string ⟨#[]⟩, .int .i64 0, .int .u64 0, .int .i64 0, .int .u64 0, .int .u64 0] 26)) := (Kept.refl _ _).alloc _
  have v0 := Blk.new w #[.string ⟨#[]⟩, .int .i64 0, .int .u64 0, .int .i64 0, .int .u64 0, .int .u64 0] 26
  have hv0 := hv.kept ((Kept.refl None w).alloc (.cells #[.string ⟨#[]⟩, .int .i64 0, .int .u64 0, .int .i64 0, .int .u64 0, .int .u64 0] 26)) (fun _ _ _ h => h)
  clear hv
  go_enter Try.func57, Try.ntmps57
  go_wp2_with fail
  refine (Bin.new _ lo hi l _ hv0 (by omega)).mono ?_
  rintro e w1 ⟨rr, rfl, k1, hsz, r1⟩
  have hsz' : w.heap.size < rr := by simp at hsz; omega
  have k01 := k0.trans k1
  have v1 := v0.kept k1 (fun h => h)
  clear hv0 k0 k1 v0 hsz
  go_wp2_with fail
  refine (H.out.1 _ _ _ _ r1 (Nat.le_refl _)).mono ?_
  rintro e w2 ⟨rfl, k2, r2⟩
  have k02 := k01.then k2 (fun i hi (h : i = rr) => by omega)
  have v2 := v1.kept k2 (fun (h : w.heap.size = rr) => by omega)
  clear k01 k2 v1 r1
  have r3 := r2.kept ((Kept.refl None w2).alloc (.cells #[.string ⟨N.toArray⟩, .int .i64 V, .int .u64 (K : Int), .int .i64 C, .int .u64 (R : Int), .int .u64 (S : Int)] 26)) (fun _ _ _ h => h) (fun h => h)
  have v3 := v2.alloc (.cells #[.string ⟨N.toArray⟩, .int .i64 V, .int .u64 (K : Int), .int .i64 C, .int .u64 (R : Int), .int .u64 (S : Int)] 26)
  have u3 := Blk.new w2 #[.string ⟨N.toArray⟩, .int .i64 V, .int .u64 (K : Int), .int .i64 C, .int .u64 (R : Int), .int .u64 (S : Int)] 26
  have k03 := k02.alloc (.cells #[.string ⟨N.toArray⟩, .int .i64 V, .int .u64 (K : Int), .int .i64 C, .int .u64 (R : Int), .int .u64 (S : Int)] 26)
  clear k02 v2 r2
  go_wp2_with (first | (refine wpList_load_blk rfl _ _ rfl rfl u3 aUpd ?_) | fail)
  refine (H.out.2.1 _ _ _ _ r3).mono ?_
  rintro e w4 ⟨rfl, rfl⟩
  go_wp2_with fail
  refine (H.out.2.2.1 _ _ _ _ r3).mono ?_
  rintro e w4 ⟨rfl, rfl⟩
  clear r3 H
  go_wp2_with (first | (refine wpList_load_blk rfl _ _ rfl rfl u3 aUpd ?_) | (refine wpList_store_blk rfl _ _ _ rfl rfl rfl v3 aUpd rfl zero_all ?_; intro w7 hR7 k7) | fail)
  exact bodyPost_ret (v := .tuple #[Req.none.V, .int .i64 20]) (results_blk2 rfl _ rfl rfl hR7 aUpd) rfl ⟨rfl, k03.then k7 (fun i hi (h : i = w.heap.size) => by omega)⟩

set_option maxRecDepth 100000 in
set_option maxHeartbeats 8000000 in
theorem read_form (v : Value) (lo hi : Nat) (l : List UInt8) (w : World) (hv : Bs w lo hi v l) (h : ¬ 512 < l.length) (h2 : ¬ (rd6 l).e ≠ 0) (h3 : ¬ 0 < (rd6 l).l.length) (h4 : (reqOf wholeI l).right = false) : Calls Try.prog 57 #[v] w fun e w' => e = .returned (.tuple #[(readQ l).V, .int .i64 (readE l)]) ∧ Kept None w w' := by
  rw [readQ_none (readE_form h h2 h3 h4) (by decide), readE_form h h2 h3 h4]
  have j0 : ∀ rr lo hi w, Bin.Rd w lo hi rr ⟨l, 0⟩ → hi ≤ rr → Calls Try.prog 76 #[.pointer (some ⟨rr, 0, none⟩)] w fun e w' => e = .returned (updV ⟨(rdN l).toArray⟩ (wholeI (rd1 l).num) (rd2 l).nat (wholeI (rd3 l).num) (rd4 l).nat (rd5 l).nat) ∧ Kept (Just rr) w w' ∧ Bin.Rd w' lo hi rr (rd6 l) := fun rr lo hi w hr hlo => fields rr lo hi l w hr hlo (by omega)
  have j1 := fun rr lo hi w h => Bin.rerr rr lo hi (rd6 l) w h
  have j2 := fun rr lo hi w h => Bin.rleft rr lo hi (rd6 l) w h (rd_len l _ (by omega))
  have j3 := fun w => right ⟨(rdN l).toArray⟩ (wholeI (rd1 l).num) (wholeI (rd3 l).num) (rd2 l).nat (rd4 l).nat (rd5 l).nat w
  obtain ⟨N, hN⟩ : ∃ N, N = rdN l := ⟨_, rfl⟩
  obtain ⟨V, hV⟩ : ∃ V, V = wholeI (rd1 l).num := ⟨_, rfl⟩
  obtain ⟨K, hK⟩ : ∃ K, K = (rd2 l).nat := ⟨_, rfl⟩
  obtain ⟨C, hC⟩ : ∃ C, C = wholeI (rd3 l).num := ⟨_, rfl⟩
  obtain ⟨R, hR⟩ : ∃ R, R = (rd4 l).nat := ⟨_, rfl⟩
  obtain ⟨S, hS⟩ : ∃ S, S = (rd5 l).nat := ⟨_, rfl⟩
  rw [← hN, ← hV, ← hK, ← hC, ← hR, ← hS] at j0 j3
  obtain ⟨S6, hS6⟩ : ∃ S6, S6 = rd6 l := ⟨_, rfl⟩
  have e6 : S6.e = 0 := by rw [hS6]; omega
  have l6 : S6.l.length = 0 := by rw [hS6]; omega
  have h5 : rightB (⟨N.toArray⟩ : ByteArray).size V K C = false := by rw [hN, hV, hK, hC]; exact h4
  rw [h5] at j3
  rw [← hS6] at j0 j1 j2
  rw [e6] at j1
  rw [l6] at j2
  have H := hid (And.intro j0 (And.intro j1 (And.intro j2 j3)))
  clear j0 j1 j2 j3 hS6 e6 l6 h2 h3 h4 h5
  clear hN hV hK hC hR hS
  obtain ⟨a, cap, rfl, g1, g2, g3⟩ := hv.shape
  clear g3
  have k0 : Kept None w (w.alloc (.cells #[.string ⟨#[]⟩, .int .i64 0, .int .u64 0, .int .i64 0, .int .u64 0, .int .u64 0] 26)) := (Kept.refl _ _).alloc _
  have v0 := Blk.new w #[.string ⟨#[]⟩, .int .i64 0, .int .u64 0, .int .i64 0, .int .u64 0, .int .u64 0] 26
  have hv0 := hv.kept ((Kept.refl None w).alloc (.cells #[.string ⟨#[]⟩, .int .i64 0, .int .u64 0, .int .i64 0, .int .u64 0, .int .u64 0] 26)) (fun _ _ _ h => h)
  clear hv
  go_enter Try.func57, Try.ntmps57
  go_wp2_with fail
  refine (Bin.new _ lo hi l _ hv0 (by omega)).mono ?_
  rintro e w1 ⟨rr, rfl, k1, hsz, r1⟩
  have hsz' : w.heap.size < rr := by simp at hsz; omega
  have k01 := k0.trans k1
  have v1 := v0.kept k1 (fun h => h)
  clear hv0 k0 k1 v0 hsz
  go_wp2_with fail
  refine (H.out.1 _ _ _ _ r1 (Nat.le_refl _)).mono ?_
  rintro e w2 ⟨rfl, k2, r2⟩
  have k02 := k01.then k2 (fun i hi (h : i = rr) => by omega)
  have v2 := v1.kept k2 (fun (h : w.heap.size = rr) => by omega)
  clear k01 k2 v1 r1
  have r3 := r2.kept ((Kept.refl None w2).alloc (.cells #[.string ⟨N.toArray⟩, .int .i64 V, .int .u64 (K : Int), .int .i64 C, .int .u64 (R : Int), .int .u64 (S : Int)] 26)) (fun _ _ _ h => h) (fun h => h)
  have v3 := v2.alloc (.cells #[.string ⟨N.toArray⟩, .int .i64 V, .int .u64 (K : Int), .int .i64 C, .int .u64 (R : Int), .int .u64 (S : Int)] 26)
  have u3 := Blk.new w2 #[.string ⟨N.toArray⟩, .int .i64 V, .int .u64 (K : Int), .int .i64 C, .int .u64 (R : Int), .int .u64 (S : Int)] 26
  have k03 := k02.alloc (.cells #[.string ⟨N.toArray⟩, .int .i64 V, .int .u64 (K : Int), .int .i64 C, .int .u64 (R : Int), .int .u64 (S : Int)] 26)
  clear k02 v2 r2
  go_wp2_with (first | (refine wpList_load_blk rfl _ _ rfl rfl u3 aUpd ?_) | fail)
  refine (H.out.2.1 _ _ _ _ r3).mono ?_
  rintro e w4 ⟨rfl, rfl⟩
  go_wp2_with fail
  refine (H.out.2.2.1 _ _ _ _ r3).mono ?_
  rintro e w4 ⟨rfl, rfl⟩
  clear r3
  go_wp2_with (first | (refine wpList_load_blk rfl _ _ rfl rfl u3 aUpd ?_) | fail)
  refine (H.out.2.2.2 _).mono ?_
  rintro e w5 ⟨rfl, k5⟩
  have k05 := k03.trans k5
  have v5 := v3.kept k5 (fun h => h)
  have u5 := u3.kept k5 (fun h => h)
  clear k03 v3 u3 k5
  clear H
  go_wp2_with (first | (refine wpList_load_blk rfl _ _ rfl rfl u5 aUpd ?_) | (refine wpList_store_blk rfl _ _ _ rfl rfl rfl v5 aUpd rfl zero_all ?_; intro w7 hR7 k7) | fail)
  exact bodyPost_ret (v := .tuple #[Req.none.V, .int .i64 23]) (results_blk2 rfl _ rfl rfl hR7 aUpd) rfl ⟨rfl, k05.then k7 (fun i hi (h : i = w.heap.size) => by omega)⟩

set_option maxRecDepth 100000 in
set_option maxHeartbeats 8000000 in
theorem read_ok (v : Value) (lo hi : Nat) (l : List UInt8) (w : World) (hv : Bs w lo hi v l) (h : ¬ 512 < l.length) (h2 : ¬ (rd6 l).e ≠ 0) (h3 : ¬ 0 < (rd6 l).l.length) (h4 : (reqOf wholeI l).right = true) : Calls Try.prog 57 #[v] w fun e w' => e = .returned (.tuple #[(readQ l).V, .int .i64 (readE l)]) ∧ Kept None w w' := by
  have eQ : (readQ l).V = updV ⟨(rdN l).toArray⟩ (wholeI (rd1 l).num) (rd2 l).nat (wholeI (rd3 l).num) (rd4 l).nat (rd5 l).nat := by unfold readQ; rw [readE_ok h h2 h3 h4, if_pos rfl]; rfl
  rw [eQ, readE_ok h h2 h3 h4]
  clear eQ
  have j0 : ∀ rr lo hi w, Bin.Rd w lo hi rr ⟨l, 0⟩ → hi ≤ rr → Calls Try.prog 76 #[.pointer (some ⟨rr, 0, none⟩)] w fun e w' => e = .returned (updV ⟨(rdN l).toArray⟩ (wholeI (rd1 l).num) (rd2 l).nat (wholeI (rd3 l).num) (rd4 l).nat (rd5 l).nat) ∧ Kept (Just rr) w w' ∧ Bin.Rd w' lo hi rr (rd6 l) := fun rr lo hi w hr hlo => fields rr lo hi l w hr hlo (by omega)
  have j1 := fun rr lo hi w h => Bin.rerr rr lo hi (rd6 l) w h
  have j2 := fun rr lo hi w h => Bin.rleft rr lo hi (rd6 l) w h (rd_len l _ (by omega))
  have j3 := fun w => right ⟨(rdN l).toArray⟩ (wholeI (rd1 l).num) (wholeI (rd3 l).num) (rd2 l).nat (rd4 l).nat (rd5 l).nat w
  obtain ⟨N, hN⟩ : ∃ N, N = rdN l := ⟨_, rfl⟩
  obtain ⟨V, hV⟩ : ∃ V, V = wholeI (rd1 l).num := ⟨_, rfl⟩
  obtain ⟨K, hK⟩ : ∃ K, K = (rd2 l).nat := ⟨_, rfl⟩
  obtain ⟨C, hC⟩ : ∃ C, C = wholeI (rd3 l).num := ⟨_, rfl⟩
  obtain ⟨R, hR⟩ : ∃ R, R = (rd4 l).nat := ⟨_, rfl⟩
  obtain ⟨S, hS⟩ : ∃ S, S = (rd5 l).nat := ⟨_, rfl⟩
  rw [← hN, ← hV, ← hK, ← hC, ← hR, ← hS] at j0 j3 ⊢
  obtain ⟨S6, hS6⟩ : ∃ S6, S6 = rd6 l := ⟨_, rfl⟩
  have e6 : S6.e = 0 := by rw [hS6]; omega
  have l6 : S6.l.length = 0 := by rw [hS6]; omega
  have h5 : rightB (⟨N.toArray⟩ : ByteArray).size V K C = true := by rw [hN, hV, hK, hC]; exact h4
  rw [h5] at j3
  rw [← hS6] at j0 j1 j2
  rw [e6] at j1
  rw [l6] at j2
  have H := hid (And.intro j0 (And.intro j1 (And.intro j2 j3)))
  clear j0 j1 j2 j3 hS6 e6 l6 h2 h3 h4 h5
  clear hN hV hK hC hR hS
  obtain ⟨a, cap, rfl, g1, g2, g3⟩ := hv.shape
  clear g3
  have k0 : Kept None w (w.alloc (.cells #[.string ⟨#[]⟩, .int .i64 0, .int .u64 0, .int .i64 0, .int .u64 0, .int .u64 0] 26)) := (Kept.refl _ _).alloc _
  have v0 := Blk.new w #[.string ⟨#[]⟩, .int .i64 0, .int .u64 0, .int .i64 0, .int .u64 0, .int .u64 0] 26
  have hv0 := hv.kept ((Kept.refl None w).alloc (.cells #[.string ⟨#[]⟩, .int .i64 0, .int .u64 0, .int .i64 0, .int .u64 0, .int .u64 0] 26)) (fun _ _ _ h => h)
  clear hv
  go_enter Try.func57, Try.ntmps57
  go_wp2_with fail
  refine (Bin.new _ lo hi l _ hv0 (by omega)).mono ?_
  rintro e w1 ⟨rr, rfl, k1, hsz, r1⟩
  have hsz' : w.heap.size < rr := by simp at hsz; omega
  have k01 := k0.trans k1
  have v1 := v0.kept k1 (fun h => h)
  clear hv0 k0 k1 v0 hsz
  go_wp2_with fail
  refine (H.out.1 _ _ _ _ r1 (Nat.le_refl _)).mono ?_
  rintro e w2 ⟨rfl, k2, r2⟩
  have k02 := k01.then k2 (fun i hi (h : i = rr) => by omega)
  have v2 := v1.kept k2 (fun (h : w.heap.size = rr) => by omega)
  clear k01 k2 v1 r1
  have r3 := r2.kept ((Kept.refl None w2).alloc (.cells #[.string ⟨N.toArray⟩, .int .i64 V, .int .u64 (K : Int), .int .i64 C, .int .u64 (R : Int), .int .u64 (S : Int)] 26)) (fun _ _ _ h => h) (fun h => h)
  have v3 := v2.alloc (.cells #[.string ⟨N.toArray⟩, .int .i64 V, .int .u64 (K : Int), .int .i64 C, .int .u64 (R : Int), .int .u64 (S : Int)] 26)
  have u3 := Blk.new w2 #[.string ⟨N.toArray⟩, .int .i64 V, .int .u64 (K : Int), .int .i64 C, .int .u64 (R : Int), .int .u64 (S : Int)] 26
  have k03 := k02.alloc (.cells #[.string ⟨N.toArray⟩, .int .i64 V, .int .u64 (K : Int), .int .i64 C, .int .u64 (R : Int), .int .u64 (S : Int)] 26)
  clear k02 v2 r2
  go_wp2_with (first | (refine wpList_load_blk rfl _ _ rfl rfl u3 aUpd ?_) | fail)
  refine (H.out.2.1 _ _ _ _ r3).mono ?_
  rintro e w4 ⟨rfl, rfl⟩
  go_wp2_with fail
  refine (H.out.2.2.1 _ _ _ _ r3).mono ?_
  rintro e w4 ⟨rfl, rfl⟩
  clear r3
  go_wp2_with (first | (refine wpList_load_blk rfl _ _ rfl rfl u3 aUpd ?_) | fail)
  refine (H.out.2.2.2 _).mono ?_
  rintro e w5 ⟨rfl, k5⟩
  have k05 := k03.trans k5
  have v5 := v3.kept k5 (fun h => h)
  have u5 := u3.kept k5 (fun h => h)
  clear k03 v3 u3 k5
  clear H
  go_wp2_with (first | (refine wpList_load_blk rfl _ _ rfl rfl u5 aUpd ?_) | (refine wpList_store_blk rfl _ _ _ rfl rfl rfl v5 aUpd rfl (upd_all _ _ _ _ _ _) ?_; intro w7 hR7 k7) | fail)
  exact bodyPost_ret (v := .tuple #[updV ⟨N.toArray⟩ V K C R S, .int .i64 0]) (results_blk2 rfl _ rfl rfl hR7 aUpd) rfl ⟨rfl, k05.then k7 (fun i hi (h : i = w.heap.size) => by omega)⟩

/-- update.Read. -/
theorem read (v : Value) (lo hi : Nat) (l : List UInt8) (w : World) (hv : Bs w lo hi v l) : Calls Try.prog 57 #[v] w fun e w' => e = .returned (.tuple #[(readQ l).V, .int .i64 (readE l)]) ∧ Kept None w w' := by
  by_cases h : 512 < l.length
  · exact read_long v lo hi l w hv h
  by_cases h2 : (rd6 l).e ≠ 0
  · exact read_err v lo hi l w hv h h2
  by_cases h3 : 0 < (rd6 l).l.length
  · exact read_more v lo hi l w hv h h2 h3
  cases h4 : (reqOf wholeI l).right with
  | false => exact read_form v lo hi l w hv h h2 h3 h4
  | true => exact read_ok v lo hi l w hv h h2 h3 h4
end Up
end Go.Proofs.Ytpbkdeljhehkdaa
namespace Go.Pm
open Go Go.RowKit
theorem intI_le' {n : Int} (h : ¬ 9223372036854775807 < n) : intI n = n := by unfold intI; rw [if_neg h]
theorem intI_gt' {n : Int} (h : 9223372036854775807 < n) : intI n = -1 := by unfold intI; rw [if_pos h]
end Go.Pm
namespace Go.Proofs.Ytpbkdeljhehkdaa
open Go.RowKit Go.Pm
namespace Ref
set_option maxRecDepth 100000 in
set_option maxHeartbeats 400000 in
theorem rint (r : Nat) (lo hi : Nat) (s : St) (w : World) (hr : Ref.Rd w lo hi r s) (hlo : hi ≤ r) :
    Calls Try.prog 39 #[.pointer (some ⟨r, 0, none⟩)] w fun en w' => en = .returned (.int .i64 (intI s.num)) ∧ Kept (Just r) w w' ∧ Ref.Rd w' lo hi r s.numS := by
  have j := fun w h => Ref.rnum r lo hi s w h hlo
  have n0 := St.num_ge s
  have n1 := St.num_lt s
  obtain ⟨x, hx⟩ : ∃ x, x = s.num := ⟨_, rfl⟩
  rw [← hx] at j n0 n1 ⊢
  obtain ⟨s', hs'⟩ : ∃ s', s' = s.numS := ⟨_, rfl⟩
  rw [← hs'] at j ⊢
  have J := hid j
  clear j hx hs'
  by_cases h : 9223372036854775807 < x
  · rw [intI_gt' h]
    go_enter Try.func39, Try.ntmps39
    go_wp2_with fail
    refine (J.out _ hr).mono ?_
    rintro e w1 ⟨rfl, k1, r1⟩
    go_wp2
    go_ret
    exact ⟨rfl, k1, r1⟩
  · rw [intI_le' h]
    go_enter Try.func39, Try.ntmps39
    go_wp2_with fail
    refine (J.out _ hr).mono ?_
    rintro e w1 ⟨rfl, k1, r1⟩
    go_wp2
    go_ret
    exact ⟨rfl, k1, r1⟩
end Ref
end Go.Proofs.Ytpbkdeljhehkdaa
namespace Go.Proofs.Ytpbkdeljhehkdaa
open Go.RowKit Go.Pm
namespace RUp
set_option maxRecDepth 100000 in
set_option maxHeartbeats 4000000 in
/-- postmarkref5.Of. -/
theorem of (rr lo hi : Nat) (l : List UInt8) (w : World) (hr : Ref.Rd w lo hi rr ⟨l, 0⟩) (hlo : hi ≤ rr) :
    Calls Try.prog 64 #[.pointer (some ⟨rr, 0, none⟩)] w fun e w' => e = .returned (entV ⟨(rdN l).toArray⟩ (intI (rd1 l).num) (rd2 l).nat) ∧ Kept (Just rr) w w' ∧ Ref.Rd w' lo hi rr (rd3 l) := by
  have j0 := fun w h => Ref.rlump rr lo hi ⟨l, 0⟩ 32 w h (by decide) (by decide) hlo
  have q1 := fun w h => Ref.rint rr lo hi (rd1 l) w h hlo
  have q2 := fun w h => Ref.rnum rr lo hi (rd2 l) w h hlo
  rw [← St.nat_eq] at q2
  rw [show St.lump ⟨l, 0⟩ 32 = rdN l from rfl, show St.lumpS ⟨l, 0⟩ 32 = rd1 l from rfl] at j0
  rw [show (rd1 l).numS = rd2 l from rfl] at q1
  rw [show (rd2 l).numS = rd3 l from rfl] at q2
  obtain ⟨N, hN⟩ : ∃ N, N = rdN l := ⟨_, rfl⟩
  obtain ⟨V, hV⟩ : ∃ V, V = intI (rd1 l).num := ⟨_, rfl⟩
  obtain ⟨K, hK⟩ : ∃ K, K = (rd2 l).nat := ⟨_, rfl⟩
  rw [← hN, ← hV, ← hK]
  rw [← hN] at j0
  rw [← hV] at q1
  rw [← hK] at q2
  obtain ⟨S0, hS0⟩ : ∃ S0, S0 = (⟨l, 0⟩ : St) := ⟨_, rfl⟩
  obtain ⟨S1, hS1⟩ : ∃ S1, S1 = rd1 l := ⟨_, rfl⟩
  obtain ⟨S2, hS2⟩ : ∃ S2, S2 = rd2 l := ⟨_, rfl⟩
  obtain ⟨S3, hS3⟩ : ∃ S3, S3 = rd3 l := ⟨_, rfl⟩
  rw [← hS0] at hr j0
  rw [← hS1] at j0 q1
  rw [← hS2] at q1 q2
  rw [← hS3] at q2 ⊢
  have J := hid (And.intro j0 (And.intro q1 q2))
  clear j0 q1 q2 hN hV hK hS0 hS1 hS2 hS3
  have hlt := hr.lt
  have k0 : Kept (Just rr) w (w.alloc (.cells #[.string ⟨#[]⟩, .int .i64 0, .int .u64 0] 88)) := (Kept.refl _ _).alloc _
  have r0 := hr.kept ((Kept.refl None w).alloc (.cells #[.string ⟨#[]⟩, .int .i64 0, .int .u64 0] 88)) (fun _ _ _ h => h) (fun h => h)
  have v0 := Blk.new w #[.string ⟨#[]⟩, .int .i64 0, .int .u64 0] 88
  go_enter Try.func64, Try.ntmps64
  go_wp2_with fail
  refine (J.out.1 _ r0).mono ?_
  rintro e w1 ⟨uN, rfl, k1, bN, r1⟩
  have kk1 := k0.trans k1
  have v1 := v0.kept k1 (fun (h : w.heap.size = rr) => by omega)
  obtain ⟨aN, cN, rfl, g1, g2, g3⟩ := bN.shape
  clear g3 k0 r0 v0 k1 hr
  go_wp2_with (first | (refine wpList_text rfl 29 9 5 _ rfl tBytes' tByte tString rfl bN ?_) | fail)
  refine (J.out.2.1 _ r1).mono ?_
  rintro e w2 ⟨rfl, k2, r2⟩
  have kk2 := kk1.trans k2
  have v2 := v1.kept k2 (fun (h : w.heap.size = rr) => by omega)
  clear kk1 k2 v1 bN r1
  go_wp2_with fail
  refine (J.out.2.2 _ r2).mono ?_
  rintro e w3 ⟨rfl, k3, r3⟩
  have kk3 := kk2.trans k3
  have v3 := v2.kept k3 (fun (h : w.heap.size = rr) => by omega)
  clear kk2 k3 v2 r2
  go_wp2_with (first | (refine wpList_store_blk rfl _ _ _ rfl rfl rfl v3 Up.aEnt rfl (Up.ent_all _ _ _) ?_; intro w7 hR7 k7) | fail)
  exact bodyPost_ret (v := entV ⟨N.toArray⟩ V K) (results_blk rfl _ rfl hR7 Up.aEnt) rfl ⟨rfl, kk3.then k7 (fun i hi (h : i = w.heap.size) => by omega), r3.kept k7 (fun k _ h (e : k = w.heap.size) => by omega) (fun (e : rr = w.heap.size) => by omega)⟩
end RUp
end Go.Proofs.Ytpbkdeljhehkdaa
