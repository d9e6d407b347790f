/- Paths of packages logtree and postmarkref8: by contract. -/
import Derived.Test.YtdlnikkfpfdbbaaLogRoot8
namespace Go.Pm
open Go Go.RowKit
/-- A slice of hashes that the call owns. -/
abbrev Fct.ho (k : Nat) (e : TypeId) (base : Nat) (hs : List (List UInt8)) (uses : List Nat := []) : Fct := { k := k, uses := uses, pure := fun u => ∃ a c, u = .slice a hs.length c, fact := fun u W => Ho e W base u hs }
theorem Steady.ho {l : List Fct} {k base : Nat} {e : TypeId} {us : List Nat} {hs : List (List UInt8)} (h : Steady l) : Steady (.ho k e base hs us :: l) := .cons ⟨_, none, 0, rfl⟩ (fun _ _ _ hk hb => Ho.kept hb hk (fun _ _ h => h)) h
end Go.Pm
namespace Go.Proofs.Ytdlnikkfpfdbbaa
open Go.RowKit Go.Pm
namespace Lg
set_option maxRecDepth 100000 in
theorem path_one (x : List UInt8) (v : Value) (w : World) (hv : Rh 0 w v [x]) : Calls Try.prog 50 #[v, .int .i64 0] w fun e w' => ∃ u, e = .returned (u) ∧ Kept None w w' ∧ Ho 25 w' w.heap.size u [] := by
  obtain ⟨a, cap, rfl⟩ := hv.form
  show Calls Try.prog 50 #[.slice a 1 cap, .int .i64 0] w _
  clear hv
  go_enter Try.func50, Try.ntmps50
  go_wp2
  go_ret
  exact ⟨_, rfl, Kept.refl _ _, Ho.nil _ _ _⟩
set_option maxRecDepth 100000 in
set_option maxHeartbeats 1000000 in
theorem path_left (l : List (List UInt8)) (i : Nat) (ps : List (List UInt8)) (R : List UInt8) (v : Value) (w : World) (hv : Rh 0 w v l) (h2 : 2 ≤ l.length) (hl : l.length ≤ 549755813888) (hin : i < l.length) (hi : i < splitN l.length) (hps : ps.length ≤ 549755813888) (hR : R.length = 32)
    (ih : ∀ v w, Rh 0 w v (l.take (splitN l.length)) → Calls Try.prog 50 #[v, .int .i64 i] w fun e w' => ∃ u, e = .returned (u) ∧ Kept None w w' ∧ Ho 25 w' w.heap.size u ps)
    (ihR : ∀ v w, Rh 0 w v (l.drop (splitN l.length)) → Calls Try.prog 20 #[v] w fun e w' => e = .returned (hashV R) ∧ Kept None w w') :
    Calls Try.prog 50 #[v, .int .i64 i] w fun e w' => ∃ u, e = .returned (u) ∧ Kept None w w' ∧ Ho 25 w' w.heap.size u (ps ++ [R]) := by
  obtain ⟨a, cap, rfl⟩ := hv.form
  have g2' : cap ≤ 9223372036854775807 := by
    obtain ⟨hi, hv⟩ := hv
    obtain ⟨_, _, q, _, q2, _⟩ := hv.form
    injection q with _ _ q
    omega
  have hSp := fun w => Lg.split l.length w h2 (by omega)
  have hk := splitN_lt h2
  obtain ⟨k, hkk⟩ : ∃ k, k = splitN l.length := ⟨_, rfl⟩
  rw [← hkk] at ih ihR hSp hk hi
  obtain ⟨n, hn⟩ : ∃ n, n = l.length := ⟨_, rfl⟩
  rw [← hn] at hv h2 hl hSp hk hin ⊢
  obtain ⟨a1, s1, i1⟩ := rh_to Lg8.tHashes Lg8.zHashes hv .i64 k (by omega)
  obtain ⟨a2, s2, i2⟩ := rh_from Lg8.tHashes Lg8.zHashes hv .i64 k (by omega)
  have h2z : (2 : Int) ≤ (n : Int) := by omega
  have hkz : (k : Int) ≤ (n : Int) := by omega
  have hi0 : (0 : Int) ≤ (i : Int) := by omega
  have hiz : (i : Int) < (n : Int) := by omega
  have hik : (i : Int) < (k : Int) := by omega
  have HP := hid hSp
  have IH := hid ih
  have IR := hid ihR
  have I0 := hid (And.intro i1 i2)
  have HL := hid (And.intro hR (And.intro hps hl))
  clear ih ihR hSp hkk hn hv i1 i2 hk h2 hR hps hl hin hi
  go_enter Try.func50, Try.ntmps50
  go_wp2_with fail
  refine (HP.out _).mono ?_
  rintro e w3 ⟨rfl, rfl⟩
  go_wp2_with fail
  have hs : Steady [.ho 4 25 w.heap.size ps, .val 8 (hashV R), .hash1 9 w.heap.size 25 R] := Steady.ho (Steady.val (Steady.hash1 (Steady.nil)))
  refine wp_region_kn_tail 10 w _ hs (Kept.refl _ _) (by kernel_rfl) (by kernel_rfl) (by kernel_rfl) ?_
  simp only [List.take_succ_cons, List.take_zero, List.drop_succ_cons, List.drop_zero]
  iterate 4 (refine wpPar_pure rfl (by rfl) _ (fun W hW => by
      have q1 := s1 W
      have q2 := s2 W
      go_simp
      exact rfl) ?_; simp only [Act.put, List.setIfInBounds_toArray, List.set_cons_zero, List.set_cons_succ])
  refine wpKn_adds hs rfl (by rfl) (fun W hW hd => ?_) (fun v4 hv => ?_)
  · unfold Gives
    go_simp
    refine gives_call (IH.out _ _ (I0.out.1.kept hW)) ?_
    rintro e w3 ⟨u, rfl, k3, p3⟩
    obtain ⟨a3, c3, rfl⟩ := Ho.form p3
    exact ⟨_, rfl, k3, ⟨_, _, rfl⟩, p3.base hW.size⟩
  obtain ⟨a4, c4, rfl⟩ : ∃ a c, v4 = .slice a ps.length c := hv
  simp only [Act.put, List.setIfInBounds_toArray, List.set_cons_zero, List.set_cons_succ]
  iterate 3 (refine wpPar_pure rfl (by rfl) _ (fun W hW => by
      have q1 := s1 W
      have q2 := s2 W
      go_simp
      exact rfl) ?_; simp only [Act.put, List.setIfInBounds_toArray, List.set_cons_zero, List.set_cons_succ])
  refine wpKn_adds hs rfl (by rfl) (fun W hW hd => ?_) (fun v8 hv => ?_)
  · unfold Gives
    go_simp
    refine gives_call (IR.out _ _ (I0.out.2.kept hW)) ?_
    rintro e w3 ⟨rfl, k3⟩
    exact ⟨_, rfl, k3, rfl, trivial⟩
  obtain rfl : v8 = hashV R := hv
  simp only [Act.put, List.setIfInBounds_toArray, List.set_cons_zero, List.set_cons_succ]
  refine wpKn_adds hs rfl (by rfl) (fun W hW hd => ?_) (fun v9 hv => ?_)
  · unfold Gives
    rw [exec_one_item 23 (.tmp 23) rfl Hk.rtHashes (by decide) (A := (R.map u8v).toArray) rfl (by simpa using HL.out.1)]
    exact ⟨(Kept.refl None W).alloc _, ⟨_, rfl⟩, _, rfl, hW.size, Blk.new W _ _⟩
  obtain ⟨g4, rfl⟩ : ∃ g, v9 = .slice (some ⟨g, 0, none⟩) 1 1 := hv
  simp only [Act.put, List.setIfInBounds_toArray, List.set_cons_zero, List.set_cons_succ]
  refine wpPar_nil (fun w6 hW hG => ?_)
  have hO : Ho 25 w6 w.heap.size (.slice a4 ps.length c4) ps := hG 4
  obtain ⟨g, hgg, hg2, hg3⟩ : ∃ g, Value.slice (some ⟨g4, 0, none⟩) 1 1 = .slice (some ⟨g, 0, none⟩) 1 1 ∧ w.heap.size ≤ g ∧ Blk w6 g (R.map u8v).toArray 25 := hG 9
  obtain rfl : g4 = g := by simpa using hgg
  have hu := Hs.ofBlk hg3 HL.out.1
  have HO := hid hO
  have HU := hid hu
  have KW := hid hW
  clear hG hs hW hO hu hg2 hg3 hgg s1 s2
  go_wp2_with (first | (at_builtin; refine wpList_append_po rfl _ _ 23 rfl Hk.rtHashes (by decide) rfl rfl HO.out.2 HU.out.2 (hsC_one _) (by rw [hsC_len, hsC_len]; have := HL.out; simp; omega) KW.out.size ?_; intro a9 n9 c9 w9 p9 k9 o9) | fail)
  have hown := HO.out.2.own
  have HP9 := hid (And.intro p9 (KW.out.then k9 (fun i hi h => by have := (hown i h).1; omega)))
  clear p9 k9 o9 hown
  go_ret
  exact ⟨_, rfl, HP9.out.2, HO.out.1.append (H32.one HL.out.1), by rw [hsC_append]; exact HP9.out.1⟩
set_option maxRecDepth 100000 in
set_option maxHeartbeats 1000000 in
theorem path_right (l : List (List UInt8)) (i : Nat) (ps : List (List UInt8)) (R : List UInt8) (v : Value) (w : World) (hv : Rh 0 w v l) (h2 : 2 ≤ l.length) (hl : l.length ≤ 549755813888) (hin : i < l.length) (hi : ¬ i < splitN l.length) (hps : ps.length ≤ 549755813888) (hR : R.length = 32)
    (ih : ∀ v w, Rh 0 w v (l.drop (splitN l.length)) → Calls Try.prog 50 #[v, .int .i64 (i - splitN l.length : Nat)] w fun e w' => ∃ u, e = .returned (u) ∧ Kept None w w' ∧ Ho 25 w' w.heap.size u ps)
    (ihR : ∀ v w, Rh 0 w v (l.take (splitN l.length)) → Calls Try.prog 20 #[v] w fun e w' => e = .returned (hashV R) ∧ Kept None w w') :
    Calls Try.prog 50 #[v, .int .i64 i] w fun e w' => ∃ u, e = .returned (u) ∧ Kept None w w' ∧ Ho 25 w' w.heap.size u (ps ++ [R]) := by
  obtain ⟨a, cap, rfl⟩ := hv.form
  have g2' : cap ≤ 9223372036854775807 := by
    obtain ⟨hi, hv⟩ := hv
    obtain ⟨_, _, q, _, q2, _⟩ := hv.form
    injection q with _ _ q
    omega
  have hSp := fun w => Lg.split l.length w h2 (by omega)
  have hk := splitN_lt h2
  obtain ⟨k, hkk⟩ : ∃ k, k = splitN l.length := ⟨_, rfl⟩
  rw [← hkk] at ih ihR hSp hk hi
  obtain ⟨n, hn⟩ : ∃ n, n = l.length := ⟨_, rfl⟩
  rw [← hn] at hv h2 hl hSp hk hin ⊢
  obtain ⟨a1, s1, i1⟩ := rh_to Lg8.tHashes Lg8.zHashes hv .i64 k (by omega)
  obtain ⟨a2, s2, i2⟩ := rh_from Lg8.tHashes Lg8.zHashes hv .i64 k (by omega)
  have h2z : (2 : Int) ≤ (n : Int) := by omega
  have hkz : (k : Int) ≤ (n : Int) := by omega
  have hi0 : (0 : Int) ≤ (i : Int) := by omega
  have hiz : (i : Int) < (n : Int) := by omega
  have hik : ¬ (i : Int) < (k : Int) := by omega
  obtain ⟨j, hj⟩ : ∃ j, j = i - k := ⟨_, rfl⟩
  rw [← hj] at ih
  have rj : IntKind.i64.wrap ((i : Int) - (k : Int)) = (j : Int) := by rw [IntKind.wrap_i64]; omega
  have hjz : (j : Int) ≤ (n : Int) := by omega
  have HP := hid hSp
  have IH := hid ih
  have IR := hid ihR
  have I0 := hid (And.intro i1 i2)
  have HL := hid (And.intro hR (And.intro hps hl))
  clear ih ihR hSp hkk hn hv i1 i2 hk h2 hR hps hl hin hi hj
  go_enter Try.func50, Try.ntmps50
  go_wp2_with fail
  refine (HP.out _).mono ?_
  rintro e w3 ⟨rfl, rfl⟩
  go_wp2_with fail
  have hs : Steady [.ho 6 25 w.heap.size ps, .val 10 (hashV R), .hash1 11 w.heap.size 25 R] := Steady.ho (Steady.val (Steady.hash1 (Steady.nil)))
  refine wp_region_kn_tail 12 w _ hs (Kept.refl _ _) (by kernel_rfl) (by kernel_rfl) (by kernel_rfl) ?_
  simp only [List.take_succ_cons, List.take_zero, List.drop_succ_cons, List.drop_zero]
  iterate 6 (refine wpPar_pure rfl (by rfl) _ (fun W hW => by
      have q1 := s1 W
      have q2 := s2 W
      go_simp
      exact rfl) ?_; simp only [Act.put, List.setIfInBounds_toArray, List.set_cons_zero, List.set_cons_succ])
  refine wpKn_adds hs rfl (by rfl) (fun W hW hd => ?_) (fun v6 hv => ?_)
  · unfold Gives
    go_simp
    refine gives_call (IH.out _ _ (I0.out.2.kept hW)) ?_
    rintro e w3 ⟨u, rfl, k3, p3⟩
    obtain ⟨a3, c3, rfl⟩ := Ho.form p3
    exact ⟨_, rfl, k3, ⟨_, _, rfl⟩, p3.base hW.size⟩
  obtain ⟨a4, c4, rfl⟩ : ∃ a c, v6 = .slice a ps.length c := hv
  simp only [Act.put, List.setIfInBounds_toArray, List.set_cons_zero, List.set_cons_succ]
  iterate 3 (refine wpPar_pure rfl (by rfl) _ (fun W hW => by
      have q1 := s1 W
      have q2 := s2 W
      go_simp
      exact rfl) ?_; simp only [Act.put, List.setIfInBounds_toArray, List.set_cons_zero, List.set_cons_succ])
  refine wpKn_adds hs rfl (by rfl) (fun W hW hd => ?_) (fun v10 hv => ?_)
  · unfold Gives
    go_simp
    refine gives_call (IR.out _ _ (I0.out.1.kept hW)) ?_
    rintro e w3 ⟨rfl, k3⟩
    exact ⟨_, rfl, k3, rfl, trivial⟩
  obtain rfl : v10 = hashV R := hv
  simp only [Act.put, List.setIfInBounds_toArray, List.set_cons_zero, List.set_cons_succ]
  refine wpKn_adds hs rfl (by rfl) (fun W hW hd => ?_) (fun v11 hv => ?_)
  · unfold Gives
    rw [exec_one_item 23 (.tmp 36) rfl Hk.rtHashes (by decide) (A := (R.map u8v).toArray) rfl (by simpa using HL.out.1)]
    exact ⟨(Kept.refl None W).alloc _, ⟨_, rfl⟩, _, rfl, hW.size, Blk.new W _ _⟩
  obtain ⟨g4, rfl⟩ : ∃ g, v11 = .slice (some ⟨g, 0, none⟩) 1 1 := hv
  simp only [Act.put, List.setIfInBounds_toArray, List.set_cons_zero, List.set_cons_succ]
  refine wpPar_nil (fun w6 hW hG => ?_)
  have hO : Ho 25 w6 w.heap.size (.slice a4 ps.length c4) ps := hG 6
  obtain ⟨g, hgg, hg2, hg3⟩ : ∃ g, Value.slice (some ⟨g4, 0, none⟩) 1 1 = .slice (some ⟨g, 0, none⟩) 1 1 ∧ w.heap.size ≤ g ∧ Blk w6 g (R.map u8v).toArray 25 := hG 11
  obtain rfl : g4 = g := by simpa using hgg
  have hu := Hs.ofBlk hg3 HL.out.1
  have HO := hid hO
  have HU := hid hu
  have KW := hid hW
  clear hG hs hW hO hu hg2 hg3 hgg s1 s2
  go_wp2_with (first | (at_builtin; refine wpList_append_po rfl _ _ 23 rfl Hk.rtHashes (by decide) rfl rfl HO.out.2 HU.out.2 (hsC_one _) (by rw [hsC_len, hsC_len]; have := HL.out; simp; omega) KW.out.size ?_; intro a9 n9 c9 w9 p9 k9 o9) | fail)
  have hown := HO.out.2.own
  have HP9 := hid (And.intro p9 (KW.out.then k9 (fun i hi h => by have := (hown i h).1; omega)))
  clear p9 k9 o9 hown
  go_ret
  exact ⟨_, rfl, HP9.out.2, HO.out.1.append (H32.one HL.out.1), by rw [hsC_append]; exact HP9.out.1⟩
/-- neighbours. -/
theorem neighbours : ∀ (f : Nat) (l : List (List UInt8)) (i : Nat) (v : Value) (w : World), Rh 0 w v l → l.length ≤ f → l.length ≤ 549755813888 → i < l.length → Calls Try.prog 50 #[v, .int .i64 i] w fun e w' => ∃ u, e = .returned (u) ∧ Kept None w w' ∧ Ho 25 w' w.heap.size u (pathL l i) := by
  intro f
  induction f with
  | zero =>
    intro l i v w hv hf hl hi
    omega
  | succ f ih =>
    intro l i v w hv hf hl hi
    by_cases h1 : l.length = 1
    · obtain ⟨x, rfl⟩ := List.length_eq_one_iff.1 h1
      obtain rfl : i = 0 := by simpa using hi
      exact path_one x v w hv
    have h2 : 2 ≤ l.length := by omega
    have hH : H32 l := by
      obtain ⟨_, h⟩ := hv
      exact h.1
    have hk := splitN_lt h2
    have hp := splitN_pos h2
    by_cases hs : i < splitN l.length
    · have hlen := pathL_len l.length (l := l.take (splitN l.length)) i (by rw [List.length_take]; omega)
      rw [List.length_take] at hlen
      rw [pathL_left h2 hs]
      exact path_left l i _ _ v w hv h2 hl hi hs (by omega) (rootL_len (hH.drop _)) (fun v w h => ih _ i v w h (by rw [List.length_take]; omega) (by rw [List.length_take]; omega) (by rw [List.length_take]; omega)) (fun v w h => Lg.root l.length _ v w h (by rw [List.length_drop]; omega) (by rw [List.length_drop]; omega))
    · have hlen := pathL_len l.length (l := l.drop (splitN l.length)) (i - splitN l.length) (by rw [List.length_drop]; omega)
      rw [List.length_drop] at hlen
      rw [pathL_right h2 hs]
      exact path_right l i _ _ v w hv h2 hl hi hs (by omega) (rootL_len (hH.take _)) (fun v w h => ih _ (i - splitN l.length) v w h (by rw [List.length_drop]; omega) (by rw [List.length_drop]; omega) (by rw [List.length_drop]; omega)) (fun v w h => Lg.root l.length _ v w h (by rw [List.length_take]; omega) (by rw [List.length_take]; omega))
set_option maxRecDepth 100000 in
/-- Path, of a place that isn't there. -/
theorem path_out (l : List (List UInt8)) (i : Int) (v : Value) (w : World) (hv : Rh 0 w v l) (hi : i < 0 ∨ (l.length : Int) ≤ i) : Calls Try.prog 21 #[v, .int .i64 i] w fun e w' => e = .returned (.tuple #[.slice none 0 0, .bool false]) ∧ w = w' := by
  obtain ⟨a, cap, rfl⟩ := hv.form
  obtain ⟨n, hn⟩ : ∃ n, n = l.length := ⟨_, rfl⟩
  rw [← hn] at hi ⊢
  clear hv hn
  by_cases h0 : i < 0
  · clear hi
    go_enter Try.func21, Try.ntmps21
    go_wp2
    go_ret2
    exact ⟨rfl, rfl⟩
  · have h1 : (n : Int) ≤ i := by omega
    clear hi
    go_enter Try.func21, Try.ntmps21
    go_wp2
    go_ret2
    exact ⟨rfl, rfl⟩
set_option maxRecDepth 100000 in
/-- Path. -/
theorem path (l : List (List UInt8)) (i : Nat) (v : Value) (w : World) (hv : Rh 0 w v l) (hl : l.length ≤ 549755813888) (hi : i < l.length) : Calls Try.prog 21 #[v, .int .i64 i] w fun e w' => ∃ u, e = .returned (.tuple #[u, .bool true]) ∧ Kept None w w' ∧ Ho 25 w' w.heap.size u (pathL l i) := by
  have H := hid (neighbours l.length l i v w hv (Nat.le_refl _) hl hi)
  obtain ⟨a, cap, rfl⟩ := hv.form
  obtain ⟨n, hn⟩ : ∃ n, n = l.length := ⟨_, rfl⟩
  rw [← hn] at H hi ⊢
  have h0 : (0 : Int) ≤ (i : Int) := by omega
  have h1 : (i : Int) < (n : Int) := by omega
  clear hv hn hi hl
  go_enter Try.func21, Try.ntmps21
  go_wp2_with fail
  refine H.out.mono ?_
  rintro e w4 ⟨u, rfl, k4, p4⟩
  have P4 := hid (And.intro k4 p4)
  obtain ⟨a4, c4, rfl⟩ := Ho.form p4
  clear k4 p4
  go_wp2
  go_ret2
  exact ⟨_, rfl, P4.out.1, P4.out.2⟩
end Lg
namespace RLg
set_option maxRecDepth 100000 in
theorem path_one (x : List UInt8) (v : Value) (w : World) (hv : Rh 0 w v [x]) : Calls Try.prog 22 #[v, .int .i64 0] w fun e w' => ∃ u, e = .returned (.tuple #[u, .bool true]) ∧ Kept None w w' ∧ Ho 25 w' w.heap.size u [] := by
  obtain ⟨a, cap, rfl⟩ := hv.form
  show Calls Try.prog 22 #[.slice a 1 cap, .int .i64 0] w _
  clear hv
  go_enter Try.func22, Try.ntmps22
  go_wp2
  go_ret2
  exact ⟨_, rfl, Kept.refl _ _, Ho.nil _ _ _⟩
set_option maxRecDepth 100000 in
set_option maxHeartbeats 1000000 in
theorem path_left (l : List (List UInt8)) (i : Nat) (ps : List (List UInt8)) (R : List UInt8) (v : Value) (w : World) (hv : Rh 0 w v l) (h2 : 2 ≤ l.length) (hl : l.length ≤ 549755813888) (hin : i < l.length) (hi : i < splitN l.length) (hps : ps.length ≤ 549755813888) (hR : R.length = 32)
    (ih : ∀ v w, Rh 0 w v (l.take (splitN l.length)) → Calls Try.prog 22 #[v, .int .i64 i] w fun e w' => ∃ u, e = .returned (.tuple #[u, .bool true]) ∧ Kept None w w' ∧ Ho 25 w' w.heap.size u ps)
    (ihR : ∀ v w, Rh 0 w v (l.drop (splitN l.length)) → Calls Try.prog 19 #[v] w fun e w' => e = .returned (hashV R) ∧ Kept None w w') :
    Calls Try.prog 22 #[v, .int .i64 i] w fun e w' => ∃ u, e = .returned (.tuple #[u, .bool true]) ∧ Kept None w w' ∧ Ho 25 w' w.heap.size u (ps ++ [R]) := by
  obtain ⟨a, cap, rfl⟩ := hv.form
  have g2' : cap ≤ 9223372036854775807 := by
    obtain ⟨hi, hv⟩ := hv
    obtain ⟨_, _, q, _, q2, _⟩ := hv.form
    injection q with _ _ q
    omega
  have hSp := fun w => RLg.split l.length w h2 (by omega)
  have hk := splitN_lt h2
  obtain ⟨k, hkk⟩ : ∃ k, k = splitN l.length := ⟨_, rfl⟩
  rw [← hkk] at ih ihR hSp hk hi
  obtain ⟨n, hn⟩ : ∃ n, n = l.length := ⟨_, rfl⟩
  rw [← hn] at hv h2 hl hSp hk hin ⊢
  obtain ⟨a1, s1, i1⟩ := rh_to Lg8.tHashes Lg8.zHashes hv .i64 k (by omega)
  obtain ⟨a2, s2, i2⟩ := rh_from Lg8.tHashes Lg8.zHashes hv .i64 k (by omega)
  have h2z : (2 : Int) ≤ (n : Int) := by omega
  have hkz : (k : Int) ≤ (n : Int) := by omega
  have hi0 : (0 : Int) ≤ (i : Int) := by omega
  have hiz : (i : Int) < (n : Int) := by omega
  have hik : (i : Int) < (k : Int) := by omega
  have HP := hid hSp
  have IH := hid ih
  have IR := hid ihR
  have I0 := hid (And.intro i1 i2)
  have HL := hid (And.intro hR (And.intro hps hl))
  clear ih ihR hSp hkk hn hv i1 i2 hk h2 hR hps hl hin hi
  go_enter Try.func22, Try.ntmps22
  go_wp2_with fail
  refine (HP.out _).mono ?_
  rintro e w3 ⟨rfl, rfl⟩
  go_wp2_with fail
  have q1 := s1 w
  have q2 := s2 w
  refine (IH.out _ _ I0.out.1).mono ?_
  rintro e w4 ⟨u, rfl, k4, p4⟩
  have I4 := hid (And.intro (I0.out.1.kept k4) (I0.out.2.kept k4))
  obtain ⟨a4, c4, rfl⟩ := Ho.form p4
  have K4 := hid k4
  have P4 := hid p4
  clear k4 p4 I0 q1 q2
  have q1 := s1 w4
  have q2 := s2 w4
  go_wp2_with fail
  refine (IR.out _ _ I4.out.2).mono ?_
  rintro e w5 ⟨rfl, k5⟩
  have K5 := hid (K4.out.trans k5)
  have P5 := hid (P4.out.kept k5 (fun _ _ h => h))
  have hrow := Blk.new w5 (R.map u8v).toArray 25
  have ka : Kept None w5 (w5.alloc (.cells (R.map u8v).toArray 25)) := (Kept.refl _ _).alloc _
  have HO := hid (P5.out.kept ka (fun _ _ h => h))
  have HU := hid (Hs.ofBlk hrow HL.out.1)
  have KW := hid (K5.out.trans ka)
  have HA : Hid ((R.map u8v).toArray.size = 32) := hid (by simpa using HL.out.1)
  clear k5 hrow ka K4 K5 P4 P5 q1 q2 s1 s2
  go_wp2_with (first | (refine wpList_one_item rfl _ _ rfl Hk.rtHashes (by decide) rfl HA.out ?_) | (at_builtin; refine wpList_append_po rfl _ _ 23 rfl Hk.rtHashes (by decide) rfl rfl HO.out.2 HU.out.2 (hsC_one _) (by rw [hsC_len, hsC_len]; have := HL.out; simp; omega) KW.out.size ?_; intro a9 n9 c9 w9 p9 k9 o9) | fail)
  have hown := HO.out.2.own
  have HP9 := hid (And.intro p9 (KW.out.then k9 (fun i hi h => by have := (hown i h).1; omega)))
  clear p9 k9 o9 hown
  go_ret2
  exact ⟨_, rfl, HP9.out.2, HO.out.1.append (H32.one HL.out.1), by rw [hsC_append]; exact HP9.out.1⟩
set_option maxRecDepth 100000 in
set_option maxHeartbeats 1000000 in
theorem path_right (l : List (List UInt8)) (i : Nat) (ps : List (List UInt8)) (R : List UInt8) (v : Value) (w : World) (hv : Rh 0 w v l) (h2 : 2 ≤ l.length) (hl : l.length ≤ 549755813888) (hin : i < l.length) (hi : ¬ i < splitN l.length) (hps : ps.length ≤ 549755813888) (hR : R.length = 32)
    (ih : ∀ v w, Rh 0 w v (l.drop (splitN l.length)) → Calls Try.prog 22 #[v, .int .i64 (i - splitN l.length : Nat)] w fun e w' => ∃ u, e = .returned (.tuple #[u, .bool true]) ∧ Kept None w w' ∧ Ho 25 w' w.heap.size u ps)
    (ihR : ∀ v w, Rh 0 w v (l.take (splitN l.length)) → Calls Try.prog 19 #[v] w fun e w' => e = .returned (hashV R) ∧ Kept None w w') :
    Calls Try.prog 22 #[v, .int .i64 i] w fun e w' => ∃ u, e = .returned (.tuple #[u, .bool true]) ∧ Kept None w w' ∧ Ho 25 w' w.heap.size u (ps ++ [R]) := by
  obtain ⟨a, cap, rfl⟩ := hv.form
  have g2' : cap ≤ 9223372036854775807 := by
    obtain ⟨hi, hv⟩ := hv
    obtain ⟨_, _, q, _, q2, _⟩ := hv.form
    injection q with _ _ q
    omega
  have hSp := fun w => RLg.split l.length w h2 (by omega)
  have hk := splitN_lt h2
  obtain ⟨k, hkk⟩ : ∃ k, k = splitN l.length := ⟨_, rfl⟩
  rw [← hkk] at ih ihR hSp hk hi
  obtain ⟨n, hn⟩ : ∃ n, n = l.length := ⟨_, rfl⟩
  rw [← hn] at hv h2 hl hSp hk hin ⊢
  obtain ⟨a1, s1, i1⟩ := rh_to Lg8.tHashes Lg8.zHashes hv .i64 k (by omega)
  obtain ⟨a2, s2, i2⟩ := rh_from Lg8.tHashes Lg8.zHashes hv .i64 k (by omega)
  have h2z : (2 : Int) ≤ (n : Int) := by omega
  have hkz : (k : Int) ≤ (n : Int) := by omega
  have hi0 : (0 : Int) ≤ (i : Int) := by omega
  have hiz : (i : Int) < (n : Int) := by omega
  have hik : ¬ (i : Int) < (k : Int) := by omega
  obtain ⟨j, hj⟩ : ∃ j, j = i - k := ⟨_, rfl⟩
  rw [← hj] at ih
  have rj : IntKind.i64.wrap ((i : Int) - (k : Int)) = (j : Int) := by rw [IntKind.wrap_i64]; omega
  have hjz : (j : Int) ≤ (n : Int) := by omega
  have HP := hid hSp
  have IH := hid ih
  have IR := hid ihR
  have I0 := hid (And.intro i1 i2)
  have HL := hid (And.intro hR (And.intro hps hl))
  clear ih ihR hSp hkk hn hv i1 i2 hk h2 hR hps hl hin hi hj
  go_enter Try.func22, Try.ntmps22
  go_wp2_with fail
  refine (HP.out _).mono ?_
  rintro e w3 ⟨rfl, rfl⟩
  go_wp2_with fail
  have q1 := s1 w
  have q2 := s2 w
  refine (IH.out _ _ I0.out.2).mono ?_
  rintro e w4 ⟨u, rfl, k4, p4⟩
  have I4 := hid (And.intro (I0.out.1.kept k4) (I0.out.2.kept k4))
  obtain ⟨a4, c4, rfl⟩ := Ho.form p4
  have K4 := hid k4
  have P4 := hid p4
  clear k4 p4 I0 q1 q2
  have q1 := s1 w4
  have q2 := s2 w4
  go_wp2_with fail
  refine (IR.out _ _ I4.out.1).mono ?_
  rintro e w5 ⟨rfl, k5⟩
  have K5 := hid (K4.out.trans k5)
  have P5 := hid (P4.out.kept k5 (fun _ _ h => h))
  have hrow := Blk.new w5 (R.map u8v).toArray 25
  have ka : Kept None w5 (w5.alloc (.cells (R.map u8v).toArray 25)) := (Kept.refl _ _).alloc _
  have HO := hid (P5.out.kept ka (fun _ _ h => h))
  have HU := hid (Hs.ofBlk hrow HL.out.1)
  have KW := hid (K5.out.trans ka)
  have HA : Hid ((R.map u8v).toArray.size = 32) := hid (by simpa using HL.out.1)
  clear k5 hrow ka K4 K5 P4 P5 q1 q2 s1 s2
  go_wp2_with (first | (refine wpList_one_item rfl _ _ rfl Hk.rtHashes (by decide) rfl HA.out ?_) | (at_builtin; refine wpList_append_po rfl _ _ 23 rfl Hk.rtHashes (by decide) rfl rfl HO.out.2 HU.out.2 (hsC_one _) (by rw [hsC_len, hsC_len]; have := HL.out; simp; omega) KW.out.size ?_; intro a9 n9 c9 w9 p9 k9 o9) | fail)
  have hown := HO.out.2.own
  have HP9 := hid (And.intro p9 (KW.out.then k9 (fun i hi h => by have := (hown i h).1; omega)))
  clear p9 k9 o9 hown
  go_ret2
  exact ⟨_, rfl, HP9.out.2, HO.out.1.append (H32.one HL.out.1), by rw [hsC_append]; exact HP9.out.1⟩
/-- Path. -/
theorem path : ∀ (f : Nat) (l : List (List UInt8)) (i : Nat) (v : Value) (w : World), Rh 0 w v l → l.length ≤ f → l.length ≤ 549755813888 → i < l.length → Calls Try.prog 22 #[v, .int .i64 i] w fun e w' => ∃ u, e = .returned (.tuple #[u, .bool true]) ∧ Kept None w w' ∧ Ho 25 w' w.heap.size u (pathL l i) := by
  intro f
  induction f with
  | zero =>
    intro l i v w hv hf hl hi
    omega
  | succ f ih =>
    intro l i v w hv hf hl hi
    by_cases h1 : l.length = 1
    · obtain ⟨x, rfl⟩ := List.length_eq_one_iff.1 h1
      obtain rfl : i = 0 := by simpa using hi
      exact path_one x v w hv
    have h2 : 2 ≤ l.length := by omega
    have hH : H32 l := by
      obtain ⟨_, h⟩ := hv
      exact h.1
    have hk := splitN_lt h2
    have hp := splitN_pos h2
    by_cases hs : i < splitN l.length
    · have hlen := pathL_len l.length (l := l.take (splitN l.length)) i (by rw [List.length_take]; omega)
      rw [List.length_take] at hlen
      rw [pathL_left h2 hs]
      exact path_left l i _ _ v w hv h2 hl hi hs (by omega) (rootL_len (hH.drop _)) (fun v w h => ih _ i v w h (by rw [List.length_take]; omega) (by rw [List.length_take]; omega) (by rw [List.length_take]; omega)) (fun v w h => RLg.root l.length _ v w h (by rw [List.length_drop]; omega) (by rw [List.length_drop]; omega))
    · have hlen := pathL_len l.length (l := l.drop (splitN l.length)) (i - splitN l.length) (by rw [List.length_drop]; omega)
      rw [List.length_drop] at hlen
      rw [pathL_right h2 hs]
      exact path_right l i _ _ v w hv h2 hl hi hs (by omega) (rootL_len (hH.take _)) (fun v w h => ih _ (i - splitN l.length) v w h (by rw [List.length_drop]; omega) (by rw [List.length_drop]; omega) (by rw [List.length_drop]; omega)) (fun v w h => RLg.root l.length _ v w h (by rw [List.length_take]; omega) (by rw [List.length_take]; omega))
set_option maxRecDepth 100000 in
/-- Path, of a place that isn't there. -/
theorem path_out (l : List (List UInt8)) (i : Int) (v : Value) (w : World) (hv : Rh 0 w v l) (hi : i < 0 ∨ (l.length : Int) ≤ i) : Calls Try.prog 22 #[v, .int .i64 i] w fun e w' => e = .returned (.tuple #[.slice none 0 0, .bool false]) ∧ w = w' := by
  obtain ⟨a, cap, rfl⟩ := hv.form
  obtain ⟨n, hn⟩ : ∃ n, n = l.length := ⟨_, rfl⟩
  rw [← hn] at hi ⊢
  clear hv hn
  by_cases h0 : i < 0
  · clear hi
    go_enter Try.func22, Try.ntmps22
    go_wp2
    go_ret2
    exact ⟨rfl, rfl⟩
  · have h1 : (n : Int) ≤ i := by omega
    clear hi
    go_enter Try.func22, Try.ntmps22
    go_wp2
    go_ret2
    exact ⟨rfl, rfl⟩
end RLg
end Go.Proofs.Ytdlnikkfpfdbbaa
