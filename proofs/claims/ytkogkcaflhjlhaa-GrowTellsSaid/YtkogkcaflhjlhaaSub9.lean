/- sub and Prove of packages grow and postmarkref8: by contract. -/
import Derived.Test.YtkogkcaflhjlhaaHo8
import Derived.Test.YtkogkcaflhjlhaaGrow9
namespace Go.Pm
open Go Go.RowKit
theorem Ho.one (w : World) (e : TypeId) {p : List UInt8} (hp : p.length = 32) : Ho e (w.alloc (.cells (p.map u8v).toArray e)) w.heap.size (.slice (some ⟨w.heap.size, 0, none⟩) 1 1) [p] := ⟨H32.one hp, Po.one 32 w e (p.map u8v) (by simpa using hp)⟩
end Go.Pm
namespace Go.Proofs.Ytkogkcaflhjlhaa
open Go.RowKit Go.Pm
namespace Gr
set_option maxRecDepth 100000 in
theorem sub_whole (l : List (List UInt8)) (v : Value) (w : World) (hv : Rh 0 w v l) : Calls Try.prog 39 #[v, .int .i64 l.length, .bool true] w fun e w' => ∃ u, e = .returned (u) ∧ Kept None w w' ∧ Ho 25 w' w.heap.size u [] := by
  obtain ⟨a, cap, rfl⟩ := hv.form
  obtain ⟨n, hn⟩ : ∃ n, n = l.length := ⟨_, rfl⟩
  rw [← hn]
  clear hv hn
  go_enter Try.func39, Try.ntmps39
  go_wp2
  go_ret
  exact ⟨_, rfl, Kept.refl _ _, Ho.nil _ _ _⟩
set_option maxRecDepth 100000 in
set_option maxHeartbeats 1000000 in
theorem sub_part (l : List (List UInt8)) (R : List UInt8) (v : Value) (w : World) (hv : Rh 0 w v l) (hR : R.length = 32)
    (ihR : ∀ v w, Rh 0 w v l → Calls Try.prog 75 #[v] w fun e w' => e = .returned (hashV R) ∧ Kept None w w') :
    Calls Try.prog 39 #[v, .int .i64 l.length, .bool false] w fun e w' => ∃ u, e = .returned (u) ∧ Kept None w w' ∧ Ho 25 w' w.heap.size u [R] := by
  obtain ⟨a, cap, rfl⟩ := hv.form
  have HR := hid (ihR _ _ hv)
  obtain ⟨n, hn⟩ : ∃ n, n = l.length := ⟨_, rfl⟩
  rw [← hn] at HR ⊢
  have HA : Hid ((R.map u8v).toArray.size = 32) := hid (by simpa using hR)
  have H3 := hid hR
  clear hv hn ihR hR
  go_enter Try.func39, Try.ntmps39
  go_wp2_with fail
  refine HR.out.mono ?_
  rintro e w3 ⟨rfl, k3⟩
  have HO := hid ((Ho.one w3 25 H3.out).base k3.size)
  have KW := hid (k3.trans ((Kept.refl _ _).alloc (.cells (R.map u8v).toArray 25)))
  clear k3 HR
  go_wp2_with (first | (refine wpList_one_item rfl _ _ rfl Hk.rtHashes (by decide) rfl HA.out ?_) | fail)
  go_ret
  exact ⟨_, rfl, KW.out, HO.out⟩
set_option maxRecDepth 100000 in
set_option maxHeartbeats 1000000 in
theorem sub_left (l : List (List UInt8)) (m : Nat) (wh : Bool) (ps : List (List UInt8)) (R : List UInt8) (v : Value) (w : World) (hv : Rh 0 w v l) (h2 : 2 ≤ l.length) (hl : l.length ≤ 549755813888) (h1 : 1 ≤ m) (hin : m < l.length) (hi : m ≤ splitN l.length) (hps : ps.length ≤ 549755813888) (hR : R.length = 32)
    (ih : ∀ v w, Rh 0 w v (l.take (splitN l.length)) → Calls Try.prog 39 #[v, .int .i64 m, .bool wh] w fun e w' => ∃ u, e = .returned (u) ∧ Kept None w w' ∧ Ho 25 w' w.heap.size u ps)
    (ihR : ∀ v w, Rh 0 w v (l.drop (splitN l.length)) → Calls Try.prog 75 #[v] w fun e w' => e = .returned (hashV R) ∧ Kept None w w') :
    Calls Try.prog 39 #[v, .int .i64 m, .bool wh] w fun e w' => ∃ u, e = .returned (u) ∧ Kept None w w' ∧ Ho 25 w' w.heap.size u (ps ++ [R]) := by
  obtain ⟨a, cap, rfl⟩ := hv.form
  have g2' : cap ≤ 9223372036854775807 := by
    obtain ⟨hi, hv⟩ := hv
    obtain ⟨_, _, q, _, q2, _⟩ := hv.form
    injection q with _ _ q
    omega
  have hSp := fun w => Lg.split l.length w h2 (by omega)
  have hk := splitN_lt h2
  obtain ⟨k, hkk⟩ : ∃ k, k = splitN l.length := ⟨_, rfl⟩
  rw [← hkk] at ih ihR hSp hk hi
  obtain ⟨n, hn⟩ : ∃ n, n = l.length := ⟨_, rfl⟩
  rw [← hn] at hv h2 hl hSp hk hin ⊢
  obtain ⟨a1, s1, i1⟩ := rh_to Lg8.tHashes Lg8.zHashes hv .i64 k (by omega)
  obtain ⟨a2, s2, i2⟩ := rh_from Lg8.tHashes Lg8.zHashes hv .i64 k (by omega)
  have h2z : (2 : Int) ≤ (n : Int) := by omega
  have hkz : (k : Int) ≤ (n : Int) := by omega
  have hi0 : (1 : Int) ≤ (m : Int) := by omega
  have hin0 : ¬ (m : Int) = (n : Int) := by omega
  have hiz : (m : Int) < (n : Int) := by omega
  have hik : (m : Int) ≤ (k : Int) := by omega
  have HP := hid hSp
  have IH := hid ih
  have IR := hid ihR
  have I0 := hid (And.intro i1 i2)
  have HL := hid (And.intro hR (And.intro hps hl))
  clear ih ihR hSp hkk hn hv i1 i2 hk h2 hR hps hl hin hi h1
  go_enter Try.func39, Try.ntmps39
  go_wp2_with fail
  refine (HP.out _).mono ?_
  rintro e w3 ⟨rfl, rfl⟩
  go_wp2_with fail
  have hs : Steady [.ho 5 25 w.heap.size ps, .val 9 (hashV R), .hash1 10 w.heap.size 25 R] := Steady.ho (Steady.val (Steady.hash1 (Steady.nil)))
  refine wp_region_kn_tail 11 w _ hs (Kept.refl _ _) (by kernel_rfl) (by kernel_rfl) (by kernel_rfl) ?_
  simp only [List.take_succ_cons, List.take_zero, List.drop_succ_cons, List.drop_zero]
  iterate 5 (refine wpPar_pure rfl (by rfl) _ (fun W hW => by
      have q1 := s1 W
      have q2 := s2 W
      go_simp
      exact rfl) ?_; simp only [Act.put, List.setIfInBounds_toArray, List.set_cons_zero, List.set_cons_succ])
  refine wpKn_adds hs rfl (by rfl) (fun W hW hd => ?_) (fun v5 hv => ?_)
  · unfold Gives
    go_simp
    refine gives_call (IH.out _ _ (I0.out.1.kept hW)) ?_
    rintro e w3 ⟨u, rfl, k3, p3⟩
    obtain ⟨a3, c3, rfl⟩ := Ho.form p3
    exact ⟨_, rfl, k3, ⟨_, _, rfl⟩, p3.base hW.size⟩
  obtain ⟨a4, c4, rfl⟩ : ∃ a c, v5 = .slice a ps.length c := hv
  simp only [Act.put, List.setIfInBounds_toArray, List.set_cons_zero, List.set_cons_succ]
  iterate 3 (refine wpPar_pure rfl (by rfl) _ (fun W hW => by
      have q1 := s1 W
      have q2 := s2 W
      go_simp
      exact rfl) ?_; simp only [Act.put, List.setIfInBounds_toArray, List.set_cons_zero, List.set_cons_succ])
  refine wpKn_adds hs rfl (by rfl) (fun W hW hd => ?_) (fun v9 hv => ?_)
  · unfold Gives
    go_simp
    refine gives_call (IR.out _ _ (I0.out.2.kept hW)) ?_
    rintro e w3 ⟨rfl, k3⟩
    exact ⟨_, rfl, k3, rfl, trivial⟩
  obtain rfl : v9 = hashV R := hv
  simp only [Act.put, List.setIfInBounds_toArray, List.set_cons_zero, List.set_cons_succ]
  refine wpKn_adds hs rfl (by rfl) (fun W hW hd => ?_) (fun v10 hv => ?_)
  · unfold Gives
    rw [exec_one_item 23 (.tmp 31) rfl Hk.rtHashes (by decide) (A := (R.map u8v).toArray) rfl (by simpa using HL.out.1)]
    exact ⟨(Kept.refl None W).alloc _, ⟨_, rfl⟩, _, rfl, hW.size, Blk.new W _ _⟩
  obtain ⟨g4, rfl⟩ : ∃ g, v10 = .slice (some ⟨g, 0, none⟩) 1 1 := hv
  simp only [Act.put, List.setIfInBounds_toArray, List.set_cons_zero, List.set_cons_succ]
  refine wpPar_nil (fun w6 hW hG => ?_)
  have hO : Ho 25 w6 w.heap.size (.slice a4 ps.length c4) ps := hG 5
  obtain ⟨g, hgg, hg2, hg3⟩ : ∃ g, Value.slice (some ⟨g4, 0, none⟩) 1 1 = .slice (some ⟨g, 0, none⟩) 1 1 ∧ w.heap.size ≤ g ∧ Blk w6 g (R.map u8v).toArray 25 := hG 10
  obtain rfl : g4 = g := by simpa using hgg
  have hu := Hs.ofBlk hg3 HL.out.1
  have HO := hid hO
  have HU := hid hu
  have KW := hid hW
  clear hG hs hW hO hu hg2 hg3 hgg s1 s2
  go_wp2_with (first | (at_builtin; refine wpList_append_po rfl _ _ 23 rfl Hk.rtHashes (by decide) rfl rfl HO.out.2 HU.out.2 (hsC_one _) (by rw [hsC_len, hsC_len]; have := HL.out; simp; omega) KW.out.size ?_; intro a9 n9 c9 w9 p9 k9 o9) | fail)
  have hown := HO.out.2.own
  have HP9 := hid (And.intro p9 (KW.out.then k9 (fun i hi h => by have := (hown i h).1; omega)))
  clear p9 k9 o9 hown
  go_ret
  exact ⟨_, rfl, HP9.out.2, HO.out.1.append (H32.one HL.out.1), by rw [hsC_append]; exact HP9.out.1⟩
set_option maxRecDepth 100000 in
set_option maxHeartbeats 1000000 in
theorem sub_right (l : List (List UInt8)) (m : Nat) (wh : Bool) (ps : List (List UInt8)) (R : List UInt8) (v : Value) (w : World) (hv : Rh 0 w v l) (h2 : 2 ≤ l.length) (hl : l.length ≤ 549755813888) (h1 : 1 ≤ m) (hin : m < l.length) (hi : ¬ m ≤ splitN l.length) (hps : ps.length ≤ 549755813888) (hR : R.length = 32)
    (ih : ∀ v w, Rh 0 w v (l.drop (splitN l.length)) → Calls Try.prog 39 #[v, .int .i64 (m - splitN l.length : Nat), .bool false] w fun e w' => ∃ u, e = .returned (u) ∧ Kept None w w' ∧ Ho 25 w' w.heap.size u ps)
    (ihR : ∀ v w, Rh 0 w v (l.take (splitN l.length)) → Calls Try.prog 75 #[v] w fun e w' => e = .returned (hashV R) ∧ Kept None w w') :
    Calls Try.prog 39 #[v, .int .i64 m, .bool wh] w fun e w' => ∃ u, e = .returned (u) ∧ Kept None w w' ∧ Ho 25 w' w.heap.size u (ps ++ [R]) := by
  obtain ⟨a, cap, rfl⟩ := hv.form
  have g2' : cap ≤ 9223372036854775807 := by
    obtain ⟨hi, hv⟩ := hv
    obtain ⟨_, _, q, _, q2, _⟩ := hv.form
    injection q with _ _ q
    omega
  have hSp := fun w => Lg.split l.length w h2 (by omega)
  have hk := splitN_lt h2
  obtain ⟨k, hkk⟩ : ∃ k, k = splitN l.length := ⟨_, rfl⟩
  rw [← hkk] at ih ihR hSp hk hi
  obtain ⟨n, hn⟩ : ∃ n, n = l.length := ⟨_, rfl⟩
  rw [← hn] at hv h2 hl hSp hk hin ⊢
  obtain ⟨a1, s1, i1⟩ := rh_to Lg8.tHashes Lg8.zHashes hv .i64 k (by omega)
  obtain ⟨a2, s2, i2⟩ := rh_from Lg8.tHashes Lg8.zHashes hv .i64 k (by omega)
  have h2z : (2 : Int) ≤ (n : Int) := by omega
  have hkz : (k : Int) ≤ (n : Int) := by omega
  have hi0 : (1 : Int) ≤ (m : Int) := by omega
  have hin0 : ¬ (m : Int) = (n : Int) := by omega
  have hiz : (m : Int) < (n : Int) := by omega
  have hik : ¬ (m : Int) ≤ (k : Int) := by omega
  obtain ⟨j, hj⟩ : ∃ j, j = m - k := ⟨_, rfl⟩
  rw [← hj] at ih
  have rj : IntKind.i64.wrap ((m : Int) - (k : Int)) = (j : Int) := by rw [IntKind.wrap_i64]; omega
  have hjz : (j : Int) ≤ (n : Int) := by omega
  have HP := hid hSp
  have IH := hid ih
  have IR := hid ihR
  have I0 := hid (And.intro i1 i2)
  have HL := hid (And.intro hR (And.intro hps hl))
  clear ih ihR hSp hkk hn hv i1 i2 hk h2 hR hps hl hin hi hj h1
  go_enter Try.func39, Try.ntmps39
  go_wp2_with fail
  refine (HP.out _).mono ?_
  rintro e w3 ⟨rfl, rfl⟩
  go_wp2_with fail
  have hs : Steady [.ho 6 25 w.heap.size ps, .val 10 (hashV R), .hash1 11 w.heap.size 25 R] := Steady.ho (Steady.val (Steady.hash1 (Steady.nil)))
  refine wp_region_kn_tail 12 w _ hs (Kept.refl _ _) (by kernel_rfl) (by kernel_rfl) (by kernel_rfl) ?_
  simp only [List.take_succ_cons, List.take_zero, List.drop_succ_cons, List.drop_zero]
  iterate 6 (refine wpPar_pure rfl (by rfl) _ (fun W hW => by
      have q1 := s1 W
      have q2 := s2 W
      go_simp
      exact rfl) ?_; simp only [Act.put, List.setIfInBounds_toArray, List.set_cons_zero, List.set_cons_succ])
  refine wpKn_adds hs rfl (by rfl) (fun W hW hd => ?_) (fun v6 hv => ?_)
  · unfold Gives
    go_simp
    refine gives_call (IH.out _ _ (I0.out.2.kept hW)) ?_
    rintro e w3 ⟨u, rfl, k3, p3⟩
    obtain ⟨a3, c3, rfl⟩ := Ho.form p3
    exact ⟨_, rfl, k3, ⟨_, _, rfl⟩, p3.base hW.size⟩
  obtain ⟨a4, c4, rfl⟩ : ∃ a c, v6 = .slice a ps.length c := hv
  simp only [Act.put, List.setIfInBounds_toArray, List.set_cons_zero, List.set_cons_succ]
  iterate 3 (refine wpPar_pure rfl (by rfl) _ (fun W hW => by
      have q1 := s1 W
      have q2 := s2 W
      go_simp
      exact rfl) ?_; simp only [Act.put, List.setIfInBounds_toArray, List.set_cons_zero, List.set_cons_succ])
  refine wpKn_adds hs rfl (by rfl) (fun W hW hd => ?_) (fun v10 hv => ?_)
  · unfold Gives
    go_simp
    refine gives_call (IR.out _ _ (I0.out.1.kept hW)) ?_
    rintro e w3 ⟨rfl, k3⟩
    exact ⟨_, rfl, k3, rfl, trivial⟩
  obtain rfl : v10 = hashV R := hv
  simp only [Act.put, List.setIfInBounds_toArray, List.set_cons_zero, List.set_cons_succ]
  refine wpKn_adds hs rfl (by rfl) (fun W hW hd => ?_) (fun v11 hv => ?_)
  · unfold Gives
    rw [exec_one_item 23 (.tmp 44) rfl Hk.rtHashes (by decide) (A := (R.map u8v).toArray) rfl (by simpa using HL.out.1)]
    exact ⟨(Kept.refl None W).alloc _, ⟨_, rfl⟩, _, rfl, hW.size, Blk.new W _ _⟩
  obtain ⟨g4, rfl⟩ : ∃ g, v11 = .slice (some ⟨g, 0, none⟩) 1 1 := hv
  simp only [Act.put, List.setIfInBounds_toArray, List.set_cons_zero, List.set_cons_succ]
  refine wpPar_nil (fun w6 hW hG => ?_)
  have hO : Ho 25 w6 w.heap.size (.slice a4 ps.length c4) ps := hG 6
  obtain ⟨g, hgg, hg2, hg3⟩ : ∃ g, Value.slice (some ⟨g4, 0, none⟩) 1 1 = .slice (some ⟨g, 0, none⟩) 1 1 ∧ w.heap.size ≤ g ∧ Blk w6 g (R.map u8v).toArray 25 := hG 11
  obtain rfl : g4 = g := by simpa using hgg
  have hu := Hs.ofBlk hg3 HL.out.1
  have HO := hid hO
  have HU := hid hu
  have KW := hid hW
  clear hG hs hW hO hu hg2 hg3 hgg s1 s2
  go_wp2_with (first | (at_builtin; refine wpList_append_po rfl _ _ 23 rfl Hk.rtHashes (by decide) rfl rfl HO.out.2 HU.out.2 (hsC_one _) (by rw [hsC_len, hsC_len]; have := HL.out; simp; omega) KW.out.size ?_; intro a9 n9 c9 w9 p9 k9 o9) | fail)
  have hown := HO.out.2.own
  have HP9 := hid (And.intro p9 (KW.out.then k9 (fun i hi h => by have := (hown i h).1; omega)))
  clear p9 k9 o9 hown
  go_ret
  exact ⟨_, rfl, HP9.out.2, HO.out.1.append (H32.one HL.out.1), by rw [hsC_append]; exact HP9.out.1⟩
/-- sub. -/
theorem sub : ∀ (f : Nat) (l : List (List UInt8)) (m : Nat) (wh : Bool) (v : Value) (w : World), Rh 0 w v l → l.length ≤ f → l.length ≤ 549755813888 → 1 ≤ m → m ≤ l.length → Calls Try.prog 39 #[v, .int .i64 m, .bool wh] w fun e w' => ∃ u, e = .returned (u) ∧ Kept None w w' ∧ Ho 25 w' w.heap.size u (subL l m wh) := by
  intro f
  induction f with
  | zero =>
    intro l m wh v w hv hf hl h1 hm
    omega
  | succ f ih =>
    intro l m wh v w hv hf hl h1 hm
    have hH : H32 l := by
      obtain ⟨_, h⟩ := hv
      exact h.1
    by_cases he : m = l.length
    · subst he
      rw [subL_all h1]
      cases wh with
      | true => exact sub_whole l v w hv
      | false => exact sub_part l _ v w hv (rootL_len hH) (fun v w h => Lg.root l.length _ v w h (Nat.le_refl _) hl)
    have h2 : 2 ≤ l.length := by omega
    have hk := splitN_lt h2
    have hp := splitN_pos h2
    by_cases hs : m ≤ splitN l.length
    · have hlen := subL_len l.length (l := l.take (splitN l.length)) m wh (by rw [List.length_take]; omega) h1 (by rw [List.length_take]; omega)
      rw [List.length_take] at hlen
      rw [subL_left h1 (by omega) hs]
      exact sub_left l m wh _ _ v w hv h2 hl h1 (by omega) hs (by omega) (rootL_len (hH.drop _)) (fun v w h => ih _ m wh v w h (by rw [List.length_take]; omega) (by rw [List.length_take]; omega) h1 (by rw [List.length_take]; omega)) (fun v w h => Lg.root l.length _ v w h (by rw [List.length_drop]; omega) (by rw [List.length_drop]; omega))
    · have hlen := subL_len l.length (l := l.drop (splitN l.length)) (m - splitN l.length) false (by rw [List.length_drop]; omega) (by omega) (by rw [List.length_drop]; omega)
      rw [List.length_drop] at hlen
      rw [subL_right (by omega) hs]
      exact sub_right l m wh _ _ v w hv h2 hl h1 (by omega) hs (by omega) (rootL_len (hH.take _)) (fun v w h => ih _ (m - splitN l.length) false v w h (by rw [List.length_drop]; omega) (by rw [List.length_drop]; omega) (by omega) (by rw [List.length_drop]; omega)) (fun v w h => Lg.root l.length _ v w h (by rw [List.length_take]; omega) (by rw [List.length_take]; omega))
set_option maxRecDepth 100000 in
/-- Prove, of a length that no elder log has. -/
theorem prove_out (l : List (List UInt8)) (i : Int) (v : Value) (w : World) (hv : Rh 0 w v l) (hi : i < 1 ∨ (l.length : Int) < i) : Calls Try.prog 12 #[v, .int .i64 i] w fun e w' => e = .returned (.tuple #[.slice none 0 0, .bool false]) ∧ w = w' := by
  obtain ⟨a, cap, rfl⟩ := hv.form
  obtain ⟨n, hn⟩ : ∃ n, n = l.length := ⟨_, rfl⟩
  rw [← hn] at hi ⊢
  clear hv hn
  by_cases h0 : i < 1
  · clear hi
    go_enter Try.func12, Try.ntmps12
    go_wp2
    go_ret2
    exact ⟨rfl, rfl⟩
  · have h1 : (n : Int) < i := by omega
    clear hi
    go_enter Try.func12, Try.ntmps12
    go_wp2
    go_ret2
    exact ⟨rfl, rfl⟩
set_option maxRecDepth 100000 in
/-- Prove. -/
theorem prove (l : List (List UInt8)) (m : Nat) (v : Value) (w : World) (hv : Rh 0 w v l) (hl : l.length ≤ 549755813888) (h1 : 1 ≤ m) (hm : m ≤ l.length) : Calls Try.prog 12 #[v, .int .i64 m] w fun e w' => ∃ u, e = .returned (.tuple #[u, .bool true]) ∧ Kept None w w' ∧ Ho 25 w' w.heap.size u (subL l m true) := by
  have H := hid (sub l.length l m true v w hv (Nat.le_refl _) hl h1 hm)
  obtain ⟨a, cap, rfl⟩ := hv.form
  obtain ⟨n, hn⟩ : ∃ n, n = l.length := ⟨_, rfl⟩
  rw [← hn] at H hm ⊢
  have h0 : (1 : Int) ≤ (m : Int) := by omega
  have h2 : (m : Int) ≤ (n : Int) := by omega
  clear hv hn h1 hm hl
  go_enter Try.func12, Try.ntmps12
  go_wp2_with fail
  refine H.out.mono ?_
  rintro e w4 ⟨u, rfl, k4, p4⟩
  have P4 := hid (And.intro k4 p4)
  obtain ⟨a4, c4, rfl⟩ := Ho.form p4
  clear k4 p4
  go_wp2
  go_ret2
  exact ⟨_, rfl, P4.out.1, P4.out.2⟩
end Gr
namespace RGr
set_option maxRecDepth 100000 in
theorem sub_whole (l : List (List UInt8)) (v : Value) (w : World) (hv : Rh 0 w v l) : Calls Try.prog 40 #[v, .int .i64 l.length, .bool true] w fun e w' => ∃ u, e = .returned (u) ∧ Kept None w w' ∧ Ho 25 w' w.heap.size u [] := by
  obtain ⟨a, cap, rfl⟩ := hv.form
  obtain ⟨n, hn⟩ : ∃ n, n = l.length := ⟨_, rfl⟩
  rw [← hn]
  clear hv hn
  go_enter Try.func40, Try.ntmps40
  go_wp2
  go_ret
  exact ⟨_, rfl, Kept.refl _ _, Ho.nil _ _ _⟩
set_option maxRecDepth 100000 in
set_option maxHeartbeats 1000000 in
theorem sub_part (l : List (List UInt8)) (R : List UInt8) (v : Value) (w : World) (hv : Rh 0 w v l) (hR : R.length = 32)
    (ihR : ∀ v w, Rh 0 w v l → Calls Try.prog 15 #[v] w fun e w' => e = .returned (hashV R) ∧ Kept None w w') :
    Calls Try.prog 40 #[v, .int .i64 l.length, .bool false] w fun e w' => ∃ u, e = .returned (u) ∧ Kept None w w' ∧ Ho 25 w' w.heap.size u [R] := by
  obtain ⟨a, cap, rfl⟩ := hv.form
  have HR := hid (ihR _ _ hv)
  obtain ⟨n, hn⟩ : ∃ n, n = l.length := ⟨_, rfl⟩
  rw [← hn] at HR ⊢
  have HA : Hid ((R.map u8v).toArray.size = 32) := hid (by simpa using hR)
  have H3 := hid hR
  clear hv hn ihR hR
  go_enter Try.func40, Try.ntmps40
  go_wp2_with fail
  refine HR.out.mono ?_
  rintro e w3 ⟨rfl, k3⟩
  have HO := hid ((Ho.one w3 25 H3.out).base k3.size)
  have KW := hid (k3.trans ((Kept.refl _ _).alloc (.cells (R.map u8v).toArray 25)))
  clear k3 HR
  go_wp2_with (first | (refine wpList_one_item rfl _ _ rfl Hk.rtHashes (by decide) rfl HA.out ?_) | fail)
  go_ret
  exact ⟨_, rfl, KW.out, HO.out⟩
set_option maxRecDepth 100000 in
set_option maxHeartbeats 1000000 in
theorem sub_left (l : List (List UInt8)) (m : Nat) (wh : Bool) (ps : List (List UInt8)) (R : List UInt8) (v : Value) (w : World) (hv : Rh 0 w v l) (h2 : 2 ≤ l.length) (hl : l.length ≤ 549755813888) (h1 : 1 ≤ m) (hin : m < l.length) (hi : m ≤ splitN l.length) (hps : ps.length ≤ 549755813888) (hR : R.length = 32)
    (ih : ∀ v w, Rh 0 w v (l.take (splitN l.length)) → Calls Try.prog 40 #[v, .int .i64 m, .bool wh] w fun e w' => ∃ u, e = .returned (u) ∧ Kept None w w' ∧ Ho 25 w' w.heap.size u ps)
    (ihR : ∀ v w, Rh 0 w v (l.drop (splitN l.length)) → Calls Try.prog 15 #[v] w fun e w' => e = .returned (hashV R) ∧ Kept None w w') :
    Calls Try.prog 40 #[v, .int .i64 m, .bool wh] w fun e w' => ∃ u, e = .returned (u) ∧ Kept None w w' ∧ Ho 25 w' w.heap.size u (ps ++ [R]) := by
  obtain ⟨a, cap, rfl⟩ := hv.form
  have g2' : cap ≤ 9223372036854775807 := by
    obtain ⟨hi, hv⟩ := hv
    obtain ⟨_, _, q, _, q2, _⟩ := hv.form
    injection q with _ _ q
    omega
  have hSp := fun w => RLg.split l.length w h2 (by omega)
  have hk := splitN_lt h2
  obtain ⟨k, hkk⟩ : ∃ k, k = splitN l.length := ⟨_, rfl⟩
  rw [← hkk] at ih ihR hSp hk hi
  obtain ⟨n, hn⟩ : ∃ n, n = l.length := ⟨_, rfl⟩
  rw [← hn] at hv h2 hl hSp hk hin ⊢
  obtain ⟨a1, s1, i1⟩ := rh_to Lg8.tHashes Lg8.zHashes hv .i64 k (by omega)
  obtain ⟨a2, s2, i2⟩ := rh_from Lg8.tHashes Lg8.zHashes hv .i64 k (by omega)
  have h2z : (2 : Int) ≤ (n : Int) := by omega
  have hkz : (k : Int) ≤ (n : Int) := by omega
  have hi0 : (1 : Int) ≤ (m : Int) := by omega
  have hin0 : ¬ (m : Int) = (n : Int) := by omega
  have hiz : (m : Int) < (n : Int) := by omega
  have hik : (m : Int) ≤ (k : Int) := by omega
  have HP := hid hSp
  have IH := hid ih
  have IR := hid ihR
  have I0 := hid (And.intro i1 i2)
  have HL := hid (And.intro hR (And.intro hps hl))
  clear ih ihR hSp hkk hn hv i1 i2 hk h2 hR hps hl hin hi h1
  go_enter Try.func40, Try.ntmps40
  go_wp2_with fail
  refine (HP.out _).mono ?_
  rintro e w3 ⟨rfl, rfl⟩
  go_wp2_with fail
  have hs : Steady [.ho 5 25 w.heap.size ps, .val 9 (hashV R), .hash1 10 w.heap.size 25 R] := Steady.ho (Steady.val (Steady.hash1 (Steady.nil)))
  refine wp_region_kn_tail 11 w _ hs (Kept.refl _ _) (by kernel_rfl) (by kernel_rfl) (by kernel_rfl) ?_
  simp only [List.take_succ_cons, List.take_zero, List.drop_succ_cons, List.drop_zero]
  iterate 5 (refine wpPar_pure rfl (by rfl) _ (fun W hW => by
      have q1 := s1 W
      have q2 := s2 W
      go_simp
      exact rfl) ?_; simp only [Act.put, List.setIfInBounds_toArray, List.set_cons_zero, List.set_cons_succ])
  refine wpKn_adds hs rfl (by rfl) (fun W hW hd => ?_) (fun v5 hv => ?_)
  · unfold Gives
    go_simp
    refine gives_call (IH.out _ _ (I0.out.1.kept hW)) ?_
    rintro e w3 ⟨u, rfl, k3, p3⟩
    obtain ⟨a3, c3, rfl⟩ := Ho.form p3
    exact ⟨_, rfl, k3, ⟨_, _, rfl⟩, p3.base hW.size⟩
  obtain ⟨a4, c4, rfl⟩ : ∃ a c, v5 = .slice a ps.length c := hv
  simp only [Act.put, List.setIfInBounds_toArray, List.set_cons_zero, List.set_cons_succ]
  iterate 3 (refine wpPar_pure rfl (by rfl) _ (fun W hW => by
      have q1 := s1 W
      have q2 := s2 W
      go_simp
      exact rfl) ?_; simp only [Act.put, List.setIfInBounds_toArray, List.set_cons_zero, List.set_cons_succ])
  refine wpKn_adds hs rfl (by rfl) (fun W hW hd => ?_) (fun v9 hv => ?_)
  · unfold Gives
    go_simp
    refine gives_call (IR.out _ _ (I0.out.2.kept hW)) ?_
    rintro e w3 ⟨rfl, k3⟩
    exact ⟨_, rfl, k3, rfl, trivial⟩
  obtain rfl : v9 = hashV R := hv
  simp only [Act.put, List.setIfInBounds_toArray, List.set_cons_zero, List.set_cons_succ]
  refine wpKn_adds hs rfl (by rfl) (fun W hW hd => ?_) (fun v10 hv => ?_)
  · unfold Gives
    rw [exec_one_item 23 (.tmp 31) rfl Hk.rtHashes (by decide) (A := (R.map u8v).toArray) rfl (by simpa using HL.out.1)]
    exact ⟨(Kept.refl None W).alloc _, ⟨_, rfl⟩, _, rfl, hW.size, Blk.new W _ _⟩
  obtain ⟨g4, rfl⟩ : ∃ g, v10 = .slice (some ⟨g, 0, none⟩) 1 1 := hv
  simp only [Act.put, List.setIfInBounds_toArray, List.set_cons_zero, List.set_cons_succ]
  refine wpPar_nil (fun w6 hW hG => ?_)
  have hO : Ho 25 w6 w.heap.size (.slice a4 ps.length c4) ps := hG 5
  obtain ⟨g, hgg, hg2, hg3⟩ : ∃ g, Value.slice (some ⟨g4, 0, none⟩) 1 1 = .slice (some ⟨g, 0, none⟩) 1 1 ∧ w.heap.size ≤ g ∧ Blk w6 g (R.map u8v).toArray 25 := hG 10
  obtain rfl : g4 = g := by simpa using hgg
  have hu := Hs.ofBlk hg3 HL.out.1
  have HO := hid hO
  have HU := hid hu
  have KW := hid hW
  clear hG hs hW hO hu hg2 hg3 hgg s1 s2
  go_wp2_with (first | (at_builtin; refine wpList_append_po rfl _ _ 23 rfl Hk.rtHashes (by decide) rfl rfl HO.out.2 HU.out.2 (hsC_one _) (by rw [hsC_len, hsC_len]; have := HL.out; simp; omega) KW.out.size ?_; intro a9 n9 c9 w9 p9 k9 o9) | fail)
  have hown := HO.out.2.own
  have HP9 := hid (And.intro p9 (KW.out.then k9 (fun i hi h => by have := (hown i h).1; omega)))
  clear p9 k9 o9 hown
  go_ret
  exact ⟨_, rfl, HP9.out.2, HO.out.1.append (H32.one HL.out.1), by rw [hsC_append]; exact HP9.out.1⟩
set_option maxRecDepth 100000 in
set_option maxHeartbeats 1000000 in
theorem sub_right (l : List (List UInt8)) (m : Nat) (wh : Bool) (ps : List (List UInt8)) (R : List UInt8) (v : Value) (w : World) (hv : Rh 0 w v l) (h2 : 2 ≤ l.length) (hl : l.length ≤ 549755813888) (h1 : 1 ≤ m) (hin : m < l.length) (hi : ¬ m ≤ splitN l.length) (hps : ps.length ≤ 549755813888) (hR : R.length = 32)
    (ih : ∀ v w, Rh 0 w v (l.drop (splitN l.length)) → Calls Try.prog 40 #[v, .int .i64 (m - splitN l.length : Nat), .bool false] w fun e w' => ∃ u, e = .returned (u) ∧ Kept None w w' ∧ Ho 25 w' w.heap.size u ps)
    (ihR : ∀ v w, Rh 0 w v (l.take (splitN l.length)) → Calls Try.prog 15 #[v] w fun e w' => e = .returned (hashV R) ∧ Kept None w w') :
    Calls Try.prog 40 #[v, .int .i64 m, .bool wh] w fun e w' => ∃ u, e = .returned (u) ∧ Kept None w w' ∧ Ho 25 w' w.heap.size u (ps ++ [R]) := by
  obtain ⟨a, cap, rfl⟩ := hv.form
  have g2' : cap ≤ 9223372036854775807 := by
    obtain ⟨hi, hv⟩ := hv
    obtain ⟨_, _, q, _, q2, _⟩ := hv.form
    injection q with _ _ q
    omega
  have hSp := fun w => RLg.split l.length w h2 (by omega)
  have hk := splitN_lt h2
  obtain ⟨k, hkk⟩ : ∃ k, k = splitN l.length := ⟨_, rfl⟩
  rw [← hkk] at ih ihR hSp hk hi
  obtain ⟨n, hn⟩ : ∃ n, n = l.length := ⟨_, rfl⟩
  rw [← hn] at hv h2 hl hSp hk hin ⊢
  obtain ⟨a1, s1, i1⟩ := rh_to Lg8.tHashes Lg8.zHashes hv .i64 k (by omega)
  obtain ⟨a2, s2, i2⟩ := rh_from Lg8.tHashes Lg8.zHashes hv .i64 k (by omega)
  have h2z : (2 : Int) ≤ (n : Int) := by omega
  have hkz : (k : Int) ≤ (n : Int) := by omega
  have hi0 : (1 : Int) ≤ (m : Int) := by omega
  have hin0 : ¬ (m : Int) = (n : Int) := by omega
  have hiz : (m : Int) < (n : Int) := by omega
  have hik : ¬ (m : Int) ≤ (k : Int) := by omega
  obtain ⟨j, hj⟩ : ∃ j, j = m - k := ⟨_, rfl⟩
  rw [← hj] at ih
  have rj : IntKind.i64.wrap ((m : Int) - (k : Int)) = (j : Int) := by rw [IntKind.wrap_i64]; omega
  have hjz : (j : Int) ≤ (n : Int) := by omega
  have HP := hid hSp
  have IH := hid ih
  have IR := hid ihR
  have I0 := hid (And.intro i1 i2)
  have HL := hid (And.intro hR (And.intro hps hl))
  clear ih ihR hSp hkk hn hv i1 i2 hk h2 hR hps hl hin hi hj h1
  go_enter Try.func40, Try.ntmps40
  go_wp2_with fail
  refine (HP.out _).mono ?_
  rintro e w3 ⟨rfl, rfl⟩
  go_wp2_with fail
  have hs : Steady [.ho 6 25 w.heap.size ps, .val 10 (hashV R), .hash1 11 w.heap.size 25 R] := Steady.ho (Steady.val (Steady.hash1 (Steady.nil)))
  refine wp_region_kn_tail 12 w _ hs (Kept.refl _ _) (by kernel_rfl) (by kernel_rfl) (by kernel_rfl) ?_
  simp only [List.take_succ_cons, List.take_zero, List.drop_succ_cons, List.drop_zero]
  iterate 6 (refine wpPar_pure rfl (by rfl) _ (fun W hW => by
      have q1 := s1 W
      have q2 := s2 W
      go_simp
      exact rfl) ?_; simp only [Act.put, List.setIfInBounds_toArray, List.set_cons_zero, List.set_cons_succ])
  refine wpKn_adds hs rfl (by rfl) (fun W hW hd => ?_) (fun v6 hv => ?_)
  · unfold Gives
    go_simp
    refine gives_call (IH.out _ _ (I0.out.2.kept hW)) ?_
    rintro e w3 ⟨u, rfl, k3, p3⟩
    obtain ⟨a3, c3, rfl⟩ := Ho.form p3
    exact ⟨_, rfl, k3, ⟨_, _, rfl⟩, p3.base hW.size⟩
  obtain ⟨a4, c4, rfl⟩ : ∃ a c, v6 = .slice a ps.length c := hv
  simp only [Act.put, List.setIfInBounds_toArray, List.set_cons_zero, List.set_cons_succ]
  iterate 3 (refine wpPar_pure rfl (by rfl) _ (fun W hW => by
      have q1 := s1 W
      have q2 := s2 W
      go_simp
      exact rfl) ?_; simp only [Act.put, List.setIfInBounds_toArray, List.set_cons_zero, List.set_cons_succ])
  refine wpKn_adds hs rfl (by rfl) (fun W hW hd => ?_) (fun v10 hv => ?_)
  · unfold Gives
    go_simp
    refine gives_call (IR.out _ _ (I0.out.1.kept hW)) ?_
    rintro e w3 ⟨rfl, k3⟩
    exact ⟨_, rfl, k3, rfl, trivial⟩
  obtain rfl : v10 = hashV R := hv
  simp only [Act.put, List.setIfInBounds_toArray, List.set_cons_zero, List.set_cons_succ]
  refine wpKn_adds hs rfl (by rfl) (fun W hW hd => ?_) (fun v11 hv => ?_)
  · unfold Gives
    rw [exec_one_item 23 (.tmp 44) rfl Hk.rtHashes (by decide) (A := (R.map u8v).toArray) rfl (by simpa using HL.out.1)]
    exact ⟨(Kept.refl None W).alloc _, ⟨_, rfl⟩, _, rfl, hW.size, Blk.new W _ _⟩
  obtain ⟨g4, rfl⟩ : ∃ g, v11 = .slice (some ⟨g, 0, none⟩) 1 1 := hv
  simp only [Act.put, List.setIfInBounds_toArray, List.set_cons_zero, List.set_cons_succ]
  refine wpPar_nil (fun w6 hW hG => ?_)
  have hO : Ho 25 w6 w.heap.size (.slice a4 ps.length c4) ps := hG 6
  obtain ⟨g, hgg, hg2, hg3⟩ : ∃ g, Value.slice (some ⟨g4, 0, none⟩) 1 1 = .slice (some ⟨g, 0, none⟩) 1 1 ∧ w.heap.size ≤ g ∧ Blk w6 g (R.map u8v).toArray 25 := hG 11
  obtain rfl : g4 = g := by simpa using hgg
  have hu := Hs.ofBlk hg3 HL.out.1
  have HO := hid hO
  have HU := hid hu
  have KW := hid hW
  clear hG hs hW hO hu hg2 hg3 hgg s1 s2
  go_wp2_with (first | (at_builtin; refine wpList_append_po rfl _ _ 23 rfl Hk.rtHashes (by decide) rfl rfl HO.out.2 HU.out.2 (hsC_one _) (by rw [hsC_len, hsC_len]; have := HL.out; simp; omega) KW.out.size ?_; intro a9 n9 c9 w9 p9 k9 o9) | fail)
  have hown := HO.out.2.own
  have HP9 := hid (And.intro p9 (KW.out.then k9 (fun i hi h => by have := (hown i h).1; omega)))
  clear p9 k9 o9 hown
  go_ret
  exact ⟨_, rfl, HP9.out.2, HO.out.1.append (H32.one HL.out.1), by rw [hsC_append]; exact HP9.out.1⟩
/-- sub. -/
theorem sub : ∀ (f : Nat) (l : List (List UInt8)) (m : Nat) (wh : Bool) (v : Value) (w : World), Rh 0 w v l → l.length ≤ f → l.length ≤ 549755813888 → 1 ≤ m → m ≤ l.length → Calls Try.prog 40 #[v, .int .i64 m, .bool wh] w fun e w' => ∃ u, e = .returned (u) ∧ Kept None w w' ∧ Ho 25 w' w.heap.size u (subL l m wh) := by
  intro f
  induction f with
  | zero =>
    intro l m wh v w hv hf hl h1 hm
    omega
  | succ f ih =>
    intro l m wh v w hv hf hl h1 hm
    have hH : H32 l := by
      obtain ⟨_, h⟩ := hv
      exact h.1
    by_cases he : m = l.length
    · subst he
      rw [subL_all h1]
      cases wh with
      | true => exact sub_whole l v w hv
      | false => exact sub_part l _ v w hv (rootL_len hH) (fun v w h => RLg.root l.length _ v w h (Nat.le_refl _) hl)
    have h2 : 2 ≤ l.length := by omega
    have hk := splitN_lt h2
    have hp := splitN_pos h2
    by_cases hs : m ≤ splitN l.length
    · have hlen := subL_len l.length (l := l.take (splitN l.length)) m wh (by rw [List.length_take]; omega) h1 (by rw [List.length_take]; omega)
      rw [List.length_take] at hlen
      rw [subL_left h1 (by omega) hs]
      exact sub_left l m wh _ _ v w hv h2 hl h1 (by omega) hs (by omega) (rootL_len (hH.drop _)) (fun v w h => ih _ m wh v w h (by rw [List.length_take]; omega) (by rw [List.length_take]; omega) h1 (by rw [List.length_take]; omega)) (fun v w h => RLg.root l.length _ v w h (by rw [List.length_drop]; omega) (by rw [List.length_drop]; omega))
    · have hlen := subL_len l.length (l := l.drop (splitN l.length)) (m - splitN l.length) false (by rw [List.length_drop]; omega) (by omega) (by rw [List.length_drop]; omega)
      rw [List.length_drop] at hlen
      rw [subL_right (by omega) hs]
      exact sub_right l m wh _ _ v w hv h2 hl h1 (by omega) hs (by omega) (rootL_len (hH.take _)) (fun v w h => ih _ (m - splitN l.length) false v w h (by rw [List.length_drop]; omega) (by rw [List.length_drop]; omega) (by omega) (by rw [List.length_drop]; omega)) (fun v w h => RLg.root l.length _ v w h (by rw [List.length_take]; omega) (by rw [List.length_take]; omega))
set_option maxRecDepth 100000 in
/-- Prove, of a length that no elder log has. -/
theorem prove_out (l : List (List UInt8)) (i : Int) (v : Value) (w : World) (hv : Rh 0 w v l) (hi : i < 1 ∨ (l.length : Int) < i) : Calls Try.prog 13 #[v, .int .i64 i] w fun e w' => e = .returned (.tuple #[.slice none 0 0, .bool false]) ∧ w = w' := by
  obtain ⟨a, cap, rfl⟩ := hv.form
  obtain ⟨n, hn⟩ : ∃ n, n = l.length := ⟨_, rfl⟩
  rw [← hn] at hi ⊢
  clear hv hn
  by_cases h0 : i < 1
  · clear hi
    go_enter Try.func13, Try.ntmps13
    go_wp2
    go_ret2
    exact ⟨rfl, rfl⟩
  · have h1 : (n : Int) < i := by omega
    clear hi
    go_enter Try.func13, Try.ntmps13
    go_wp2
    go_ret2
    exact ⟨rfl, rfl⟩
set_option maxRecDepth 100000 in
/-- Prove. -/
theorem prove (l : List (List UInt8)) (m : Nat) (v : Value) (w : World) (hv : Rh 0 w v l) (hl : l.length ≤ 549755813888) (h1 : 1 ≤ m) (hm : m ≤ l.length) : Calls Try.prog 13 #[v, .int .i64 m] w fun e w' => ∃ u, e = .returned (.tuple #[u, .bool true]) ∧ Kept None w w' ∧ Ho 25 w' w.heap.size u (subL l m true) := by
  have H := hid (sub l.length l m true v w hv (Nat.le_refl _) hl h1 hm)
  obtain ⟨a, cap, rfl⟩ := hv.form
  obtain ⟨n, hn⟩ : ∃ n, n = l.length := ⟨_, rfl⟩
  rw [← hn] at H hm ⊢
  have h0 : (1 : Int) ≤ (m : Int) := by omega
  have h2 : (m : Int) ≤ (n : Int) := by omega
  clear hv hn h1 hm hl
  go_enter Try.func13, Try.ntmps13
  go_wp2_with fail
  refine H.out.mono ?_
  rintro e w4 ⟨u, rfl, k4, p4⟩
  have P4 := hid (And.intro k4 p4)
  obtain ⟨a4, c4, rfl⟩ := Ho.form p4
  clear k4 p4
  go_wp2
  go_ret2
  exact ⟨_, rfl, P4.out.1, P4.out.2⟩
end RGr
end Go.Proofs.Ytkogkcaflhjlhaa
