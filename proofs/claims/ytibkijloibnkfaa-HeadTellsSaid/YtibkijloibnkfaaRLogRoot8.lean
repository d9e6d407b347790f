/- postmarkref8.Root: by contract. -/
import Derived.Test.YtibkijloibnkfaaRLogHash8
import Derived.Test.YtibkijloibnkfaaHsCut8
namespace Go.Proofs.Ytibkijloibnkfaa
open Go.RowKit Go.Pm
namespace RLg
set_option maxRecDepth 100000 in
set_option maxHeartbeats 1000000 in
theorem root_nil (v : Value) (w : World) (hv : Rh 0 w v []) : Calls Try.prog 89 #[v] w fun e w' => e = .returned (hashV emptyL) ∧ Kept None w w' := by
  obtain ⟨a, cap, rfl⟩ := hv.form
  show Calls Try.prog 89 #[.slice a 0 cap] w _
  have hs := fun w => Ref.tag 69 (.slice none 0 0) 0 0 0 0 [] w (by decide) (by decide) ⟨[], Vs.nil w 0 0, rfl, fun i x l h _ => by simp at h⟩ (by simp) (by simp [total])
  have e32 : emptyL.length = 32 := sumB_len _
  rw [show sumB (textB 69 []) = emptyL from rfl] at hs
  obtain ⟨res, hres⟩ : ∃ res, res = emptyL := ⟨_, rfl⟩
  rw [← hres] at hs e32 ⊢
  have HS := hid hs
  have H32 := hid e32
  clear hs e32 hres hv
  have k0 : Kept None w (w.alloc (.cells #[.int .u8 0, .int .u8 0, .int .u8 0, .int .u8 0, .int .u8 0, .int .u8 0, .int .u8 0, .int .u8 0, .int .u8 0, .int .u8 0, .int .u8 0, .int .u8 0, .int .u8 0, .int .u8 0, .int .u8 0, .int .u8 0, .int .u8 0, .int .u8 0, .int .u8 0, .int .u8 0, .int .u8 0, .int .u8 0, .int .u8 0, .int .u8 0, .int .u8 0, .int .u8 0, .int .u8 0, .int .u8 0, .int .u8 0, .int .u8 0, .int .u8 0, .int .u8 0] 23)) := (Kept.refl _ _).alloc _
  have v0 := Blk.new w #[.int .u8 0, .int .u8 0, .int .u8 0, .int .u8 0, .int .u8 0, .int .u8 0, .int .u8 0, .int .u8 0, .int .u8 0, .int .u8 0, .int .u8 0, .int .u8 0, .int .u8 0, .int .u8 0, .int .u8 0, .int .u8 0, .int .u8 0, .int .u8 0, .int .u8 0, .int .u8 0, .int .u8 0, .int .u8 0, .int .u8 0, .int .u8 0, .int .u8 0, .int .u8 0, .int .u8 0, .int .u8 0, .int .u8 0, .int .u8 0, .int .u8 0, .int .u8 0] 23
  obtain ⟨z, hz, hZ⟩ := Blk.any (n := 32) v0 (by rfl)
  clear v0
  go_enter Try.func89, Try.ntmps89
  go_wp2_with fail
  refine (HS.out _).mono ?_
  rintro e w4 ⟨rfl, k4⟩
  have k04 := k0.trans k4
  have hZ4 := hZ.kept k4 (fun h => h)
  clear k0 k4 hZ
  have aH' := Hk.aH32 H32.out
  have E := hid (hz.trans (show 32 = (res.map u8v).toArray.size by simpa using H32.out.symm))
  clear hz
  go_wp2_with (first | (refine wpList_store_blk rfl _ _ _ rfl rfl rfl hZ4 aH' E.out (u8v_all _) ?_; intro w9 hR9 k9) | fail)
  exact bodyPost_ret (v := hashV res) (results_blk rfl _ rfl hR9 aH') rfl ⟨rfl, k04.then k9 (fun i hi (h : i = w.heap.size) => by omega)⟩
set_option maxRecDepth 100000 in
set_option maxHeartbeats 1000000 in
theorem root_one (res : List UInt8) (v : Value) (w : World) (hv : Rh 0 w v [res]) : Calls Try.prog 89 #[v] w fun e w' => e = .returned (hashV res) ∧ Kept None w w' := by
  obtain ⟨a, cap, rfl⟩ := hv.form
  obtain ⟨hi, hv⟩ := hv
  have e32 : res.length = 32 := hv.1 _ (List.mem_cons_self ..)
  obtain ⟨b, o, rfl, hr⟩ := hv.at (i := 0) (by simp)
  have hr : w.rangeAt b o (res.map u8v) := by simpa using hr
  show Calls Try.prog 89 #[.slice (some ⟨b, o, none⟩) 1 cap] w _
  have H32 := hid e32
  have aL := Hk.aH32' e32
  have k0 : Kept None w (w.alloc (.cells #[.int .u8 0, .int .u8 0, .int .u8 0, .int .u8 0, .int .u8 0, .int .u8 0, .int .u8 0, .int .u8 0, .int .u8 0, .int .u8 0, .int .u8 0, .int .u8 0, .int .u8 0, .int .u8 0, .int .u8 0, .int .u8 0, .int .u8 0, .int .u8 0, .int .u8 0, .int .u8 0, .int .u8 0, .int .u8 0, .int .u8 0, .int .u8 0, .int .u8 0, .int .u8 0, .int .u8 0, .int .u8 0, .int .u8 0, .int .u8 0, .int .u8 0, .int .u8 0] 23)) := (Kept.refl _ _).alloc _
  have hr0 := rangeAt_kept hr k0
  have v0 := Blk.new w #[.int .u8 0, .int .u8 0, .int .u8 0, .int .u8 0, .int .u8 0, .int .u8 0, .int .u8 0, .int .u8 0, .int .u8 0, .int .u8 0, .int .u8 0, .int .u8 0, .int .u8 0, .int .u8 0, .int .u8 0, .int .u8 0, .int .u8 0, .int .u8 0, .int .u8 0, .int .u8 0, .int .u8 0, .int .u8 0, .int .u8 0, .int .u8 0, .int .u8 0, .int .u8 0, .int .u8 0, .int .u8 0, .int .u8 0, .int .u8 0, .int .u8 0, .int .u8 0] 23
  obtain ⟨z, hz, hZ⟩ := Blk.any (n := 32) v0 (by rfl)
  clear v0 hr hv e32
  have aH' := Hk.aH32 H32.out
  have E := hid (hz.trans (show 32 = (res.map u8v).toArray.size by simpa using H32.out.symm))
  clear hz
  obtain ⟨C, hC⟩ : ∃ C, C = res.map u8v := ⟨_, rfl⟩
  have hall := u8v_all' res
  rw [← hC] at hr0 aL aH' E hall
  rw [show hashV res = .agg C.toArray by rw [hC]]
  have HA := hid hall
  clear hC hall
  go_enter Try.func89, Try.ntmps89
  go_wp2_with (first | (refine wpList_load_at rfl _ _ rfl rfl hr0 aL ?_) | (refine wpList_store_blk rfl _ _ _ rfl rfl rfl hZ aH' E.out HA.out ?_; intro w9 hR9 k9) | fail)
  exact bodyPost_ret (v := .agg C.toArray) (results_blk rfl _ rfl hR9 aH') rfl ⟨rfl, k0.then k9 (fun i hi (h : i = w.heap.size) => by omega)⟩
set_option maxRecDepth 100000 in
set_option maxHeartbeats 1000000 in
theorem root_more (l : List (List UInt8)) (A B : List UInt8) (v : Value) (w : World) (hv : Rh 0 w v l) (h2 : 2 ≤ l.length) (hl : l.length ≤ 549755813888) (hA32 : A.length = 32) (hB32 : B.length = 32)
    (ihA : ∀ v w, Rh 0 w v (l.take (splitN l.length)) → Calls Try.prog 89 #[v] w fun e w' => e = .returned (hashV A) ∧ Kept None w w')
    (ihB : ∀ v w, Rh 0 w v (l.drop (splitN l.length)) → Calls Try.prog 89 #[v] w fun e w' => e = .returned (hashV B) ∧ Kept None w w') :
    Calls Try.prog 89 #[v] w fun e w' => e = .returned (hashV (nodeL A B)) ∧ Kept None w w' := by
  obtain ⟨a, cap, rfl⟩ := hv.form
  have g2' : cap ≤ 9223372036854775807 := by
    obtain ⟨hi, hv⟩ := hv
    obtain ⟨_, _, q, _, q2, _⟩ := hv.form
    injection q with _ _ q
    omega
  have hSp := fun w => split l.length w h2 (by omega)
  have hk := splitN_lt h2
  obtain ⟨k, hkk⟩ : ∃ k, k = splitN l.length := ⟨_, rfl⟩
  rw [← hkk] at ihA ihB hSp hk
  obtain ⟨n, hn⟩ : ∃ n, n = l.length := ⟨_, rfl⟩
  rw [← hn] at hv h2 hl hSp hk ⊢
  obtain ⟨a1, s1, i1⟩ := rh_to Lg8.tHashes Lg8.zHashes hv .i64 k (by omega)
  obtain ⟨a2, s2, i2⟩ := rh_from Lg8.tHashes Lg8.zHashes hv .i64 k (by omega)
  have h2z : (2 : Int) ≤ (n : Int) := by omega
  have hkz : (k : Int) ≤ (n : Int) := by omega
  have k0 : Kept None w (w.alloc (.cells #[.int .u8 0, .int .u8 0, .int .u8 0, .int .u8 0, .int .u8 0, .int .u8 0, .int .u8 0, .int .u8 0, .int .u8 0, .int .u8 0, .int .u8 0, .int .u8 0, .int .u8 0, .int .u8 0, .int .u8 0, .int .u8 0, .int .u8 0, .int .u8 0, .int .u8 0, .int .u8 0, .int .u8 0, .int .u8 0, .int .u8 0, .int .u8 0, .int .u8 0, .int .u8 0, .int .u8 0, .int .u8 0, .int .u8 0, .int .u8 0, .int .u8 0, .int .u8 0] 23)) := (Kept.refl _ _).alloc _
  have v0 := Blk.new w #[.int .u8 0, .int .u8 0, .int .u8 0, .int .u8 0, .int .u8 0, .int .u8 0, .int .u8 0, .int .u8 0, .int .u8 0, .int .u8 0, .int .u8 0, .int .u8 0, .int .u8 0, .int .u8 0, .int .u8 0, .int .u8 0, .int .u8 0, .int .u8 0, .int .u8 0, .int .u8 0, .int .u8 0, .int .u8 0, .int .u8 0, .int .u8 0, .int .u8 0, .int .u8 0, .int .u8 0, .int .u8 0, .int .u8 0, .int .u8 0, .int .u8 0, .int .u8 0] 23
  obtain ⟨z, hz, hZ⟩ := Blk.any (n := 32) v0 (by rfl)
  have he := fun w => node A B w hA32 hB32
  obtain ⟨res, hres⟩ : ∃ res, res = nodeL A B := ⟨_, rfl⟩
  have e32 : res.length = 32 := by rw [hres]; exact sumB_len _
  rw [← hres] at he ⊢
  obtain ⟨VA, hVA⟩ : ∃ VA, VA = hashV A := ⟨_, rfl⟩
  obtain ⟨VB, hVB⟩ : ∃ VB, VB = hashV B := ⟨_, rfl⟩
  rw [← hVA, ← hVB] at he
  rw [← hVA] at ihA
  rw [← hVB] at ihB
  have HS := hid he
  have IH := hid (And.intro ihA ihB)
  have H32 := hid e32
  have HP := hid hSp
  have I0 := hid (And.intro (i1.kept k0) (i2.kept k0))
  clear v0 he hres hVA hVB ihA ihB e32 hSp hkk hn hv i1 i2 hk h2
  go_enter Try.func89, Try.ntmps89
  go_wp2_with fail
  refine (HP.out _).mono ?_
  rintro e w3 ⟨rfl, e3⟩
  rw [e3] at k0 hZ I0
  clear e3
  go_wp2_with fail
  have hs : Steady [.val 3 (VA), .val 7 (VB), .val 8 (hashV res)] := Steady.val (Steady.val (Steady.val (Steady.nil)))
  refine wp_region_kn_tail 9 w3 _ hs (Kept.refl _ _) (by kernel_rfl) (by kernel_rfl) (by kernel_rfl) ?_
  simp only [List.take_succ_cons, List.take_zero, List.drop_succ_cons, List.drop_zero]
  iterate 3 (refine wpPar_pure rfl (by rfl) _ (fun W hW => by
      have q1 := s1 W
      have q2 := s2 W
      go_simp
      exact rfl) ?_; simp only [Act.put, List.setIfInBounds_toArray, List.set_cons_zero, List.set_cons_succ])
  refine wpKn_adds hs rfl (by rfl) (fun W hW hd => ?_) (fun v3 hv => ?_)
  · unfold Gives
    go_simp
    refine gives_call (IH.out.1 _ _ (I0.out.1.kept hW)) ?_
    rintro e w3 ⟨rfl, k3⟩
    exact ⟨_, rfl, k3, rfl, trivial⟩
  obtain rfl : v3 = VA := hv
  simp only [Act.put, List.setIfInBounds_toArray, List.set_cons_zero, List.set_cons_succ]
  iterate 3 (refine wpPar_pure rfl (by rfl) _ (fun W hW => by
      have q1 := s1 W
      have q2 := s2 W
      go_simp
      exact rfl) ?_; simp only [Act.put, List.setIfInBounds_toArray, List.set_cons_zero, List.set_cons_succ])
  refine wpKn_adds hs rfl (by rfl) (fun W hW hd => ?_) (fun v7 hv => ?_)
  · unfold Gives
    go_simp
    refine gives_call (IH.out.2 _ _ (I0.out.2.kept hW)) ?_
    rintro e w3 ⟨rfl, k3⟩
    exact ⟨_, rfl, k3, rfl, trivial⟩
  obtain rfl : v7 = VB := hv
  simp only [Act.put, List.setIfInBounds_toArray, List.set_cons_zero, List.set_cons_succ]
  refine wpKn_adds hs rfl (by rfl) (fun W hW hd => ?_) (fun v8 hv => ?_)
  · unfold Gives
    go_simp
    refine gives_call (HS.out W) ?_
    rintro e w3 ⟨rfl, k3⟩
    exact ⟨_, rfl, k3, rfl, trivial⟩
  obtain rfl : v8 = hashV res := hv
  simp only [Act.put, List.setIfInBounds_toArray, List.set_cons_zero, List.set_cons_succ]
  refine wpPar_nil (fun w6 hW hG => ?_)
  have k06 := k0.trans hW
  have hZ6 := hZ.kept hW (fun h => h)
  clear hG hs hW k0 hZ s1 s2
  have aH' := Hk.aH32 H32.out
  have E := hid (hz.trans (show 32 = (res.map u8v).toArray.size by simpa using H32.out.symm))
  clear hz
  go_wp2_with (first | (refine wpList_store_blk rfl _ _ _ rfl rfl rfl hZ6 aH' E.out (u8v_all _) ?_; intro w9 hR9 k9) | fail)
  exact bodyPost_ret (v := hashV res) (results_blk rfl _ rfl hR9 aH') rfl ⟨rfl, k06.then k9 (fun i hi (h : i = w.heap.size) => by omega)⟩
/-- Root. -/
theorem root : ∀ (f : Nat) (l : List (List UInt8)) (v : Value) (w : World), Rh 0 w v l → l.length ≤ f → l.length ≤ 549755813888 → Calls Try.prog 89 #[v] w fun e w' => e = .returned (hashV (rootL l)) ∧ Kept None w w' := by
  intro f
  induction f with
  | zero =>
    intro l v w hv hf hl
    obtain rfl := List.eq_nil_of_length_eq_zero (show l.length = 0 by omega)
    exact root_nil v w hv
  | succ f ih =>
    intro l v w hv hf hl
    by_cases h0 : l.length = 0
    · obtain rfl := List.eq_nil_of_length_eq_zero h0
      exact root_nil v w hv
    by_cases h1 : l.length = 1
    · obtain ⟨x, rfl⟩ := List.length_eq_one_iff.1 h1
      exact root_one x v w hv
    have h2 : 2 ≤ l.length := by omega
    have hH : H32 l := by
      obtain ⟨_, h⟩ := hv
      exact h.1
    have hk := splitN_lt h2
    have hp := splitN_pos h2
    rw [rootL_more h2]
    exact root_more l _ _ v w hv h2 hl (rootL_len (hH.take _)) (rootL_len (hH.drop _)) (fun v w h => ih _ v w h (by rw [List.length_take]; omega) (by rw [List.length_take]; omega)) (fun v w h => ih _ v w h (by rw [List.length_drop]; omega) (by rw [List.length_drop]; omega))
end RLg
end Go.Proofs.Ytibkijloibnkfaa
