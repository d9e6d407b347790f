/- Package postmarkref5, root: by contract. -/
import Derived.Test.YtibkijloibnkfaaRefSides6
namespace Go.Proofs.Ytibkijloibnkfaa
open Go.RowKit Go.Pm

namespace RTr
theorem rootI_len (f : Nat) (l : List It) (j : Nat) (h : Srt l) (hl : Len l) (ha : Agree l j) (hf : 256 ≤ f + j) : (rootI f l j).length = 32 := by
  match f, l with
  | 0, [] => exact sumB_len _
  | _ + 1, [] => exact sumB_len _
  | 0, [x] => exact sumB_len _
  | _ + 1, [x] => exact sumB_len _
  | 0, x :: y :: l => have := agree_lt h hl ha (by simp); omega
  | f + 1, x :: y :: l => exact sumB_len _
theorem rootI_nil (f j : Nat) : rootI f [] j = emptyH := by cases f <;> rfl
theorem rootI_one (f j : Nat) (x : It) : rootI f [x] j = leafH x := by cases f <;> rfl
theorem rootI_more' (f j : Nat) {l : List It} (h2 : 2 ≤ l.length) : rootI (f + 1) l j = nodeH (rootI f (half l j 0) (j + 1)) (rootI f (half l j 1) (j + 1)) := by
  match l, h2 with
  | x :: y :: l, _ => rfl

set_option maxRecDepth 100000 in
set_option maxHeartbeats 2000000 in
theorem root_nil (j : Nat) (v : Value) (lo hi : Nat) (w : World) (hv : Its w lo hi v []) : Calls Try.prog 101 #[v, .int .i64 j] w fun e w' => e = .returned (hashV emptyH) ∧ Kept None w w' := by
  obtain ⟨a, cap, rfl, g1, g2, g3⟩ := hv.form
  have k0 : Kept None w (w.alloc (.cells #[.int .u8 0, .int .u8 0, .int .u8 0, .int .u8 0, .int .u8 0, .int .u8 0, .int .u8 0, .int .u8 0, .int .u8 0, .int .u8 0, .int .u8 0, .int .u8 0, .int .u8 0, .int .u8 0, .int .u8 0, .int .u8 0, .int .u8 0, .int .u8 0, .int .u8 0, .int .u8 0, .int .u8 0, .int .u8 0, .int .u8 0, .int .u8 0, .int .u8 0, .int .u8 0, .int .u8 0, .int .u8 0, .int .u8 0, .int .u8 0, .int .u8 0, .int .u8 0] 23)) := (Kept.refl _ _).alloc _
  have v0 := Blk.new w #[.int .u8 0, .int .u8 0, .int .u8 0, .int .u8 0, .int .u8 0, .int .u8 0, .int .u8 0, .int .u8 0, .int .u8 0, .int .u8 0, .int .u8 0, .int .u8 0, .int .u8 0, .int .u8 0, .int .u8 0, .int .u8 0, .int .u8 0, .int .u8 0, .int .u8 0, .int .u8 0, .int .u8 0, .int .u8 0, .int .u8 0, .int .u8 0, .int .u8 0, .int .u8 0, .int .u8 0, .int .u8 0, .int .u8 0, .int .u8 0, .int .u8 0, .int .u8 0] 23
  obtain ⟨z, hz, hR⟩ : ∃ z : Array Value, z.size = 32 ∧ Blk (w.alloc (.cells #[.int .u8 0, .int .u8 0, .int .u8 0, .int .u8 0, .int .u8 0, .int .u8 0, .int .u8 0, .int .u8 0, .int .u8 0, .int .u8 0, .int .u8 0, .int .u8 0, .int .u8 0, .int .u8 0, .int .u8 0, .int .u8 0, .int .u8 0, .int .u8 0, .int .u8 0, .int .u8 0, .int .u8 0, .int .u8 0, .int .u8 0, .int .u8 0, .int .u8 0, .int .u8 0, .int .u8 0, .int .u8 0, .int .u8 0, .int .u8 0, .int .u8 0, .int .u8 0] 23)) w.heap.size z 23 := ⟨_, by rfl, v0⟩
  have hV := hv.kept k0 (fun _ _ _ h => h)
  clear v0 hv
  have he := fun w => empty w
  obtain ⟨res, hres⟩ : ∃ res, res = emptyH := ⟨_, rfl⟩
  have H32 : res.length = 32 := by rw [hres]; exact sumB_len _
  rw [← hres] at he ⊢
  have HS := hid he
  replace H32 := hid H32
  clear he hres
  go_enter Try.func101, Try.ntmps101
  go_wp2_with fail
  refine (HS.out _).mono ?_
  rintro e w4 ⟨rfl, k4⟩
  have k04 := k0.trans k4
  have hR4 := hR.kept k4 (fun h => h)
  clear k0 k4 hR hV
  have e32' : (res.map u8v).toArray.size = 32 := by simpa using H32.out
  have aH' : AggTy Try.prog 23 (res.map u8v).toArray.size := by rw [e32']; exact Sp.aH
  have E := hid (hz.trans e32'.symm)
  clear e32' hz
  go_wp2_with (first | (refine wpList_store_blk rfl _ _ _ rfl rfl rfl hR4 aH' E.out (u8v_all _) ?_; intro w9 hR9 k9) | fail)
  exact bodyPost_ret (v := hashV res) (results_blk rfl _ rfl hR9 aH') rfl ⟨rfl, k04.then k9 (fun i hi (h : i = w.heap.size) => by omega)⟩

set_option maxRecDepth 100000 in
set_option maxHeartbeats 2000000 in
theorem root_one (x : It) (j : Nat) (v : Value) (lo hi : Nat) (w : World) (hv : Its w lo hi v [x]) : Calls Try.prog 101 #[v, .int .i64 j] w fun e w' => e = .returned (hashV (leafH x)) ∧ Kept None w w' := by
  obtain ⟨a, cap, rfl, g1, g2, g3⟩ := hv.form
  obtain ⟨b, o, rfl, q1, q2, q3, hc⟩ := hv.ne (by simp)
  have hx := hc 0 x rfl
  have hlen := hv.1 x (by simp)
  have h64 := itC_len hlen
  simp only [Nat.zero_mul, Nat.add_zero] at hx
  have k0 : Kept None w (w.alloc (.cells #[.int .u8 0, .int .u8 0, .int .u8 0, .int .u8 0, .int .u8 0, .int .u8 0, .int .u8 0, .int .u8 0, .int .u8 0, .int .u8 0, .int .u8 0, .int .u8 0, .int .u8 0, .int .u8 0, .int .u8 0, .int .u8 0, .int .u8 0, .int .u8 0, .int .u8 0, .int .u8 0, .int .u8 0, .int .u8 0, .int .u8 0, .int .u8 0, .int .u8 0, .int .u8 0, .int .u8 0, .int .u8 0, .int .u8 0, .int .u8 0, .int .u8 0, .int .u8 0] 23)) := (Kept.refl _ _).alloc _
  have v0 := Blk.new w #[.int .u8 0, .int .u8 0, .int .u8 0, .int .u8 0, .int .u8 0, .int .u8 0, .int .u8 0, .int .u8 0, .int .u8 0, .int .u8 0, .int .u8 0, .int .u8 0, .int .u8 0, .int .u8 0, .int .u8 0, .int .u8 0, .int .u8 0, .int .u8 0, .int .u8 0, .int .u8 0, .int .u8 0, .int .u8 0, .int .u8 0, .int .u8 0, .int .u8 0, .int .u8 0, .int .u8 0, .int .u8 0, .int .u8 0, .int .u8 0, .int .u8 0, .int .u8 0] 23
  obtain ⟨z, hz, hR⟩ : ∃ z : Array Value, z.size = 32 ∧ Blk (w.alloc (.cells #[.int .u8 0, .int .u8 0, .int .u8 0, .int .u8 0, .int .u8 0, .int .u8 0, .int .u8 0, .int .u8 0, .int .u8 0, .int .u8 0, .int .u8 0, .int .u8 0, .int .u8 0, .int .u8 0, .int .u8 0, .int .u8 0, .int .u8 0, .int .u8 0, .int .u8 0, .int .u8 0, .int .u8 0, .int .u8 0, .int .u8 0, .int .u8 0, .int .u8 0, .int .u8 0, .int .u8 0, .int .u8 0, .int .u8 0, .int .u8 0, .int .u8 0, .int .u8 0] 23)) w.heap.size z 23 := ⟨_, by rfl, v0⟩
  have hV := hv.kept k0 (fun _ _ _ h => h)
  clear v0 hv
  have hx3 := rangeAt_kept hx k0
  have aY : AggTy Try.prog 139 (itC x).length := by rw [h64]; exact aI64
  have he : ∀ w, Calls Try.prog 112 #[.agg (itC x).toArray] w fun e w' => e = .returned (hashV (leafH x)) ∧ Kept None w w' := fun w => by
    have h := leaf x w hlen
    rwa [show itemV x = .agg (itC x).toArray by simp [itemV, itC]] at h
  obtain ⟨res, hres⟩ : ∃ res, res = leafH x := ⟨_, rfl⟩
  have H32 : res.length = 32 := by rw [hres]; exact sumB_len _
  rw [← hres] at he ⊢
  have HS := hid he
  replace H32 := hid H32
  clear he hres hc hx hV
  go_enter Try.func101, Try.ntmps101
  go_wp2_with (first | (refine wpList_load_at rfl _ _ rfl rfl hx3 aY ?_) | fail)
  refine (HS.out _).mono ?_
  rintro e w4 ⟨rfl, k4⟩
  have k04 := k0.trans k4
  have hR4 := hR.kept k4 (fun h => h)
  clear k0 k4 hR hx3 aY
  have e32' : (res.map u8v).toArray.size = 32 := by simpa using H32.out
  have aH' : AggTy Try.prog 23 (res.map u8v).toArray.size := by rw [e32']; exact Sp.aH
  have E := hid (hz.trans e32'.symm)
  clear e32' hz
  go_wp2_with (first | (refine wpList_store_blk rfl _ _ _ rfl rfl rfl hR4 aH' E.out (u8v_all _) ?_; intro w9 hR9 k9) | fail)
  exact bodyPost_ret (v := hashV res) (results_blk rfl _ rfl hR9 aH') rfl ⟨rfl, k04.then k9 (fun i hi (h : i = w.heap.size) => by omega)⟩

set_option maxRecDepth 100000 in
set_option maxHeartbeats 2000000 in
theorem root_more (l : List It) (A B : List UInt8) (j : Nat) (v : Value) (lo hi : Nat) (w : World) (hv : Its w lo hi v l) (h2 : 2 ≤ l.length) (hl : l.length ≤ 549755813888) (hj : j < 256) (hA32 : A.length = 32) (hB32 : B.length = 32)
    (ihA : ∀ v lo hi w, Its w lo hi v (half l j 0) → Calls Try.prog 101 #[v, .int .i64 ((j : Int) + 1)] w fun e w' => e = .returned (hashV A) ∧ Kept None w w')
    (ihB : ∀ v lo hi w, Its w lo hi v (half l j 1) → Calls Try.prog 101 #[v, .int .i64 ((j : Int) + 1)] w fun e w' => e = .returned (hashV B) ∧ Kept None w w') :
    Calls Try.prog 101 #[v, .int .i64 j] w fun e w' => e = .returned (hashV (nodeH A B)) ∧ Kept None w w' := by
  obtain ⟨a, cap, rfl, g1, g2, g3⟩ := hv.form
  have g2' : cap ≤ 9223372036854775807 := g2
  have h2' : (2 : Int) ≤ l.length := by omega
  have k0 : Kept None w (w.alloc (.cells #[.int .u8 0, .int .u8 0, .int .u8 0, .int .u8 0, .int .u8 0, .int .u8 0, .int .u8 0, .int .u8 0, .int .u8 0, .int .u8 0, .int .u8 0, .int .u8 0, .int .u8 0, .int .u8 0, .int .u8 0, .int .u8 0, .int .u8 0, .int .u8 0, .int .u8 0, .int .u8 0, .int .u8 0, .int .u8 0, .int .u8 0, .int .u8 0, .int .u8 0, .int .u8 0, .int .u8 0, .int .u8 0, .int .u8 0, .int .u8 0, .int .u8 0, .int .u8 0] 23)) := (Kept.refl _ _).alloc _
  have v0 := Blk.new w #[.int .u8 0, .int .u8 0, .int .u8 0, .int .u8 0, .int .u8 0, .int .u8 0, .int .u8 0, .int .u8 0, .int .u8 0, .int .u8 0, .int .u8 0, .int .u8 0, .int .u8 0, .int .u8 0, .int .u8 0, .int .u8 0, .int .u8 0, .int .u8 0, .int .u8 0, .int .u8 0, .int .u8 0, .int .u8 0, .int .u8 0, .int .u8 0, .int .u8 0, .int .u8 0, .int .u8 0, .int .u8 0, .int .u8 0, .int .u8 0, .int .u8 0, .int .u8 0] 23
  obtain ⟨z, hz, hR⟩ : ∃ z : Array Value, z.size = 32 ∧ Blk (w.alloc (.cells #[.int .u8 0, .int .u8 0, .int .u8 0, .int .u8 0, .int .u8 0, .int .u8 0, .int .u8 0, .int .u8 0, .int .u8 0, .int .u8 0, .int .u8 0, .int .u8 0, .int .u8 0, .int .u8 0, .int .u8 0, .int .u8 0, .int .u8 0, .int .u8 0, .int .u8 0, .int .u8 0, .int .u8 0, .int .u8 0, .int .u8 0, .int .u8 0, .int .u8 0, .int .u8 0, .int .u8 0, .int .u8 0, .int .u8 0, .int .u8 0, .int .u8 0, .int .u8 0] 23)) w.heap.size z 23 := ⟨_, by rfl, v0⟩
  have hV := hv.kept k0 (fun _ _ _ h => h)
  clear v0 hv
  have he := fun w => node A B w hA32 hB32
  obtain ⟨res, hres⟩ : ∃ res, res = nodeH A B := ⟨_, rfl⟩
  have H32 : res.length = 32 := by rw [hres]; exact sumB_len _
  rw [← hres] at he ⊢
  obtain ⟨VA, hVA⟩ : ∃ VA, VA = hashV A := ⟨_, rfl⟩
  obtain ⟨VB, hVB⟩ : ∃ VB, VB = hashV B := ⟨_, rfl⟩
  rw [← hVA] at he ihA
  rw [← hVB] at he ihB
  have HS := hid he
  have IH := hid (And.intro ihA ihB)
  replace H32 := hid H32
  clear he hres ihA ihB hVA hVB g3
  go_enter Try.func101, Try.ntmps101
  go_wp2_with fail
  refine (sides _ lo hi l j _ hV hl hj).mono ?_
  rintro e w3 ⟨va, vb, rfl, k3, hA, hB⟩
  obtain ⟨a1, c1, rfl⟩ := hA.form
  obtain ⟨a2, c2, rfl⟩ := hB.form
  have hA3 := hA.its (Nat.le_refl _)
  have hB3 := hB.its (Nat.le_refl _)
  have k03 := k0.trans k3
  have hR3 := hR.kept k3 (fun h => h)
  clear k0 k3 hR hV hA hB
  go_wp2_with fail
  refine (IH.out.1 _ _ _ _ hA3).mono ?_
  rintro e w4 ⟨rfl, k4⟩
  have hB4 := hB3.kept k4 (fun _ _ _ h => h)
  have k04 := k03.trans k4
  have hR4 := hR3.kept k4 (fun h => h)
  clear k03 k4 hR3 hA3 hB3
  go_wp2_with fail
  refine (IH.out.2 _ _ _ _ hB4).mono ?_
  rintro e w5 ⟨rfl, k5⟩
  have k05 := k04.trans k5
  have hR5 := hR4.kept k5 (fun h => h)
  clear k04 k5 hR4 hB4
  go_wp2_with fail
  refine (HS.out _).mono ?_
  rintro e w6 ⟨rfl, k6⟩
  have k06 := k05.trans k6
  have hR6 := hR5.kept k6 (fun h => h)
  clear k05 k6 hR5
  have e32' : (res.map u8v).toArray.size = 32 := by simpa using H32.out
  have aH' : AggTy Try.prog 23 (res.map u8v).toArray.size := by rw [e32']; exact Sp.aH
  have E := hid (hz.trans e32'.symm)
  clear e32' hz
  go_wp2_with (first | (refine wpList_store_blk rfl _ _ _ rfl rfl rfl hR6 aH' E.out (u8v_all _) ?_; intro w9 hR9 k9) | fail)
  exact bodyPost_ret (v := hashV res) (results_blk rfl _ rfl hR9 aH') rfl ⟨rfl, k06.then k9 (fun i hi (h : i = w.heap.size) => by omega)⟩

/-- root. -/
theorem root : ∀ (f : Nat) (l : List It) (j : Nat) (v : Value) (lo hi : Nat) (w : World), Its w lo hi v l → Srt l → Agree l j → 256 ≤ f + j → j ≤ 256 → l.length ≤ 549755813888 →
    Calls Try.prog 101 #[v, .int .i64 j] w fun e w' => e = .returned (hashV (rootI f l j)) ∧ Kept None w w' := by
  intro f
  induction f with
  | zero =>
    intro l j v lo hi w hv hs ha hf hj hl
    match l, hv, hs, ha with
    | [], hv, _, _ => exact rootI_nil 0 j ▸ root_nil j v lo hi w hv
    | [x], hv, _, _ => exact rootI_one 0 j x ▸ root_one x j v lo hi w hv
    | x :: y :: l, hv, hs, ha => have := agree_lt hs hv.1 ha (by simp); omega
  | succ f ih =>
    intro l j v lo hi w hv hs ha hf hj hl
    by_cases h0 : l.length = 0
    · obtain rfl := List.eq_nil_of_length_eq_zero h0
      exact rootI_nil (f + 1) j ▸ root_nil j v lo hi w hv
    by_cases h1 : l.length = 1
    · obtain ⟨x, rfl⟩ := List.length_eq_one_iff.1 h1
      exact rootI_one (f + 1) j x ▸ root_one x j v lo hi w hv
    have h2 : 2 ≤ l.length := by omega
    have hj' := agree_lt hs hv.1 ha h2
    rw [rootI_more' f j h2]
    have side : ∀ b, (half l j b).length ≤ 549755813888 := fun b => Nat.le_trans (half_len l j b) hl
    have len : ∀ b, (rootI f (half l j b) (j + 1)).length = 32 := fun b => rootI_len f _ _ (srt_half hs j b) (len_half hv.1 j b) (agree_half ha b) (by omega)
    refine root_more l _ _ j v lo hi w hv h2 hl hj' (len 0) (len 1) (fun v lo hi w h => ?_) (fun v lo hi w h => ?_)
    · exact ih _ (j + 1) v lo hi w h (srt_half hs j 0) (agree_half ha 0) (by omega) (by omega) (side 0)
    · exact ih _ (j + 1) v lo hi w h (srt_half hs j 1) (agree_half ha 1) (by omega) (by omega) (side 1)
end RTr
end Go.Proofs.Ytibkijloibnkfaa
