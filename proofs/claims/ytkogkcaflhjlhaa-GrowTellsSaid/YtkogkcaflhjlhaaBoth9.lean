/- both, Grown of postmarkref8: by contract. -/
import Derived.Test.YtkogkcaflhjlhaaCheck9
namespace Go.Pm
open Go Go.RowKit
theorem bothL_same (old : List UInt8) (path : List (List UInt8)) (n : Nat) (wh : Bool) : bothL old path n n wh = bothEnd old path.reverse wh := bothR_same _ _ _ _
theorem bothL_none (old : List UInt8) {m n : Nat} (h : m ≠ n) (wh : Bool) : bothL old [] m n wh = (zero32, zero32, false) := bothR_none old h wh
theorem bothL_left (old p : List UInt8) (ps : List (List UInt8)) {m n : Nat} (h : m ≠ n) (hs : m ≤ splitN n) (wh : Bool) : bothL old (ps ++ [p]) m n wh = ((bothL old ps m (splitN n) wh).1, nodeL (bothL old ps m (splitN n) wh).2.1 p, (bothL old ps m (splitN n) wh).2.2) := by
  unfold bothL
  rw [List.reverse_append, List.reverse_singleton, List.singleton_append, bothR_left _ _ _ h hs]
theorem bothL_right (old p : List UInt8) (ps : List (List UInt8)) {m n : Nat} (h : m ≠ n) (hs : ¬ m ≤ splitN n) (wh : Bool) : bothL old (ps ++ [p]) m n wh = (nodeL p (bothL old ps (m - splitN n) (n - splitN n) false).1, nodeL p (bothL old ps (m - splitN n) (n - splitN n) false).2.1, (bothL old ps (m - splitN n) (n - splitN n) false).2.2) := by
  unfold bothL
  rw [List.reverse_append, List.reverse_singleton, List.singleton_append, bothR_right _ _ _ h hs]
theorem bothL_len {old : List UInt8} (ho : old.length = 32) (path : List (List UInt8)) (hp : H32 path) (m n : Nat) (wh : Bool) : (bothL old path m n wh).1.length = 32 ∧ (bothL old path m n wh).2.1.length = 32 := bothR_len ho _ (fun x hx => hp x (by simpa using hx)) _ _ _
end Go.Pm
namespace Go.Proofs.Ytkogkcaflhjlhaa
open Go.RowKit Go.Pm
namespace RGr
set_option maxRecDepth 100000 in
set_option maxHeartbeats 1000000 in
theorem both_whole (old : List UInt8) (path : List (List UInt8)) (n : Nat) (v : Value) (w : World) (ho : old.length = 32) (hv : Rh 0 w v path) : Calls Try.prog 46 #[hashV old, .int .i64 n, .int .i64 n, .bool true, v] w fun e w' => e = .returned (.tuple #[hashV old, hashV old, .bool (path.length == 0)]) ∧ Kept None w w' := by
  obtain ⟨ad, cap, rfl⟩ := hv.form
  obtain ⟨N, hN⟩ : ∃ N, N = path.length := ⟨_, rfl⟩
  rw [← hN]
  obtain ⟨OA, hOA⟩ : ∃ L : Array Value, L = (old.map u8v).toArray := ⟨_, rfl⟩
  have aO : AggTy Try.prog 25 OA.size := by rw [hOA]; exact Hk.aH32 ho
  have sO : OA.size = 32 := by rw [hOA]; simpa using ho
  have allO : OA.all (·.oneCell') = true := by rw [hOA]; exact u8v_all' _
  show Calls Try.prog 46 #[.agg (old.map u8v).toArray, .int .i64 n, .int .i64 n, .bool true, .slice ad N cap] w _
  rw [← hOA]
  show Calls _ _ _ w (fun e w' => e = .returned (.tuple #[.agg (old.map u8v).toArray, .agg (old.map u8v).toArray, .bool (N == 0)]) ∧ Kept None w w')
  rw [← hOA]
  obtain ⟨bE, hbE⟩ : ∃ b : Bool, b = (N == 0) := ⟨_, rfl⟩
  have hE : ((N : Int) == 0) = bE := by
    rw [hbE]
    by_cases h : N = 0
    · subst h; rfl
    · rw [show (N == 0) = false by simpa using h, beq_eq_false_iff_ne]; omega
  rw [← hbE]
  have k0 : Kept None w (((w.alloc (.cells OA 25)).alloc (.cells #[.int .u8 0, .int .u8 0, .int .u8 0, .int .u8 0, .int .u8 0, .int .u8 0, .int .u8 0, .int .u8 0, .int .u8 0, .int .u8 0, .int .u8 0, .int .u8 0, .int .u8 0, .int .u8 0, .int .u8 0, .int .u8 0, .int .u8 0, .int .u8 0, .int .u8 0, .int .u8 0, .int .u8 0, .int .u8 0, .int .u8 0, .int .u8 0, .int .u8 0, .int .u8 0, .int .u8 0, .int .u8 0, .int .u8 0, .int .u8 0, .int .u8 0, .int .u8 0] 25)).alloc (.cells #[.int .u8 0, .int .u8 0, .int .u8 0, .int .u8 0, .int .u8 0, .int .u8 0, .int .u8 0, .int .u8 0, .int .u8 0, .int .u8 0, .int .u8 0, .int .u8 0, .int .u8 0, .int .u8 0, .int .u8 0, .int .u8 0, .int .u8 0, .int .u8 0, .int .u8 0, .int .u8 0, .int .u8 0, .int .u8 0, .int .u8 0, .int .u8 0, .int .u8 0, .int .u8 0, .int .u8 0, .int .u8 0, .int .u8 0, .int .u8 0, .int .u8 0, .int .u8 0] 25)) := (((Kept.refl _ _).alloc _).alloc _).alloc _
  have bO : Blk (((w.alloc (.cells OA 25)).alloc (.cells #[.int .u8 0, .int .u8 0, .int .u8 0, .int .u8 0, .int .u8 0, .int .u8 0, .int .u8 0, .int .u8 0, .int .u8 0, .int .u8 0, .int .u8 0, .int .u8 0, .int .u8 0, .int .u8 0, .int .u8 0, .int .u8 0, .int .u8 0, .int .u8 0, .int .u8 0, .int .u8 0, .int .u8 0, .int .u8 0, .int .u8 0, .int .u8 0, .int .u8 0, .int .u8 0, .int .u8 0, .int .u8 0, .int .u8 0, .int .u8 0, .int .u8 0, .int .u8 0] 25)).alloc (.cells #[.int .u8 0, .int .u8 0, .int .u8 0, .int .u8 0, .int .u8 0, .int .u8 0, .int .u8 0, .int .u8 0, .int .u8 0, .int .u8 0, .int .u8 0, .int .u8 0, .int .u8 0, .int .u8 0, .int .u8 0, .int .u8 0, .int .u8 0, .int .u8 0, .int .u8 0, .int .u8 0, .int .u8 0, .int .u8 0, .int .u8 0, .int .u8 0, .int .u8 0, .int .u8 0, .int .u8 0, .int .u8 0, .int .u8 0, .int .u8 0, .int .u8 0, .int .u8 0] 25)) w.heap.size OA 25 := ((Blk.new w _ _).alloc _).alloc _
  have v8 : Blk (((w.alloc (.cells OA 25)).alloc (.cells #[.int .u8 0, .int .u8 0, .int .u8 0, .int .u8 0, .int .u8 0, .int .u8 0, .int .u8 0, .int .u8 0, .int .u8 0, .int .u8 0, .int .u8 0, .int .u8 0, .int .u8 0, .int .u8 0, .int .u8 0, .int .u8 0, .int .u8 0, .int .u8 0, .int .u8 0, .int .u8 0, .int .u8 0, .int .u8 0, .int .u8 0, .int .u8 0, .int .u8 0, .int .u8 0, .int .u8 0, .int .u8 0, .int .u8 0, .int .u8 0, .int .u8 0, .int .u8 0] 25)).alloc (.cells #[.int .u8 0, .int .u8 0, .int .u8 0, .int .u8 0, .int .u8 0, .int .u8 0, .int .u8 0, .int .u8 0, .int .u8 0, .int .u8 0, .int .u8 0, .int .u8 0, .int .u8 0, .int .u8 0, .int .u8 0, .int .u8 0, .int .u8 0, .int .u8 0, .int .u8 0, .int .u8 0, .int .u8 0, .int .u8 0, .int .u8 0, .int .u8 0, .int .u8 0, .int .u8 0, .int .u8 0, .int .u8 0, .int .u8 0, .int .u8 0, .int .u8 0, .int .u8 0] 25)) (w.heap.size + 1) #[.int .u8 0, .int .u8 0, .int .u8 0, .int .u8 0, .int .u8 0, .int .u8 0, .int .u8 0, .int .u8 0, .int .u8 0, .int .u8 0, .int .u8 0, .int .u8 0, .int .u8 0, .int .u8 0, .int .u8 0, .int .u8 0, .int .u8 0, .int .u8 0, .int .u8 0, .int .u8 0, .int .u8 0, .int .u8 0, .int .u8 0, .int .u8 0, .int .u8 0, .int .u8 0, .int .u8 0, .int .u8 0, .int .u8 0, .int .u8 0, .int .u8 0, .int .u8 0] 25 := (Blk.new2 w _ _ _).alloc _
  have v9 : Blk (((w.alloc (.cells OA 25)).alloc (.cells #[.int .u8 0, .int .u8 0, .int .u8 0, .int .u8 0, .int .u8 0, .int .u8 0, .int .u8 0, .int .u8 0, .int .u8 0, .int .u8 0, .int .u8 0, .int .u8 0, .int .u8 0, .int .u8 0, .int .u8 0, .int .u8 0, .int .u8 0, .int .u8 0, .int .u8 0, .int .u8 0, .int .u8 0, .int .u8 0, .int .u8 0, .int .u8 0, .int .u8 0, .int .u8 0, .int .u8 0, .int .u8 0, .int .u8 0, .int .u8 0, .int .u8 0, .int .u8 0] 25)).alloc (.cells #[.int .u8 0, .int .u8 0, .int .u8 0, .int .u8 0, .int .u8 0, .int .u8 0, .int .u8 0, .int .u8 0, .int .u8 0, .int .u8 0, .int .u8 0, .int .u8 0, .int .u8 0, .int .u8 0, .int .u8 0, .int .u8 0, .int .u8 0, .int .u8 0, .int .u8 0, .int .u8 0, .int .u8 0, .int .u8 0, .int .u8 0, .int .u8 0, .int .u8 0, .int .u8 0, .int .u8 0, .int .u8 0, .int .u8 0, .int .u8 0, .int .u8 0, .int .u8 0] 25)) (w.heap.size + 2) #[.int .u8 0, .int .u8 0, .int .u8 0, .int .u8 0, .int .u8 0, .int .u8 0, .int .u8 0, .int .u8 0, .int .u8 0, .int .u8 0, .int .u8 0, .int .u8 0, .int .u8 0, .int .u8 0, .int .u8 0, .int .u8 0, .int .u8 0, .int .u8 0, .int .u8 0, .int .u8 0, .int .u8 0, .int .u8 0, .int .u8 0, .int .u8 0, .int .u8 0, .int .u8 0, .int .u8 0, .int .u8 0, .int .u8 0, .int .u8 0, .int .u8 0, .int .u8 0] 25 := Blk.new3 w _ _ _ _
  obtain ⟨z8, hz8, v8⟩ := Blk.any (n := 32) v8 (by rfl)
  obtain ⟨z9, hz9, v9⟩ := Blk.any (n := 32) v9 (by rfl)
  have HZ := hid (And.intro (hz8.trans sO.symm) (And.intro (hz9.trans sO.symm) allO))
  clear hN hOA sO allO hz8 hz9 hbE hv ho
  go_enter Try.func46, Try.ntmps46
  go_upto_region 3 with (fail)
  refine wp_nm ?_
  intro w1 e1
  rw [← e1] at k0 v8 v9 bO
  clear e1
  refine wp_region_blk w1 [w.heap.size, w.heap.size + 1, w.heap.size + 2] 25 [.val 0 (.agg OA) [8], .val 1 (.agg OA) [8], .blk 5 1 OA [9] [9], .blk 6 2 OA [10] [10], .blk 8 0 OA [] [], .blk 9 1 z8 [] [], .blk 10 2 z9 [] []] [8, 9, 10] (Kept.refl _ _) (by kernel_rfl) (by kernel_rfl) (by kernel_rfl) (by decide) ?_ ?_
  · intro k hk
    simp only [List.mem_cons, List.not_mem_nil, or_false] at hk
    rcases hk with rfl | rfl | rfl
    · exact Blk.drew (bO)
    · exact Blk.drew (v8)
    · exact Blk.drew (v9)
  refine wpB_load _ _ rfl (by rfl) rfl rfl aO rfl (fun _ _ => trivial) (fun W hW hd => hd 8 (List.Mem.head _)) ?_; simp only [Act.put, List.setIfInBounds_toArray, List.set_cons_zero, List.set_cons_succ]
  refine wpB_load _ _ rfl (by rfl) rfl rfl aO rfl (fun _ _ => trivial) (fun W hW hd => hd 8 (List.Mem.head _)) ?_; simp only [Act.put, List.setIfInBounds_toArray, List.set_cons_zero, List.set_cons_succ]
  refine wpPar_pure rfl (by rfl) _ (fun W hW => by
      have q1 := hE
      go_simp
      exact rfl) ?_; simp only [Act.put, List.setIfInBounds_toArray, List.set_cons_zero, List.set_cons_succ]
  refine wpPar_pure rfl (by rfl) _ (fun W hW => by
      have q1 := hE
      go_simp
      exact rfl) ?_; simp only [Act.put, List.setIfInBounds_toArray, List.set_cons_zero, List.set_cons_succ]
  refine wpPar_pure rfl (by rfl) _ (fun W hW => by
      have q1 := hE
      go_simp
      exact rfl) ?_; simp only [Act.put, List.setIfInBounds_toArray, List.set_cons_zero, List.set_cons_succ]
  refine wpB_store _ _ _ 1 (A := z8) rfl (by rfl) rfl rfl rfl rfl aO HZ.out.1 HZ.out.2.2 (by simp) (by simp) (by kernel_rfl) (fun _ => trivial) (fun _ => rfl) (fun W hW hd => hd 9 (List.Mem.head _)) (fun u => ?_)
  refine wpB_store _ _ _ 2 (A := z9) rfl (by rfl) rfl rfl rfl rfl aO HZ.out.2.1 HZ.out.2.2 (by simp) (by simp) (by kernel_rfl) (fun _ => trivial) (fun _ => rfl) (fun W hW hd => hd 10 (List.Mem.head _)) (fun u => ?_)
  refine wpPar_pure rfl (by rfl) _ (fun W hW => by
      have q1 := hE
      go_simp
      exact rfl) ?_; simp only [Act.put, List.setIfInBounds_toArray, List.set_cons_zero, List.set_cons_succ]
  refine wpPar_nil (fun W hW hG => ?_)
  have b8 : Blk W (w.heap.size + 1) OA 25 := hG 5
  have b9 : Blk W (w.heap.size + 2) OA 25 := hG 6
  have kW : Kept None w W := k0.then hW (fun i hi h => by
    simp only [List.mem_cons, List.not_mem_nil, or_false] at h
    omega)
  clear hG hW v8 v9 bO hE k0
  go_wp2
  exact bodyPost_ret (v := .tuple #[.agg OA, .agg OA, .bool bE]) (res_cells_tmp rfl _ rfl rfl rfl b8 b9 aO aO) rfl ⟨rfl, kW⟩
set_option maxRecDepth 100000 in
set_option maxHeartbeats 1000000 in
theorem both_zero (old : List UInt8) (path : List (List UInt8)) (n : Nat) (v : Value) (w : World) (hv : Rh 0 w v path) (h1 : path.length ≠ 1) : Calls Try.prog 46 #[hashV old, .int .i64 n, .int .i64 n, .bool false, v] w fun e w' => e = .returned (.tuple #[hashV zero32, hashV zero32, .bool false]) ∧ Kept None w w' := by
  obtain ⟨ad, cap, rfl⟩ := hv.form
  obtain ⟨N, hN⟩ : ∃ N, N = path.length := ⟨_, rfl⟩
  rw [← hN] at h1 ⊢
  have h1z : ¬ (N : Int) = 1 := by omega
  obtain ⟨OA, hOA⟩ : ∃ L : Array Value, L = (old.map u8v).toArray := ⟨_, rfl⟩
  show Calls Try.prog 46 #[.agg (old.map u8v).toArray, .int .i64 n, .int .i64 n, .bool false, .slice ad N cap] w _
  rw [← hOA]
  have k0 : Kept None w (((w.alloc (.cells OA 25)).alloc (.cells #[.int .u8 0, .int .u8 0, .int .u8 0, .int .u8 0, .int .u8 0, .int .u8 0, .int .u8 0, .int .u8 0, .int .u8 0, .int .u8 0, .int .u8 0, .int .u8 0, .int .u8 0, .int .u8 0, .int .u8 0, .int .u8 0, .int .u8 0, .int .u8 0, .int .u8 0, .int .u8 0, .int .u8 0, .int .u8 0, .int .u8 0, .int .u8 0, .int .u8 0, .int .u8 0, .int .u8 0, .int .u8 0, .int .u8 0, .int .u8 0, .int .u8 0, .int .u8 0] 25)).alloc (.cells #[.int .u8 0, .int .u8 0, .int .u8 0, .int .u8 0, .int .u8 0, .int .u8 0, .int .u8 0, .int .u8 0, .int .u8 0, .int .u8 0, .int .u8 0, .int .u8 0, .int .u8 0, .int .u8 0, .int .u8 0, .int .u8 0, .int .u8 0, .int .u8 0, .int .u8 0, .int .u8 0, .int .u8 0, .int .u8 0, .int .u8 0, .int .u8 0, .int .u8 0, .int .u8 0, .int .u8 0, .int .u8 0, .int .u8 0, .int .u8 0, .int .u8 0, .int .u8 0] 25)) := (((Kept.refl _ _).alloc _).alloc _).alloc _
  have bO : Blk (((w.alloc (.cells OA 25)).alloc (.cells #[.int .u8 0, .int .u8 0, .int .u8 0, .int .u8 0, .int .u8 0, .int .u8 0, .int .u8 0, .int .u8 0, .int .u8 0, .int .u8 0, .int .u8 0, .int .u8 0, .int .u8 0, .int .u8 0, .int .u8 0, .int .u8 0, .int .u8 0, .int .u8 0, .int .u8 0, .int .u8 0, .int .u8 0, .int .u8 0, .int .u8 0, .int .u8 0, .int .u8 0, .int .u8 0, .int .u8 0, .int .u8 0, .int .u8 0, .int .u8 0, .int .u8 0, .int .u8 0] 25)).alloc (.cells #[.int .u8 0, .int .u8 0, .int .u8 0, .int .u8 0, .int .u8 0, .int .u8 0, .int .u8 0, .int .u8 0, .int .u8 0, .int .u8 0, .int .u8 0, .int .u8 0, .int .u8 0, .int .u8 0, .int .u8 0, .int .u8 0, .int .u8 0, .int .u8 0, .int .u8 0, .int .u8 0, .int .u8 0, .int .u8 0, .int .u8 0, .int .u8 0, .int .u8 0, .int .u8 0, .int .u8 0, .int .u8 0, .int .u8 0, .int .u8 0, .int .u8 0, .int .u8 0] 25)) w.heap.size OA 25 := ((Blk.new w _ _).alloc _).alloc _
  have v8 : Blk (((w.alloc (.cells OA 25)).alloc (.cells #[.int .u8 0, .int .u8 0, .int .u8 0, .int .u8 0, .int .u8 0, .int .u8 0, .int .u8 0, .int .u8 0, .int .u8 0, .int .u8 0, .int .u8 0, .int .u8 0, .int .u8 0, .int .u8 0, .int .u8 0, .int .u8 0, .int .u8 0, .int .u8 0, .int .u8 0, .int .u8 0, .int .u8 0, .int .u8 0, .int .u8 0, .int .u8 0, .int .u8 0, .int .u8 0, .int .u8 0, .int .u8 0, .int .u8 0, .int .u8 0, .int .u8 0, .int .u8 0] 25)).alloc (.cells #[.int .u8 0, .int .u8 0, .int .u8 0, .int .u8 0, .int .u8 0, .int .u8 0, .int .u8 0, .int .u8 0, .int .u8 0, .int .u8 0, .int .u8 0, .int .u8 0, .int .u8 0, .int .u8 0, .int .u8 0, .int .u8 0, .int .u8 0, .int .u8 0, .int .u8 0, .int .u8 0, .int .u8 0, .int .u8 0, .int .u8 0, .int .u8 0, .int .u8 0, .int .u8 0, .int .u8 0, .int .u8 0, .int .u8 0, .int .u8 0, .int .u8 0, .int .u8 0] 25)) (w.heap.size + 1) #[.int .u8 0, .int .u8 0, .int .u8 0, .int .u8 0, .int .u8 0, .int .u8 0, .int .u8 0, .int .u8 0, .int .u8 0, .int .u8 0, .int .u8 0, .int .u8 0, .int .u8 0, .int .u8 0, .int .u8 0, .int .u8 0, .int .u8 0, .int .u8 0, .int .u8 0, .int .u8 0, .int .u8 0, .int .u8 0, .int .u8 0, .int .u8 0, .int .u8 0, .int .u8 0, .int .u8 0, .int .u8 0, .int .u8 0, .int .u8 0, .int .u8 0, .int .u8 0] 25 := (Blk.new2 w _ _ _).alloc _
  have v9 : Blk (((w.alloc (.cells OA 25)).alloc (.cells #[.int .u8 0, .int .u8 0, .int .u8 0, .int .u8 0, .int .u8 0, .int .u8 0, .int .u8 0, .int .u8 0, .int .u8 0, .int .u8 0, .int .u8 0, .int .u8 0, .int .u8 0, .int .u8 0, .int .u8 0, .int .u8 0, .int .u8 0, .int .u8 0, .int .u8 0, .int .u8 0, .int .u8 0, .int .u8 0, .int .u8 0, .int .u8 0, .int .u8 0, .int .u8 0, .int .u8 0, .int .u8 0, .int .u8 0, .int .u8 0, .int .u8 0, .int .u8 0] 25)).alloc (.cells #[.int .u8 0, .int .u8 0, .int .u8 0, .int .u8 0, .int .u8 0, .int .u8 0, .int .u8 0, .int .u8 0, .int .u8 0, .int .u8 0, .int .u8 0, .int .u8 0, .int .u8 0, .int .u8 0, .int .u8 0, .int .u8 0, .int .u8 0, .int .u8 0, .int .u8 0, .int .u8 0, .int .u8 0, .int .u8 0, .int .u8 0, .int .u8 0, .int .u8 0, .int .u8 0, .int .u8 0, .int .u8 0, .int .u8 0, .int .u8 0, .int .u8 0, .int .u8 0] 25)) (w.heap.size + 2) #[.int .u8 0, .int .u8 0, .int .u8 0, .int .u8 0, .int .u8 0, .int .u8 0, .int .u8 0, .int .u8 0, .int .u8 0, .int .u8 0, .int .u8 0, .int .u8 0, .int .u8 0, .int .u8 0, .int .u8 0, .int .u8 0, .int .u8 0, .int .u8 0, .int .u8 0, .int .u8 0, .int .u8 0, .int .u8 0, .int .u8 0, .int .u8 0, .int .u8 0, .int .u8 0, .int .u8 0, .int .u8 0, .int .u8 0, .int .u8 0, .int .u8 0, .int .u8 0] 25 := Blk.new3 w _ _ _ _
  obtain ⟨z8, hz8, v8⟩ := Blk.any (n := 32) v8 (by rfl)
  obtain ⟨z9, hz9, v9⟩ := Blk.any (n := 32) v9 (by rfl)
  clear hv hOA bO hN h1
  go_enter Try.func46, Try.ntmps46
  go_upto_region 5 with (fail)
  refine wp_nm ?_
  intro w1 e1
  rw [← e1] at k0 v8 v9
  clear e1
  go_wp2_with (first | (refine wpList_store_blk rfl _ _ _ rfl rfl rfl v8 Sp.aH hz8 Hk.zero_all32 ?_; intro w6 h6 k6; have h96 := v9.kept k6 (fun (h : w.heap.size + 2 = w.heap.size + 1) => by omega)) | (refine wpList_store_blk rfl _ _ _ rfl rfl rfl h96 Sp.aH hz9 Hk.zero_all32 ?_; intro w7 h7 k7; have h87 := h6.kept k7 (fun (h : w.heap.size + 1 = w.heap.size + 2) => by omega)) | fail)
  exact bodyPost_ret (v := .tuple #[.agg #[.int .u8 0, .int .u8 0, .int .u8 0, .int .u8 0, .int .u8 0, .int .u8 0, .int .u8 0, .int .u8 0, .int .u8 0, .int .u8 0, .int .u8 0, .int .u8 0, .int .u8 0, .int .u8 0, .int .u8 0, .int .u8 0, .int .u8 0, .int .u8 0, .int .u8 0, .int .u8 0, .int .u8 0, .int .u8 0, .int .u8 0, .int .u8 0, .int .u8 0, .int .u8 0, .int .u8 0, .int .u8 0, .int .u8 0, .int .u8 0, .int .u8 0, .int .u8 0], .agg #[.int .u8 0, .int .u8 0, .int .u8 0, .int .u8 0, .int .u8 0, .int .u8 0, .int .u8 0, .int .u8 0, .int .u8 0, .int .u8 0, .int .u8 0, .int .u8 0, .int .u8 0, .int .u8 0, .int .u8 0, .int .u8 0, .int .u8 0, .int .u8 0, .int .u8 0, .int .u8 0, .int .u8 0, .int .u8 0, .int .u8 0, .int .u8 0, .int .u8 0, .int .u8 0, .int .u8 0, .int .u8 0, .int .u8 0, .int .u8 0, .int .u8 0, .int .u8 0], .bool false]) (res_cells_tmp rfl _ rfl rfl rfl h87 h7 Sp.aH Sp.aH) rfl ⟨by rfl, (k0.then k6 (fun i hi (h : i = w.heap.size + 1) => by omega)).then k7 (fun i hi (h : i = w.heap.size + 2) => by omega)⟩
set_option maxRecDepth 100000 in
set_option maxHeartbeats 1000000 in
theorem both_none (old : List UInt8) (m n : Nat) (wh : Bool) (v : Value) (w : World) (hv : Rh 0 w v []) (h1 : m ≠ n) : Calls Try.prog 46 #[hashV old, .int .i64 m, .int .i64 n, .bool wh, v] w fun e w' => e = .returned (.tuple #[hashV zero32, hashV zero32, .bool false]) ∧ Kept None w w' := by
  obtain ⟨ad, cap, rfl⟩ := hv.form
  have h1z : ¬ (m : Int) = (n : Int) := by omega
  obtain ⟨OA, hOA⟩ : ∃ L : Array Value, L = (old.map u8v).toArray := ⟨_, rfl⟩
  show Calls Try.prog 46 #[.agg (old.map u8v).toArray, .int .i64 m, .int .i64 n, .bool wh, .slice ad 0 cap] w _
  rw [← hOA]
  have k0 : Kept None w (((w.alloc (.cells OA 25)).alloc (.cells #[.int .u8 0, .int .u8 0, .int .u8 0, .int .u8 0, .int .u8 0, .int .u8 0, .int .u8 0, .int .u8 0, .int .u8 0, .int .u8 0, .int .u8 0, .int .u8 0, .int .u8 0, .int .u8 0, .int .u8 0, .int .u8 0, .int .u8 0, .int .u8 0, .int .u8 0, .int .u8 0, .int .u8 0, .int .u8 0, .int .u8 0, .int .u8 0, .int .u8 0, .int .u8 0, .int .u8 0, .int .u8 0, .int .u8 0, .int .u8 0, .int .u8 0, .int .u8 0] 25)).alloc (.cells #[.int .u8 0, .int .u8 0, .int .u8 0, .int .u8 0, .int .u8 0, .int .u8 0, .int .u8 0, .int .u8 0, .int .u8 0, .int .u8 0, .int .u8 0, .int .u8 0, .int .u8 0, .int .u8 0, .int .u8 0, .int .u8 0, .int .u8 0, .int .u8 0, .int .u8 0, .int .u8 0, .int .u8 0, .int .u8 0, .int .u8 0, .int .u8 0, .int .u8 0, .int .u8 0, .int .u8 0, .int .u8 0, .int .u8 0, .int .u8 0, .int .u8 0, .int .u8 0] 25)) := (((Kept.refl _ _).alloc _).alloc _).alloc _
  have bO : Blk (((w.alloc (.cells OA 25)).alloc (.cells #[.int .u8 0, .int .u8 0, .int .u8 0, .int .u8 0, .int .u8 0, .int .u8 0, .int .u8 0, .int .u8 0, .int .u8 0, .int .u8 0, .int .u8 0, .int .u8 0, .int .u8 0, .int .u8 0, .int .u8 0, .int .u8 0, .int .u8 0, .int .u8 0, .int .u8 0, .int .u8 0, .int .u8 0, .int .u8 0, .int .u8 0, .int .u8 0, .int .u8 0, .int .u8 0, .int .u8 0, .int .u8 0, .int .u8 0, .int .u8 0, .int .u8 0, .int .u8 0] 25)).alloc (.cells #[.int .u8 0, .int .u8 0, .int .u8 0, .int .u8 0, .int .u8 0, .int .u8 0, .int .u8 0, .int .u8 0, .int .u8 0, .int .u8 0, .int .u8 0, .int .u8 0, .int .u8 0, .int .u8 0, .int .u8 0, .int .u8 0, .int .u8 0, .int .u8 0, .int .u8 0, .int .u8 0, .int .u8 0, .int .u8 0, .int .u8 0, .int .u8 0, .int .u8 0, .int .u8 0, .int .u8 0, .int .u8 0, .int .u8 0, .int .u8 0, .int .u8 0, .int .u8 0] 25)) w.heap.size OA 25 := ((Blk.new w _ _).alloc _).alloc _
  have v8 : Blk (((w.alloc (.cells OA 25)).alloc (.cells #[.int .u8 0, .int .u8 0, .int .u8 0, .int .u8 0, .int .u8 0, .int .u8 0, .int .u8 0, .int .u8 0, .int .u8 0, .int .u8 0, .int .u8 0, .int .u8 0, .int .u8 0, .int .u8 0, .int .u8 0, .int .u8 0, .int .u8 0, .int .u8 0, .int .u8 0, .int .u8 0, .int .u8 0, .int .u8 0, .int .u8 0, .int .u8 0, .int .u8 0, .int .u8 0, .int .u8 0, .int .u8 0, .int .u8 0, .int .u8 0, .int .u8 0, .int .u8 0] 25)).alloc (.cells #[.int .u8 0, .int .u8 0, .int .u8 0, .int .u8 0, .int .u8 0, .int .u8 0, .int .u8 0, .int .u8 0, .int .u8 0, .int .u8 0, .int .u8 0, .int .u8 0, .int .u8 0, .int .u8 0, .int .u8 0, .int .u8 0, .int .u8 0, .int .u8 0, .int .u8 0, .int .u8 0, .int .u8 0, .int .u8 0, .int .u8 0, .int .u8 0, .int .u8 0, .int .u8 0, .int .u8 0, .int .u8 0, .int .u8 0, .int .u8 0, .int .u8 0, .int .u8 0] 25)) (w.heap.size + 1) #[.int .u8 0, .int .u8 0, .int .u8 0, .int .u8 0, .int .u8 0, .int .u8 0, .int .u8 0, .int .u8 0, .int .u8 0, .int .u8 0, .int .u8 0, .int .u8 0, .int .u8 0, .int .u8 0, .int .u8 0, .int .u8 0, .int .u8 0, .int .u8 0, .int .u8 0, .int .u8 0, .int .u8 0, .int .u8 0, .int .u8 0, .int .u8 0, .int .u8 0, .int .u8 0, .int .u8 0, .int .u8 0, .int .u8 0, .int .u8 0, .int .u8 0, .int .u8 0] 25 := (Blk.new2 w _ _ _).alloc _
  have v9 : Blk (((w.alloc (.cells OA 25)).alloc (.cells #[.int .u8 0, .int .u8 0, .int .u8 0, .int .u8 0, .int .u8 0, .int .u8 0, .int .u8 0, .int .u8 0, .int .u8 0, .int .u8 0, .int .u8 0, .int .u8 0, .int .u8 0, .int .u8 0, .int .u8 0, .int .u8 0, .int .u8 0, .int .u8 0, .int .u8 0, .int .u8 0, .int .u8 0, .int .u8 0, .int .u8 0, .int .u8 0, .int .u8 0, .int .u8 0, .int .u8 0, .int .u8 0, .int .u8 0, .int .u8 0, .int .u8 0, .int .u8 0] 25)).alloc (.cells #[.int .u8 0, .int .u8 0, .int .u8 0, .int .u8 0, .int .u8 0, .int .u8 0, .int .u8 0, .int .u8 0, .int .u8 0, .int .u8 0, .int .u8 0, .int .u8 0, .int .u8 0, .int .u8 0, .int .u8 0, .int .u8 0, .int .u8 0, .int .u8 0, .int .u8 0, .int .u8 0, .int .u8 0, .int .u8 0, .int .u8 0, .int .u8 0, .int .u8 0, .int .u8 0, .int .u8 0, .int .u8 0, .int .u8 0, .int .u8 0, .int .u8 0, .int .u8 0] 25)) (w.heap.size + 2) #[.int .u8 0, .int .u8 0, .int .u8 0, .int .u8 0, .int .u8 0, .int .u8 0, .int .u8 0, .int .u8 0, .int .u8 0, .int .u8 0, .int .u8 0, .int .u8 0, .int .u8 0, .int .u8 0, .int .u8 0, .int .u8 0, .int .u8 0, .int .u8 0, .int .u8 0, .int .u8 0, .int .u8 0, .int .u8 0, .int .u8 0, .int .u8 0, .int .u8 0, .int .u8 0, .int .u8 0, .int .u8 0, .int .u8 0, .int .u8 0, .int .u8 0, .int .u8 0] 25 := Blk.new3 w _ _ _ _
  obtain ⟨z8, hz8, v8⟩ := Blk.any (n := 32) v8 (by rfl)
  obtain ⟨z9, hz9, v9⟩ := Blk.any (n := 32) v9 (by rfl)
  clear hv hOA bO h1
  go_enter Try.func46, Try.ntmps46
  go_upto_region 8 with (fail)
  refine wp_nm ?_
  intro w1 e1
  rw [← e1] at k0 v8 v9
  clear e1
  go_wp2_with (first | (refine wpList_store_blk rfl _ _ _ rfl rfl rfl v8 Sp.aH hz8 Hk.zero_all32 ?_; intro w6 h6 k6; have h96 := v9.kept k6 (fun (h : w.heap.size + 2 = w.heap.size + 1) => by omega)) | (refine wpList_store_blk rfl _ _ _ rfl rfl rfl h96 Sp.aH hz9 Hk.zero_all32 ?_; intro w7 h7 k7; have h87 := h6.kept k7 (fun (h : w.heap.size + 1 = w.heap.size + 2) => by omega)) | fail)
  exact bodyPost_ret (v := .tuple #[.agg #[.int .u8 0, .int .u8 0, .int .u8 0, .int .u8 0, .int .u8 0, .int .u8 0, .int .u8 0, .int .u8 0, .int .u8 0, .int .u8 0, .int .u8 0, .int .u8 0, .int .u8 0, .int .u8 0, .int .u8 0, .int .u8 0, .int .u8 0, .int .u8 0, .int .u8 0, .int .u8 0, .int .u8 0, .int .u8 0, .int .u8 0, .int .u8 0, .int .u8 0, .int .u8 0, .int .u8 0, .int .u8 0, .int .u8 0, .int .u8 0, .int .u8 0, .int .u8 0], .agg #[.int .u8 0, .int .u8 0, .int .u8 0, .int .u8 0, .int .u8 0, .int .u8 0, .int .u8 0, .int .u8 0, .int .u8 0, .int .u8 0, .int .u8 0, .int .u8 0, .int .u8 0, .int .u8 0, .int .u8 0, .int .u8 0, .int .u8 0, .int .u8 0, .int .u8 0, .int .u8 0, .int .u8 0, .int .u8 0, .int .u8 0, .int .u8 0, .int .u8 0, .int .u8 0, .int .u8 0, .int .u8 0, .int .u8 0, .int .u8 0, .int .u8 0, .int .u8 0], .bool false]) (res_cells_tmp rfl _ rfl rfl rfl h87 h7 Sp.aH Sp.aH) rfl ⟨by rfl, (k0.then k6 (fun i hi (h : i = w.heap.size + 1) => by omega)).then k7 (fun i hi (h : i = w.heap.size + 2) => by omega)⟩
set_option maxRecDepth 100000 in
set_option maxHeartbeats 1000000 in
theorem both_one (old p : List UInt8) (n : Nat) (v : Value) (w : World) (hv : Rh 0 w v [p]) : Calls Try.prog 46 #[hashV old, .int .i64 n, .int .i64 n, .bool false, v] w fun e w' => e = .returned (.tuple #[hashV p, hashV p, .bool true]) ∧ Kept None w w' := by
  have hp32 : p.length = 32 := by
    obtain ⟨hi, hv⟩ := hv
    exact hv.1 p (by simp)
  obtain ⟨ad, cap, rfl⟩ := hv.form
  obtain ⟨bb, o, rfl, rp⟩ : ∃ b o, ad = some ⟨b, o, none⟩ ∧ w.rangeAt b o (p.map u8v) := by
    obtain ⟨hi, hv⟩ := hv
    obtain ⟨b, o, e1, e2⟩ := hv.at (i := 0) (by simp)
    exact ⟨b, o, e1, by simpa using e2⟩
  obtain ⟨OA, hOA⟩ : ∃ L : Array Value, L = (old.map u8v).toArray := ⟨_, rfl⟩
  obtain ⟨CP, hCP⟩ : ∃ C : List Value, C = p.map u8v := ⟨_, rfl⟩
  obtain ⟨PA, hPA⟩ : ∃ P : Array Value, P = CP.toArray := ⟨_, rfl⟩
  rw [← hCP] at rp
  have aP : AggTy Try.prog 25 CP.length := by rw [hCP]; exact Hk.aH32' hp32
  have aPA : AggTy Try.prog 25 PA.size := by rw [hPA, hCP]; exact Hk.aH32 hp32
  have sPA : PA.size = 32 := by rw [hPA, hCP]; simpa using hp32
  have allP : PA.all (·.oneCell') = true := by rw [hPA, hCP]; exact u8v_all' _
  have ePA : PA = (p.map u8v).toArray := by rw [hPA, hCP]
  have HBB := hid (range_lt rp (by rw [hCP, List.length_map, hp32]; decide))
  show Calls Try.prog 46 #[.agg (old.map u8v).toArray, .int .i64 n, .int .i64 n, .bool false, .slice (some ⟨bb, o, none⟩) 1 cap] w _
  rw [← hOA]
  show Calls _ _ _ w (fun e w' => e = .returned (.tuple #[.agg (p.map u8v).toArray, .agg (p.map u8v).toArray, .bool true]) ∧ Kept None w w')
  rw [← ePA]
  have k0 : Kept None w (((w.alloc (.cells OA 25)).alloc (.cells #[.int .u8 0, .int .u8 0, .int .u8 0, .int .u8 0, .int .u8 0, .int .u8 0, .int .u8 0, .int .u8 0, .int .u8 0, .int .u8 0, .int .u8 0, .int .u8 0, .int .u8 0, .int .u8 0, .int .u8 0, .int .u8 0, .int .u8 0, .int .u8 0, .int .u8 0, .int .u8 0, .int .u8 0, .int .u8 0, .int .u8 0, .int .u8 0, .int .u8 0, .int .u8 0, .int .u8 0, .int .u8 0, .int .u8 0, .int .u8 0, .int .u8 0, .int .u8 0] 25)).alloc (.cells #[.int .u8 0, .int .u8 0, .int .u8 0, .int .u8 0, .int .u8 0, .int .u8 0, .int .u8 0, .int .u8 0, .int .u8 0, .int .u8 0, .int .u8 0, .int .u8 0, .int .u8 0, .int .u8 0, .int .u8 0, .int .u8 0, .int .u8 0, .int .u8 0, .int .u8 0, .int .u8 0, .int .u8 0, .int .u8 0, .int .u8 0, .int .u8 0, .int .u8 0, .int .u8 0, .int .u8 0, .int .u8 0, .int .u8 0, .int .u8 0, .int .u8 0, .int .u8 0] 25)) := (((Kept.refl _ _).alloc _).alloc _).alloc _
  have bO : Blk (((w.alloc (.cells OA 25)).alloc (.cells #[.int .u8 0, .int .u8 0, .int .u8 0, .int .u8 0, .int .u8 0, .int .u8 0, .int .u8 0, .int .u8 0, .int .u8 0, .int .u8 0, .int .u8 0, .int .u8 0, .int .u8 0, .int .u8 0, .int .u8 0, .int .u8 0, .int .u8 0, .int .u8 0, .int .u8 0, .int .u8 0, .int .u8 0, .int .u8 0, .int .u8 0, .int .u8 0, .int .u8 0, .int .u8 0, .int .u8 0, .int .u8 0, .int .u8 0, .int .u8 0, .int .u8 0, .int .u8 0] 25)).alloc (.cells #[.int .u8 0, .int .u8 0, .int .u8 0, .int .u8 0, .int .u8 0, .int .u8 0, .int .u8 0, .int .u8 0, .int .u8 0, .int .u8 0, .int .u8 0, .int .u8 0, .int .u8 0, .int .u8 0, .int .u8 0, .int .u8 0, .int .u8 0, .int .u8 0, .int .u8 0, .int .u8 0, .int .u8 0, .int .u8 0, .int .u8 0, .int .u8 0, .int .u8 0, .int .u8 0, .int .u8 0, .int .u8 0, .int .u8 0, .int .u8 0, .int .u8 0, .int .u8 0] 25)) w.heap.size OA 25 := ((Blk.new w _ _).alloc _).alloc _
  have v8 : Blk (((w.alloc (.cells OA 25)).alloc (.cells #[.int .u8 0, .int .u8 0, .int .u8 0, .int .u8 0, .int .u8 0, .int .u8 0, .int .u8 0, .int .u8 0, .int .u8 0, .int .u8 0, .int .u8 0, .int .u8 0, .int .u8 0, .int .u8 0, .int .u8 0, .int .u8 0, .int .u8 0, .int .u8 0, .int .u8 0, .int .u8 0, .int .u8 0, .int .u8 0, .int .u8 0, .int .u8 0, .int .u8 0, .int .u8 0, .int .u8 0, .int .u8 0, .int .u8 0, .int .u8 0, .int .u8 0, .int .u8 0] 25)).alloc (.cells #[.int .u8 0, .int .u8 0, .int .u8 0, .int .u8 0, .int .u8 0, .int .u8 0, .int .u8 0, .int .u8 0, .int .u8 0, .int .u8 0, .int .u8 0, .int .u8 0, .int .u8 0, .int .u8 0, .int .u8 0, .int .u8 0, .int .u8 0, .int .u8 0, .int .u8 0, .int .u8 0, .int .u8 0, .int .u8 0, .int .u8 0, .int .u8 0, .int .u8 0, .int .u8 0, .int .u8 0, .int .u8 0, .int .u8 0, .int .u8 0, .int .u8 0, .int .u8 0] 25)) (w.heap.size + 1) #[.int .u8 0, .int .u8 0, .int .u8 0, .int .u8 0, .int .u8 0, .int .u8 0, .int .u8 0, .int .u8 0, .int .u8 0, .int .u8 0, .int .u8 0, .int .u8 0, .int .u8 0, .int .u8 0, .int .u8 0, .int .u8 0, .int .u8 0, .int .u8 0, .int .u8 0, .int .u8 0, .int .u8 0, .int .u8 0, .int .u8 0, .int .u8 0, .int .u8 0, .int .u8 0, .int .u8 0, .int .u8 0, .int .u8 0, .int .u8 0, .int .u8 0, .int .u8 0] 25 := (Blk.new2 w _ _ _).alloc _
  have v9 : Blk (((w.alloc (.cells OA 25)).alloc (.cells #[.int .u8 0, .int .u8 0, .int .u8 0, .int .u8 0, .int .u8 0, .int .u8 0, .int .u8 0, .int .u8 0, .int .u8 0, .int .u8 0, .int .u8 0, .int .u8 0, .int .u8 0, .int .u8 0, .int .u8 0, .int .u8 0, .int .u8 0, .int .u8 0, .int .u8 0, .int .u8 0, .int .u8 0, .int .u8 0, .int .u8 0, .int .u8 0, .int .u8 0, .int .u8 0, .int .u8 0, .int .u8 0, .int .u8 0, .int .u8 0, .int .u8 0, .int .u8 0] 25)).alloc (.cells #[.int .u8 0, .int .u8 0, .int .u8 0, .int .u8 0, .int .u8 0, .int .u8 0, .int .u8 0, .int .u8 0, .int .u8 0, .int .u8 0, .int .u8 0, .int .u8 0, .int .u8 0, .int .u8 0, .int .u8 0, .int .u8 0, .int .u8 0, .int .u8 0, .int .u8 0, .int .u8 0, .int .u8 0, .int .u8 0, .int .u8 0, .int .u8 0, .int .u8 0, .int .u8 0, .int .u8 0, .int .u8 0, .int .u8 0, .int .u8 0, .int .u8 0, .int .u8 0] 25)) (w.heap.size + 2) #[.int .u8 0, .int .u8 0, .int .u8 0, .int .u8 0, .int .u8 0, .int .u8 0, .int .u8 0, .int .u8 0, .int .u8 0, .int .u8 0, .int .u8 0, .int .u8 0, .int .u8 0, .int .u8 0, .int .u8 0, .int .u8 0, .int .u8 0, .int .u8 0, .int .u8 0, .int .u8 0, .int .u8 0, .int .u8 0, .int .u8 0, .int .u8 0, .int .u8 0, .int .u8 0, .int .u8 0, .int .u8 0, .int .u8 0, .int .u8 0, .int .u8 0, .int .u8 0] 25 := Blk.new3 w _ _ _ _
  obtain ⟨z8, hz8, v8⟩ := Blk.any (n := 32) v8 (by rfl)
  obtain ⟨z9, hz9, v9⟩ := Blk.any (n := 32) v9 (by rfl)
  have HZ := hid (And.intro (hz8.trans sPA.symm) (And.intro (hz9.trans sPA.symm) allP))
  have HPA := hid hPA
  have RP := hid (rangeAt_kept rp k0)
  clear hOA sPA allP hz8 hz9 hv hPA hCP ePA hp32 rp bO
  go_enter Try.func46, Try.ntmps46
  go_upto_region 6 with (fail)
  refine wp_nm ?_
  intro w1 e1
  rw [← e1] at k0 v8 v9 RP
  clear e1
  refine wp_region_blk w1 [w.heap.size + 1, w.heap.size + 2] 25 [.blk 6 0 PA [9] [9], .blk 7 1 PA [10] [10], .blk 9 0 z8 [] [], .blk 10 1 z9 [] []] [9, 10] (Kept.refl _ _) (by kernel_rfl) (by kernel_rfl) (by kernel_rfl) (by decide) ?_ ?_
  · intro k hk
    simp only [List.mem_cons, List.not_mem_nil, or_false] at hk
    rcases hk with rfl | rfl
    · exact Blk.drew (v8)
    · exact Blk.drew (v9)
  refine wpPar_pure rfl (by rfl) _ (fun W hW => by
      go_simp
      exact rfl) ?_; simp only [Act.put, List.setIfInBounds_toArray, List.set_cons_zero, List.set_cons_succ]
  refine wpPar_pure rfl (by rfl) _ (fun W hW => by
      go_simp
      exact rfl) ?_; simp only [Act.put, List.setIfInBounds_toArray, List.set_cons_zero, List.set_cons_succ]
  refine wpPar_pure rfl (by rfl) (.agg PA) (fun W hW => by rw [HPA.out]; exact exec_load_at rfl rfl (range_keptS RP.out hW (fun h => by have := HBB.out; simp only [List.mem_cons, List.not_mem_nil, or_false] at h; omega)) aP) ?_; simp only [Act.put, List.setIfInBounds_toArray, List.set_cons_zero, List.set_cons_succ]
  refine wpPar_pure rfl (by rfl) _ (fun W hW => by
      go_simp
      exact rfl) ?_; simp only [Act.put, List.setIfInBounds_toArray, List.set_cons_zero, List.set_cons_succ]
  refine wpPar_pure rfl (by rfl) _ (fun W hW => by
      go_simp
      exact rfl) ?_; simp only [Act.put, List.setIfInBounds_toArray, List.set_cons_zero, List.set_cons_succ]
  refine wpPar_pure rfl (by rfl) (.agg PA) (fun W hW => by rw [HPA.out]; exact exec_load_at rfl rfl (range_keptS RP.out hW (fun h => by have := HBB.out; simp only [List.mem_cons, List.not_mem_nil, or_false] at h; omega)) aP) ?_; simp only [Act.put, List.setIfInBounds_toArray, List.set_cons_zero, List.set_cons_succ]
  refine wpB_store _ _ _ 0 (A := z8) rfl (by rfl) rfl rfl rfl rfl aPA HZ.out.1 HZ.out.2.2 (by simp) (by simp) (by kernel_rfl) (fun _ => trivial) (fun _ => rfl) (fun W hW hd => hd 9 (List.Mem.head _)) (fun u => ?_)
  refine wpB_store _ _ _ 1 (A := z9) rfl (by rfl) rfl rfl rfl rfl aPA HZ.out.2.1 HZ.out.2.2 (by simp) (by simp) (by kernel_rfl) (fun _ => trivial) (fun _ => rfl) (fun W hW hd => hd 10 (List.Mem.head _)) (fun u => ?_)
  refine wpPar_pure rfl (by rfl) _ (fun W hW => by
      go_simp
      exact rfl) ?_; simp only [Act.put, List.setIfInBounds_toArray, List.set_cons_zero, List.set_cons_succ]
  refine wpPar_nil (fun W hW hG => ?_)
  have b8 : Blk W (w.heap.size + 1) PA 25 := hG 6
  have b9 : Blk W (w.heap.size + 2) PA 25 := hG 7
  have kW : Kept None w W := k0.then hW (fun i hi h => by
    simp only [List.mem_cons, List.not_mem_nil, or_false] at h
    omega)
  clear hG hW v8 v9 k0 RP
  go_wp2
  exact bodyPost_ret (v := .tuple #[.agg PA, .agg PA, .bool true]) (res_cells_tmp rfl _ rfl rfl rfl b8 b9 aPA aPA) rfl ⟨rfl, kW⟩
set_option maxRecDepth 100000 in
set_option maxHeartbeats 2000000 in
theorem both_left (old r1 r2 p : List UInt8) (ok : Bool) (ps : List (List UInt8)) (m n : Nat) (wh : Bool) (v : Value) (w : World) (ho : old.length = 32) (hr1 : r1.length = 32) (hr2 : r2.length = 32) (hv : Rh 0 w v (ps ++ [p])) (h1 : 1 ≤ m) (hmn : m < n) (hn : n < 9223372036854775808) (hs : m ≤ splitN n) (hps : ps.length ≤ 549755813888)
    (ih : ∀ v w, Rh 0 w v ps → Calls Try.prog 46 #[hashV old, .int .i64 m, .int .i64 (splitN n : Nat), .bool wh, v] w fun e w' => e = .returned (.tuple #[hashV r1, hashV r2, .bool ok]) ∧ Kept None w w') : Calls Try.prog 46 #[hashV old, .int .i64 m, .int .i64 n, .bool wh, v] w fun e w' => e = .returned (.tuple #[hashV r1, hashV (nodeL r2 p), .bool ok]) ∧ Kept None w w' := by
  have hp32 : p.length = 32 := by
    obtain ⟨hi, hv⟩ := hv
    exact hv.1 p (by simp)
  obtain ⟨ad, cap, rfl⟩ := hv.form
  have g2' : cap ≤ 9223372036854775807 ∧ (ps ++ [p]).length ≤ cap := by
    obtain ⟨hi, hv⟩ := hv
    obtain ⟨_, _, q, q1, q2, _⟩ := hv.form
    injection q with _ _ q
    omega
  obtain ⟨q, hq⟩ : ∃ q, q = ps.length := ⟨_, rfl⟩
  obtain ⟨M, hM⟩ : ∃ M, M = (ps ++ [p]).length := ⟨_, rfl⟩
  have hMq : M = q + 1 := by rw [hM, hq, List.length_append]; rfl
  rw [← hM] at hv g2' ⊢
  rw [← hq] at hps
  obtain ⟨a1, s1, i1⟩ := rh_to Lg8.tHashes Lg8.zHashes hv .i64 q (by omega)
  rw [hq, List.take_left, ← hq] at i1
  obtain ⟨bb, o, rfl, rp⟩ : ∃ b o, ad = some ⟨b, o, none⟩ ∧ w.rangeAt b (o + q * 32) (p.map u8v) := by
    obtain ⟨hi, hv⟩ := hv
    obtain ⟨b, o, e1, e2⟩ := hv.at (i := q) (by rw [← hM]; omega)
    refine ⟨b, o, e1, ?_⟩
    have e3 : (ps ++ [p])[q]'(by rw [← hM]; omega) = p := by simp [hq]
    rwa [e3] at e2
  have hSp := fun w => RLg.split n w (by omega) hn
  have hk := splitN_lt (n := n) (by omega)
  have hkp := splitN_pos (n := n) (by omega)
  obtain ⟨k, hkk⟩ : ∃ k, k = splitN n := ⟨_, rfl⟩
  rw [← hkk] at ih hSp hk hkp hs
  have h3z : ¬ (m : Int) = (n : Int) := by omega
  have hM0 : ¬ (M : Int) = 0 := by omega
  have hMz : (1 : Int) ≤ (M : Int) := by omega
  have hqz : (q : Int) < (M : Int) := by omega
  have hqM : q < M := by omega
  have hcz : (M : Int) ≤ (cap : Int) := by omega
  have hqc : (q : Int) ≤ (cap : Int) := by omega
  have rq : IntKind.i64.wrap ((M : Int) - 1) = (q : Int) := by rw [IntKind.wrap_i64]; omega
  have hik : (m : Int) ≤ (k : Int) := by omega
  obtain ⟨OA, hOA⟩ : ∃ L : Array Value, L = (old.map u8v).toArray := ⟨_, rfl⟩
  have aO : AggTy Try.prog 25 OA.size := by rw [hOA]; exact Hk.aH32 ho
  have sO : OA.size = 32 := by rw [hOA]; simpa using ho
  have allO : OA.all (·.oneCell') = true := by rw [hOA]; exact u8v_all' _
  obtain ⟨CP, hCP⟩ : ∃ C : List Value, C = p.map u8v := ⟨_, rfl⟩
  obtain ⟨PA, hPA⟩ : ∃ P : Array Value, P = CP.toArray := ⟨_, rfl⟩
  rw [← hCP] at rp
  have aP : AggTy Try.prog 25 CP.length := by rw [hCP]; exact Hk.aH32' hp32
  have aPA : AggTy Try.prog 25 PA.size := by rw [hPA, hCP]; exact Hk.aH32 hp32
  have sPA : PA.size = 32 := by rw [hPA, hCP]; simpa using hp32
  have allP : PA.all (·.oneCell') = true := by rw [hPA, hCP]; exact u8v_all' _
  have ePA : PA = (p.map u8v).toArray := by rw [hPA, hCP]
  have HBB := hid (range_lt rp (by rw [hCP, List.length_map, hp32]; decide))
  obtain ⟨R1, hR1⟩ : ∃ L : Array Value, L = (r1.map u8v).toArray := ⟨_, rfl⟩
  obtain ⟨R2, hR2⟩ : ∃ L : Array Value, L = (r2.map u8v).toArray := ⟨_, rfl⟩
  have aR1 : AggTy Try.prog 25 R1.size := by rw [hR1]; exact Hk.aH32 hr1
  have aR2 : AggTy Try.prog 25 R2.size := by rw [hR2]; exact Hk.aH32 hr2
  have sR1 : R1.size = 32 := by rw [hR1]; simpa using hr1
  have sR2 : R2.size = 32 := by rw [hR2]; simpa using hr2
  have allR1 : R1.all (·.oneCell') = true := by rw [hR1]; exact u8v_all' _
  have allR2 : R2.all (·.oneCell') = true := by rw [hR2]; exact u8v_all' _
  obtain ⟨t2, ht2⟩ : ∃ x, x = nodeL r2 p := ⟨_, rfl⟩
  have lt2 : t2.length = 32 := by rw [ht2]; exact nodeL_len _ _
  obtain ⟨N2, hN2⟩ : ∃ L : Array Value, L = (t2.map u8v).toArray := ⟨_, rfl⟩
  have aN2 : AggTy Try.prog 25 N2.size := by rw [hN2]; exact Hk.aH32 lt2
  have sN2 : N2.size = 32 := by rw [hN2]; simpa using lt2
  have allN2 : N2.all (·.oneCell') = true := by rw [hN2]; exact u8v_all' _
  have HN2 : Hid (∀ w, Calls Try.prog 43 #[.agg R2, .agg PA] w fun e w' => e = .returned (.agg N2) ∧ Kept None w w') := hid (fun w => by rw [hR2, ePA, hN2, ht2]; exact RLg.node r2 p w (by omega) (by omega))
  have ih : ∀ v w, Rh 0 w v ps → Calls Try.prog 46 #[.agg OA, .int .i64 m, .int .i64 k, .bool wh, v] w fun e w' => e = .returned (.tuple #[.agg R1, .agg R2, .bool ok]) ∧ Kept None w w' := by rw [hOA, hR1, hR2]; exact ih
  have hpost : ∀ (e : Ending) (w' : World), (e = .returned (.tuple #[.agg R1, .agg N2, .bool ok]) ∧ Kept None w w') → (e = .returned (.tuple #[hashV r1, hashV (nodeL r2 p), .bool ok]) ∧ Kept None w w') := by
    rw [hR1, hN2, ht2]
    exact fun e w' h => h
  refine Calls.mono ?_ hpost
  show Calls Try.prog 46 #[.agg (old.map u8v).toArray, .int .i64 m, .int .i64 n, .bool wh, .slice (some ⟨bb, o, none⟩) M cap] w _
  rw [← hOA]
  have HP := hid hSp
  have IH := hid ih
  have k0 : Kept None w (((w.alloc (.cells OA 25)).alloc (.cells #[.int .u8 0, .int .u8 0, .int .u8 0, .int .u8 0, .int .u8 0, .int .u8 0, .int .u8 0, .int .u8 0, .int .u8 0, .int .u8 0, .int .u8 0, .int .u8 0, .int .u8 0, .int .u8 0, .int .u8 0, .int .u8 0, .int .u8 0, .int .u8 0, .int .u8 0, .int .u8 0, .int .u8 0, .int .u8 0, .int .u8 0, .int .u8 0, .int .u8 0, .int .u8 0, .int .u8 0, .int .u8 0, .int .u8 0, .int .u8 0, .int .u8 0, .int .u8 0] 25)).alloc (.cells #[.int .u8 0, .int .u8 0, .int .u8 0, .int .u8 0, .int .u8 0, .int .u8 0, .int .u8 0, .int .u8 0, .int .u8 0, .int .u8 0, .int .u8 0, .int .u8 0, .int .u8 0, .int .u8 0, .int .u8 0, .int .u8 0, .int .u8 0, .int .u8 0, .int .u8 0, .int .u8 0, .int .u8 0, .int .u8 0, .int .u8 0, .int .u8 0, .int .u8 0, .int .u8 0, .int .u8 0, .int .u8 0, .int .u8 0, .int .u8 0, .int .u8 0, .int .u8 0] 25)) := (((Kept.refl _ _).alloc _).alloc _).alloc _
  have bO : Blk (((w.alloc (.cells OA 25)).alloc (.cells #[.int .u8 0, .int .u8 0, .int .u8 0, .int .u8 0, .int .u8 0, .int .u8 0, .int .u8 0, .int .u8 0, .int .u8 0, .int .u8 0, .int .u8 0, .int .u8 0, .int .u8 0, .int .u8 0, .int .u8 0, .int .u8 0, .int .u8 0, .int .u8 0, .int .u8 0, .int .u8 0, .int .u8 0, .int .u8 0, .int .u8 0, .int .u8 0, .int .u8 0, .int .u8 0, .int .u8 0, .int .u8 0, .int .u8 0, .int .u8 0, .int .u8 0, .int .u8 0] 25)).alloc (.cells #[.int .u8 0, .int .u8 0, .int .u8 0, .int .u8 0, .int .u8 0, .int .u8 0, .int .u8 0, .int .u8 0, .int .u8 0, .int .u8 0, .int .u8 0, .int .u8 0, .int .u8 0, .int .u8 0, .int .u8 0, .int .u8 0, .int .u8 0, .int .u8 0, .int .u8 0, .int .u8 0, .int .u8 0, .int .u8 0, .int .u8 0, .int .u8 0, .int .u8 0, .int .u8 0, .int .u8 0, .int .u8 0, .int .u8 0, .int .u8 0, .int .u8 0, .int .u8 0] 25)) w.heap.size OA 25 := ((Blk.new w _ _).alloc _).alloc _
  have v8 : Blk (((w.alloc (.cells OA 25)).alloc (.cells #[.int .u8 0, .int .u8 0, .int .u8 0, .int .u8 0, .int .u8 0, .int .u8 0, .int .u8 0, .int .u8 0, .int .u8 0, .int .u8 0, .int .u8 0, .int .u8 0, .int .u8 0, .int .u8 0, .int .u8 0, .int .u8 0, .int .u8 0, .int .u8 0, .int .u8 0, .int .u8 0, .int .u8 0, .int .u8 0, .int .u8 0, .int .u8 0, .int .u8 0, .int .u8 0, .int .u8 0, .int .u8 0, .int .u8 0, .int .u8 0, .int .u8 0, .int .u8 0] 25)).alloc (.cells #[.int .u8 0, .int .u8 0, .int .u8 0, .int .u8 0, .int .u8 0, .int .u8 0, .int .u8 0, .int .u8 0, .int .u8 0, .int .u8 0, .int .u8 0, .int .u8 0, .int .u8 0, .int .u8 0, .int .u8 0, .int .u8 0, .int .u8 0, .int .u8 0, .int .u8 0, .int .u8 0, .int .u8 0, .int .u8 0, .int .u8 0, .int .u8 0, .int .u8 0, .int .u8 0, .int .u8 0, .int .u8 0, .int .u8 0, .int .u8 0, .int .u8 0, .int .u8 0] 25)) (w.heap.size + 1) #[.int .u8 0, .int .u8 0, .int .u8 0, .int .u8 0, .int .u8 0, .int .u8 0, .int .u8 0, .int .u8 0, .int .u8 0, .int .u8 0, .int .u8 0, .int .u8 0, .int .u8 0, .int .u8 0, .int .u8 0, .int .u8 0, .int .u8 0, .int .u8 0, .int .u8 0, .int .u8 0, .int .u8 0, .int .u8 0, .int .u8 0, .int .u8 0, .int .u8 0, .int .u8 0, .int .u8 0, .int .u8 0, .int .u8 0, .int .u8 0, .int .u8 0, .int .u8 0] 25 := (Blk.new2 w _ _ _).alloc _
  have v9 : Blk (((w.alloc (.cells OA 25)).alloc (.cells #[.int .u8 0, .int .u8 0, .int .u8 0, .int .u8 0, .int .u8 0, .int .u8 0, .int .u8 0, .int .u8 0, .int .u8 0, .int .u8 0, .int .u8 0, .int .u8 0, .int .u8 0, .int .u8 0, .int .u8 0, .int .u8 0, .int .u8 0, .int .u8 0, .int .u8 0, .int .u8 0, .int .u8 0, .int .u8 0, .int .u8 0, .int .u8 0, .int .u8 0, .int .u8 0, .int .u8 0, .int .u8 0, .int .u8 0, .int .u8 0, .int .u8 0, .int .u8 0] 25)).alloc (.cells #[.int .u8 0, .int .u8 0, .int .u8 0, .int .u8 0, .int .u8 0, .int .u8 0, .int .u8 0, .int .u8 0, .int .u8 0, .int .u8 0, .int .u8 0, .int .u8 0, .int .u8 0, .int .u8 0, .int .u8 0, .int .u8 0, .int .u8 0, .int .u8 0, .int .u8 0, .int .u8 0, .int .u8 0, .int .u8 0, .int .u8 0, .int .u8 0, .int .u8 0, .int .u8 0, .int .u8 0, .int .u8 0, .int .u8 0, .int .u8 0, .int .u8 0, .int .u8 0] 25)) (w.heap.size + 2) #[.int .u8 0, .int .u8 0, .int .u8 0, .int .u8 0, .int .u8 0, .int .u8 0, .int .u8 0, .int .u8 0, .int .u8 0, .int .u8 0, .int .u8 0, .int .u8 0, .int .u8 0, .int .u8 0, .int .u8 0, .int .u8 0, .int .u8 0, .int .u8 0, .int .u8 0, .int .u8 0, .int .u8 0, .int .u8 0, .int .u8 0, .int .u8 0, .int .u8 0, .int .u8 0, .int .u8 0, .int .u8 0, .int .u8 0, .int .u8 0, .int .u8 0, .int .u8 0] 25 := Blk.new3 w _ _ _ _
  obtain ⟨z8, hz8, v8⟩ := Blk.any (n := 32) v8 (by rfl)
  obtain ⟨z9, hz9, v9⟩ := Blk.any (n := 32) v9 (by rfl)
  have HZ := hid (And.intro hz8 hz9)
  have HS := hid (And.intro sR1 (And.intro sR2 (And.intro allR1 allR2)))
  have HSN := hid (And.intro (hz8.trans sR1.symm) (And.intro (hz9.trans sN2.symm) (And.intro allR1 allN2)))
  have HSP := hid (And.intro sPA allP)
  have HPA := hid hPA
  have HI := hid (i1.kept k0)
  have RP := hid (rangeAt_kept rp k0)
  have hb := hid v9.lt
  clear hpost ih hSp hOA sO allO hCP hPA ePA hp32 sPA allP hR1 hR2 sR1 sR2 allR1 allR2 ht2 lt2 hN2 sN2 allN2  hkk hk hkp i1 rp hv hq hM hMq hn h1 hmn hs hps ho hr1 hr2 hz8 hz9
  go_enter Try.func46, Try.ntmps46
  go_wp2_with fail
  refine (HP.out _).mono ?_
  rintro e w3 ⟨rfl, e3⟩
  rw [e3] at k0 bO v8 v9 HI RP hb
  clear e3
  go_wp2_with fail
  have hs : Ky.Steady [Ky.lift (.room 11 w3.heap.size 32 25), Ky.stored 12 w3.heap.size 14 PA 25 11] := Ky.Steady.append (l := [Ky.lift (.room 11 w3.heap.size 32 25)]) (Ky.Steady.lift (l := [.room 11 w3.heap.size 32 25]) (Go.Pm.Steady.room (Go.Pm.Steady.nil))) (Ky.steady_stored _ _ _ _ _ _)
  refine Ky.wp_region_kn w3 _ hs (Kept.refl _ _) (by kernel_rfl) (by kernel_rfl) (by kernel_rfl) ?_
  iterate 5 (refine Ky.wpPar_pure rfl (by rfl) _ (fun W hW => by
      have q1 := s1 W
      go_simp
      exact rfl) ?_; simp only [Act.put, List.setIfInBounds_toArray, List.set_cons_zero, List.set_cons_succ])
  refine Ky.wpPar_pure rfl (by rfl) (.agg PA) (fun W hW => by rw [HPA.out]; exact exec_load_at rfl rfl (rangeAt_kept RP.out hW) aP) ?_; simp only [Act.put, List.setIfInBounds_toArray, List.set_cons_zero, List.set_cons_succ]
  iterate 5 (refine Ky.wpPar_pure rfl (by rfl) _ (fun W hW => by
      have q1 := s1 W
      go_simp
      exact rfl) ?_; simp only [Act.put, List.setIfInBounds_toArray, List.set_cons_zero, List.set_cons_succ])
  refine Ky.wpKn_adds hs rfl (by rfl) (fun W hW hd => ?_) (fun v11 hv => ?_)
  · unfold Gives
    go_simp
    exact ⟨(Kept.refl None W).alloc _, ⟨_, rfl⟩, _, _, rfl, hW.size, by rfl, Blk.new W _ _⟩
  obtain ⟨g11, rfl⟩ : ∃ g, v11 = .pointer (some ⟨g, 0, none⟩) := hv
  simp only [Act.put, List.setIfInBounds_toArray, List.set_cons_zero, List.set_cons_succ]
  refine Ky.wpPar_adds rfl (by rfl) (fun W hW hd => ?_) (fun v12 hv => ?_)
  · obtain ⟨g, z3, hg3, hg2, hz3, hR3⟩ : ∃ (g : Nat) (z : Array Value), Value.pointer (some ⟨g11, 0, none⟩) = .pointer (some ⟨g, 0, none⟩) ∧ w3.heap.size ≤ g ∧ z.size = 32 ∧ Blk W g z 25 := hd 11 (List.Mem.head _)
    obtain rfl : g11 = g := by simpa using hg3
    refine gives_store7 _ _ _ rfl rfl rfl hR3 aPA (hz3.trans (HSP.out.1.symm)) HSP.out.2 (fun W' hb hk => ⟨hW.then hk (fun i hi h => by have h : i = g11 := h; omega), trivial, ⟨g11, rfl, hg2, hb⟩, Ky.keeps_of fun f hf hs _ hne u hfu => ?_⟩)
    simp only [List.mem_cons, List.not_mem_nil, or_false] at hf
    rcases hf with rfl | rfl
    · exact absurd (List.Mem.head _) hs
    · exact absurd rfl hne
  simp only [Act.put]
  iterate 1 (refine Ky.wpPar_pure rfl (by rfl) _ (fun W hW => by
      have q1 := s1 W
      go_simp
      exact rfl) ?_; simp only [Act.put, List.setIfInBounds_toArray, List.set_cons_zero, List.set_cons_succ])
  refine Ky.wpPar_nil (fun W hW hG => ?_)
  obtain ⟨g, hg3, hg2_11, hB_11⟩ : ∃ g, Value.pointer (some ⟨g11, 0, none⟩) = .pointer (some ⟨g, 0, none⟩) ∧ w3.heap.size ≤ g ∧ Blk W g PA 25 := hG 12
  obtain rfl : g11 = g := by simpa using hg3
  clear hg3
  have HG := hid (And.intro hg2_11 hB_11.lt)
  have k05 := k0.trans hW
  have bO5 := bO.kept hW (fun h => h)
  have v85 := v8.kept hW (fun h => h)
  have v95 := v9.kept hW (fun h => h)
  have HI5 := hid (HI.out.kept hW)
  have h14 := hB_11
  obtain ⟨w5, hw5⟩ : ∃ x, x = W := ⟨_, rfl⟩
  rw [← hw5] at HG k05 bO5 v85 v95 HI5 h14 ⊢
  clear hw5 hg2_11 hB_11 hG hs hW k0 bO v8 v9 HI RP s1
  go_wp2_with (first | (refine wpList_load_blk rfl _ _ rfl rfl bO5 aO ?_) | fail)
  refine (IH.out _ _ HI5.out).mono ?_
  rintro e w8 ⟨rfl, k8⟩
  have k08 := k05.trans k8
  have v88 := v85.kept k8 (fun h => h)
  have v98 := v95.kept k8 (fun h => h)
  have h148 := h14.kept k8 (fun h => h)
  have HLT := hid (And.intro h148.lt (And.intro HG.out.1 (And.intro hb.out v98.lt)))
  obtain ⟨zA, hzA, hZA⟩ := Blk.any (n := 32) ((Blk.new w8 #[.int .u8 0, .int .u8 0, .int .u8 0, .int .u8 0, .int .u8 0, .int .u8 0, .int .u8 0, .int .u8 0, .int .u8 0, .int .u8 0, .int .u8 0, .int .u8 0, .int .u8 0, .int .u8 0, .int .u8 0, .int .u8 0, .int .u8 0, .int .u8 0, .int .u8 0, .int .u8 0, .int .u8 0, .int .u8 0, .int .u8 0, .int .u8 0, .int .u8 0, .int .u8 0, .int .u8 0, .int .u8 0, .int .u8 0, .int .u8 0, .int .u8 0, .int .u8 0] 25).alloc (.cells #[.int .u8 0, .int .u8 0, .int .u8 0, .int .u8 0, .int .u8 0, .int .u8 0, .int .u8 0, .int .u8 0, .int .u8 0, .int .u8 0, .int .u8 0, .int .u8 0, .int .u8 0, .int .u8 0, .int .u8 0, .int .u8 0, .int .u8 0, .int .u8 0, .int .u8 0, .int .u8 0, .int .u8 0, .int .u8 0, .int .u8 0, .int .u8 0, .int .u8 0, .int .u8 0, .int .u8 0, .int .u8 0, .int .u8 0, .int .u8 0, .int .u8 0, .int .u8 0] 25)) (by rfl)
  obtain ⟨zB, hzB, hZB⟩ := Blk.any (n := 32) (Blk.new2 w8 (.cells #[.int .u8 0, .int .u8 0, .int .u8 0, .int .u8 0, .int .u8 0, .int .u8 0, .int .u8 0, .int .u8 0, .int .u8 0, .int .u8 0, .int .u8 0, .int .u8 0, .int .u8 0, .int .u8 0, .int .u8 0, .int .u8 0, .int .u8 0, .int .u8 0, .int .u8 0, .int .u8 0, .int .u8 0, .int .u8 0, .int .u8 0, .int .u8 0, .int .u8 0, .int .u8 0, .int .u8 0, .int .u8 0, .int .u8 0, .int .u8 0, .int .u8 0, .int .u8 0] 25) #[.int .u8 0, .int .u8 0, .int .u8 0, .int .u8 0, .int .u8 0, .int .u8 0, .int .u8 0, .int .u8 0, .int .u8 0, .int .u8 0, .int .u8 0, .int .u8 0, .int .u8 0, .int .u8 0, .int .u8 0, .int .u8 0, .int .u8 0, .int .u8 0, .int .u8 0, .int .u8 0, .int .u8 0, .int .u8 0, .int .u8 0, .int .u8 0, .int .u8 0, .int .u8 0, .int .u8 0, .int .u8 0, .int .u8 0, .int .u8 0, .int .u8 0, .int .u8 0] 25) (by rfl)
  have EZ := hid (And.intro (hzA.trans HS.out.1.symm) (hzB.trans HS.out.2.1.symm))
  clear hzA hzB k8 k05 v85 v95 h14 bO5 HI5 HG IH
  go_wp2_with (first | (refine wpList_store_blk rfl _ _ _ rfl rfl rfl hZA aR1 EZ.out.1 HS.out.2.2.1 ?_; intro w9 h9 k9; have hZB9 := hZB.kept k9 (fun (h : w8.heap.size + 1 = w8.heap.size) => by omega)) | (refine wpList_store_blk rfl _ _ _ rfl rfl rfl hZB9 aR2 EZ.out.2 HS.out.2.2.2 ?_; intro wa ha ka) | fail)
  have h16 := h9.kept ka (fun (h : w8.heap.size = w8.heap.size + 1) => by omega)
  have k8a : Kept None w8 wa := ((((Kept.refl None w8).alloc _).alloc _).then k9 (fun i hi (h : i = w8.heap.size) => by omega)).then ka (fun i hi (h : i = w8.heap.size + 1) => by omega)
  have k0a := k08.trans k8a
  have v8a := v88.kept k8a (fun h => h)
  have v9a := v98.kept k8a (fun h => h)
  have h14a := h148.kept k8a (fun h => h)
  have HND := hid (show [w8.heap.size, w8.heap.size + 1, g11, w.heap.size + 1, w.heap.size + 2].Nodup by
    have := HLT.out
    simp
    omega)
  clear k9 hZB9 hZA hZB h9 k8a k08 v88 v98 h148 EZ
  refine wp_region_blk wa [w8.heap.size, w8.heap.size + 1, g11, w.heap.size + 1, w.heap.size + 2] 25 [.val 0 (.agg R1) [11], .val 1 (.agg R2) [12], .val 2 (.agg PA) [10], .val 3 (.agg N2) [], .blk 5 3 R1 [8] [8], .blk 6 4 N2 [9] [9], .blk 8 3 z8 [] [], .blk 9 4 z9 [] [], .blk 10 2 PA [] [], .blk 11 0 R1 [] [], .blk 12 1 R2 [] []] [8, 9, 10, 11, 12] (Kept.refl _ _) (by kernel_rfl) (by kernel_rfl) (by kernel_rfl) (by decide) ?_ ?_
  · intro k hk
    simp only [List.mem_cons, List.not_mem_nil, or_false] at hk
    rcases hk with rfl | rfl | rfl | rfl | rfl
    · exact Blk.drew (v8a)
    · exact Blk.drew (v9a)
    · exact Blk.drew (h14a)
    · exact Blk.drew (h16)
    · exact Blk.drew (ha)
  refine wpB_load _ _ rfl (by rfl) rfl rfl aR1 rfl (fun _ _ => trivial) (fun W hW hd => hd 11 (List.Mem.head _)) ?_; simp only [Act.put, List.setIfInBounds_toArray, List.set_cons_zero, List.set_cons_succ]
  refine wpB_load _ _ rfl (by rfl) rfl rfl aR2 rfl (fun _ _ => trivial) (fun W hW hd => hd 12 (List.Mem.head _)) ?_; simp only [Act.put, List.setIfInBounds_toArray, List.set_cons_zero, List.set_cons_succ]
  refine wpB_load _ _ rfl (by rfl) rfl rfl aPA rfl (fun _ _ => trivial) (fun W hW hd => hd 10 (List.Mem.head _)) ?_; simp only [Act.put, List.setIfInBounds_toArray, List.set_cons_zero, List.set_cons_succ]
  refine wpB_call (.agg N2) rfl (by rfl) rfl (fun _ _ => trivial) (fun W hW hd => ?_) ?_
  · unfold Gives
    go_simp
    refine gives_call (HN2.out W) ?_
    rintro e w3 ⟨rfl, k3⟩
    exact ⟨_, rfl, rfl, k3⟩
  simp only [Act.put, List.setIfInBounds_toArray, List.set_cons_zero, List.set_cons_succ]
  refine wpPar_pure rfl (by rfl) _ (fun W hW => by
      go_simp
      exact rfl) ?_; simp only [Act.put, List.setIfInBounds_toArray, List.set_cons_zero, List.set_cons_succ]
  refine wpB_store _ _ _ 3 (A := z8) rfl (by rfl) rfl rfl rfl rfl aR1 HSN.out.1 HSN.out.2.2.1 HND.out (by simp) (by kernel_rfl) (fun _ => trivial) (fun _ => rfl) (fun W hW hd => hd 8 (List.Mem.head _)) (fun u => ?_)
  refine wpB_store _ _ _ 4 (A := z9) rfl (by rfl) rfl rfl rfl rfl aN2 HSN.out.2.1 HSN.out.2.2.2 HND.out (by simp) (by kernel_rfl) (fun _ => trivial) (fun _ => rfl) (fun W hW hd => hd 9 (List.Mem.head _)) (fun u => ?_)
  refine wpPar_pure rfl (by rfl) _ (fun W hW => by
      go_simp
      exact rfl) ?_; simp only [Act.put, List.setIfInBounds_toArray, List.set_cons_zero, List.set_cons_succ]
  refine wpPar_nil (fun W hW hG => ?_)
  have b8 : Blk W (w.heap.size + 1) R1 25 := hG 5
  have b9 : Blk W (w.heap.size + 2) N2 25 := hG 6
  have kW : Kept None w W := k0a.then hW (fun i hi h => by
    have := HLT.out
    simp only [List.mem_cons, List.not_mem_nil, or_false] at h
    omega)
  clear hG hW v8a v9a h14a h16 ha k0a
  go_wp2
  exact bodyPost_ret (v := .tuple #[.agg R1, .agg N2, .bool ok]) (res_cells_tmp rfl _ rfl rfl rfl b8 b9 aR1 aN2) rfl ⟨rfl, kW⟩
set_option maxRecDepth 100000 in
set_option maxHeartbeats 2000000 in
theorem both_right (old r1 r2 p : List UInt8) (ok : Bool) (ps : List (List UInt8)) (m n : Nat) (wh : Bool) (v : Value) (w : World) (ho : old.length = 32) (hr1 : r1.length = 32) (hr2 : r2.length = 32) (hv : Rh 0 w v (ps ++ [p])) (h1 : 1 ≤ m) (hmn : m < n) (hn : n < 9223372036854775808) (hs : ¬ m ≤ splitN n) (hps : ps.length ≤ 549755813888)
    (ih : ∀ v w, Rh 0 w v ps → Calls Try.prog 46 #[hashV old, .int .i64 (m - splitN n : Nat), .int .i64 (n - splitN n : Nat), .bool false, v] w fun e w' => e = .returned (.tuple #[hashV r1, hashV r2, .bool ok]) ∧ Kept None w w') : Calls Try.prog 46 #[hashV old, .int .i64 m, .int .i64 n, .bool wh, v] w fun e w' => e = .returned (.tuple #[hashV (nodeL p r1), hashV (nodeL p r2), .bool ok]) ∧ Kept None w w' := by
  have hp32 : p.length = 32 := by
    obtain ⟨hi, hv⟩ := hv
    exact hv.1 p (by simp)
  obtain ⟨ad, cap, rfl⟩ := hv.form
  have g2' : cap ≤ 9223372036854775807 ∧ (ps ++ [p]).length ≤ cap := by
    obtain ⟨hi, hv⟩ := hv
    obtain ⟨_, _, q, q1, q2, _⟩ := hv.form
    injection q with _ _ q
    omega
  obtain ⟨q, hq⟩ : ∃ q, q = ps.length := ⟨_, rfl⟩
  obtain ⟨M, hM⟩ : ∃ M, M = (ps ++ [p]).length := ⟨_, rfl⟩
  have hMq : M = q + 1 := by rw [hM, hq, List.length_append]; rfl
  rw [← hM] at hv g2' ⊢
  rw [← hq] at hps
  obtain ⟨a1, s1, i1⟩ := rh_to Lg8.tHashes Lg8.zHashes hv .i64 q (by omega)
  rw [hq, List.take_left, ← hq] at i1
  obtain ⟨bb, o, rfl, rp⟩ : ∃ b o, ad = some ⟨b, o, none⟩ ∧ w.rangeAt b (o + q * 32) (p.map u8v) := by
    obtain ⟨hi, hv⟩ := hv
    obtain ⟨b, o, e1, e2⟩ := hv.at (i := q) (by rw [← hM]; omega)
    refine ⟨b, o, e1, ?_⟩
    have e3 : (ps ++ [p])[q]'(by rw [← hM]; omega) = p := by simp [hq]
    rwa [e3] at e2
  have hSp := fun w => RLg.split n w (by omega) hn
  have hk := splitN_lt (n := n) (by omega)
  have hkp := splitN_pos (n := n) (by omega)
  obtain ⟨k, hkk⟩ : ∃ k, k = splitN n := ⟨_, rfl⟩
  rw [← hkk] at ih hSp hk hkp hs
  have h3z : ¬ (m : Int) = (n : Int) := by omega
  have hM0 : ¬ (M : Int) = 0 := by omega
  have hMz : (1 : Int) ≤ (M : Int) := by omega
  have hqz : (q : Int) < (M : Int) := by omega
  have hqM : q < M := by omega
  have hcz : (M : Int) ≤ (cap : Int) := by omega
  have hqc : (q : Int) ≤ (cap : Int) := by omega
  have rq : IntKind.i64.wrap ((M : Int) - 1) = (q : Int) := by rw [IntKind.wrap_i64]; omega
  have hik : ¬ (m : Int) ≤ (k : Int) := by omega
  obtain ⟨m2, hm2⟩ : ∃ j, j = m - k := ⟨_, rfl⟩
  obtain ⟨n2, hn2⟩ : ∃ j, j = n - k := ⟨_, rfl⟩
  rw [← hm2, ← hn2] at ih
  have rm : wrap64 ((m : Int) - (k : Int)) = (m2 : Int) := by unfold wrap64; omega
  have rn : wrap64 ((n : Int) - (k : Int)) = (n2 : Int) := by unfold wrap64; omega
  obtain ⟨OA, hOA⟩ : ∃ L : Array Value, L = (old.map u8v).toArray := ⟨_, rfl⟩
  have aO : AggTy Try.prog 25 OA.size := by rw [hOA]; exact Hk.aH32 ho
  have sO : OA.size = 32 := by rw [hOA]; simpa using ho
  have allO : OA.all (·.oneCell') = true := by rw [hOA]; exact u8v_all' _
  obtain ⟨CP, hCP⟩ : ∃ C : List Value, C = p.map u8v := ⟨_, rfl⟩
  obtain ⟨PA, hPA⟩ : ∃ P : Array Value, P = CP.toArray := ⟨_, rfl⟩
  rw [← hCP] at rp
  have aP : AggTy Try.prog 25 CP.length := by rw [hCP]; exact Hk.aH32' hp32
  have aPA : AggTy Try.prog 25 PA.size := by rw [hPA, hCP]; exact Hk.aH32 hp32
  have sPA : PA.size = 32 := by rw [hPA, hCP]; simpa using hp32
  have allP : PA.all (·.oneCell') = true := by rw [hPA, hCP]; exact u8v_all' _
  have ePA : PA = (p.map u8v).toArray := by rw [hPA, hCP]
  have HBB := hid (range_lt rp (by rw [hCP, List.length_map, hp32]; decide))
  obtain ⟨R1, hR1⟩ : ∃ L : Array Value, L = (r1.map u8v).toArray := ⟨_, rfl⟩
  obtain ⟨R2, hR2⟩ : ∃ L : Array Value, L = (r2.map u8v).toArray := ⟨_, rfl⟩
  have aR1 : AggTy Try.prog 25 R1.size := by rw [hR1]; exact Hk.aH32 hr1
  have aR2 : AggTy Try.prog 25 R2.size := by rw [hR2]; exact Hk.aH32 hr2
  have sR1 : R1.size = 32 := by rw [hR1]; simpa using hr1
  have sR2 : R2.size = 32 := by rw [hR2]; simpa using hr2
  have allR1 : R1.all (·.oneCell') = true := by rw [hR1]; exact u8v_all' _
  have allR2 : R2.all (·.oneCell') = true := by rw [hR2]; exact u8v_all' _
  obtain ⟨t1, ht1⟩ : ∃ x, x = nodeL p r1 := ⟨_, rfl⟩
  have lt1 : t1.length = 32 := by rw [ht1]; exact nodeL_len _ _
  obtain ⟨N1, hN1⟩ : ∃ L : Array Value, L = (t1.map u8v).toArray := ⟨_, rfl⟩
  have aN1 : AggTy Try.prog 25 N1.size := by rw [hN1]; exact Hk.aH32 lt1
  have sN1 : N1.size = 32 := by rw [hN1]; simpa using lt1
  have allN1 : N1.all (·.oneCell') = true := by rw [hN1]; exact u8v_all' _
  have HN1 : Hid (∀ w, Calls Try.prog 43 #[.agg PA, .agg R1] w fun e w' => e = .returned (.agg N1) ∧ Kept None w w') := hid (fun w => by rw [ePA, hR1, hN1, ht1]; exact RLg.node p r1 w (by omega) (by omega))
  obtain ⟨t2, ht2⟩ : ∃ x, x = nodeL p r2 := ⟨_, rfl⟩
  have lt2 : t2.length = 32 := by rw [ht2]; exact nodeL_len _ _
  obtain ⟨N2, hN2⟩ : ∃ L : Array Value, L = (t2.map u8v).toArray := ⟨_, rfl⟩
  have aN2 : AggTy Try.prog 25 N2.size := by rw [hN2]; exact Hk.aH32 lt2
  have sN2 : N2.size = 32 := by rw [hN2]; simpa using lt2
  have allN2 : N2.all (·.oneCell') = true := by rw [hN2]; exact u8v_all' _
  have HN2 : Hid (∀ w, Calls Try.prog 43 #[.agg PA, .agg R2] w fun e w' => e = .returned (.agg N2) ∧ Kept None w w') := hid (fun w => by rw [ePA, hR2, hN2, ht2]; exact RLg.node p r2 w (by omega) (by omega))
  have ih : ∀ v w, Rh 0 w v ps → Calls Try.prog 46 #[.agg OA, .int .i64 m2, .int .i64 n2, .bool false, v] w fun e w' => e = .returned (.tuple #[.agg R1, .agg R2, .bool ok]) ∧ Kept None w w' := by rw [hOA, hR1, hR2]; exact ih
  have hpost : ∀ (e : Ending) (w' : World), (e = .returned (.tuple #[.agg N1, .agg N2, .bool ok]) ∧ Kept None w w') → (e = .returned (.tuple #[hashV (nodeL p r1), hashV (nodeL p r2), .bool ok]) ∧ Kept None w w') := by
    rw [hN1, hN2, ht1, ht2]
    exact fun e w' h => h
  refine Calls.mono ?_ hpost
  show Calls Try.prog 46 #[.agg (old.map u8v).toArray, .int .i64 m, .int .i64 n, .bool wh, .slice (some ⟨bb, o, none⟩) M cap] w _
  rw [← hOA]
  have HP := hid hSp
  have IH := hid ih
  have k0 : Kept None w (((w.alloc (.cells OA 25)).alloc (.cells #[.int .u8 0, .int .u8 0, .int .u8 0, .int .u8 0, .int .u8 0, .int .u8 0, .int .u8 0, .int .u8 0, .int .u8 0, .int .u8 0, .int .u8 0, .int .u8 0, .int .u8 0, .int .u8 0, .int .u8 0, .int .u8 0, .int .u8 0, .int .u8 0, .int .u8 0, .int .u8 0, .int .u8 0, .int .u8 0, .int .u8 0, .int .u8 0, .int .u8 0, .int .u8 0, .int .u8 0, .int .u8 0, .int .u8 0, .int .u8 0, .int .u8 0, .int .u8 0] 25)).alloc (.cells #[.int .u8 0, .int .u8 0, .int .u8 0, .int .u8 0, .int .u8 0, .int .u8 0, .int .u8 0, .int .u8 0, .int .u8 0, .int .u8 0, .int .u8 0, .int .u8 0, .int .u8 0, .int .u8 0, .int .u8 0, .int .u8 0, .int .u8 0, .int .u8 0, .int .u8 0, .int .u8 0, .int .u8 0, .int .u8 0, .int .u8 0, .int .u8 0, .int .u8 0, .int .u8 0, .int .u8 0, .int .u8 0, .int .u8 0, .int .u8 0, .int .u8 0, .int .u8 0] 25)) := (((Kept.refl _ _).alloc _).alloc _).alloc _
  have bO : Blk (((w.alloc (.cells OA 25)).alloc (.cells #[.int .u8 0, .int .u8 0, .int .u8 0, .int .u8 0, .int .u8 0, .int .u8 0, .int .u8 0, .int .u8 0, .int .u8 0, .int .u8 0, .int .u8 0, .int .u8 0, .int .u8 0, .int .u8 0, .int .u8 0, .int .u8 0, .int .u8 0, .int .u8 0, .int .u8 0, .int .u8 0, .int .u8 0, .int .u8 0, .int .u8 0, .int .u8 0, .int .u8 0, .int .u8 0, .int .u8 0, .int .u8 0, .int .u8 0, .int .u8 0, .int .u8 0, .int .u8 0] 25)).alloc (.cells #[.int .u8 0, .int .u8 0, .int .u8 0, .int .u8 0, .int .u8 0, .int .u8 0, .int .u8 0, .int .u8 0, .int .u8 0, .int .u8 0, .int .u8 0, .int .u8 0, .int .u8 0, .int .u8 0, .int .u8 0, .int .u8 0, .int .u8 0, .int .u8 0, .int .u8 0, .int .u8 0, .int .u8 0, .int .u8 0, .int .u8 0, .int .u8 0, .int .u8 0, .int .u8 0, .int .u8 0, .int .u8 0, .int .u8 0, .int .u8 0, .int .u8 0, .int .u8 0] 25)) w.heap.size OA 25 := ((Blk.new w _ _).alloc _).alloc _
  have v8 : Blk (((w.alloc (.cells OA 25)).alloc (.cells #[.int .u8 0, .int .u8 0, .int .u8 0, .int .u8 0, .int .u8 0, .int .u8 0, .int .u8 0, .int .u8 0, .int .u8 0, .int .u8 0, .int .u8 0, .int .u8 0, .int .u8 0, .int .u8 0, .int .u8 0, .int .u8 0, .int .u8 0, .int .u8 0, .int .u8 0, .int .u8 0, .int .u8 0, .int .u8 0, .int .u8 0, .int .u8 0, .int .u8 0, .int .u8 0, .int .u8 0, .int .u8 0, .int .u8 0, .int .u8 0, .int .u8 0, .int .u8 0] 25)).alloc (.cells #[.int .u8 0, .int .u8 0, .int .u8 0, .int .u8 0, .int .u8 0, .int .u8 0, .int .u8 0, .int .u8 0, .int .u8 0, .int .u8 0, .int .u8 0, .int .u8 0, .int .u8 0, .int .u8 0, .int .u8 0, .int .u8 0, .int .u8 0, .int .u8 0, .int .u8 0, .int .u8 0, .int .u8 0, .int .u8 0, .int .u8 0, .int .u8 0, .int .u8 0, .int .u8 0, .int .u8 0, .int .u8 0, .int .u8 0, .int .u8 0, .int .u8 0, .int .u8 0] 25)) (w.heap.size + 1) #[.int .u8 0, .int .u8 0, .int .u8 0, .int .u8 0, .int .u8 0, .int .u8 0, .int .u8 0, .int .u8 0, .int .u8 0, .int .u8 0, .int .u8 0, .int .u8 0, .int .u8 0, .int .u8 0, .int .u8 0, .int .u8 0, .int .u8 0, .int .u8 0, .int .u8 0, .int .u8 0, .int .u8 0, .int .u8 0, .int .u8 0, .int .u8 0, .int .u8 0, .int .u8 0, .int .u8 0, .int .u8 0, .int .u8 0, .int .u8 0, .int .u8 0, .int .u8 0] 25 := (Blk.new2 w _ _ _).alloc _
  have v9 : Blk (((w.alloc (.cells OA 25)).alloc (.cells #[.int .u8 0, .int .u8 0, .int .u8 0, .int .u8 0, .int .u8 0, .int .u8 0, .int .u8 0, .int .u8 0, .int .u8 0, .int .u8 0, .int .u8 0, .int .u8 0, .int .u8 0, .int .u8 0, .int .u8 0, .int .u8 0, .int .u8 0, .int .u8 0, .int .u8 0, .int .u8 0, .int .u8 0, .int .u8 0, .int .u8 0, .int .u8 0, .int .u8 0, .int .u8 0, .int .u8 0, .int .u8 0, .int .u8 0, .int .u8 0, .int .u8 0, .int .u8 0] 25)).alloc (.cells #[.int .u8 0, .int .u8 0, .int .u8 0, .int .u8 0, .int .u8 0, .int .u8 0, .int .u8 0, .int .u8 0, .int .u8 0, .int .u8 0, .int .u8 0, .int .u8 0, .int .u8 0, .int .u8 0, .int .u8 0, .int .u8 0, .int .u8 0, .int .u8 0, .int .u8 0, .int .u8 0, .int .u8 0, .int .u8 0, .int .u8 0, .int .u8 0, .int .u8 0, .int .u8 0, .int .u8 0, .int .u8 0, .int .u8 0, .int .u8 0, .int .u8 0, .int .u8 0] 25)) (w.heap.size + 2) #[.int .u8 0, .int .u8 0, .int .u8 0, .int .u8 0, .int .u8 0, .int .u8 0, .int .u8 0, .int .u8 0, .int .u8 0, .int .u8 0, .int .u8 0, .int .u8 0, .int .u8 0, .int .u8 0, .int .u8 0, .int .u8 0, .int .u8 0, .int .u8 0, .int .u8 0, .int .u8 0, .int .u8 0, .int .u8 0, .int .u8 0, .int .u8 0, .int .u8 0, .int .u8 0, .int .u8 0, .int .u8 0, .int .u8 0, .int .u8 0, .int .u8 0, .int .u8 0] 25 := Blk.new3 w _ _ _ _
  obtain ⟨z8, hz8, v8⟩ := Blk.any (n := 32) v8 (by rfl)
  obtain ⟨z9, hz9, v9⟩ := Blk.any (n := 32) v9 (by rfl)
  have HZ := hid (And.intro hz8 hz9)
  have HS := hid (And.intro sR1 (And.intro sR2 (And.intro allR1 allR2)))
  have HSN := hid (And.intro (hz8.trans sN1.symm) (And.intro (hz9.trans sN2.symm) (And.intro allN1 allN2)))
  have HSP := hid (And.intro sPA allP)
  have HPA := hid hPA
  have HI := hid (i1.kept k0)
  have RP := hid (rangeAt_kept rp k0)
  have hb := hid v9.lt
  clear hpost ih hSp hOA sO allO hCP hPA ePA hp32 sPA allP hR1 hR2 sR1 sR2 allR1 allR2 ht2 lt2 hN2 sN2 allN2 ht1 lt1 hN1 sN1 allN1 hm2 hn2 hkk hk hkp i1 rp hv hq hM hMq hn h1 hmn hs hps ho hr1 hr2 hz8 hz9
  go_enter Try.func46, Try.ntmps46
  go_wp2_with fail
  refine (HP.out _).mono ?_
  rintro e w3 ⟨rfl, e3⟩
  rw [e3] at k0 bO v8 v9 HI RP hb
  clear e3
  go_wp2_with fail
  have hs : Ky.Steady [Ky.lift (.room 11 w3.heap.size 32 25), Ky.stored 12 w3.heap.size 14 PA 25 11] := Ky.Steady.append (l := [Ky.lift (.room 11 w3.heap.size 32 25)]) (Ky.Steady.lift (l := [.room 11 w3.heap.size 32 25]) (Go.Pm.Steady.room (Go.Pm.Steady.nil))) (Ky.steady_stored _ _ _ _ _ _)
  refine Ky.wp_region_kn w3 _ hs (Kept.refl _ _) (by kernel_rfl) (by kernel_rfl) (by kernel_rfl) ?_
  iterate 5 (refine Ky.wpPar_pure rfl (by rfl) _ (fun W hW => by
      have q1 := s1 W
      go_simp
      exact rfl) ?_; simp only [Act.put, List.setIfInBounds_toArray, List.set_cons_zero, List.set_cons_succ])
  refine Ky.wpPar_pure rfl (by rfl) (.agg PA) (fun W hW => by rw [HPA.out]; exact exec_load_at rfl rfl (rangeAt_kept RP.out hW) aP) ?_; simp only [Act.put, List.setIfInBounds_toArray, List.set_cons_zero, List.set_cons_succ]
  iterate 5 (refine Ky.wpPar_pure rfl (by rfl) _ (fun W hW => by
      have q1 := s1 W
      go_simp
      exact rfl) ?_; simp only [Act.put, List.setIfInBounds_toArray, List.set_cons_zero, List.set_cons_succ])
  refine Ky.wpKn_adds hs rfl (by rfl) (fun W hW hd => ?_) (fun v11 hv => ?_)
  · unfold Gives
    go_simp
    exact ⟨(Kept.refl None W).alloc _, ⟨_, rfl⟩, _, _, rfl, hW.size, by rfl, Blk.new W _ _⟩
  obtain ⟨g11, rfl⟩ : ∃ g, v11 = .pointer (some ⟨g, 0, none⟩) := hv
  simp only [Act.put, List.setIfInBounds_toArray, List.set_cons_zero, List.set_cons_succ]
  refine Ky.wpPar_adds rfl (by rfl) (fun W hW hd => ?_) (fun v12 hv => ?_)
  · obtain ⟨g, z3, hg3, hg2, hz3, hR3⟩ : ∃ (g : Nat) (z : Array Value), Value.pointer (some ⟨g11, 0, none⟩) = .pointer (some ⟨g, 0, none⟩) ∧ w3.heap.size ≤ g ∧ z.size = 32 ∧ Blk W g z 25 := hd 11 (List.Mem.head _)
    obtain rfl : g11 = g := by simpa using hg3
    refine gives_store7 _ _ _ rfl rfl rfl hR3 aPA (hz3.trans (HSP.out.1.symm)) HSP.out.2 (fun W' hb hk => ⟨hW.then hk (fun i hi h => by have h : i = g11 := h; omega), trivial, ⟨g11, rfl, hg2, hb⟩, Ky.keeps_of fun f hf hs _ hne u hfu => ?_⟩)
    simp only [List.mem_cons, List.not_mem_nil, or_false] at hf
    rcases hf with rfl | rfl
    · exact absurd (List.Mem.head _) hs
    · exact absurd rfl hne
  simp only [Act.put]
  iterate 1 (refine Ky.wpPar_pure rfl (by rfl) _ (fun W hW => by
      have q1 := s1 W
      go_simp
      exact rfl) ?_; simp only [Act.put, List.setIfInBounds_toArray, List.set_cons_zero, List.set_cons_succ])
  refine Ky.wpPar_nil (fun W hW hG => ?_)
  obtain ⟨g, hg3, hg2_11, hB_11⟩ : ∃ g, Value.pointer (some ⟨g11, 0, none⟩) = .pointer (some ⟨g, 0, none⟩) ∧ w3.heap.size ≤ g ∧ Blk W g PA 25 := hG 12
  obtain rfl : g11 = g := by simpa using hg3
  clear hg3
  have HG := hid (And.intro hg2_11 hB_11.lt)
  have k05 := k0.trans hW
  have bO5 := bO.kept hW (fun h => h)
  have v85 := v8.kept hW (fun h => h)
  have v95 := v9.kept hW (fun h => h)
  have HI5 := hid (HI.out.kept hW)
  have h14 := hB_11
  obtain ⟨w5, hw5⟩ : ∃ x, x = W := ⟨_, rfl⟩
  rw [← hw5] at HG k05 bO5 v85 v95 HI5 h14 ⊢
  clear hw5 hg2_11 hB_11 hG hs hW k0 bO v8 v9 HI RP s1
  go_wp2_with (first | (refine wpList_load_blk rfl _ _ rfl rfl bO5 aO ?_) | fail)
  refine (IH.out _ _ HI5.out).mono ?_
  rintro e w8 ⟨rfl, k8⟩
  have k08 := k05.trans k8
  have v88 := v85.kept k8 (fun h => h)
  have v98 := v95.kept k8 (fun h => h)
  have h148 := h14.kept k8 (fun h => h)
  have HLT := hid (And.intro h148.lt (And.intro HG.out.1 (And.intro hb.out v98.lt)))
  obtain ⟨zA, hzA, hZA⟩ := Blk.any (n := 32) ((Blk.new w8 #[.int .u8 0, .int .u8 0, .int .u8 0, .int .u8 0, .int .u8 0, .int .u8 0, .int .u8 0, .int .u8 0, .int .u8 0, .int .u8 0, .int .u8 0, .int .u8 0, .int .u8 0, .int .u8 0, .int .u8 0, .int .u8 0, .int .u8 0, .int .u8 0, .int .u8 0, .int .u8 0, .int .u8 0, .int .u8 0, .int .u8 0, .int .u8 0, .int .u8 0, .int .u8 0, .int .u8 0, .int .u8 0, .int .u8 0, .int .u8 0, .int .u8 0, .int .u8 0] 25).alloc (.cells #[.int .u8 0, .int .u8 0, .int .u8 0, .int .u8 0, .int .u8 0, .int .u8 0, .int .u8 0, .int .u8 0, .int .u8 0, .int .u8 0, .int .u8 0, .int .u8 0, .int .u8 0, .int .u8 0, .int .u8 0, .int .u8 0, .int .u8 0, .int .u8 0, .int .u8 0, .int .u8 0, .int .u8 0, .int .u8 0, .int .u8 0, .int .u8 0, .int .u8 0, .int .u8 0, .int .u8 0, .int .u8 0, .int .u8 0, .int .u8 0, .int .u8 0, .int .u8 0] 25)) (by rfl)
  obtain ⟨zB, hzB, hZB⟩ := Blk.any (n := 32) (Blk.new2 w8 (.cells #[.int .u8 0, .int .u8 0, .int .u8 0, .int .u8 0, .int .u8 0, .int .u8 0, .int .u8 0, .int .u8 0, .int .u8 0, .int .u8 0, .int .u8 0, .int .u8 0, .int .u8 0, .int .u8 0, .int .u8 0, .int .u8 0, .int .u8 0, .int .u8 0, .int .u8 0, .int .u8 0, .int .u8 0, .int .u8 0, .int .u8 0, .int .u8 0, .int .u8 0, .int .u8 0, .int .u8 0, .int .u8 0, .int .u8 0, .int .u8 0, .int .u8 0, .int .u8 0] 25) #[.int .u8 0, .int .u8 0, .int .u8 0, .int .u8 0, .int .u8 0, .int .u8 0, .int .u8 0, .int .u8 0, .int .u8 0, .int .u8 0, .int .u8 0, .int .u8 0, .int .u8 0, .int .u8 0, .int .u8 0, .int .u8 0, .int .u8 0, .int .u8 0, .int .u8 0, .int .u8 0, .int .u8 0, .int .u8 0, .int .u8 0, .int .u8 0, .int .u8 0, .int .u8 0, .int .u8 0, .int .u8 0, .int .u8 0, .int .u8 0, .int .u8 0, .int .u8 0] 25) (by rfl)
  have EZ := hid (And.intro (hzA.trans HS.out.1.symm) (hzB.trans HS.out.2.1.symm))
  clear hzA hzB k8 k05 v85 v95 h14 bO5 HI5 HG IH
  go_wp2_with (first | (refine wpList_store_blk rfl _ _ _ rfl rfl rfl hZA aR1 EZ.out.1 HS.out.2.2.1 ?_; intro w9 h9 k9; have hZB9 := hZB.kept k9 (fun (h : w8.heap.size + 1 = w8.heap.size) => by omega)) | (refine wpList_store_blk rfl _ _ _ rfl rfl rfl hZB9 aR2 EZ.out.2 HS.out.2.2.2 ?_; intro wa ha ka) | fail)
  have h16 := h9.kept ka (fun (h : w8.heap.size = w8.heap.size + 1) => by omega)
  have k8a : Kept None w8 wa := ((((Kept.refl None w8).alloc _).alloc _).then k9 (fun i hi (h : i = w8.heap.size) => by omega)).then ka (fun i hi (h : i = w8.heap.size + 1) => by omega)
  have k0a := k08.trans k8a
  have v8a := v88.kept k8a (fun h => h)
  have v9a := v98.kept k8a (fun h => h)
  have h14a := h148.kept k8a (fun h => h)
  have HND := hid (show [w8.heap.size, w8.heap.size + 1, g11, w.heap.size + 1, w.heap.size + 2].Nodup by
    have := HLT.out
    simp
    omega)
  clear k9 hZB9 hZA hZB h9 k8a k08 v88 v98 h148 EZ
  refine wp_region_blk wa [w8.heap.size, w8.heap.size + 1, g11, w.heap.size + 1, w.heap.size + 2] 25 [.val 0 (.agg PA) [12], .val 1 (.agg R1) [13], .val 2 (.agg N1) [], .val 3 (.agg PA) [12], .val 4 (.agg R2) [14], .val 5 (.agg N2) [], .blk 7 3 N1 [10] [10], .blk 8 4 N2 [11] [11], .blk 10 3 z8 [] [], .blk 11 4 z9 [] [], .blk 12 2 PA [] [], .blk 13 0 R1 [] [], .blk 14 1 R2 [] []] [10, 11, 12, 13, 14] (Kept.refl _ _) (by kernel_rfl) (by kernel_rfl) (by kernel_rfl) (by decide) ?_ ?_
  · intro k hk
    simp only [List.mem_cons, List.not_mem_nil, or_false] at hk
    rcases hk with rfl | rfl | rfl | rfl | rfl
    · exact Blk.drew (v8a)
    · exact Blk.drew (v9a)
    · exact Blk.drew (h14a)
    · exact Blk.drew (h16)
    · exact Blk.drew (ha)
  refine wpB_load _ _ rfl (by rfl) rfl rfl aPA rfl (fun _ _ => trivial) (fun W hW hd => hd 12 (List.Mem.head _)) ?_; simp only [Act.put, List.setIfInBounds_toArray, List.set_cons_zero, List.set_cons_succ]
  refine wpB_load _ _ rfl (by rfl) rfl rfl aR1 rfl (fun _ _ => trivial) (fun W hW hd => hd 13 (List.Mem.head _)) ?_; simp only [Act.put, List.setIfInBounds_toArray, List.set_cons_zero, List.set_cons_succ]
  refine wpB_call (.agg N1) rfl (by rfl) rfl (fun _ _ => trivial) (fun W hW hd => ?_) ?_
  · unfold Gives
    go_simp
    refine gives_call (HN1.out W) ?_
    rintro e w3 ⟨rfl, k3⟩
    exact ⟨_, rfl, rfl, k3⟩
  simp only [Act.put, List.setIfInBounds_toArray, List.set_cons_zero, List.set_cons_succ]
  refine wpB_load _ _ rfl (by rfl) rfl rfl aPA rfl (fun _ _ => trivial) (fun W hW hd => hd 12 (List.Mem.head _)) ?_; simp only [Act.put, List.setIfInBounds_toArray, List.set_cons_zero, List.set_cons_succ]
  refine wpB_load _ _ rfl (by rfl) rfl rfl aR2 rfl (fun _ _ => trivial) (fun W hW hd => hd 14 (List.Mem.head _)) ?_; simp only [Act.put, List.setIfInBounds_toArray, List.set_cons_zero, List.set_cons_succ]
  refine wpB_call (.agg N2) rfl (by rfl) rfl (fun _ _ => trivial) (fun W hW hd => ?_) ?_
  · unfold Gives
    go_simp
    refine gives_call (HN2.out W) ?_
    rintro e w3 ⟨rfl, k3⟩
    exact ⟨_, rfl, rfl, k3⟩
  simp only [Act.put, List.setIfInBounds_toArray, List.set_cons_zero, List.set_cons_succ]
  refine wpPar_pure rfl (by rfl) _ (fun W hW => by
      go_simp
      exact rfl) ?_; simp only [Act.put, List.setIfInBounds_toArray, List.set_cons_zero, List.set_cons_succ]
  refine wpB_store _ _ _ 3 (A := z8) rfl (by rfl) rfl rfl rfl rfl aN1 HSN.out.1 HSN.out.2.2.1 HND.out (by simp) (by kernel_rfl) (fun _ => trivial) (fun _ => rfl) (fun W hW hd => hd 10 (List.Mem.head _)) (fun u => ?_)
  refine wpB_store _ _ _ 4 (A := z9) rfl (by rfl) rfl rfl rfl rfl aN2 HSN.out.2.1 HSN.out.2.2.2 HND.out (by simp) (by kernel_rfl) (fun _ => trivial) (fun _ => rfl) (fun W hW hd => hd 11 (List.Mem.head _)) (fun u => ?_)
  refine wpPar_pure rfl (by rfl) _ (fun W hW => by
      go_simp
      exact rfl) ?_; simp only [Act.put, List.setIfInBounds_toArray, List.set_cons_zero, List.set_cons_succ]
  refine wpPar_nil (fun W hW hG => ?_)
  have b8 : Blk W (w.heap.size + 1) N1 25 := hG 7
  have b9 : Blk W (w.heap.size + 2) N2 25 := hG 8
  have kW : Kept None w W := k0a.then hW (fun i hi h => by
    have := HLT.out
    simp only [List.mem_cons, List.not_mem_nil, or_false] at h
    omega)
  clear hG hW v8a v9a h14a h16 ha k0a
  go_wp2
  exact bodyPost_ret (v := .tuple #[.agg N1, .agg N2, .bool ok]) (res_cells_tmp rfl _ rfl rfl rfl b8 b9 aN1 aN2) rfl ⟨rfl, kW⟩
/-- both. -/
theorem both (old : List UInt8) (ho : old.length = 32) : ∀ (q : Nat) (path : List (List UInt8)) (m n : Nat) (wh : Bool) (v : Value) (w : World), path.length = q → q ≤ 549755813888 → Rh 0 w v path → 1 ≤ m → m ≤ n → n < 9223372036854775808 → Calls Try.prog 46 #[hashV old, .int .i64 m, .int .i64 n, .bool wh, v] w fun e w' => e = .returned (.tuple #[hashV (bothL old path m n wh).1, hashV (bothL old path m n wh).2.1, .bool (bothL old path m n wh).2.2]) ∧ Kept None w w' := by
  have same : ∀ (path : List (List UInt8)) (n : Nat) (wh : Bool) (v : Value) (w : World), Rh 0 w v path → Calls Try.prog 46 #[hashV old, .int .i64 n, .int .i64 n, .bool wh, v] w fun e w' => e = .returned (.tuple #[hashV (bothL old path n n wh).1, hashV (bothL old path n n wh).2.1, .bool (bothL old path n n wh).2.2]) ∧ Kept None w w' := by
    intro path n wh v w hv
    rw [bothL_same]
    cases wh with
    | true =>
      unfold bothEnd
      rw [if_pos rfl, List.length_reverse]
      exact both_whole old path n v w ho hv
    | false =>
      match path, hv with
      | [], hv => exact both_zero old [] n v w hv (by simp)
      | [p], hv => exact both_one old p n v w hv
      | p :: p2 :: ps, hv =>
        have e : bothEnd old (p :: p2 :: ps).reverse false = (zero32, zero32, false) := by
          unfold bothEnd
          rw [if_neg (by decide)]
          have hl : (p :: p2 :: ps).reverse.length ≠ 1 := by simp
          match (p :: p2 :: ps).reverse, hl with
          | [], _ => rfl
          | [x], h => exact absurd rfl h
          | x :: y :: zs, _ => rfl
        rw [e]
        exact both_zero old _ n v w hv (by simp)
  intro q
  induction q with
  | zero =>
    intro path m n wh v w hq hq2 hv h1 hm hn
    obtain rfl := List.eq_nil_of_length_eq_zero hq
    by_cases he : m = n
    · subst he
      exact same [] m wh v w hv
    · rw [bothL_none old he]
      exact both_none old m n wh v w hv he
  | succ q ih =>
    intro path m n wh v w hq hq2 hv h1 hm hn
    by_cases he : m = n
    · subst he
      exact same path m wh v w hv
    · have hne : path ≠ [] := fun h => by rw [h] at hq; simp at hq
      obtain ⟨ps, p, rfl⟩ : ∃ ps p, path = ps ++ [p] := ⟨path.dropLast, path.getLast hne, (List.dropLast_concat_getLast hne).symm⟩
      have hps : ps.length = q := by simpa using hq
      have hH : H32 ps := by
        obtain ⟨hi, hv⟩ := hv
        exact fun x hx => hv.1 x (by simp [hx])
      have hk := splitN_lt (n := n) (by omega)
      have hkp := splitN_pos (n := n) (by omega)
      by_cases hs : m ≤ splitN n
      · rw [bothL_left _ _ _ he hs]
        have hl := bothL_len ho ps hH m (splitN n) wh
        exact both_left old _ _ p _ ps m n wh v w ho hl.1 hl.2 hv h1 (by omega) hn hs (by omega) (fun v w h => ih ps m (splitN n) wh v w hps (by omega) h h1 hs (by omega))
      · rw [bothL_right _ _ _ he hs]
        have hl := bothL_len ho ps hH (m - splitN n) (n - splitN n) false
        exact both_right old _ _ p _ ps m n wh v w ho hl.1 hl.2 hv h1 (by omega) hn hs (by omega) (fun v w h => ih ps _ _ false v w hps (by omega) h (by omega) (by omega) (by omega))
end RGr
end Go.Proofs.Ytkogkcaflhjlhaa
