/- update.Read, by contract. -/
import Derived.Test.YtbckjkfdkgomiaaUpdP5
import Derived.Test.YtbckjkfdkgomiaaBin
namespace Go.Proofs.Ytbckjkfdkgomiaa
open Go.RowKit Go.Pm
namespace Up

theorem wholeI_le {n : Int} (h : n ≤ 9223372036854775807) : wholeI n = n := by unfold wholeI; omega
theorem wholeI_gt {n : Int} (h : 9223372036854775807 < n) : wholeI n = 9223372036854775807 := by unfold wholeI; omega
set_option maxRecDepth 100000 in
/-- update.whole. -/
theorem whole (n : Int) (w : World) (h0 : 0 ≤ n) (h1 : n < 18446744073709551616) : Calls Try.prog 64 #[.int .u64 n] w fun e w' => e = .returned (.int .i64 (wholeI n)) ∧ w = w' := by
  by_cases h : n ≤ 9223372036854775807
  · rw [wholeI_le h]
    go_enter Try.func64, Try.ntmps64
    go_wp2
    go_ret
    exact ⟨rfl, rfl⟩
  · rw [wholeI_gt (by omega)]
    go_enter Try.func64, Try.ntmps64
    go_wp2
    go_ret
    exact ⟨rfl, rfl⟩

set_option maxRecDepth 100000 in
set_option maxHeartbeats 8000000 in
/-- update.fields. -/
theorem fields (rr lo hi : Nat) (l : List UInt8) (w : World) (hr : Bin.Rd w lo hi rr ⟨l, 0⟩) (hlo : hi ≤ rr) (hl : l.length ≤ 512) :
    Calls Try.prog 42 #[.pointer (some ⟨rr, 0, none⟩)] w fun e w' => e = .returned (reqOf wholeI l).V ∧ Kept (Just rr) w w' ∧ Bin.Rd w' lo hi rr (rd6 l) := by
  have j0 := fun w h => Bin.rlump rr lo hi ⟨l, 0⟩ 32 w h (by decide) (by decide) hlo (by simp; omega)
  have q1 := fun w h => Bin.rnum rr lo hi (rd1 l) w h hlo
  have q2 := fun w h => Bin.rnum rr lo hi (rd2 l) w h hlo
  have q3 := fun w h => Bin.rnum rr lo hi (rd3 l) w h hlo
  have q4 := fun w h => Bin.rnum rr lo hi (rd4 l) w h hlo
  have q5 := fun w h => Bin.rnum rr lo hi (rd5 l) w h hlo
  have p1 := fun w => whole (rd1 l).num w (St.num_ge _) (St.num_lt _)
  have p3 := fun w => whole (rd3 l).num w (St.num_ge _) (St.num_lt _)
  rw [← St.nat_eq] at q2 q4 q5
  rw [show St.lump ⟨l, 0⟩ 32 = rdN l from rfl, show St.lumpS ⟨l, 0⟩ 32 = rd1 l from rfl] at j0
  rw [show (rd1 l).numS = rd2 l from rfl] at q1
  rw [show (rd2 l).numS = rd3 l from rfl] at q2
  rw [show (rd3 l).numS = rd4 l from rfl] at q3
  rw [show (rd4 l).numS = rd5 l from rfl] at q4
  rw [show (rd5 l).numS = rd6 l from rfl] at q5
  show Calls Try.prog 42 #[.pointer (some ⟨rr, 0, none⟩)] w fun e w' => e = .returned (updV ⟨(rdN l).toArray⟩ (wholeI (rd1 l).num) (rd2 l).nat (wholeI (rd3 l).num) (rd4 l).nat (rd5 l).nat) ∧ Kept (Just rr) w w' ∧ Bin.Rd w' lo hi rr (rd6 l)
  obtain ⟨N, hN⟩ : ∃ N, N = rdN l := ⟨_, rfl⟩
  obtain ⟨V, hV⟩ : ∃ V, V = wholeI (rd1 l).num := ⟨_, rfl⟩
  obtain ⟨K, hK⟩ : ∃ K, K = (rd2 l).nat := ⟨_, rfl⟩
  obtain ⟨C, hC⟩ : ∃ C, C = wholeI (rd3 l).num := ⟨_, rfl⟩
  obtain ⟨R, hR⟩ : ∃ R, R = (rd4 l).nat := ⟨_, rfl⟩
  obtain ⟨S, hS⟩ : ∃ S, S = (rd5 l).nat := ⟨_, rfl⟩
  rw [← hN, ← hV, ← hK, ← hC, ← hR, ← hS]
  rw [← hN] at j0
  rw [← hV] at p1
  rw [← hC] at p3
  rw [← hK] at q2
  rw [← hR] at q4
  rw [← hS] at q5
  obtain ⟨x1, hx1⟩ : ∃ x, x = (rd1 l).num := ⟨_, rfl⟩
  obtain ⟨x3, hx3⟩ : ∃ x, x = (rd3 l).num := ⟨_, rfl⟩
  rw [← hx1] at q1 p1
  rw [← hx3] at q3 p3
  obtain ⟨S0, hS0⟩ : ∃ S0, S0 = (⟨l, 0⟩ : St) := ⟨_, rfl⟩
  obtain ⟨S1, hS1⟩ : ∃ S1, S1 = rd1 l := ⟨_, rfl⟩
  obtain ⟨S2, hS2⟩ : ∃ S2, S2 = rd2 l := ⟨_, rfl⟩
  obtain ⟨S3, hS3⟩ : ∃ S3, S3 = rd3 l := ⟨_, rfl⟩
  obtain ⟨S4, hS4⟩ : ∃ S4, S4 = rd4 l := ⟨_, rfl⟩
  obtain ⟨S5, hS5⟩ : ∃ S5, S5 = rd5 l := ⟨_, rfl⟩
  obtain ⟨S6, hS6⟩ : ∃ S6, S6 = rd6 l := ⟨_, rfl⟩
  rw [← hS0] at hr j0
  rw [← hS1] at j0 q1
  rw [← hS2] at q1 q2
  rw [← hS3] at q2 q3
  rw [← hS4] at q3 q4
  rw [← hS5] at q4 q5
  rw [← hS6] at q5 ⊢
  have J := hid (And.intro j0 (And.intro q1 (And.intro q2 (And.intro q3 (And.intro q4 (And.intro q5 (And.intro p1 p3)))))))
  clear j0 q1 q2 q3 q4 q5 p1 p3 hN hV hK hC hR hS hx1 hx3 hS0 hS1 hS2 hS3 hS4 hS5 hS6 hl
  have hlt := hr.lt
  have NE : ∀ k, lo ≤ k → k < hi → ¬ Just (w.heap.size + 1) k := fun k _ h e => by unfold Just at e; omega
  have NR : ¬ Just (w.heap.size + 1) rr := fun e => by unfold Just at e; omega
  have NU : ¬ Just rr (w.heap.size + 1) := fun e => by unfold Just at e; omega
  have NV : ¬ Just rr w.heap.size := fun e => by unfold Just at e; omega
  have NW : ¬ Just (w.heap.size + 1) w.heap.size := fun e => by unfold Just at e; omega
  have NN := hid (And.intro NE (And.intro NR (And.intro NU (And.intro NV NW))))
  clear NE NR NU NV NW
  have k0 : Kept (Just rr) w ((w.alloc (.cells #[.string ⟨#[]⟩, .int .i64 0, .int .u64 0, .int .i64 0, .int .u64 0, .int .u64 0] 26)).alloc (.cells #[.string ⟨#[]⟩, .int .i64 0, .int .u64 0, .int .i64 0, .int .u64 0, .int .u64 0] 26)) := ((Kept.refl _ _).alloc _).alloc _
  have r0 := hr.kept (((Kept.refl None w).alloc (.cells #[.string ⟨#[]⟩, .int .i64 0, .int .u64 0, .int .i64 0, .int .u64 0, .int .u64 0] 26)).alloc (.cells #[.string ⟨#[]⟩, .int .i64 0, .int .u64 0, .int .i64 0, .int .u64 0, .int .u64 0] 26)) (fun _ _ _ h => h) (fun h => h)
  have u0 := Blk.new2 w (.cells #[.string ⟨#[]⟩, .int .i64 0, .int .u64 0, .int .i64 0, .int .u64 0, .int .u64 0] 26) #[.string ⟨#[]⟩, .int .i64 0, .int .u64 0, .int .i64 0, .int .u64 0, .int .u64 0] 26
  have v0 : Blk ((w.alloc (.cells #[.string ⟨#[]⟩, .int .i64 0, .int .u64 0, .int .i64 0, .int .u64 0, .int .u64 0] 26)).alloc (.cells #[.string ⟨#[]⟩, .int .i64 0, .int .u64 0, .int .i64 0, .int .u64 0, .int .u64 0] 26)) w.heap.size #[.string ⟨#[]⟩, .int .i64 0, .int .u64 0, .int .i64 0, .int .u64 0, .int .u64 0] 26 := (Blk.new w _ _).alloc _
  go_enter Try.func42, Try.ntmps42
  go_wp2_with fail
  refine (J.out.1 _ r0).mono ?_
  rintro e w1 ⟨uN, rfl, k1, b1, r1⟩
  have bN := b1.bs (Nat.le_refl _)
  obtain ⟨aN, cN, rfl⟩ := b1.form
  have kk1 := k0.trans k1
  have u1 := u0.kept k1 NN.out.2.2.1
  have v1 := v0.kept k1 NN.out.2.2.2.1
  have c0 : w1.cell? ⟨w.heap.size + 1, 0, none⟩ = some (.string ⟨#[]⟩) := u1.cell 0
  have f0 := u1.free 0
  have r1' := r1.kept (Kept.one w1 (w.heap.size + 1) 0 (.string ⟨N.toArray⟩)) NN.out.1 NN.out.2.1
  have u1' : Blk (w1.setCell ⟨w.heap.size + 1, 0, none⟩ (.string ⟨N.toArray⟩)) (w.heap.size + 1) #[.string ⟨N.toArray⟩, .int .i64 0, .int .u64 0, .int .i64 0, .int .u64 0, .int .u64 0] 26 := u1.set 0 _
  have v1' := v1.setOther (a := ⟨w.heap.size + 1, 0, none⟩) (by show w.heap.size ≠ w.heap.size + 1; omega) (.string ⟨N.toArray⟩)
  have kk1' := kk1.setNew (b := w.heap.size + 1) (by omega) 0 (.string ⟨N.toArray⟩)
  clear r0 u0 v0 k0 r1 b1 u1 v1 kk1 k1 hr
  go_wp2_with (first | (refine wpList_text rfl 32 9 5 _ rfl tBytes' tByte tString rfl bN ?_) | fail)
  refine (J.out.2.1 _ r1').mono ?_
  rintro e w2 ⟨rfl, k2, r2⟩
  have kk2 := kk1'.trans k2
  have u2 := u1'.kept k2 NN.out.2.2.1
  have v2 := v1'.kept k2 NN.out.2.2.2.1
  clear r1' u1' v1' kk1' k2 c0 f0
  go_wp2_with fail
  refine (J.out.2.2.2.2.2.2.1 _).mono ?_
  rintro e w2' ⟨rfl, rfl⟩
  have c1 : w2.cell? ⟨w.heap.size + 1, 1, none⟩ = some (.int .i64 0) := u2.cell 1
  have f1 := u2.free 1
  have r2' := r2.kept (Kept.one w2 (w.heap.size + 1) 1 (.int .i64 V)) NN.out.1 NN.out.2.1
  have u2' : Blk (w2.setCell ⟨w.heap.size + 1, 1, none⟩ (.int .i64 V)) (w.heap.size + 1) #[.string ⟨N.toArray⟩, .int .i64 V, .int .u64 0, .int .i64 0, .int .u64 0, .int .u64 0] 26 := u2.set 1 _
  have v2' := v2.setOther (a := ⟨w.heap.size + 1, 1, none⟩) (by show w.heap.size ≠ w.heap.size + 1; omega) (.int .i64 V)
  have kk2' := kk2.setNew (b := w.heap.size + 1) (by omega) 1 (.int .i64 V)
  clear r2 u2 v2 kk2
  go_wp2_with fail
  refine (J.out.2.2.1 _ r2').mono ?_
  rintro e w3 ⟨rfl, k3, r3⟩
  have kk3 := kk2'.trans k3
  have u3 := u2'.kept k3 NN.out.2.2.1
  have v3 := v2'.kept k3 NN.out.2.2.2.1
  have c2 : w3.cell? ⟨w.heap.size + 1, 2, none⟩ = some (.int .u64 0) := u3.cell 2
  have f2 := u3.free 2
  have r3' := r3.kept (Kept.one w3 (w.heap.size + 1) 2 (.int .u64 (K : Int))) NN.out.1 NN.out.2.1
  have u3' : Blk (w3.setCell ⟨w.heap.size + 1, 2, none⟩ (.int .u64 (K : Int))) (w.heap.size + 1) #[.string ⟨N.toArray⟩, .int .i64 V, .int .u64 (K : Int), .int .i64 0, .int .u64 0, .int .u64 0] 26 := u3.set 2 _
  have v3' := v3.setOther (a := ⟨w.heap.size + 1, 2, none⟩) (by show w.heap.size ≠ w.heap.size + 1; omega) (.int .u64 (K : Int))
  have kk3' := kk3.setNew (b := w.heap.size + 1) (by omega) 2 (.int .u64 (K : Int))
  clear r3 u3 v3 kk3 r2' u2' v2' kk2' k3 c1 f1
  go_wp2_with fail
  refine (J.out.2.2.2.1 _ r3').mono ?_
  rintro e w4 ⟨rfl, k4, r4⟩
  have kk4 := kk3'.trans k4
  have u4 := u3'.kept k4 NN.out.2.2.1
  have v4 := v3'.kept k4 NN.out.2.2.2.1
  clear r3' u3' v3' kk3' k4 c2 f2
  go_wp2_with fail
  refine (J.out.2.2.2.2.2.2.2 _).mono ?_
  rintro e w4' ⟨rfl, rfl⟩
  have c3 : w4.cell? ⟨w.heap.size + 1, 3, none⟩ = some (.int .i64 0) := u4.cell 3
  have f3 := u4.free 3
  have r4' := r4.kept (Kept.one w4 (w.heap.size + 1) 3 (.int .i64 C)) NN.out.1 NN.out.2.1
  have u4' : Blk (w4.setCell ⟨w.heap.size + 1, 3, none⟩ (.int .i64 C)) (w.heap.size + 1) #[.string ⟨N.toArray⟩, .int .i64 V, .int .u64 (K : Int), .int .i64 C, .int .u64 0, .int .u64 0] 26 := u4.set 3 _
  have v4' := v4.setOther (a := ⟨w.heap.size + 1, 3, none⟩) (by show w.heap.size ≠ w.heap.size + 1; omega) (.int .i64 C)
  have kk4' := kk4.setNew (b := w.heap.size + 1) (by omega) 3 (.int .i64 C)
  clear r4 u4 v4 kk4
  go_wp2_with fail
  refine (J.out.2.2.2.2.1 _ r4').mono ?_
  rintro e w5 ⟨rfl, k5, r5⟩
  have kk5 := kk4'.trans k5
  have u5 := u4'.kept k5 NN.out.2.2.1
  have v5 := v4'.kept k5 NN.out.2.2.2.1
  have c4 : w5.cell? ⟨w.heap.size + 1, 4, none⟩ = some (.int .u64 0) := u5.cell 4
  have f4 := u5.free 4
  have r5' := r5.kept (Kept.one w5 (w.heap.size + 1) 4 (.int .u64 (R : Int))) NN.out.1 NN.out.2.1
  have u5' : Blk (w5.setCell ⟨w.heap.size + 1, 4, none⟩ (.int .u64 (R : Int))) (w.heap.size + 1) #[.string ⟨N.toArray⟩, .int .i64 V, .int .u64 (K : Int), .int .i64 C, .int .u64 (R : Int), .int .u64 0] 26 := u5.set 4 _
  have v5' := v5.setOther (a := ⟨w.heap.size + 1, 4, none⟩) (by show w.heap.size ≠ w.heap.size + 1; omega) (.int .u64 (R : Int))
  have kk5' := kk5.setNew (b := w.heap.size + 1) (by omega) 4 (.int .u64 (R : Int))
  clear r5 u5 v5 kk5 r4' u4' v4' kk4' k5 c3 f3
  go_wp2_with fail
  refine (J.out.2.2.2.2.2.1 _ r5').mono ?_
  rintro e w6 ⟨rfl, k6, r6⟩
  have kk6 := kk5'.trans k6
  have u6 := u5'.kept k6 NN.out.2.2.1
  have v6 := v5'.kept k6 NN.out.2.2.2.1
  have c5 : w6.cell? ⟨w.heap.size + 1, 5, none⟩ = some (.int .u64 0) := u6.cell 5
  have f5 := u6.free 5
  have r6' := r6.kept (Kept.one w6 (w.heap.size + 1) 5 (.int .u64 (S : Int))) NN.out.1 NN.out.2.1
  have u6' : Blk (w6.setCell ⟨w.heap.size + 1, 5, none⟩ (.int .u64 (S : Int))) (w.heap.size + 1) #[.string ⟨N.toArray⟩, .int .i64 V, .int .u64 (K : Int), .int .i64 C, .int .u64 (R : Int), .int .u64 (S : Int)] 26 := u6.set 5 _
  have v6' := v6.setOther (a := ⟨w.heap.size + 1, 5, none⟩) (by show w.heap.size ≠ w.heap.size + 1; omega) (.int .u64 (S : Int))
  have kk6' := kk6.setNew (b := w.heap.size + 1) (by omega) 5 (.int .u64 (S : Int))
  clear r6 u6 v6 kk6 r5' u5' v5' kk5' k6 c4 f4
  go_wp2_with (first | (refine wpList_load_blk rfl _ _ rfl rfl u6' aUpd ?_) | (refine wpList_store_blk rfl _ _ _ rfl rfl rfl v6' aUpd rfl (upd_all _ _ _ _ _ _) ?_; intro w7 hR7 k7) | fail)
  exact bodyPost_ret (v := updV ⟨N.toArray⟩ V K C R S) (results_blk rfl _ rfl hR7 aUpd) rfl ⟨rfl, kk6'.then k7 (fun i hi (h : i = w.heap.size) => by omega), r6'.kept k7 (fun k _ h (e : k = w.heap.size) => by omega) (fun (e : rr = w.heap.size) => by omega)⟩
end Up
end Go.Proofs.Ytbckjkfdkgomiaa
