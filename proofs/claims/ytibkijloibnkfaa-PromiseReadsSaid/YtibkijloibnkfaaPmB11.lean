/- promise.fields, promise.Read: by contract. -/
import Derived.Test.YtibkijloibnkfaaPmA11
import Derived.Test.YtibkijloibnkfaaLowRdL
import Derived.Lib.Walk
namespace Go.Proofs.Ytibkijloibnkfaa
open Go.RowKit Go.Pm
namespace Pp
set_option maxRecDepth 100000 in
set_option maxHeartbeats 8000000 in
/-- promise.fields. -/
theorem fields (rr lo hi : Nat) (l : List UInt8) (w : World) (hr : Bin.Rd w lo hi rr ⟨l, 0⟩) (hlo : hi ≤ rr) (hl : l.length ≤ 512) :
    Calls Try.prog 49 #[.pointer (some ⟨rr, 0, none⟩)] w fun e w' => e = .returned (prV ⟨(rdN l).toArray⟩ (wholeI (rd1 l).num) (rd2 l).nat (wholeI (rd3 l).num) (wholeI (rd4 l).num) (rd5 l).nat (rd6 l).nat) ∧ Kept (Just rr) w w' ∧ Bin.Rd w' lo hi rr (rd7 l) := by
  have j0 := fun w h => Bin.rlump rr lo hi ⟨l, 0⟩ 32 w h (by decide) (by decide) hlo (by simp; omega)
  have q1 := fun w h => Bin.rnum rr lo hi (rd1 l) w h hlo
  have q2 := fun w h => Bin.rnum rr lo hi (rd2 l) w h hlo
  have q3 := fun w h => Bin.rnum rr lo hi (rd3 l) w h hlo
  have q4 := fun w h => Bin.rnum rr lo hi (rd4 l) w h hlo
  have q5 := fun w h => Bin.rnum rr lo hi (rd5 l) w h hlo
  have q6 := fun w h => Bin.rnum rr lo hi (rd6 l) w h hlo
  rw [← St.nat_eq] at q2 q5 q6
  rw [show St.lump ⟨l, 0⟩ 32 = rdN l from rfl, show St.lumpS ⟨l, 0⟩ 32 = rd1 l from rfl] at j0
  rw [show (rd1 l).numS = rd2 l from rfl] at q1
  rw [show (rd2 l).numS = rd3 l from rfl] at q2
  rw [show (rd3 l).numS = rd4 l from rfl] at q3
  rw [show (rd4 l).numS = rd5 l from rfl] at q4
  rw [show (rd5 l).numS = rd6 l from rfl] at q5
  rw [show (rd6 l).numS = rd7 l from rfl] at q6
  have g1 := St.num_ge (rd1 l)
  have m1 := St.num_lt (rd1 l)
  have g3 := St.num_ge (rd3 l)
  have m3 := St.num_lt (rd3 l)
  have g4 := St.num_ge (rd4 l)
  have m4 := St.num_lt (rd4 l)
  obtain ⟨N, hN⟩ : ∃ N, N = rdN l := ⟨_, rfl⟩
  obtain ⟨V, hV⟩ : ∃ V, V = wholeI (rd1 l).num := ⟨_, rfl⟩
  obtain ⟨K, hK⟩ : ∃ K, K = (rd2 l).nat := ⟨_, rfl⟩
  obtain ⟨T, hT⟩ : ∃ T, T = wholeI (rd3 l).num := ⟨_, rfl⟩
  obtain ⟨D, hD⟩ : ∃ D, D = wholeI (rd4 l).num := ⟨_, rfl⟩
  obtain ⟨R, hR⟩ : ∃ R, R = (rd5 l).nat := ⟨_, rfl⟩
  obtain ⟨S, hS⟩ : ∃ S, S = (rd6 l).nat := ⟨_, rfl⟩
  rw [← hN, ← hV, ← hK, ← hT, ← hD, ← hR, ← hS]
  rw [← hN] at j0
  rw [← hK] at q2
  rw [← hR] at q5
  rw [← hS] at q6
  obtain ⟨x1, hx1⟩ : ∃ x, x = (rd1 l).num := ⟨_, rfl⟩
  rw [← hx1] at q1 g1 m1 hV
  have y1 : min x1 9223372036854775807 = V := hV.symm
  have u1 : IntKind.i64.wrap V = V := by rw [IntKind.wrap_i64, hV]; unfold wholeI; omega
  obtain ⟨x3, hx3⟩ : ∃ x, x = (rd3 l).num := ⟨_, rfl⟩
  rw [← hx3] at q3 g3 m3 hT
  have y3 : min x3 9223372036854775807 = T := hT.symm
  have u3 : IntKind.i64.wrap T = T := by rw [IntKind.wrap_i64, hT]; unfold wholeI; omega
  obtain ⟨x4, hx4⟩ : ∃ x, x = (rd4 l).num := ⟨_, rfl⟩
  rw [← hx4] at q4 g4 m4 hD
  have y4 : min x4 9223372036854775807 = D := hD.symm
  have u4 : IntKind.i64.wrap D = D := by rw [IntKind.wrap_i64, hD]; unfold wholeI; omega
  obtain ⟨S0, hS0⟩ : ∃ S0, S0 = (⟨l, 0⟩ : St) := ⟨_, rfl⟩
  obtain ⟨S1, hS1⟩ : ∃ S1, S1 = rd1 l := ⟨_, rfl⟩
  obtain ⟨S2, hS2⟩ : ∃ S2, S2 = rd2 l := ⟨_, rfl⟩
  obtain ⟨S3, hS3⟩ : ∃ S3, S3 = rd3 l := ⟨_, rfl⟩
  obtain ⟨S4, hS4⟩ : ∃ S4, S4 = rd4 l := ⟨_, rfl⟩
  obtain ⟨S5, hS5⟩ : ∃ S5, S5 = rd5 l := ⟨_, rfl⟩
  obtain ⟨S6, hS6⟩ : ∃ S6, S6 = rd6 l := ⟨_, rfl⟩
  obtain ⟨S7, hS7⟩ : ∃ S7, S7 = rd7 l := ⟨_, rfl⟩
  rw [← hS0] at hr j0
  rw [← hS1] at j0 q1
  rw [← hS2] at q1 q2
  rw [← hS3] at q2 q3
  rw [← hS4] at q3 q4
  rw [← hS5] at q4 q5
  rw [← hS6] at q5 q6
  rw [← hS7] at q6 ⊢
  have J := hid (And.intro j0 (And.intro q1 (And.intro q2 (And.intro q3 (And.intro q4 (And.intro q5 q6))))))
  have MM := hid (And.intro y1 (And.intro y3 y4))
  have UU := hid (And.intro u1 (And.intro u3 u4))
  have GG := hid (And.intro g1 (And.intro g3 g4))
  clear j0 q1 q2 q3 q4 q5 q6 g1 g3 g4 m1 m3 m4 y1 y3 y4 u1 u3 u4 hN hV hK hT hD hR hS hx1 hx3 hx4 hS0 hS1 hS2 hS3 hS4 hS5 hS6 hS7 hl
  have hlt := hr.lt
  have NE : ∀ k, lo ≤ k → k < hi → ¬ Just (w.heap.size + 1) k := fun k _ h e => by unfold Just at e; omega
  have NR : ¬ Just (w.heap.size + 1) rr := fun e => by unfold Just at e; omega
  have NU : ¬ Just rr (w.heap.size + 1) := fun e => by unfold Just at e; omega
  have NV : ¬ Just rr w.heap.size := fun e => by unfold Just at e; omega
  have NN := hid (And.intro NE (And.intro NR (And.intro NU NV)))
  clear NE NR NU NV
  have k0 : Kept (Just rr) w ((w.alloc (.cells #[.string ⟨#[]⟩, .int .i64 0, .int .u64 0, .int .i64 0, .int .i64 0, .int .u64 0, .int .u64 0] 55)).alloc (.cells #[.string ⟨#[]⟩, .int .i64 0, .int .u64 0, .int .i64 0, .int .i64 0, .int .u64 0, .int .u64 0] 55)) := ((Kept.refl _ _).alloc _).alloc _
  have r0 := hr.kept (((Kept.refl None w).alloc (.cells #[.string ⟨#[]⟩, .int .i64 0, .int .u64 0, .int .i64 0, .int .i64 0, .int .u64 0, .int .u64 0] 55)).alloc (.cells #[.string ⟨#[]⟩, .int .i64 0, .int .u64 0, .int .i64 0, .int .i64 0, .int .u64 0, .int .u64 0] 55)) (fun _ _ _ h => h) (fun h => h)
  have u0 := Blk.new2 w (.cells #[.string ⟨#[]⟩, .int .i64 0, .int .u64 0, .int .i64 0, .int .i64 0, .int .u64 0, .int .u64 0] 55) #[.string ⟨#[]⟩, .int .i64 0, .int .u64 0, .int .i64 0, .int .i64 0, .int .u64 0, .int .u64 0] 55
  have v0 : Blk ((w.alloc (.cells #[.string ⟨#[]⟩, .int .i64 0, .int .u64 0, .int .i64 0, .int .i64 0, .int .u64 0, .int .u64 0] 55)).alloc (.cells #[.string ⟨#[]⟩, .int .i64 0, .int .u64 0, .int .i64 0, .int .i64 0, .int .u64 0, .int .u64 0] 55)) w.heap.size #[.string ⟨#[]⟩, .int .i64 0, .int .u64 0, .int .i64 0, .int .i64 0, .int .u64 0, .int .u64 0] 55 := (Blk.new w _ _).alloc _
  go_enter Try.func49, Try.ntmps49
  go_wp2_with fail
  refine (J.out.1 _ r0).mono ?_
  rintro e w1 ⟨uN, rfl, kn, b1, r1⟩
  have bN := b1.bs (Nat.le_refl _)
  obtain ⟨aN, cN, rfl⟩ := b1.form
  have kk1 := k0.trans kn
  have uu1 := u0.kept kn NN.out.2.2.1
  have vv1 := v0.kept kn NN.out.2.2.2
  have c1 : w1.cell? ⟨w.heap.size + 1, 0, none⟩ = some (.string ⟨#[]⟩) := uu1.cell 0
  have f1 := uu1.free 0
  have r1' := r1.kept (Kept.one w1 (w.heap.size + 1) 0 (.string ⟨N.toArray⟩)) NN.out.1 NN.out.2.1
  have u1' : Blk (w1.setCell ⟨w.heap.size + 1, 0, none⟩ (.string ⟨N.toArray⟩)) (w.heap.size + 1) #[.string ⟨N.toArray⟩, .int .i64 0, .int .u64 0, .int .i64 0, .int .i64 0, .int .u64 0, .int .u64 0] 55 := uu1.set 0 _
  have v1' := vv1.setOther (a := ⟨w.heap.size + 1, 0, none⟩) (by show w.heap.size ≠ w.heap.size + 1; omega) (.string ⟨N.toArray⟩)
  have k1' := kk1.setNew (b := w.heap.size + 1) (by omega) 0 (.string ⟨N.toArray⟩)
  clear kn kk1 uu1 vv1 r1 k0 u0 v0 r0 b1 hr
  go_wp2_with (first | (refine wpList_text rfl 29 9 5 _ rfl tBytes' tByte tString rfl bN ?_) | fail)
  clear bN
  refine (J.out.2.1 _ r1').mono ?_
  rintro e w2 ⟨rfl, kn, r2⟩
  have kk2 := k1'.trans kn
  have uu2 := u1'.kept kn NN.out.2.2.1
  have vv2 := v1'.kept kn NN.out.2.2.2
  have c2 : w2.cell? ⟨w.heap.size + 1, 1, none⟩ = some (.int .i64 0) := uu2.cell 1
  have f2 := uu2.free 1
  have r2' := r2.kept (Kept.one w2 (w.heap.size + 1) 1 (.int .i64 V)) NN.out.1 NN.out.2.1
  have u2' : Blk (w2.setCell ⟨w.heap.size + 1, 1, none⟩ (.int .i64 V)) (w.heap.size + 1) #[.string ⟨N.toArray⟩, .int .i64 V, .int .u64 0, .int .i64 0, .int .i64 0, .int .u64 0, .int .u64 0] 55 := uu2.set 1 _
  have v2' := vv2.setOther (a := ⟨w.heap.size + 1, 1, none⟩) (by show w.heap.size ≠ w.heap.size + 1; omega) (.int .i64 V)
  have k2' := kk2.setNew (b := w.heap.size + 1) (by omega) 1 (.int .i64 V)
  clear kn kk2 uu2 vv2 r2 k1' u1' v1' r1' c1 f1
  have mm := MM.out.1
  have gg := GG.out.1
  have ww := UU.out.1
  go_wp2_with fail
  refine (J.out.2.2.1 _ r2').mono ?_
  rintro e w3 ⟨rfl, kn, r3⟩
  have kk3 := k2'.trans kn
  have uu3 := u2'.kept kn NN.out.2.2.1
  have vv3 := v2'.kept kn NN.out.2.2.2
  have c3 : w3.cell? ⟨w.heap.size + 1, 2, none⟩ = some (.int .u64 0) := uu3.cell 2
  have f3 := uu3.free 2
  have r3' := r3.kept (Kept.one w3 (w.heap.size + 1) 2 (.int .u64 (K : Int))) NN.out.1 NN.out.2.1
  have u3' : Blk (w3.setCell ⟨w.heap.size + 1, 2, none⟩ (.int .u64 (K : Int))) (w.heap.size + 1) #[.string ⟨N.toArray⟩, .int .i64 V, .int .u64 (K : Int), .int .i64 0, .int .i64 0, .int .u64 0, .int .u64 0] 55 := uu3.set 2 _
  have v3' := vv3.setOther (a := ⟨w.heap.size + 1, 2, none⟩) (by show w.heap.size ≠ w.heap.size + 1; omega) (.int .u64 (K : Int))
  have k3' := kk3.setNew (b := w.heap.size + 1) (by omega) 2 (.int .u64 (K : Int))
  clear kn kk3 uu3 vv3 r3 k2' u2' v2' r2' c2 f2 mm gg ww
  go_wp2_with fail
  refine (J.out.2.2.2.1 _ r3').mono ?_
  rintro e w4 ⟨rfl, kn, r4⟩
  have kk4 := k3'.trans kn
  have uu4 := u3'.kept kn NN.out.2.2.1
  have vv4 := v3'.kept kn NN.out.2.2.2
  have c4 : w4.cell? ⟨w.heap.size + 1, 3, none⟩ = some (.int .i64 0) := uu4.cell 3
  have f4 := uu4.free 3
  have r4' := r4.kept (Kept.one w4 (w.heap.size + 1) 3 (.int .i64 T)) NN.out.1 NN.out.2.1
  have u4' : Blk (w4.setCell ⟨w.heap.size + 1, 3, none⟩ (.int .i64 T)) (w.heap.size + 1) #[.string ⟨N.toArray⟩, .int .i64 V, .int .u64 (K : Int), .int .i64 T, .int .i64 0, .int .u64 0, .int .u64 0] 55 := uu4.set 3 _
  have v4' := vv4.setOther (a := ⟨w.heap.size + 1, 3, none⟩) (by show w.heap.size ≠ w.heap.size + 1; omega) (.int .i64 T)
  have k4' := kk4.setNew (b := w.heap.size + 1) (by omega) 3 (.int .i64 T)
  clear kn kk4 uu4 vv4 r4 k3' u3' v3' r3' c3 f3
  have mm := MM.out.2.1
  have gg := GG.out.2.1
  have ww := UU.out.2.1
  go_wp2_with fail
  refine (J.out.2.2.2.2.1 _ r4').mono ?_
  rintro e w5 ⟨rfl, kn, r5⟩
  have kk5 := k4'.trans kn
  have uu5 := u4'.kept kn NN.out.2.2.1
  have vv5 := v4'.kept kn NN.out.2.2.2
  have c5 : w5.cell? ⟨w.heap.size + 1, 4, none⟩ = some (.int .i64 0) := uu5.cell 4
  have f5 := uu5.free 4
  have r5' := r5.kept (Kept.one w5 (w.heap.size + 1) 4 (.int .i64 D)) NN.out.1 NN.out.2.1
  have u5' : Blk (w5.setCell ⟨w.heap.size + 1, 4, none⟩ (.int .i64 D)) (w.heap.size + 1) #[.string ⟨N.toArray⟩, .int .i64 V, .int .u64 (K : Int), .int .i64 T, .int .i64 D, .int .u64 0, .int .u64 0] 55 := uu5.set 4 _
  have v5' := vv5.setOther (a := ⟨w.heap.size + 1, 4, none⟩) (by show w.heap.size ≠ w.heap.size + 1; omega) (.int .i64 D)
  have k5' := kk5.setNew (b := w.heap.size + 1) (by omega) 4 (.int .i64 D)
  clear kn kk5 uu5 vv5 r5 k4' u4' v4' r4' c4 f4 mm gg ww
  have mm := MM.out.2.2
  have gg := GG.out.2.2
  have ww := UU.out.2.2
  go_wp2_with fail
  refine (J.out.2.2.2.2.2.1 _ r5').mono ?_
  rintro e w6 ⟨rfl, kn, r6⟩
  have kk6 := k5'.trans kn
  have uu6 := u5'.kept kn NN.out.2.2.1
  have vv6 := v5'.kept kn NN.out.2.2.2
  have c6 : w6.cell? ⟨w.heap.size + 1, 5, none⟩ = some (.int .u64 0) := uu6.cell 5
  have f6 := uu6.free 5
  have r6' := r6.kept (Kept.one w6 (w.heap.size + 1) 5 (.int .u64 (R : Int))) NN.out.1 NN.out.2.1
  have u6' : Blk (w6.setCell ⟨w.heap.size + 1, 5, none⟩ (.int .u64 (R : Int))) (w.heap.size + 1) #[.string ⟨N.toArray⟩, .int .i64 V, .int .u64 (K : Int), .int .i64 T, .int .i64 D, .int .u64 (R : Int), .int .u64 0] 55 := uu6.set 5 _
  have v6' := vv6.setOther (a := ⟨w.heap.size + 1, 5, none⟩) (by show w.heap.size ≠ w.heap.size + 1; omega) (.int .u64 (R : Int))
  have k6' := kk6.setNew (b := w.heap.size + 1) (by omega) 5 (.int .u64 (R : Int))
  clear kn kk6 uu6 vv6 r6 k5' u5' v5' r5' c5 f5 mm gg ww
  go_wp2_with fail
  refine (J.out.2.2.2.2.2.2 _ r6').mono ?_
  rintro e w7 ⟨rfl, kn, r7⟩
  have kk7 := k6'.trans kn
  have uu7 := u6'.kept kn NN.out.2.2.1
  have vv7 := v6'.kept kn NN.out.2.2.2
  have c7 : w7.cell? ⟨w.heap.size + 1, 6, none⟩ = some (.int .u64 0) := uu7.cell 6
  have f7 := uu7.free 6
  have r7' := r7.kept (Kept.one w7 (w.heap.size + 1) 6 (.int .u64 (S : Int))) NN.out.1 NN.out.2.1
  have u7' : Blk (w7.setCell ⟨w.heap.size + 1, 6, none⟩ (.int .u64 (S : Int))) (w.heap.size + 1) #[.string ⟨N.toArray⟩, .int .i64 V, .int .u64 (K : Int), .int .i64 T, .int .i64 D, .int .u64 (R : Int), .int .u64 (S : Int)] 55 := uu7.set 6 _
  have v7' := vv7.setOther (a := ⟨w.heap.size + 1, 6, none⟩) (by show w.heap.size ≠ w.heap.size + 1; omega) (.int .u64 (S : Int))
  have k7' := kk7.setNew (b := w.heap.size + 1) (by omega) 6 (.int .u64 (S : Int))
  clear kn kk7 uu7 vv7 r7 k6' u6' v6' r6' c6 f6
  go_wp2_with (first | (refine wpList_load_blk rfl _ _ rfl rfl u7' aPr ?_) | (refine wpList_store_blk rfl _ _ _ rfl rfl rfl v7' aPr rfl (pr_all ⟨N.toArray⟩ V K T D R S) ?_; intro wz hz kz) | fail)
  exact bodyPost_ret (v := prV ⟨N.toArray⟩ V K T D R S) (results_blk rfl _ rfl hz aPr) rfl ⟨rfl, k7'.then kz (fun i hi (h : i = w.heap.size) => by omega), r7'.kept kz (fun k _ h (e : k = w.heap.size) => by omega) (fun (e : rr = w.heap.size) => by omega)⟩
set_option maxRecDepth 100000 in
set_option maxHeartbeats 4000000 in
theorem read_long (v : Value) (lo hi : Nat) (l : List UInt8) (w : World) (hv : Bs w lo hi v l) (h : 512 < l.length) :
    Calls Try.prog 25 #[v] w fun e w' => e = .returned (.tuple #[(readPr l).V, .int .i64 (readPrE l)]) ∧ Kept None w w' := by
  rw [readPr_none (readPrE_long h) (by decide), readPrE_long h]
  obtain ⟨a, cap, rfl, g1, g2, g3⟩ := hv.shape
  have k0 : Kept None w (w.alloc (.cells #[.string ⟨#[]⟩, .int .i64 0, .int .u64 0, .int .i64 0, .int .i64 0, .int .u64 0, .int .u64 0] 55)) := (Kept.refl _ _).alloc _
  have z0 := Blk.new w #[.string ⟨#[]⟩, .int .i64 0, .int .u64 0, .int .i64 0, .int .i64 0, .int .u64 0, .int .u64 0] 55
  clear g3 hv
  go_enter Try.func25, Try.ntmps25
  go_wp2_with (first | (refine wpList_store_blk rfl _ _ _ rfl rfl rfl z0 aPr rfl zero_all ?_; intro wz hz kz) | fail)
  exact bodyPost_ret (v := .tuple #[.agg #[.string ⟨#[]⟩, .int .i64 0, .int .u64 0, .int .i64 0, .int .i64 0, .int .u64 0, .int .u64 0], .int .i64 22]) (res_ct rfl _ rfl rfl hz aPr) rfl ⟨rfl, k0.then kz (fun i hi (h : i = w.heap.size) => by omega)⟩
set_option maxRecDepth 100000 in
set_option maxHeartbeats 4000000 in
theorem read_short (v : Value) (lo hi : Nat) (l : List UInt8) (w : World) (hv : Bs w lo hi v l) (h : l.length = 0) :
    Calls Try.prog 25 #[v] w fun e w' => e = .returned (.tuple #[(readPr l).V, .int .i64 (readPrE l)]) ∧ Kept None w w' := by
  rw [readPr_none (readPrE_short h) (by decide), readPrE_short h]
  obtain ⟨a, cap, rfl, g1, g2, g3⟩ := hv.shape
  have k0 : Kept None w (w.alloc (.cells #[.string ⟨#[]⟩, .int .i64 0, .int .u64 0, .int .i64 0, .int .i64 0, .int .u64 0, .int .u64 0] 55)) := (Kept.refl _ _).alloc _
  have z0 := Blk.new w #[.string ⟨#[]⟩, .int .i64 0, .int .u64 0, .int .i64 0, .int .i64 0, .int .u64 0, .int .u64 0] 55
  rw [h]
  clear g3 hv
  go_enter Try.func25, Try.ntmps25
  go_wp2_with (first | (refine wpList_store_blk rfl _ _ _ rfl rfl rfl z0 aPr rfl zero_all ?_; intro wz hz kz) | fail)
  exact bodyPost_ret (v := .tuple #[.agg #[.string ⟨#[]⟩, .int .i64 0, .int .u64 0, .int .i64 0, .int .i64 0, .int .u64 0, .int .u64 0], .int .i64 21]) (res_ct rfl _ rfl rfl hz aPr) rfl ⟨rfl, k0.then kz (fun i hi (h : i = w.heap.size) => by omega)⟩
set_option maxRecDepth 100000 in
set_option maxHeartbeats 4000000 in
theorem read_mark (v : Value) (lo hi : Nat) (l : List UInt8) (w : World) (hv : Bs w lo hi v l) (h : ¬ 512 < l.length) (h1 : ¬ l.length = 0) (h2 : bAt l 0 ≠ 80) :
    Calls Try.prog 25 #[v] w fun e w' => e = .returned (.tuple #[(readPr l).V, .int .i64 (readPrE l)]) ∧ Kept None w w' := by
  rw [readPr_none (readPrE_mark h h1 h2) (by decide), readPrE_mark h h1 h2]
  obtain ⟨a, cap, rfl, g1, g2, g3⟩ := hv.shape
  have k0 : Kept None w (w.alloc (.cells #[.string ⟨#[]⟩, .int .i64 0, .int .u64 0, .int .i64 0, .int .i64 0, .int .u64 0, .int .u64 0] 55)) := (Kept.refl _ _).alloc _
  have z0 := Blk.new w #[.string ⟨#[]⟩, .int .i64 0, .int .u64 0, .int .i64 0, .int .i64 0, .int .u64 0, .int .u64 0] 55
  obtain ⟨b, o, rfl, q1, q2, q3, hc⟩ := hv.ne (by omega)
  have c0 := hc 0 (by omega)
  rw [Nat.add_zero] at c0
  have hne : (bAt l 0 != 80) = true := by simpa using h2
  obtain ⟨m, hm⟩ : ∃ m, m = l.length := ⟨_, rfl⟩
  rw [← hm] at g1 h h1 ⊢
  obtain ⟨x, hx⟩ : ∃ x, x = bAt l 0 := ⟨_, rfl⟩
  rw [← hx] at c0 hne
  clear h2 hx hc hv hm g3
  go_enter Try.func25, Try.ntmps25
  go_wp2_with (first | (refine wpList_store_blk rfl _ _ _ rfl rfl rfl z0 aPr rfl zero_all ?_; intro wz hz kz) | fail)
  exact bodyPost_ret (v := .tuple #[.agg #[.string ⟨#[]⟩, .int .i64 0, .int .u64 0, .int .i64 0, .int .i64 0, .int .u64 0, .int .u64 0], .int .i64 20]) (res_ct rfl _ rfl rfl hz aPr) rfl ⟨rfl, k0.then kz (fun i hi (h : i = w.heap.size) => by omega)⟩
set_option maxRecDepth 100000 in
set_option maxHeartbeats 8000000 in
theorem read_body (v : Value) (lo hi : Nat) (l : List UInt8) (w : World) (hv : Bs w lo hi v l) (h : ¬ 512 < l.length) (h1 : ¬ l.length = 0) (h2 : bAt l 0 = 80) :
    Calls Try.prog 25 #[v] w fun e w' => e = .returned (.tuple #[(readPr l).V, .int .i64 (readPrE l)]) ∧ Kept None w w' := by
  have a1 : (rd7 (l.drop 1)).e ≠ 0 → readPrE l = (rd7 (l.drop 1)).e ∧ readPr l = zeroPr := fun h3 => ⟨readPrE_err h h1 h2 h3, readPr_none (readPrE_err h h1 h2 h3) h3⟩
  have a2 : (rd7 (l.drop 1)).e = 0 → 0 < (rd7 (l.drop 1)).l.length → readPrE l = 20 ∧ readPr l = zeroPr := fun h3 h4 => ⟨readPrE_more h h1 h2 (by omega) h4, readPr_none (readPrE_more h h1 h2 (by omega) h4) (by decide)⟩
  have a3 : (rd7 (l.drop 1)).e = 0 → (rd7 (l.drop 1)).l.length = 0 → (prmOf wholeI (l.drop 1)).right = false → readPrE l = 23 ∧ readPr l = zeroPr := fun h3 h4 h5 => ⟨readPrE_form h h1 h2 (by omega) (by omega) h5, readPr_none (readPrE_form h h1 h2 (by omega) (by omega) h5) (by decide)⟩
  have a4 : (rd7 (l.drop 1)).e = 0 → (rd7 (l.drop 1)).l.length = 0 → (prmOf wholeI (l.drop 1)).right = true → readPrE l = 0 ∧ readPr l = prmOf wholeI (l.drop 1) := fun h3 h4 h5 => ⟨readPrE_ok h h1 h2 (by omega) (by omega) h5, readPr_ok (readPrE_ok h h1 h2 (by omega) (by omega) h5)⟩
  obtain ⟨Q, hQ⟩ : ∃ Q, Q = readPr l := ⟨_, rfl⟩
  obtain ⟨E, hE⟩ : ∃ E, E = readPrE l := ⟨_, rfl⟩
  rw [← hQ, ← hE] at a1 a2 a3 a4
  rw [← hQ, ← hE]
  obtain ⟨m, hm⟩ : ∃ m, m = l.length := ⟨_, rfl⟩
  rw [← hm] at h h1
  obtain ⟨a, cap, rfl, g1, g2, g3⟩ := hv.shape
  obtain ⟨b, o, rfl, q1, q2, q3, hc⟩ := hv.ne (by omega)
  have c0 := hc 0 (by omega)
  rw [h2, Nat.add_zero] at c0
  have hcut : Bs w lo hi (.slice (if cap = 1 then some ⟨b, o, none⟩ else some ⟨b, o + 1, none⟩) (m - 1) (cap - 1)) (l.drop 1) := by
    have h3 := Vs.sliced hv 1 l.length (by omega) (by omega)
    rw [List.take_of_length_le (by rw [List.length_map]; omega), ← List.map_drop, ← hm] at h3
    exact h3
  rw [← hm] at g1 ⊢
  have ld : (l.drop 1).length ≤ 512 := by rw [List.length_drop]; omega
  obtain ⟨L, hL⟩ : ∃ L, L = l.drop 1 := ⟨_, rfl⟩
  rw [← hL] at hcut ld a1 a2 a3 a4
  clear hc g3 hv h2 hm hL hQ hE
  have hN := fun v lo hi W hv => Bin.new v lo hi L W hv (by omega)
  have hF := fun rr lo hi W hr hlo => fields rr lo hi L W hr hlo ld
  have hRt := fun W => right ⟨(rdN L).toArray⟩ (wholeI (rd1 L).num) (rd2 L).nat (wholeI (rd3 L).num) (wholeI (rd4 L).num) (rd5 L).nat (rd6 L).nat W
  have hRe := fun rr lo hi W hr => Bin.rerr rr lo hi (rd7 L) W hr
  have hRl := fun rr lo hi W hr => Bin.rleft rr lo hi (rd7 L) W hr (Nat.le_trans (rd7_len L 512 ld) (by decide))
  rw [prmOf_right] at a3 a4
  rw [← size_of (rdN L)] at a3 a4
  have hqv : (prmOf wholeI L).V = prV ⟨(rdN L).toArray⟩ (wholeI (rd1 L).num) (rd2 L).nat (wholeI (rd3 L).num) (wholeI (rd4 L).num) (rd5 L).nat (rd6 L).nat := rfl
  obtain ⟨P, hP⟩ : ∃ P, P = prmOf wholeI L := ⟨_, rfl⟩
  rw [← hP] at hqv a4
  obtain ⟨N, hN0⟩ : ∃ N, N = rdN L := ⟨_, rfl⟩
  obtain ⟨V, hV⟩ : ∃ V, V = wholeI (rd1 L).num := ⟨_, rfl⟩
  obtain ⟨K, hK⟩ : ∃ K, K = (rd2 L).nat := ⟨_, rfl⟩
  obtain ⟨T, hT⟩ : ∃ T, T = wholeI (rd3 L).num := ⟨_, rfl⟩
  obtain ⟨D, hD⟩ : ∃ D, D = wholeI (rd4 L).num := ⟨_, rfl⟩
  obtain ⟨R, hR⟩ : ∃ R, R = (rd5 L).nat := ⟨_, rfl⟩
  obtain ⟨S, hS⟩ : ∃ S, S = (rd6 L).nat := ⟨_, rfl⟩
  rw [← hN0, ← hV, ← hK, ← hT, ← hD, ← hR, ← hS] at hF hRt hqv
  rw [← hN0, ← hV, ← hK, ← hT, ← hD] at a3 a4
  obtain ⟨S7, hS7⟩ : ∃ S7, S7 = rd7 L := ⟨_, rfl⟩
  rw [← hS7] at hF hRe hRl a1 a2 a3 a4
  obtain ⟨E7, hE7⟩ : ∃ E7, E7 = S7.e := ⟨_, rfl⟩
  rw [← hE7] at hRe a1 a2 a3 a4
  obtain ⟨L7, hL7⟩ : ∃ L7, L7 = S7.l.length := ⟨_, rfl⟩
  rw [← hL7] at hRl a2 a3 a4
  obtain ⟨Z, hZ⟩ : ∃ Z, Z = rightPr (⟨N.toArray⟩ : ByteArray).size V K T D := ⟨_, rfl⟩
  rw [← hZ] at hRt a3 a4
  have H := hid (And.intro hN (And.intro hF (And.intro hRe (And.intro hRl hRt))))
  have A := hid (And.intro a1 (And.intro a2 (And.intro a3 a4)))
  have HQ := hid hqv
  clear hN hF hRe hRl hRt a1 a2 a3 a4 hqv hP hN0 hV hK hT hD hR hS hS7 hE7 hL7 hZ ld
  have k0 : Kept None w (w.alloc (.cells #[.string ⟨#[]⟩, .int .i64 0, .int .u64 0, .int .i64 0, .int .i64 0, .int .u64 0, .int .u64 0] 55)) := (Kept.refl _ _).alloc _
  have z0 := Blk.new w #[.string ⟨#[]⟩, .int .i64 0, .int .u64 0, .int .i64 0, .int .i64 0, .int .u64 0, .int .u64 0] 55
  by_cases hcap : cap = 1
  · subst hcap
    obtain rfl : m = 1 := by omega
    rw [if_pos rfl, Nat.sub_self] at hcut
    have hcc := hid (hcut.kept ((Kept.refl None w).alloc (.cells #[.string ⟨#[]⟩, .int .i64 0, .int .u64 0, .int .i64 0, .int .i64 0, .int .u64 0, .int .u64 0] 55)) (fun _ _ _ h => h))
    clear hcut
    go_enter Try.func25, Try.ntmps25
    go_wp2_with fail
    refine (H.out.1 _ _ _ _ hcc.out).mono ?_
    rintro e w1 ⟨rr, rfl, kn, hsz, r1⟩
    have hsz' : w.heap.size < rr := by simp at hsz; omega
    have k1 := k0.trans kn
    have z1 := z0.kept kn (fun h => h)
    clear k0 z0 kn hsz c0 hcc
    go_wp2_with fail
    refine (H.out.2.1 _ _ _ _ r1 (Nat.le_refl _)).mono ?_
    rintro e w2 ⟨rfl, kn, r2⟩
    have k2 := k1.then kn (fun i hi (h : i = rr) => by omega)
    have z2 := z1.kept kn (fun (h : w.heap.size = rr) => by omega)
    clear k1 z1 kn r1
    have r3 := r2.kept ((Kept.refl None w2).alloc (.cells #[.string ⟨N.toArray⟩, .int .i64 V, .int .u64 (K : Int), .int .i64 T, .int .i64 D, .int .u64 (R : Int), .int .u64 (S : Int)] 55)) (fun _ _ _ h => h) (fun h => h)
    have z3 := z2.alloc (.cells #[.string ⟨N.toArray⟩, .int .i64 V, .int .u64 (K : Int), .int .i64 T, .int .i64 D, .int .u64 (R : Int), .int .u64 (S : Int)] 55)
    have u3 := Blk.new w2 #[.string ⟨N.toArray⟩, .int .i64 V, .int .u64 (K : Int), .int .i64 T, .int .i64 D, .int .u64 (R : Int), .int .u64 (S : Int)] 55
    have k3 := k2.alloc (.cells #[.string ⟨N.toArray⟩, .int .i64 V, .int .u64 (K : Int), .int .i64 T, .int .i64 D, .int .u64 (R : Int), .int .u64 (S : Int)] 55)
    clear k2 z2 r2
    go_wp2_with fail
    refine (H.out.2.2.1 _ _ _ _ r3).mono ?_
    rintro e w4 ⟨rfl, rfl⟩
    by_cases he : E7 = 0
    · subst he
      go_wp2_with fail
      refine (H.out.2.2.2.1 _ _ _ _ r3).mono ?_
      rintro e w4 ⟨rfl, rfl⟩
      clear r3
      by_cases hl : 0 < L7
      · obtain ⟨p1, p2⟩ := A.out.2.1 (by trivial) hl
        have P1 := hid p1
        have P2 := hid p2
        clear p1 p2
        go_wp2_with (first | (refine wpList_store_blk rfl _ _ _ rfl rfl rfl z3 aPr rfl zero_all ?_; intro wz hz kz) | fail)
        exact bodyPost_ret (v := .tuple #[.agg #[.string ⟨#[]⟩, .int .i64 0, .int .u64 0, .int .i64 0, .int .i64 0, .int .u64 0, .int .u64 0], .int .i64 20]) (res_ct rfl _ rfl rfl hz aPr) rfl ⟨by rw [P1.out, P2.out]; rfl, k3.then kz (fun i hi (h : i = w.heap.size) => by omega)⟩
      · obtain rfl : L7 = 0 := by omega
        go_wp2_with (first | (refine wpList_load_blk rfl _ _ rfl rfl u3 aPr ?_) | fail)
        refine (H.out.2.2.2.2 _).mono ?_
        rintro e w5 ⟨rfl, kn⟩
        have k5 := k3.trans kn
        have z5 := z3.kept kn (fun h => h)
        have u5 := u3.kept kn (fun h => h)
        clear k3 z3 u3 kn H
        cases Z with
        | false =>
          obtain ⟨p1, p2⟩ := A.out.2.2.1 (by trivial) (by trivial) (by trivial)
          have P1 := hid p1
          have P2 := hid p2
          clear p1 p2
          go_wp2_with (first | (refine wpList_store_blk rfl _ _ _ rfl rfl rfl z5 aPr rfl zero_all ?_; intro wz hz kz) | fail)
          exact bodyPost_ret (v := .tuple #[.agg #[.string ⟨#[]⟩, .int .i64 0, .int .u64 0, .int .i64 0, .int .i64 0, .int .u64 0, .int .u64 0], .int .i64 23]) (res_ct rfl _ rfl rfl hz aPr) rfl ⟨by rw [P1.out, P2.out]; rfl, k5.then kz (fun i hi (h : i = w.heap.size) => by omega)⟩
        | true =>
          obtain ⟨p1, p2⟩ := A.out.2.2.2 (by trivial) (by trivial) (by trivial)
          have P1 := hid p1
          have P2 := hid p2
          clear p1 p2
          go_wp2_with (first | (refine wpList_load_blk rfl _ _ rfl rfl u5 aPr ?_) | (refine wpList_store_blk rfl _ _ _ rfl rfl rfl z5 aPr rfl (pr_all ⟨N.toArray⟩ V K T D R S) ?_; intro wz hz kz) | fail)
          exact bodyPost_ret (v := .tuple #[prV ⟨N.toArray⟩ V K T D R S, .int .i64 0]) (res_ct rfl _ rfl rfl hz aPr) rfl ⟨by rw [P1.out, P2.out, HQ.out], k5.then kz (fun i hi (h : i = w.heap.size) => by omega)⟩
    · obtain ⟨p1, p2⟩ := A.out.1 he
      have P1 := hid p1
      have P2 := hid p2
      have h2b : (E7 != 0) = true := by simpa using he
      have h2c : (E7 == 0) = false := by simpa using he
      clear p1 p2 he
      go_wp2_with fail
      refine (H.out.2.2.1 _ _ _ _ r3).mono ?_
      rintro e w4 ⟨rfl, rfl⟩
      clear r3 H
      go_wp2_with (first | (refine wpList_store_blk rfl _ _ _ rfl rfl rfl z3 aPr rfl zero_all ?_; intro wz hz kz) | fail)
      exact bodyPost_ret (v := .tuple #[.agg #[.string ⟨#[]⟩, .int .i64 0, .int .u64 0, .int .i64 0, .int .i64 0, .int .u64 0, .int .u64 0], .int .i64 E7]) (res_ct rfl _ rfl rfl hz aPr) rfl ⟨by rw [P1.out, P2.out]; rfl, k3.then kz (fun i hi (h : i = w.heap.size) => by omega)⟩
  · rw [if_neg hcap] at hcut
    have hcc := hid (hcut.kept ((Kept.refl None w).alloc (.cells #[.string ⟨#[]⟩, .int .i64 0, .int .u64 0, .int .i64 0, .int .i64 0, .int .u64 0, .int .u64 0] 55)) (fun _ _ _ h => h))
    clear hcut
    go_enter Try.func25, Try.ntmps25
    go_wp2_with fail
    refine (H.out.1 _ _ _ _ hcc.out).mono ?_
    rintro e w1 ⟨rr, rfl, kn, hsz, r1⟩
    have hsz' : w.heap.size < rr := by simp at hsz; omega
    have k1 := k0.trans kn
    have z1 := z0.kept kn (fun h => h)
    clear k0 z0 kn hsz c0 hcc
    go_wp2_with fail
    refine (H.out.2.1 _ _ _ _ r1 (Nat.le_refl _)).mono ?_
    rintro e w2 ⟨rfl, kn, r2⟩
    have k2 := k1.then kn (fun i hi (h : i = rr) => by omega)
    have z2 := z1.kept kn (fun (h : w.heap.size = rr) => by omega)
    clear k1 z1 kn r1
    have r3 := r2.kept ((Kept.refl None w2).alloc (.cells #[.string ⟨N.toArray⟩, .int .i64 V, .int .u64 (K : Int), .int .i64 T, .int .i64 D, .int .u64 (R : Int), .int .u64 (S : Int)] 55)) (fun _ _ _ h => h) (fun h => h)
    have z3 := z2.alloc (.cells #[.string ⟨N.toArray⟩, .int .i64 V, .int .u64 (K : Int), .int .i64 T, .int .i64 D, .int .u64 (R : Int), .int .u64 (S : Int)] 55)
    have u3 := Blk.new w2 #[.string ⟨N.toArray⟩, .int .i64 V, .int .u64 (K : Int), .int .i64 T, .int .i64 D, .int .u64 (R : Int), .int .u64 (S : Int)] 55
    have k3 := k2.alloc (.cells #[.string ⟨N.toArray⟩, .int .i64 V, .int .u64 (K : Int), .int .i64 T, .int .i64 D, .int .u64 (R : Int), .int .u64 (S : Int)] 55)
    clear k2 z2 r2
    go_wp2_with fail
    refine (H.out.2.2.1 _ _ _ _ r3).mono ?_
    rintro e w4 ⟨rfl, rfl⟩
    by_cases he : E7 = 0
    · subst he
      go_wp2_with fail
      refine (H.out.2.2.2.1 _ _ _ _ r3).mono ?_
      rintro e w4 ⟨rfl, rfl⟩
      clear r3
      by_cases hl : 0 < L7
      · obtain ⟨p1, p2⟩ := A.out.2.1 (by trivial) hl
        have P1 := hid p1
        have P2 := hid p2
        clear p1 p2
        go_wp2_with (first | (refine wpList_store_blk rfl _ _ _ rfl rfl rfl z3 aPr rfl zero_all ?_; intro wz hz kz) | fail)
        exact bodyPost_ret (v := .tuple #[.agg #[.string ⟨#[]⟩, .int .i64 0, .int .u64 0, .int .i64 0, .int .i64 0, .int .u64 0, .int .u64 0], .int .i64 20]) (res_ct rfl _ rfl rfl hz aPr) rfl ⟨by rw [P1.out, P2.out]; rfl, k3.then kz (fun i hi (h : i = w.heap.size) => by omega)⟩
      · obtain rfl : L7 = 0 := by omega
        go_wp2_with (first | (refine wpList_load_blk rfl _ _ rfl rfl u3 aPr ?_) | fail)
        refine (H.out.2.2.2.2 _).mono ?_
        rintro e w5 ⟨rfl, kn⟩
        have k5 := k3.trans kn
        have z5 := z3.kept kn (fun h => h)
        have u5 := u3.kept kn (fun h => h)
        clear k3 z3 u3 kn H
        cases Z with
        | false =>
          obtain ⟨p1, p2⟩ := A.out.2.2.1 (by trivial) (by trivial) (by trivial)
          have P1 := hid p1
          have P2 := hid p2
          clear p1 p2
          go_wp2_with (first | (refine wpList_store_blk rfl _ _ _ rfl rfl rfl z5 aPr rfl zero_all ?_; intro wz hz kz) | fail)
          exact bodyPost_ret (v := .tuple #[.agg #[.string ⟨#[]⟩, .int .i64 0, .int .u64 0, .int .i64 0, .int .i64 0, .int .u64 0, .int .u64 0], .int .i64 23]) (res_ct rfl _ rfl rfl hz aPr) rfl ⟨by rw [P1.out, P2.out]; rfl, k5.then kz (fun i hi (h : i = w.heap.size) => by omega)⟩
        | true =>
          obtain ⟨p1, p2⟩ := A.out.2.2.2 (by trivial) (by trivial) (by trivial)
          have P1 := hid p1
          have P2 := hid p2
          clear p1 p2
          go_wp2_with (first | (refine wpList_load_blk rfl _ _ rfl rfl u5 aPr ?_) | (refine wpList_store_blk rfl _ _ _ rfl rfl rfl z5 aPr rfl (pr_all ⟨N.toArray⟩ V K T D R S) ?_; intro wz hz kz) | fail)
          exact bodyPost_ret (v := .tuple #[prV ⟨N.toArray⟩ V K T D R S, .int .i64 0]) (res_ct rfl _ rfl rfl hz aPr) rfl ⟨by rw [P1.out, P2.out, HQ.out], k5.then kz (fun i hi (h : i = w.heap.size) => by omega)⟩
    · obtain ⟨p1, p2⟩ := A.out.1 he
      have P1 := hid p1
      have P2 := hid p2
      have h2b : (E7 != 0) = true := by simpa using he
      have h2c : (E7 == 0) = false := by simpa using he
      clear p1 p2 he
      go_wp2_with fail
      refine (H.out.2.2.1 _ _ _ _ r3).mono ?_
      rintro e w4 ⟨rfl, rfl⟩
      clear r3 H
      go_wp2_with (first | (refine wpList_store_blk rfl _ _ _ rfl rfl rfl z3 aPr rfl zero_all ?_; intro wz hz kz) | fail)
      exact bodyPost_ret (v := .tuple #[.agg #[.string ⟨#[]⟩, .int .i64 0, .int .u64 0, .int .i64 0, .int .i64 0, .int .u64 0, .int .u64 0], .int .i64 E7]) (res_ct rfl _ rfl rfl hz aPr) rfl ⟨by rw [P1.out, P2.out]; rfl, k3.then kz (fun i hi (h : i = w.heap.size) => by omega)⟩
/-- Read. -/
theorem read (v : Value) (lo hi : Nat) (l : List UInt8) (w : World) (hv : Bs w lo hi v l) :
    Calls Try.prog 25 #[v] w fun e w' => e = .returned (.tuple #[(readPr l).V, .int .i64 (readPrE l)]) ∧ Kept None w w' := by
  by_cases h : 512 < l.length
  · exact read_long v lo hi l w hv h
  by_cases h1 : l.length = 0
  · exact read_short v lo hi l w hv h1
  by_cases h2 : bAt l 0 = 80
  · exact read_body v lo hi l w hv h h1 h2
  · exact read_mark v lo hi l w hv h h1 h2
end Pp
end Go.Proofs.Ytibkijloibnkfaa
