/- Texts joined: LowRUpdRead, RReadJ14, JrnF14, JrnR14, SgPut, UpPut, FmSum13. -/
import Derived.Test.YtpbkdeljhehkdaaPk5
import Derived.Test.YtpbkdeljhehkdaaPk4
import Derived.Test.YtpbkdeljhehkdaaPk1
import Derived.Test.YtpbkdeljhehkdaaPk2
import Derived.Deep.CutBlock
import Derived.Deep.DeepCutAuto
import Derived.Deep.QuietTactic
import Derived.BigQuiet
import Derived.Test.YtpbkdeljhehkdaaPk3
/- Package postmarkref5, Read: by contract, over the same plain functions as update.Read. -/
namespace Go.Proofs.Ytpbkdeljhehkdaa
open Go.RowKit Go.Pm
namespace RUp

set_option maxRecDepth 100000 in
set_option maxHeartbeats 8000000 in
theorem read_long (v : Value) (lo hi : Nat) (l : List UInt8) (w : World) (hv : Bs w lo hi v l) (h : 512 < l.length) : Calls Try.prog 40 #[v] w fun e w' => e = .returned (.tuple #[(readQ l).V, .int .i64 (readE l)]) ∧ Kept None w w' := by
  rw [Up.readQ_none (Up.readE_long h) (by decide), Up.readE_long h]
  obtain ⟨a, cap, rfl, g1, g2, g3⟩ := hv.shape
  clear g3 hv
  have k0 : Kept None w (w.alloc (.cells #[.string ⟨#[]⟩, .int .i64 0, .int .u64 0, .int .i64 0, .int .u64 0, .int .u64 0] 26)) := (Kept.refl _ _).alloc _
  have u0 := Blk.new w #[.string ⟨#[]⟩, .int .i64 0, .int .u64 0, .int .i64 0, .int .u64 0, .int .u64 0] 26
  go_enter Try.func40, Try.ntmps40
  go_wp2_with (first | (refine wpList_store_blk rfl _ _ _ rfl rfl rfl u0 Up.aUpd rfl Up.zero_all ?_; intro w7 hR7 k7) | fail)
  exact bodyPost_ret (v := .tuple #[Req.none.V, .int .i64 22]) (results_blk2 rfl _ rfl rfl hR7 Up.aUpd) rfl ⟨rfl, k0.then k7 (fun i hi (h : i = w.heap.size) => by omega)⟩

theorem upd4_all (n : ByteArray) (v c : Int) (k : Nat) : (#[.string n, .int .i64 v, .int .u64 (k : Int), .int .i64 c, .int .u64 0, .int .u64 0] : Array Value).all (·.oneCell') = true := by simp [Value.oneCell']

theorem gives_store_blk {P : Program} {o : Oper} {a : Act} {w : World} {X : Value → World → Prop} (ty : TypeId) (x y : Operand) (ho : o.op = .store ty x y) {g : Nat} (hx : a.eval x = .pointer (some ⟨g, 0, none⟩)) {cs' : Array Value} (hy : a.eval y = .agg cs')
    {t : TypeId} {cs : Array Value} (hb : Blk w g cs t) (hT : AggTy P ty cs'.size) (hs : cs.size = cs'.size) (h1 : cs'.all (·.oneCell') = true) (h : ∀ w', Blk w' g cs' t → Kept (Just g) w w' → X undef w') : Gives P o a w X := by
  have hr := run_store_blk (P := P) (ty := ty) hb hT hs h1
  unfold Gives
  simp only [execOp, ho, hx, hy, Sem.run_bind, hr, Result.andThen_ok, Sem.run_pure]
  exact h _ (hb.setRow _) (Kept.row _ _ _)

set_option maxRecDepth 100000 in
set_option maxHeartbeats 16000000 in
theorem read_err (v : Value) (lo hi : Nat) (l : List UInt8) (w : World) (hv : Bs w lo hi v l) (h : ¬ 512 < l.length) (h2 : (rd6 l).e ≠ 0) : Calls Try.prog 40 #[v] w fun e w' => e = .returned (.tuple #[(readQ l).V, .int .i64 (readE l)]) ∧ Kept None w w' := by
  rw [Up.readQ_none (Up.readE_err h h2) h2, Up.readE_err h h2]
  have j0 := fun rr lo hi w hr hlo => of rr lo hi l w hr hlo
  have j1 := fun rr lo hi w hr hlo => Ref.rint rr lo hi (rd3 l) w hr hlo
  have j2 := fun rr lo hi w hr hlo => Ref.rnum rr lo hi (rd4 l) w hr hlo
  have j3 := fun rr lo hi w hr hlo => Ref.rnum rr lo hi (rd5 l) w hr hlo
  have j4 := fun w => right ⟨(rdN l).toArray⟩ (intI (rd1 l).num) (intI (rd3 l).num) (rd2 l).nat (rd4 l).nat (rd5 l).nat w
  rw [← St.nat_eq] at j2 j3
  rw [show (rd3 l).numS = rd4 l from rfl] at j1
  rw [show (rd4 l).numS = rd5 l from rfl] at j2
  rw [show (rd5 l).numS = rd6 l from rfl] at j3
  obtain ⟨N, hN⟩ : ∃ N, N = rdN l := ⟨_, rfl⟩
  obtain ⟨V, hV⟩ : ∃ V, V = intI (rd1 l).num := ⟨_, rfl⟩
  obtain ⟨K, hK⟩ : ∃ K, K = (rd2 l).nat := ⟨_, rfl⟩
  obtain ⟨C, hC⟩ : ∃ C, C = intI (rd3 l).num := ⟨_, rfl⟩
  obtain ⟨R, hR⟩ : ∃ R, R = (rd4 l).nat := ⟨_, rfl⟩
  obtain ⟨S, hS⟩ : ∃ S, S = (rd5 l).nat := ⟨_, rfl⟩
  rw [← hN, ← hV, ← hK] at j0
  rw [← hC] at j1
  rw [← hR] at j2
  rw [← hS] at j3
  rw [← hN, ← hV, ← hK, ← hC, ← hR, ← hS] at j4
  obtain ⟨S0, hS0⟩ : ∃ S0, S0 = (⟨l, 0⟩ : St) := ⟨_, rfl⟩
  obtain ⟨S3, hS3⟩ : ∃ S3, S3 = rd3 l := ⟨_, rfl⟩
  obtain ⟨S4, hS4⟩ : ∃ S4, S4 = rd4 l := ⟨_, rfl⟩
  obtain ⟨S5, hS5⟩ : ∃ S5, S5 = rd5 l := ⟨_, rfl⟩
  obtain ⟨S6, hS6⟩ : ∃ S6, S6 = rd6 l := ⟨_, rfl⟩
  rw [← hS0, ← hS3] at j0
  rw [← hS3, ← hS4] at j1
  rw [← hS4, ← hS5] at j2
  rw [← hS5, ← hS6] at j3
  rw [← hS6] at h2 ⊢
  have h2b : (S6.e != 0) = true := by simpa using h2
  clear h2 hS6
  have J := hid (And.intro j0 (And.intro j1 (And.intro j2 (And.intro j3 j4))))
  have HS0 := hid hS0
  clear j0 j1 j2 j3 j4 hN hV hK hC hR hS hS0 hS3 hS4 hS5
  have hv' := Vs.lt hv
  have hhi : min hi w.heap.size ≤ w.heap.size := Nat.min_le_right _ _
  generalize min hi w.heap.size = hi' at hv' hhi
  obtain ⟨a, cap, rfl, g1, g2, g3⟩ := hv.shape
  clear g3 hv
  have hv0 : Bs w lo hi' (.slice a l.length cap) l := hv'
  clear hv'
  have hv1 := (hv0.kept ((Kept.refl None w).alloc (.cells #[.string ⟨#[]⟩, .int .i64 0, .int .u64 0, .int .i64 0, .int .u64 0, .int .u64 0] 26)) (fun _ _ _ h => h)).kept ((Kept.refl None _).alloc (.cells #[.slice a l.length cap, .int .i64 0] 80)) (fun _ _ _ h => h)
  have r1 : Ref.Rd ((w.alloc (.cells #[.string ⟨#[]⟩, .int .i64 0, .int .u64 0, .int .i64 0, .int .u64 0, .int .u64 0] 26)).alloc (.cells #[.slice a l.length cap, .int .i64 0] 80)) lo hi' (w.heap.size + 1) S0 := by
    rw [HS0.out]
    exact ⟨fun h => absurd rfl h, _, Blk.new2 w _ _ _, hv1⟩
  have k0 : Kept None w ((w.alloc (.cells #[.string ⟨#[]⟩, .int .i64 0, .int .u64 0, .int .i64 0, .int .u64 0, .int .u64 0] 26)).alloc (.cells #[.slice a l.length cap, .int .i64 0] 80)) := ((Kept.refl _ _).alloc _).alloc _
  have v0 : Blk ((w.alloc (.cells #[.string ⟨#[]⟩, .int .i64 0, .int .u64 0, .int .i64 0, .int .u64 0, .int .u64 0] 26)).alloc (.cells #[.slice a l.length cap, .int .i64 0] 80)) w.heap.size #[.string ⟨#[]⟩, .int .i64 0, .int .u64 0, .int .i64 0, .int .u64 0, .int .u64 0] 26 := (Blk.new w _ _).alloc _
  clear hv0 hv1 HS0
  go_enter Try.func40, Try.ntmps40
  go_wp2_with fail
  refine (J.out.1 _ _ _ _ r1 (by omega)).mono ?_
  rintro e w1 ⟨rfl, k1, r2⟩
  have k01 := k0.then k1 (fun i hi (h : i = w.heap.size + 1) => by omega)
  have v1 := v0.kept k1 (fun (h : w.heap.size = w.heap.size + 1) => by omega)
  clear r1 k0 v0 k1
  go_wp2_with fail
  obtain ⟨wE, hwE⟩ : ∃ wE, wE = w1.alloc (.cells #[.string ⟨N.toArray⟩, .int .i64 V, .int .u64 (K : Int)] 88) := ⟨_, rfl⟩
  have r3 := r2.kept ((Kept.refl None w1).alloc (.cells #[.string ⟨N.toArray⟩, .int .i64 V, .int .u64 (K : Int)] 88)) (fun _ _ _ h => h) (fun h => h)
  have v2 := v1.alloc (.cells #[.string ⟨N.toArray⟩, .int .i64 V, .int .u64 (K : Int)] 88)
  have k02 := k01.alloc (.cells #[.string ⟨N.toArray⟩, .int .i64 V, .int .u64 (K : Int)] 88)
  have bE := Blk.new w1 #[.string ⟨N.toArray⟩, .int .i64 V, .int .u64 (K : Int)] 88
  have hrl := r2.lt
  rw [← hwE] at r3 v2 k02 bE ⊢
  clear hwE r2 v1 k01
  have hEl := bE.lt
  have hc0 : ∀ W, Kept (Just (w.heap.size + 1)) wE W → W.cell? ⟨w1.heap.size, 0, none⟩ = some (.string ⟨N.toArray⟩) := fun W hW => (bE.kept hW (fun (h : w1.heap.size = w.heap.size + 1) => by omega)).cell 0
  have hc1 : ∀ W, Kept (Just (w.heap.size + 1)) wE W → W.cell? ⟨w1.heap.size, 1, none⟩ = some (.int .i64 V) := fun W hW => (bE.kept hW (fun (h : w1.heap.size = w.heap.size + 1) => by omega)).cell 1
  have hc2 : ∀ W, Kept (Just (w.heap.size + 1)) wE W → W.cell? ⟨w1.heap.size, 2, none⟩ = some (.int .u64 (K : Int)) := fun W hW => (bE.kept hW (fun (h : w1.heap.size = w.heap.size + 1) => by omega)).cell 2
  refine wp_region_plan_tail 10 (Kept (Just (w.heap.size + 1)) wE) [{ k := 7, uses := [100], spends := [100], pure := fun u => u = .int .i64 C, fact := fun _ W => Ref.Rd W lo hi' (w.heap.size + 1) S4 },
    { k := 9, uses := [], pure := fun u => ∃ g, u = .pointer (some ⟨g, 0, none⟩), fact := fun u W => ∃ g, u = .pointer (some ⟨g, 0, none⟩) ∧ wE.heap.size ≤ g ∧ Blk W g #[.string ⟨#[]⟩, .int .i64 0, .int .u64 0, .int .i64 0, .int .u64 0, .int .u64 0] 26 },
    { k := 100, uses := [], fact := fun _ W => Ref.Rd W lo hi' (w.heap.size + 1) S3 }] [100] (by kernel_rfl) (by kernel_rfl) (by kernel_rfl) (by rfl) ?pures ((Kept.refl _ wE).drew) ?starts ?walk
  case pures =>
    intro f hf
    simp only [List.mem_cons, List.not_mem_nil, or_false] at hf
    rcases hf with rfl | rfl | rfl
    · exact ⟨_, rfl⟩
    · exact ⟨_, 0, rfl⟩
    · exact ⟨undef, trivial⟩
  case starts =>
    intro k hk
    obtain rfl : k = 100 := by simpa using hk
    exact r3.kept ((Kept.refl None wE).drew) (fun _ _ _ h => h) (fun h => h)
  simp only [List.take_succ_cons, List.take_zero, List.drop_succ_cons, List.drop_zero]
  iterate 7 (refine wpPar_pure rfl (by rfl) _ (fun W hW => by
      have c0 := hc0 W hW
      have c1 := hc1 W hW
      have c2 := hc2 W hW
      go_simp
      exact rfl) ?_; simp only [Act.put, List.setIfInBounds_toArray, List.set_cons_zero, List.set_cons_succ])
  refine wpPar_adds rfl (by rfl) (fun W hW hd => ?_) (fun v7 hv => ?_)
  · have rW : Ref.Rd W lo hi' (w.heap.size + 1) S3 := hd 100 (List.Mem.head _)
    unfold Gives
    go_simp
    refine gives_call (J.out.2.1 _ _ _ W rW (by omega)) ?_
    rintro e W' ⟨rfl, k, r4⟩
    refine ⟨_, rfl, hW.trans k, rfl, r4, keeps_of fun f hf hs _ hne u hfu => ?_⟩
    simp only [List.mem_cons, List.not_mem_nil, or_false] at hf
    rcases hf with rfl | rfl | rfl
    · exact absurd rfl hne
    · obtain ⟨g, e1, e2, e3⟩ := hfu
      exact ⟨g, e1, e2, e3.kept k (fun (h : g = w.heap.size + 1) => by omega)⟩
    · exact absurd (List.Mem.head _) hs
  obtain rfl : v7 = .int .i64 C := hv
  simp only [Act.put, List.setIfInBounds_toArray, List.set_cons_zero, List.set_cons_succ]
  iterate 1 (refine wpPar_pure rfl (by rfl) _ (fun W hW => by
      go_simp
      exact rfl) ?_; simp only [Act.put, List.setIfInBounds_toArray, List.set_cons_zero, List.set_cons_succ])
  refine wpPar_adds rfl (by rfl) (fun W hW hd => ?_) (fun v9 hv => ?_)
  · unfold Gives
    go_simp
    refine ⟨hW.alloc _, ⟨_, rfl⟩, ⟨_, rfl, hW.size, Blk.new _ _ _⟩, keeps_of fun f hf hs _ hne u hfu => ?_⟩
    simp only [List.mem_cons, List.not_mem_nil, or_false] at hf
    rcases hf with rfl | rfl | rfl
    · exact Ref.Rd.kept hfu ((Kept.refl None W).alloc _) (fun _ _ _ h => h) (fun h => h)
    · exact absurd rfl hne
    · exact Ref.Rd.kept hfu ((Kept.refl None W).alloc _) (fun _ _ _ h => h) (fun h => h)
  obtain ⟨ub, rfl⟩ : ∃ g, v9 = .pointer (some ⟨g, 0, none⟩) := hv
  simp only [Act.put, List.setIfInBounds_toArray, List.set_cons_zero, List.set_cons_succ]
  refine wpPar_nil (fun W hW hG => ?_)
  have r4 : Ref.Rd W lo hi' (w.heap.size + 1) S4 := hG 7
  obtain ⟨g, e1, e2, uZ⟩ : ∃ g, Value.pointer (some ⟨ub, 0, none⟩) = .pointer (some ⟨g, 0, none⟩) ∧ wE.heap.size ≤ g ∧ Blk W g #[.string ⟨#[]⟩, .int .i64 0, .int .u64 0, .int .i64 0, .int .u64 0, .int .u64 0] 26 := hG 9
  obtain rfl : ub = g := by injection e1 with e1; injection e1 with e1; injection e1
  have k03 := k02.then hW (fun i hi (h : i = w.heap.size + 1) => by omega)
  have v3 := v2.kept hW (fun (h : w.heap.size = w.heap.size + 1) => by omega)
  have hub : w.heap.size + 1 < ub := by omega
  clear hG e1 e2 hc0 hc1 hc2 bE hEl hrl r3 v2 k02 hW
  have NE : ∀ k, lo ≤ k → k < hi' → ¬ Just ub k := fun k _ h e => by unfold Just at e; omega
  have NR : ¬ Just ub (w.heap.size + 1) := fun e => by unfold Just at e; omega
  have NU : ¬ Just (w.heap.size + 1) ub := fun e => by unfold Just at e; omega
  have NV : ¬ Just (w.heap.size + 1) w.heap.size := fun e => by unfold Just at e; omega
  have NW : ¬ Just ub w.heap.size := fun e => by unfold Just at e; omega
  have NN := hid (And.intro NE (And.intro NR (And.intro NU (And.intro NV (And.intro NW hub)))))
  clear NE NR NU NV NW hub
  go_wp2_with (first | (refine wpList_store_blk rfl _ _ _ rfl rfl rfl uZ Up.aUpd rfl (upd4_all _ _ _ _) ?_; intro w4 u4 kk4) | fail)
  have r4' := r4.kept kk4 NN.out.1 NN.out.2.1
  have v4 := v3.kept kk4 NN.out.2.2.2.2.1
  have k04 := k03.then kk4 (fun i hi (h : i = ub) => by have := NN.out.2.2.2.2.2; omega)
  clear uZ r4 v3 k03 kk4
  refine (J.out.2.2.1 _ _ _ _ r4' (by omega)).mono ?_
  rintro e w5 ⟨rfl, k5, r5⟩
  have k05 := k04.then k5 (fun i hi (h : i = w.heap.size + 1) => by omega)
  have v5 := v4.kept k5 NN.out.2.2.2.1
  have u5 := u4.kept k5 NN.out.2.2.1
  have c4 : w5.cell? ⟨ub, 4, none⟩ = some (.int .u64 0) := u5.cell 4
  have f4 := u5.free 4
  have r5' := r5.kept (Kept.one w5 ub 4 (.int .u64 (R : Int))) NN.out.1 NN.out.2.1
  have u5' : Blk (w5.setCell ⟨ub, 4, none⟩ (.int .u64 (R : Int))) ub #[.string ⟨N.toArray⟩, .int .i64 V, .int .u64 (K : Int), .int .i64 C, .int .u64 (R : Int), .int .u64 0] 26 := u5.set 4 _
  have v5' := v5.kept (Kept.one w5 ub 4 (.int .u64 (R : Int))) NN.out.2.2.2.2.1
  have k05' := k05.setNew (b := ub) (by have := NN.out.2.2.2.2.2; omega) 4 (.int .u64 (R : Int))
  clear r4' k04 v4 u4 k5 r5 k05 v5 u5
  go_wp2_with fail
  refine (J.out.2.2.2.1 _ _ _ _ r5' (by omega)).mono ?_
  rintro e w6 ⟨rfl, k6, r6⟩
  have k06 := k05'.then k6 (fun i hi (h : i = w.heap.size + 1) => by omega)
  have v6 := v5'.kept k6 NN.out.2.2.2.1
  have u6 := u5'.kept k6 NN.out.2.2.1
  have c5 : w6.cell? ⟨ub, 5, none⟩ = some (.int .u64 0) := u6.cell 5
  have f5 := u6.free 5
  have r6' := r6.kept (Kept.one w6 ub 5 (.int .u64 (S : Int))) NN.out.1 NN.out.2.1
  have u6' : Blk (w6.setCell ⟨ub, 5, none⟩ (.int .u64 (S : Int))) ub #[.string ⟨N.toArray⟩, .int .i64 V, .int .u64 (K : Int), .int .i64 C, .int .u64 (R : Int), .int .u64 (S : Int)] 26 := u6.set 5 _
  have v6' := v6.kept (Kept.one w6 ub 5 (.int .u64 (S : Int))) NN.out.2.2.2.2.1
  have k06' := k06.setNew (b := ub) (by have := NN.out.2.2.2.2.2; omega) 5 (.int .u64 (S : Int))
  have d1 : w6.cell? ⟨w.heap.size + 1, 1, none⟩ = some (.int .i64 S6.e) := by obtain ⟨ok, v', hb', hv'⟩ := r6; exact hb'.cell 1
  obtain ⟨a6, cp6, d0⟩ : ∃ a c, w6.cell? ⟨w.heap.size + 1, 0, none⟩ = some (.slice a S6.l.length c) := by
    obtain ⟨ok, v', hb', hv'⟩ := r6
    obtain ⟨a', c', e', _⟩ := hv'.shape
    rw [e'] at hb'
    exact ⟨a', c', hb'.cell 0⟩
  have hne1 : ub ≠ w.heap.size + 1 := by have := NN.out.2.2.2.2.2; omega
  have hne2 : w.heap.size + 1 ≠ ub := Ne.symm hne1
  clear r5' k05' v5' u5' k6 r6 k06 v6 u6 c4 f4
  go_wp2_with fail
  obtain ⟨wX, hwX⟩ : ∃ wX, wX = w6.setCell ⟨ub, 5, none⟩ (.int .u64 (S : Int)) := ⟨_, rfl⟩
  rw [← hwX] at r6' v6' k06' ⊢
  clear hwX u6' c5 f5 d0 d1 hne1 hne2 NN
  have hdX : ∀ W, Kept (Just w.heap.size) wX W → W.cell? ⟨w.heap.size + 1, 1, none⟩ = some (.int .i64 S6.e) := fun W hW => by
    obtain ⟨ok, v', hb', hv'⟩ := r6'.kept hW (fun k _ h (e : k = w.heap.size) => by omega) (fun (e : w.heap.size + 1 = w.heap.size) => by omega)
    exact hb'.cell 1
  obtain ⟨E6, hE6⟩ : ∃ E6, E6 = S6.e := ⟨_, rfl⟩
  rw [← hE6] at hdX h2b ⊢
  have HE6 := hid hE6
  clear hE6 r6' J
  refine wp_region_plan (Kept (Just w.heap.size) wX) [{ k := 5, uses := [100], spends := [100], fact := fun _ W => Blk W w.heap.size #[.string ⟨#[]⟩, .int .i64 0, .int .u64 0, .int .i64 0, .int .u64 0, .int .u64 0] 26 }, { k := 100, uses := [], fact := fun _ W => Blk W w.heap.size #[.string ⟨#[]⟩, .int .i64 0, .int .u64 0, .int .i64 0, .int .u64 0, .int .u64 0] 26 }] [100] (by kernel_rfl) (by kernel_rfl) (by kernel_rfl) (by rfl) ?pures2 ((Kept.refl _ wX).drew) ?starts2 ?walk2
  case pures2 =>
    intro f hf
    exact ⟨undef, by simp only [List.mem_cons, List.not_mem_nil, or_false] at hf; rcases hf with rfl | rfl <;> trivial⟩
  case starts2 =>
    intro k hk
    obtain rfl : k = 100 := by simpa using hk
    exact v6'.drew
  iterate 5 (refine wpPar_pure rfl (by rfl) _ (fun W hW => by
      have d1 := hdX W hW
      go_simp
      exact rfl) ?_; simp only [Act.put, List.setIfInBounds_toArray, List.set_cons_zero, List.set_cons_succ])
  refine wpPar_adds rfl (by rfl) (fun W hW hd => ?_) (fun v5 hv => ?_)
  · have vW : Blk W w.heap.size #[.string ⟨#[]⟩, .int .i64 0, .int .u64 0, .int .i64 0, .int .u64 0, .int .u64 0] 26 := hd 100 (List.Mem.head _)
    refine gives_store_blk _ _ _ rfl rfl rfl vW Up.aUpd rfl Up.zero_all fun W' b' k' => ?_
    refine ⟨hW.trans k', trivial, b', keeps_of fun f hf hs _ hne u hfu => ?_⟩
    simp only [List.mem_cons, List.not_mem_nil, or_false] at hf
    rcases hf with rfl | rfl
    · exact absurd rfl hne
    · exact absurd (List.Mem.head _) hs
  simp only [Act.put]
  iterate 1 (refine wpPar_pure rfl (by rfl) _ (fun W hW => by
      go_simp
      exact rfl) ?_; simp only [Act.put, List.setIfInBounds_toArray, List.set_cons_zero, List.set_cons_succ])
  refine wpPar_nil (fun W hW hG => ?_)
  have hR7 : Blk W w.heap.size #[.string ⟨#[]⟩, .int .i64 0, .int .u64 0, .int .i64 0, .int .u64 0, .int .u64 0] 26 := hG 5
  have k7 := k06'.then hW (fun i hi (h : i = w.heap.size) => by omega)
  clear hG hdX v6' k06' hW
  go_wp2
  exact bodyPost_ret (v := .tuple #[Req.none.V, .int .i64 E6]) (results_blk2 rfl _ rfl rfl hR7 Up.aUpd) rfl ⟨by rw [HE6.out], k7⟩

set_option maxRecDepth 100000 in
set_option maxHeartbeats 16000000 in
theorem read_more (v : Value) (lo hi : Nat) (l : List UInt8) (w : World) (hv : Bs w lo hi v l) (h : ¬ 512 < l.length) (h2 : ¬ (rd6 l).e ≠ 0) (h3 : 0 < (rd6 l).l.length) : Calls Try.prog 40 #[v] w fun e w' => e = .returned (.tuple #[(readQ l).V, .int .i64 (readE l)]) ∧ Kept None w w' := by
  rw [Up.readQ_none (Up.readE_more h h2 h3) (by decide), Up.readE_more h h2 h3]
  have j0 := fun rr lo hi w hr hlo => of rr lo hi l w hr hlo
  have j1 := fun rr lo hi w hr hlo => Ref.rint rr lo hi (rd3 l) w hr hlo
  have j2 := fun rr lo hi w hr hlo => Ref.rnum rr lo hi (rd4 l) w hr hlo
  have j3 := fun rr lo hi w hr hlo => Ref.rnum rr lo hi (rd5 l) w hr hlo
  have j4 := fun w => right ⟨(rdN l).toArray⟩ (intI (rd1 l).num) (intI (rd3 l).num) (rd2 l).nat (rd4 l).nat (rd5 l).nat w
  rw [← St.nat_eq] at j2 j3
  rw [show (rd3 l).numS = rd4 l from rfl] at j1
  rw [show (rd4 l).numS = rd5 l from rfl] at j2
  rw [show (rd5 l).numS = rd6 l from rfl] at j3
  obtain ⟨N, hN⟩ : ∃ N, N = rdN l := ⟨_, rfl⟩
  obtain ⟨V, hV⟩ : ∃ V, V = intI (rd1 l).num := ⟨_, rfl⟩
  obtain ⟨K, hK⟩ : ∃ K, K = (rd2 l).nat := ⟨_, rfl⟩
  obtain ⟨C, hC⟩ : ∃ C, C = intI (rd3 l).num := ⟨_, rfl⟩
  obtain ⟨R, hR⟩ : ∃ R, R = (rd4 l).nat := ⟨_, rfl⟩
  obtain ⟨S, hS⟩ : ∃ S, S = (rd5 l).nat := ⟨_, rfl⟩
  rw [← hN, ← hV, ← hK] at j0
  rw [← hC] at j1
  rw [← hR] at j2
  rw [← hS] at j3
  rw [← hN, ← hV, ← hK, ← hC, ← hR, ← hS] at j4
  obtain ⟨S0, hS0⟩ : ∃ S0, S0 = (⟨l, 0⟩ : St) := ⟨_, rfl⟩
  obtain ⟨S3, hS3⟩ : ∃ S3, S3 = rd3 l := ⟨_, rfl⟩
  obtain ⟨S4, hS4⟩ : ∃ S4, S4 = rd4 l := ⟨_, rfl⟩
  obtain ⟨S5, hS5⟩ : ∃ S5, S5 = rd5 l := ⟨_, rfl⟩
  obtain ⟨S6, hS6⟩ : ∃ S6, S6 = rd6 l := ⟨_, rfl⟩
  rw [← hS0, ← hS3] at j0
  rw [← hS3, ← hS4] at j1
  rw [← hS4, ← hS5] at j2
  rw [← hS5, ← hS6] at j3
  have e6 : S6.e = 0 := by rw [hS6]; omega
  rw [← hS6] at h3
  clear hS6 h2
  have J := hid (And.intro j0 (And.intro j1 (And.intro j2 (And.intro j3 j4))))
  have HS0 := hid hS0
  clear j0 j1 j2 j3 j4 hN hV hK hC hR hS hS0 hS3 hS4 hS5
  have hv' := Vs.lt hv
  have hhi : min hi w.heap.size ≤ w.heap.size := Nat.min_le_right _ _
  generalize min hi w.heap.size = hi' at hv' hhi
  obtain ⟨a, cap, rfl, g1, g2, g3⟩ := hv.shape
  clear g3 hv
  have hv0 : Bs w lo hi' (.slice a l.length cap) l := hv'
  clear hv'
  have hv1 := (hv0.kept ((Kept.refl None w).alloc (.cells #[.string ⟨#[]⟩, .int .i64 0, .int .u64 0, .int .i64 0, .int .u64 0, .int .u64 0] 26)) (fun _ _ _ h => h)).kept ((Kept.refl None _).alloc (.cells #[.slice a l.length cap, .int .i64 0] 80)) (fun _ _ _ h => h)
  have r1 : Ref.Rd ((w.alloc (.cells #[.string ⟨#[]⟩, .int .i64 0, .int .u64 0, .int .i64 0, .int .u64 0, .int .u64 0] 26)).alloc (.cells #[.slice a l.length cap, .int .i64 0] 80)) lo hi' (w.heap.size + 1) S0 := by
    rw [HS0.out]
    exact ⟨fun h => absurd rfl h, _, Blk.new2 w _ _ _, hv1⟩
  have k0 : Kept None w ((w.alloc (.cells #[.string ⟨#[]⟩, .int .i64 0, .int .u64 0, .int .i64 0, .int .u64 0, .int .u64 0] 26)).alloc (.cells #[.slice a l.length cap, .int .i64 0] 80)) := ((Kept.refl _ _).alloc _).alloc _
  have v0 : Blk ((w.alloc (.cells #[.string ⟨#[]⟩, .int .i64 0, .int .u64 0, .int .i64 0, .int .u64 0, .int .u64 0] 26)).alloc (.cells #[.slice a l.length cap, .int .i64 0] 80)) w.heap.size #[.string ⟨#[]⟩, .int .i64 0, .int .u64 0, .int .i64 0, .int .u64 0, .int .u64 0] 26 := (Blk.new w _ _).alloc _
  clear hv0 hv1 HS0
  go_enter Try.func40, Try.ntmps40
  go_wp2_with fail
  refine (J.out.1 _ _ _ _ r1 (by omega)).mono ?_
  rintro e w1 ⟨rfl, k1, r2⟩
  have k01 := k0.then k1 (fun i hi (h : i = w.heap.size + 1) => by omega)
  have v1 := v0.kept k1 (fun (h : w.heap.size = w.heap.size + 1) => by omega)
  clear r1 k0 v0 k1
  go_wp2_with fail
  obtain ⟨wE, hwE⟩ : ∃ wE, wE = w1.alloc (.cells #[.string ⟨N.toArray⟩, .int .i64 V, .int .u64 (K : Int)] 88) := ⟨_, rfl⟩
  have r3 := r2.kept ((Kept.refl None w1).alloc (.cells #[.string ⟨N.toArray⟩, .int .i64 V, .int .u64 (K : Int)] 88)) (fun _ _ _ h => h) (fun h => h)
  have v2 := v1.alloc (.cells #[.string ⟨N.toArray⟩, .int .i64 V, .int .u64 (K : Int)] 88)
  have k02 := k01.alloc (.cells #[.string ⟨N.toArray⟩, .int .i64 V, .int .u64 (K : Int)] 88)
  have bE := Blk.new w1 #[.string ⟨N.toArray⟩, .int .i64 V, .int .u64 (K : Int)] 88
  have hrl := r2.lt
  rw [← hwE] at r3 v2 k02 bE ⊢
  clear hwE r2 v1 k01
  have hEl := bE.lt
  have hc0 : ∀ W, Kept (Just (w.heap.size + 1)) wE W → W.cell? ⟨w1.heap.size, 0, none⟩ = some (.string ⟨N.toArray⟩) := fun W hW => (bE.kept hW (fun (h : w1.heap.size = w.heap.size + 1) => by omega)).cell 0
  have hc1 : ∀ W, Kept (Just (w.heap.size + 1)) wE W → W.cell? ⟨w1.heap.size, 1, none⟩ = some (.int .i64 V) := fun W hW => (bE.kept hW (fun (h : w1.heap.size = w.heap.size + 1) => by omega)).cell 1
  have hc2 : ∀ W, Kept (Just (w.heap.size + 1)) wE W → W.cell? ⟨w1.heap.size, 2, none⟩ = some (.int .u64 (K : Int)) := fun W hW => (bE.kept hW (fun (h : w1.heap.size = w.heap.size + 1) => by omega)).cell 2
  refine wp_region_plan_tail 10 (Kept (Just (w.heap.size + 1)) wE) [{ k := 7, uses := [100], spends := [100], pure := fun u => u = .int .i64 C, fact := fun _ W => Ref.Rd W lo hi' (w.heap.size + 1) S4 },
    { k := 9, uses := [], pure := fun u => ∃ g, u = .pointer (some ⟨g, 0, none⟩), fact := fun u W => ∃ g, u = .pointer (some ⟨g, 0, none⟩) ∧ wE.heap.size ≤ g ∧ Blk W g #[.string ⟨#[]⟩, .int .i64 0, .int .u64 0, .int .i64 0, .int .u64 0, .int .u64 0] 26 },
    { k := 100, uses := [], fact := fun _ W => Ref.Rd W lo hi' (w.heap.size + 1) S3 }] [100] (by kernel_rfl) (by kernel_rfl) (by kernel_rfl) (by rfl) ?pures ((Kept.refl _ wE).drew) ?starts ?walk
  case pures =>
    intro f hf
    simp only [List.mem_cons, List.not_mem_nil, or_false] at hf
    rcases hf with rfl | rfl | rfl
    · exact ⟨_, rfl⟩
    · exact ⟨_, 0, rfl⟩
    · exact ⟨undef, trivial⟩
  case starts =>
    intro k hk
    obtain rfl : k = 100 := by simpa using hk
    exact r3.kept ((Kept.refl None wE).drew) (fun _ _ _ h => h) (fun h => h)
  simp only [List.take_succ_cons, List.take_zero, List.drop_succ_cons, List.drop_zero]
  iterate 7 (refine wpPar_pure rfl (by rfl) _ (fun W hW => by
      have c0 := hc0 W hW
      have c1 := hc1 W hW
      have c2 := hc2 W hW
      go_simp
      exact rfl) ?_; simp only [Act.put, List.setIfInBounds_toArray, List.set_cons_zero, List.set_cons_succ])
  refine wpPar_adds rfl (by rfl) (fun W hW hd => ?_) (fun v7 hv => ?_)
  · have rW : Ref.Rd W lo hi' (w.heap.size + 1) S3 := hd 100 (List.Mem.head _)
    unfold Gives
    go_simp
    refine gives_call (J.out.2.1 _ _ _ W rW (by omega)) ?_
    rintro e W' ⟨rfl, k, r4⟩
    refine ⟨_, rfl, hW.trans k, rfl, r4, keeps_of fun f hf hs _ hne u hfu => ?_⟩
    simp only [List.mem_cons, List.not_mem_nil, or_false] at hf
    rcases hf with rfl | rfl | rfl
    · exact absurd rfl hne
    · obtain ⟨g, e1, e2, e3⟩ := hfu
      exact ⟨g, e1, e2, e3.kept k (fun (h : g = w.heap.size + 1) => by omega)⟩
    · exact absurd (List.Mem.head _) hs
  obtain rfl : v7 = .int .i64 C := hv
  simp only [Act.put, List.setIfInBounds_toArray, List.set_cons_zero, List.set_cons_succ]
  iterate 1 (refine wpPar_pure rfl (by rfl) _ (fun W hW => by
      go_simp
      exact rfl) ?_; simp only [Act.put, List.setIfInBounds_toArray, List.set_cons_zero, List.set_cons_succ])
  refine wpPar_adds rfl (by rfl) (fun W hW hd => ?_) (fun v9 hv => ?_)
  · unfold Gives
    go_simp
    refine ⟨hW.alloc _, ⟨_, rfl⟩, ⟨_, rfl, hW.size, Blk.new _ _ _⟩, keeps_of fun f hf hs _ hne u hfu => ?_⟩
    simp only [List.mem_cons, List.not_mem_nil, or_false] at hf
    rcases hf with rfl | rfl | rfl
    · exact Ref.Rd.kept hfu ((Kept.refl None W).alloc _) (fun _ _ _ h => h) (fun h => h)
    · exact absurd rfl hne
    · exact Ref.Rd.kept hfu ((Kept.refl None W).alloc _) (fun _ _ _ h => h) (fun h => h)
  obtain ⟨ub, rfl⟩ : ∃ g, v9 = .pointer (some ⟨g, 0, none⟩) := hv
  simp only [Act.put, List.setIfInBounds_toArray, List.set_cons_zero, List.set_cons_succ]
  refine wpPar_nil (fun W hW hG => ?_)
  have r4 : Ref.Rd W lo hi' (w.heap.size + 1) S4 := hG 7
  obtain ⟨g, e1, e2, uZ⟩ : ∃ g, Value.pointer (some ⟨ub, 0, none⟩) = .pointer (some ⟨g, 0, none⟩) ∧ wE.heap.size ≤ g ∧ Blk W g #[.string ⟨#[]⟩, .int .i64 0, .int .u64 0, .int .i64 0, .int .u64 0, .int .u64 0] 26 := hG 9
  obtain rfl : ub = g := by injection e1 with e1; injection e1 with e1; injection e1
  have k03 := k02.then hW (fun i hi (h : i = w.heap.size + 1) => by omega)
  have v3 := v2.kept hW (fun (h : w.heap.size = w.heap.size + 1) => by omega)
  have hub : w.heap.size + 1 < ub := by omega
  clear hG e1 e2 hc0 hc1 hc2 bE hEl hrl r3 v2 k02 hW
  have NE : ∀ k, lo ≤ k → k < hi' → ¬ Just ub k := fun k _ h e => by unfold Just at e; omega
  have NR : ¬ Just ub (w.heap.size + 1) := fun e => by unfold Just at e; omega
  have NU : ¬ Just (w.heap.size + 1) ub := fun e => by unfold Just at e; omega
  have NV : ¬ Just (w.heap.size + 1) w.heap.size := fun e => by unfold Just at e; omega
  have NW : ¬ Just ub w.heap.size := fun e => by unfold Just at e; omega
  have NN := hid (And.intro NE (And.intro NR (And.intro NU (And.intro NV (And.intro NW hub)))))
  clear NE NR NU NV NW hub
  go_wp2_with (first | (refine wpList_store_blk rfl _ _ _ rfl rfl rfl uZ Up.aUpd rfl (upd4_all _ _ _ _) ?_; intro w4 u4 kk4) | fail)
  have r4' := r4.kept kk4 NN.out.1 NN.out.2.1
  have v4 := v3.kept kk4 NN.out.2.2.2.2.1
  have k04 := k03.then kk4 (fun i hi (h : i = ub) => by have := NN.out.2.2.2.2.2; omega)
  clear uZ r4 v3 k03 kk4
  refine (J.out.2.2.1 _ _ _ _ r4' (by omega)).mono ?_
  rintro e w5 ⟨rfl, k5, r5⟩
  have k05 := k04.then k5 (fun i hi (h : i = w.heap.size + 1) => by omega)
  have v5 := v4.kept k5 NN.out.2.2.2.1
  have u5 := u4.kept k5 NN.out.2.2.1
  have c4 : w5.cell? ⟨ub, 4, none⟩ = some (.int .u64 0) := u5.cell 4
  have f4 := u5.free 4
  have r5' := r5.kept (Kept.one w5 ub 4 (.int .u64 (R : Int))) NN.out.1 NN.out.2.1
  have u5' : Blk (w5.setCell ⟨ub, 4, none⟩ (.int .u64 (R : Int))) ub #[.string ⟨N.toArray⟩, .int .i64 V, .int .u64 (K : Int), .int .i64 C, .int .u64 (R : Int), .int .u64 0] 26 := u5.set 4 _
  have v5' := v5.kept (Kept.one w5 ub 4 (.int .u64 (R : Int))) NN.out.2.2.2.2.1
  have k05' := k05.setNew (b := ub) (by have := NN.out.2.2.2.2.2; omega) 4 (.int .u64 (R : Int))
  clear r4' k04 v4 u4 k5 r5 k05 v5 u5
  go_wp2_with fail
  refine (J.out.2.2.2.1 _ _ _ _ r5' (by omega)).mono ?_
  rintro e w6 ⟨rfl, k6, r6⟩
  have k06 := k05'.then k6 (fun i hi (h : i = w.heap.size + 1) => by omega)
  have v6 := v5'.kept k6 NN.out.2.2.2.1
  have u6 := u5'.kept k6 NN.out.2.2.1
  have c5 : w6.cell? ⟨ub, 5, none⟩ = some (.int .u64 0) := u6.cell 5
  have f5 := u6.free 5
  have r6' := r6.kept (Kept.one w6 ub 5 (.int .u64 (S : Int))) NN.out.1 NN.out.2.1
  have u6' : Blk (w6.setCell ⟨ub, 5, none⟩ (.int .u64 (S : Int))) ub #[.string ⟨N.toArray⟩, .int .i64 V, .int .u64 (K : Int), .int .i64 C, .int .u64 (R : Int), .int .u64 (S : Int)] 26 := u6.set 5 _
  have v6' := v6.kept (Kept.one w6 ub 5 (.int .u64 (S : Int))) NN.out.2.2.2.2.1
  have k06' := k06.setNew (b := ub) (by have := NN.out.2.2.2.2.2; omega) 5 (.int .u64 (S : Int))
  have d1 : w6.cell? ⟨w.heap.size + 1, 1, none⟩ = some (.int .i64 S6.e) := by obtain ⟨ok, v', hb', hv'⟩ := r6; exact hb'.cell 1
  obtain ⟨a6, cp6, d0⟩ : ∃ a c, w6.cell? ⟨w.heap.size + 1, 0, none⟩ = some (.slice a S6.l.length c) := by
    obtain ⟨ok, v', hb', hv'⟩ := r6
    obtain ⟨a', c', e', _⟩ := hv'.shape
    rw [e'] at hb'
    exact ⟨a', c', hb'.cell 0⟩
  have hne1 : ub ≠ w.heap.size + 1 := by have := NN.out.2.2.2.2.2; omega
  have hne2 : w.heap.size + 1 ≠ ub := Ne.symm hne1
  clear r5' k05' v5' u5' k6 r6 k06 v6 u6 c4 f4
  rw [e6] at d1
  clear e6
  go_wp2_with (first | (refine wpList_load_blk rfl _ _ rfl rfl u6' Up.aUpd ?_) | (refine wpList_store_blk rfl _ _ _ rfl rfl rfl v6' Up.aUpd rfl Up.zero_all ?_; intro w7 hR7 k7) | fail)
  exact bodyPost_ret (v := .tuple #[Req.none.V, .int .i64 20]) (results_blk2 rfl _ rfl rfl hR7 Up.aUpd) rfl ⟨rfl, k06'.then k7 (fun i hi (h : i = w.heap.size) => by omega)⟩

set_option maxRecDepth 100000 in
set_option maxHeartbeats 16000000 in
theorem read_form (v : Value) (lo hi : Nat) (l : List UInt8) (w : World) (hv : Bs w lo hi v l) (h : ¬ 512 < l.length) (h2 : ¬ (rd6 l).e ≠ 0) (h3 : ¬ 0 < (rd6 l).l.length) (h4 : (reqOf wholeI l).right = false) : Calls Try.prog 40 #[v] w fun e w' => e = .returned (.tuple #[(readQ l).V, .int .i64 (readE l)]) ∧ Kept None w w' := by
  rw [Up.readQ_none (Up.readE_form h h2 h3 h4) (by decide), Up.readE_form h h2 h3 h4]
  have j0 := fun rr lo hi w hr hlo => of rr lo hi l w hr hlo
  have j1 := fun rr lo hi w hr hlo => Ref.rint rr lo hi (rd3 l) w hr hlo
  have j2 := fun rr lo hi w hr hlo => Ref.rnum rr lo hi (rd4 l) w hr hlo
  have j3 := fun rr lo hi w hr hlo => Ref.rnum rr lo hi (rd5 l) w hr hlo
  have j4 := fun w => right ⟨(rdN l).toArray⟩ (intI (rd1 l).num) (intI (rd3 l).num) (rd2 l).nat (rd4 l).nat (rd5 l).nat w
  rw [← St.nat_eq] at j2 j3
  rw [show (rd3 l).numS = rd4 l from rfl] at j1
  rw [show (rd4 l).numS = rd5 l from rfl] at j2
  rw [show (rd5 l).numS = rd6 l from rfl] at j3
  obtain ⟨N, hN⟩ : ∃ N, N = rdN l := ⟨_, rfl⟩
  obtain ⟨V, hV⟩ : ∃ V, V = intI (rd1 l).num := ⟨_, rfl⟩
  obtain ⟨K, hK⟩ : ∃ K, K = (rd2 l).nat := ⟨_, rfl⟩
  obtain ⟨C, hC⟩ : ∃ C, C = intI (rd3 l).num := ⟨_, rfl⟩
  obtain ⟨R, hR⟩ : ∃ R, R = (rd4 l).nat := ⟨_, rfl⟩
  obtain ⟨S, hS⟩ : ∃ S, S = (rd5 l).nat := ⟨_, rfl⟩
  have h5 : rightB (⟨N.toArray⟩ : ByteArray).size V K C = false := by rw [hN, hV, hK, hC]; exact ((right_int l).trans (right_whole l).symm).trans h4
  rw [← hN, ← hV, ← hK] at j0
  rw [← hC] at j1
  rw [← hR] at j2
  rw [← hS] at j3
  rw [← hN, ← hV, ← hK, ← hC, ← hR, ← hS] at j4
  rw [h5] at j4
  clear h4 h5
  obtain ⟨S0, hS0⟩ : ∃ S0, S0 = (⟨l, 0⟩ : St) := ⟨_, rfl⟩
  obtain ⟨S3, hS3⟩ : ∃ S3, S3 = rd3 l := ⟨_, rfl⟩
  obtain ⟨S4, hS4⟩ : ∃ S4, S4 = rd4 l := ⟨_, rfl⟩
  obtain ⟨S5, hS5⟩ : ∃ S5, S5 = rd5 l := ⟨_, rfl⟩
  obtain ⟨S6, hS6⟩ : ∃ S6, S6 = rd6 l := ⟨_, rfl⟩
  rw [← hS0, ← hS3] at j0
  rw [← hS3, ← hS4] at j1
  rw [← hS4, ← hS5] at j2
  rw [← hS5, ← hS6] at j3
  have e6 : S6.e = 0 := by rw [hS6]; omega
  have l6 : S6.l.length = 0 := by rw [hS6]; omega
  clear hS6 h2 h3
  have J := hid (And.intro j0 (And.intro j1 (And.intro j2 (And.intro j3 j4))))
  have HS0 := hid hS0
  clear j0 j1 j2 j3 j4 hN hV hK hC hR hS hS0 hS3 hS4 hS5
  have hv' := Vs.lt hv
  have hhi : min hi w.heap.size ≤ w.heap.size := Nat.min_le_right _ _
  generalize min hi w.heap.size = hi' at hv' hhi
  obtain ⟨a, cap, rfl, g1, g2, g3⟩ := hv.shape
  clear g3 hv
  have hv0 : Bs w lo hi' (.slice a l.length cap) l := hv'
  clear hv'
  have hv1 := (hv0.kept ((Kept.refl None w).alloc (.cells #[.string ⟨#[]⟩, .int .i64 0, .int .u64 0, .int .i64 0, .int .u64 0, .int .u64 0] 26)) (fun _ _ _ h => h)).kept ((Kept.refl None _).alloc (.cells #[.slice a l.length cap, .int .i64 0] 80)) (fun _ _ _ h => h)
  have r1 : Ref.Rd ((w.alloc (.cells #[.string ⟨#[]⟩, .int .i64 0, .int .u64 0, .int .i64 0, .int .u64 0, .int .u64 0] 26)).alloc (.cells #[.slice a l.length cap, .int .i64 0] 80)) lo hi' (w.heap.size + 1) S0 := by
    rw [HS0.out]
    exact ⟨fun h => absurd rfl h, _, Blk.new2 w _ _ _, hv1⟩
  have k0 : Kept None w ((w.alloc (.cells #[.string ⟨#[]⟩, .int .i64 0, .int .u64 0, .int .i64 0, .int .u64 0, .int .u64 0] 26)).alloc (.cells #[.slice a l.length cap, .int .i64 0] 80)) := ((Kept.refl _ _).alloc _).alloc _
  have v0 : Blk ((w.alloc (.cells #[.string ⟨#[]⟩, .int .i64 0, .int .u64 0, .int .i64 0, .int .u64 0, .int .u64 0] 26)).alloc (.cells #[.slice a l.length cap, .int .i64 0] 80)) w.heap.size #[.string ⟨#[]⟩, .int .i64 0, .int .u64 0, .int .i64 0, .int .u64 0, .int .u64 0] 26 := (Blk.new w _ _).alloc _
  clear hv0 hv1 HS0
  go_enter Try.func40, Try.ntmps40
  go_wp2_with fail
  refine (J.out.1 _ _ _ _ r1 (by omega)).mono ?_
  rintro e w1 ⟨rfl, k1, r2⟩
  have k01 := k0.then k1 (fun i hi (h : i = w.heap.size + 1) => by omega)
  have v1 := v0.kept k1 (fun (h : w.heap.size = w.heap.size + 1) => by omega)
  clear r1 k0 v0 k1
  go_wp2_with fail
  obtain ⟨wE, hwE⟩ : ∃ wE, wE = w1.alloc (.cells #[.string ⟨N.toArray⟩, .int .i64 V, .int .u64 (K : Int)] 88) := ⟨_, rfl⟩
  have r3 := r2.kept ((Kept.refl None w1).alloc (.cells #[.string ⟨N.toArray⟩, .int .i64 V, .int .u64 (K : Int)] 88)) (fun _ _ _ h => h) (fun h => h)
  have v2 := v1.alloc (.cells #[.string ⟨N.toArray⟩, .int .i64 V, .int .u64 (K : Int)] 88)
  have k02 := k01.alloc (.cells #[.string ⟨N.toArray⟩, .int .i64 V, .int .u64 (K : Int)] 88)
  have bE := Blk.new w1 #[.string ⟨N.toArray⟩, .int .i64 V, .int .u64 (K : Int)] 88
  have hrl := r2.lt
  rw [← hwE] at r3 v2 k02 bE ⊢
  clear hwE r2 v1 k01
  have hEl := bE.lt
  have hc0 : ∀ W, Kept (Just (w.heap.size + 1)) wE W → W.cell? ⟨w1.heap.size, 0, none⟩ = some (.string ⟨N.toArray⟩) := fun W hW => (bE.kept hW (fun (h : w1.heap.size = w.heap.size + 1) => by omega)).cell 0
  have hc1 : ∀ W, Kept (Just (w.heap.size + 1)) wE W → W.cell? ⟨w1.heap.size, 1, none⟩ = some (.int .i64 V) := fun W hW => (bE.kept hW (fun (h : w1.heap.size = w.heap.size + 1) => by omega)).cell 1
  have hc2 : ∀ W, Kept (Just (w.heap.size + 1)) wE W → W.cell? ⟨w1.heap.size, 2, none⟩ = some (.int .u64 (K : Int)) := fun W hW => (bE.kept hW (fun (h : w1.heap.size = w.heap.size + 1) => by omega)).cell 2
  refine wp_region_plan_tail 10 (Kept (Just (w.heap.size + 1)) wE) [{ k := 7, uses := [100], spends := [100], pure := fun u => u = .int .i64 C, fact := fun _ W => Ref.Rd W lo hi' (w.heap.size + 1) S4 },
    { k := 9, uses := [], pure := fun u => ∃ g, u = .pointer (some ⟨g, 0, none⟩), fact := fun u W => ∃ g, u = .pointer (some ⟨g, 0, none⟩) ∧ wE.heap.size ≤ g ∧ Blk W g #[.string ⟨#[]⟩, .int .i64 0, .int .u64 0, .int .i64 0, .int .u64 0, .int .u64 0] 26 },
    { k := 100, uses := [], fact := fun _ W => Ref.Rd W lo hi' (w.heap.size + 1) S3 }] [100] (by kernel_rfl) (by kernel_rfl) (by kernel_rfl) (by rfl) ?pures ((Kept.refl _ wE).drew) ?starts ?walk
  case pures =>
    intro f hf
    simp only [List.mem_cons, List.not_mem_nil, or_false] at hf
    rcases hf with rfl | rfl | rfl
    · exact ⟨_, rfl⟩
    · exact ⟨_, 0, rfl⟩
    · exact ⟨undef, trivial⟩
  case starts =>
    intro k hk
    obtain rfl : k = 100 := by simpa using hk
    exact r3.kept ((Kept.refl None wE).drew) (fun _ _ _ h => h) (fun h => h)
  simp only [List.take_succ_cons, List.take_zero, List.drop_succ_cons, List.drop_zero]
  iterate 7 (refine wpPar_pure rfl (by rfl) _ (fun W hW => by
      have c0 := hc0 W hW
      have c1 := hc1 W hW
      have c2 := hc2 W hW
      go_simp
      exact rfl) ?_; simp only [Act.put, List.setIfInBounds_toArray, List.set_cons_zero, List.set_cons_succ])
  refine wpPar_adds rfl (by rfl) (fun W hW hd => ?_) (fun v7 hv => ?_)
  · have rW : Ref.Rd W lo hi' (w.heap.size + 1) S3 := hd 100 (List.Mem.head _)
    unfold Gives
    go_simp
    refine gives_call (J.out.2.1 _ _ _ W rW (by omega)) ?_
    rintro e W' ⟨rfl, k, r4⟩
    refine ⟨_, rfl, hW.trans k, rfl, r4, keeps_of fun f hf hs _ hne u hfu => ?_⟩
    simp only [List.mem_cons, List.not_mem_nil, or_false] at hf
    rcases hf with rfl | rfl | rfl
    · exact absurd rfl hne
    · obtain ⟨g, e1, e2, e3⟩ := hfu
      exact ⟨g, e1, e2, e3.kept k (fun (h : g = w.heap.size + 1) => by omega)⟩
    · exact absurd (List.Mem.head _) hs
  obtain rfl : v7 = .int .i64 C := hv
  simp only [Act.put, List.setIfInBounds_toArray, List.set_cons_zero, List.set_cons_succ]
  iterate 1 (refine wpPar_pure rfl (by rfl) _ (fun W hW => by
      go_simp
      exact rfl) ?_; simp only [Act.put, List.setIfInBounds_toArray, List.set_cons_zero, List.set_cons_succ])
  refine wpPar_adds rfl (by rfl) (fun W hW hd => ?_) (fun v9 hv => ?_)
  · unfold Gives
    go_simp
    refine ⟨hW.alloc _, ⟨_, rfl⟩, ⟨_, rfl, hW.size, Blk.new _ _ _⟩, keeps_of fun f hf hs _ hne u hfu => ?_⟩
    simp only [List.mem_cons, List.not_mem_nil, or_false] at hf
    rcases hf with rfl | rfl | rfl
    · exact Ref.Rd.kept hfu ((Kept.refl None W).alloc _) (fun _ _ _ h => h) (fun h => h)
    · exact absurd rfl hne
    · exact Ref.Rd.kept hfu ((Kept.refl None W).alloc _) (fun _ _ _ h => h) (fun h => h)
  obtain ⟨ub, rfl⟩ : ∃ g, v9 = .pointer (some ⟨g, 0, none⟩) := hv
  simp only [Act.put, List.setIfInBounds_toArray, List.set_cons_zero, List.set_cons_succ]
  refine wpPar_nil (fun W hW hG => ?_)
  have r4 : Ref.Rd W lo hi' (w.heap.size + 1) S4 := hG 7
  obtain ⟨g, e1, e2, uZ⟩ : ∃ g, Value.pointer (some ⟨ub, 0, none⟩) = .pointer (some ⟨g, 0, none⟩) ∧ wE.heap.size ≤ g ∧ Blk W g #[.string ⟨#[]⟩, .int .i64 0, .int .u64 0, .int .i64 0, .int .u64 0, .int .u64 0] 26 := hG 9
  obtain rfl : ub = g := by injection e1 with e1; injection e1 with e1; injection e1
  have k03 := k02.then hW (fun i hi (h : i = w.heap.size + 1) => by omega)
  have v3 := v2.kept hW (fun (h : w.heap.size = w.heap.size + 1) => by omega)
  have hub : w.heap.size + 1 < ub := by omega
  clear hG e1 e2 hc0 hc1 hc2 bE hEl hrl r3 v2 k02 hW
  have NE : ∀ k, lo ≤ k → k < hi' → ¬ Just ub k := fun k _ h e => by unfold Just at e; omega
  have NR : ¬ Just ub (w.heap.size + 1) := fun e => by unfold Just at e; omega
  have NU : ¬ Just (w.heap.size + 1) ub := fun e => by unfold Just at e; omega
  have NV : ¬ Just (w.heap.size + 1) w.heap.size := fun e => by unfold Just at e; omega
  have NW : ¬ Just ub w.heap.size := fun e => by unfold Just at e; omega
  have NN := hid (And.intro NE (And.intro NR (And.intro NU (And.intro NV (And.intro NW hub)))))
  clear NE NR NU NV NW hub
  go_wp2_with (first | (refine wpList_store_blk rfl _ _ _ rfl rfl rfl uZ Up.aUpd rfl (upd4_all _ _ _ _) ?_; intro w4 u4 kk4) | fail)
  have r4' := r4.kept kk4 NN.out.1 NN.out.2.1
  have v4 := v3.kept kk4 NN.out.2.2.2.2.1
  have k04 := k03.then kk4 (fun i hi (h : i = ub) => by have := NN.out.2.2.2.2.2; omega)
  clear uZ r4 v3 k03 kk4
  refine (J.out.2.2.1 _ _ _ _ r4' (by omega)).mono ?_
  rintro e w5 ⟨rfl, k5, r5⟩
  have k05 := k04.then k5 (fun i hi (h : i = w.heap.size + 1) => by omega)
  have v5 := v4.kept k5 NN.out.2.2.2.1
  have u5 := u4.kept k5 NN.out.2.2.1
  have c4 : w5.cell? ⟨ub, 4, none⟩ = some (.int .u64 0) := u5.cell 4
  have f4 := u5.free 4
  have r5' := r5.kept (Kept.one w5 ub 4 (.int .u64 (R : Int))) NN.out.1 NN.out.2.1
  have u5' : Blk (w5.setCell ⟨ub, 4, none⟩ (.int .u64 (R : Int))) ub #[.string ⟨N.toArray⟩, .int .i64 V, .int .u64 (K : Int), .int .i64 C, .int .u64 (R : Int), .int .u64 0] 26 := u5.set 4 _
  have v5' := v5.kept (Kept.one w5 ub 4 (.int .u64 (R : Int))) NN.out.2.2.2.2.1
  have k05' := k05.setNew (b := ub) (by have := NN.out.2.2.2.2.2; omega) 4 (.int .u64 (R : Int))
  clear r4' k04 v4 u4 k5 r5 k05 v5 u5
  go_wp2_with fail
  refine (J.out.2.2.2.1 _ _ _ _ r5' (by omega)).mono ?_
  rintro e w6 ⟨rfl, k6, r6⟩
  have k06 := k05'.then k6 (fun i hi (h : i = w.heap.size + 1) => by omega)
  have v6 := v5'.kept k6 NN.out.2.2.2.1
  have u6 := u5'.kept k6 NN.out.2.2.1
  have c5 : w6.cell? ⟨ub, 5, none⟩ = some (.int .u64 0) := u6.cell 5
  have f5 := u6.free 5
  have r6' := r6.kept (Kept.one w6 ub 5 (.int .u64 (S : Int))) NN.out.1 NN.out.2.1
  have u6' : Blk (w6.setCell ⟨ub, 5, none⟩ (.int .u64 (S : Int))) ub #[.string ⟨N.toArray⟩, .int .i64 V, .int .u64 (K : Int), .int .i64 C, .int .u64 (R : Int), .int .u64 (S : Int)] 26 := u6.set 5 _
  have v6' := v6.kept (Kept.one w6 ub 5 (.int .u64 (S : Int))) NN.out.2.2.2.2.1
  have k06' := k06.setNew (b := ub) (by have := NN.out.2.2.2.2.2; omega) 5 (.int .u64 (S : Int))
  have d1 : w6.cell? ⟨w.heap.size + 1, 1, none⟩ = some (.int .i64 S6.e) := by obtain ⟨ok, v', hb', hv'⟩ := r6; exact hb'.cell 1
  obtain ⟨a6, cp6, d0⟩ : ∃ a c, w6.cell? ⟨w.heap.size + 1, 0, none⟩ = some (.slice a S6.l.length c) := by
    obtain ⟨ok, v', hb', hv'⟩ := r6
    obtain ⟨a', c', e', _⟩ := hv'.shape
    rw [e'] at hb'
    exact ⟨a', c', hb'.cell 0⟩
  have hne1 : ub ≠ w.heap.size + 1 := by have := NN.out.2.2.2.2.2; omega
  have hne2 : w.heap.size + 1 ≠ ub := Ne.symm hne1
  clear r5' k05' v5' u5' k6 r6 k06 v6 u6 c4 f4
  rw [e6] at d1
  rw [l6] at d0
  clear e6 l6
  go_wp2_with (first | (refine wpList_load_blk rfl _ _ rfl rfl u6' Up.aUpd ?_) | fail)
  refine (J.out.2.2.2.2 _).mono ?_
  rintro e w8 ⟨rfl, k8⟩
  have k08 := k06'.trans k8
  have v8 := v6'.kept k8 (fun h => h)
  have u8 := u6'.kept k8 (fun h => h)
  clear k06' v6' u6' k8 d0 d1 r6' hne1 hne2 c5 f5 NN J
  go_wp2_with (first | (refine wpList_load_blk rfl _ _ rfl rfl u8 Up.aUpd ?_) | (refine wpList_store_blk rfl _ _ _ rfl rfl rfl v8 Up.aUpd rfl Up.zero_all ?_; intro w7 hR7 k7) | fail)
  exact bodyPost_ret (v := .tuple #[Req.none.V, .int .i64 23]) (results_blk2 rfl _ rfl rfl hR7 Up.aUpd) rfl ⟨rfl, k08.then k7 (fun i hi (h : i = w.heap.size) => by omega)⟩

set_option maxRecDepth 100000 in
set_option maxHeartbeats 16000000 in
theorem read_ok (v : Value) (lo hi : Nat) (l : List UInt8) (w : World) (hv : Bs w lo hi v l) (h : ¬ 512 < l.length) (h2 : ¬ (rd6 l).e ≠ 0) (h3 : ¬ 0 < (rd6 l).l.length) (h4 : (reqOf wholeI l).right = true) : Calls Try.prog 40 #[v] w fun e w' => e = .returned (.tuple #[(readQ l).V, .int .i64 (readE l)]) ∧ Kept None w w' := by
  have eQ : (readQ l).V = updV ⟨(rdN l).toArray⟩ (intI (rd1 l).num) (rd2 l).nat (intI (rd3 l).num) (rd4 l).nat (rd5 l).nat := by unfold readQ; rw [Up.readE_ok h h2 h3 h4, if_pos rfl, ← reqOf_right l h4]; rfl
  rw [eQ, Up.readE_ok h h2 h3 h4]
  clear eQ
  have j0 := fun rr lo hi w hr hlo => of rr lo hi l w hr hlo
  have j1 := fun rr lo hi w hr hlo => Ref.rint rr lo hi (rd3 l) w hr hlo
  have j2 := fun rr lo hi w hr hlo => Ref.rnum rr lo hi (rd4 l) w hr hlo
  have j3 := fun rr lo hi w hr hlo => Ref.rnum rr lo hi (rd5 l) w hr hlo
  have j4 := fun w => right ⟨(rdN l).toArray⟩ (intI (rd1 l).num) (intI (rd3 l).num) (rd2 l).nat (rd4 l).nat (rd5 l).nat w
  rw [← St.nat_eq] at j2 j3
  rw [show (rd3 l).numS = rd4 l from rfl] at j1
  rw [show (rd4 l).numS = rd5 l from rfl] at j2
  rw [show (rd5 l).numS = rd6 l from rfl] at j3
  obtain ⟨N, hN⟩ : ∃ N, N = rdN l := ⟨_, rfl⟩
  obtain ⟨V, hV⟩ : ∃ V, V = intI (rd1 l).num := ⟨_, rfl⟩
  obtain ⟨K, hK⟩ : ∃ K, K = (rd2 l).nat := ⟨_, rfl⟩
  obtain ⟨C, hC⟩ : ∃ C, C = intI (rd3 l).num := ⟨_, rfl⟩
  obtain ⟨R, hR⟩ : ∃ R, R = (rd4 l).nat := ⟨_, rfl⟩
  obtain ⟨S, hS⟩ : ∃ S, S = (rd5 l).nat := ⟨_, rfl⟩
  have h5 : rightB (⟨N.toArray⟩ : ByteArray).size V K C = true := by rw [hN, hV, hK, hC]; exact ((right_int l).trans (right_whole l).symm).trans h4
  rw [← hN, ← hV, ← hK, ← hC, ← hR, ← hS]
  rw [← hN, ← hV, ← hK] at j0
  rw [← hC] at j1
  rw [← hR] at j2
  rw [← hS] at j3
  rw [← hN, ← hV, ← hK, ← hC, ← hR, ← hS] at j4
  rw [h5] at j4
  clear h4 h5
  obtain ⟨S0, hS0⟩ : ∃ S0, S0 = (⟨l, 0⟩ : St) := ⟨_, rfl⟩
  obtain ⟨S3, hS3⟩ : ∃ S3, S3 = rd3 l := ⟨_, rfl⟩
  obtain ⟨S4, hS4⟩ : ∃ S4, S4 = rd4 l := ⟨_, rfl⟩
  obtain ⟨S5, hS5⟩ : ∃ S5, S5 = rd5 l := ⟨_, rfl⟩
  obtain ⟨S6, hS6⟩ : ∃ S6, S6 = rd6 l := ⟨_, rfl⟩
  rw [← hS0, ← hS3] at j0
  rw [← hS3, ← hS4] at j1
  rw [← hS4, ← hS5] at j2
  rw [← hS5, ← hS6] at j3
  have e6 : S6.e = 0 := by rw [hS6]; omega
  have l6 : S6.l.length = 0 := by rw [hS6]; omega
  clear hS6 h2 h3
  have J := hid (And.intro j0 (And.intro j1 (And.intro j2 (And.intro j3 j4))))
  have HS0 := hid hS0
  clear j0 j1 j2 j3 j4 hN hV hK hC hR hS hS0 hS3 hS4 hS5
  have hv' := Vs.lt hv
  have hhi : min hi w.heap.size ≤ w.heap.size := Nat.min_le_right _ _
  generalize min hi w.heap.size = hi' at hv' hhi
  obtain ⟨a, cap, rfl, g1, g2, g3⟩ := hv.shape
  clear g3 hv
  have hv0 : Bs w lo hi' (.slice a l.length cap) l := hv'
  clear hv'
  have hv1 := (hv0.kept ((Kept.refl None w).alloc (.cells #[.string ⟨#[]⟩, .int .i64 0, .int .u64 0, .int .i64 0, .int .u64 0, .int .u64 0] 26)) (fun _ _ _ h => h)).kept ((Kept.refl None _).alloc (.cells #[.slice a l.length cap, .int .i64 0] 80)) (fun _ _ _ h => h)
  have r1 : Ref.Rd ((w.alloc (.cells #[.string ⟨#[]⟩, .int .i64 0, .int .u64 0, .int .i64 0, .int .u64 0, .int .u64 0] 26)).alloc (.cells #[.slice a l.length cap, .int .i64 0] 80)) lo hi' (w.heap.size + 1) S0 := by
    rw [HS0.out]
    exact ⟨fun h => absurd rfl h, _, Blk.new2 w _ _ _, hv1⟩
  have k0 : Kept None w ((w.alloc (.cells #[.string ⟨#[]⟩, .int .i64 0, .int .u64 0, .int .i64 0, .int .u64 0, .int .u64 0] 26)).alloc (.cells #[.slice a l.length cap, .int .i64 0] 80)) := ((Kept.refl _ _).alloc _).alloc _
  have v0 : Blk ((w.alloc (.cells #[.string ⟨#[]⟩, .int .i64 0, .int .u64 0, .int .i64 0, .int .u64 0, .int .u64 0] 26)).alloc (.cells #[.slice a l.length cap, .int .i64 0] 80)) w.heap.size #[.string ⟨#[]⟩, .int .i64 0, .int .u64 0, .int .i64 0, .int .u64 0, .int .u64 0] 26 := (Blk.new w _ _).alloc _
  clear hv0 hv1 HS0
  go_enter Try.func40, Try.ntmps40
  go_wp2_with fail
  refine (J.out.1 _ _ _ _ r1 (by omega)).mono ?_
  rintro e w1 ⟨rfl, k1, r2⟩
  have k01 := k0.then k1 (fun i hi (h : i = w.heap.size + 1) => by omega)
  have v1 := v0.kept k1 (fun (h : w.heap.size = w.heap.size + 1) => by omega)
  clear r1 k0 v0 k1
  go_wp2_with fail
  obtain ⟨wE, hwE⟩ : ∃ wE, wE = w1.alloc (.cells #[.string ⟨N.toArray⟩, .int .i64 V, .int .u64 (K : Int)] 88) := ⟨_, rfl⟩
  have r3 := r2.kept ((Kept.refl None w1).alloc (.cells #[.string ⟨N.toArray⟩, .int .i64 V, .int .u64 (K : Int)] 88)) (fun _ _ _ h => h) (fun h => h)
  have v2 := v1.alloc (.cells #[.string ⟨N.toArray⟩, .int .i64 V, .int .u64 (K : Int)] 88)
  have k02 := k01.alloc (.cells #[.string ⟨N.toArray⟩, .int .i64 V, .int .u64 (K : Int)] 88)
  have bE := Blk.new w1 #[.string ⟨N.toArray⟩, .int .i64 V, .int .u64 (K : Int)] 88
  have hrl := r2.lt
  rw [← hwE] at r3 v2 k02 bE ⊢
  clear hwE r2 v1 k01
  have hEl := bE.lt
  have hc0 : ∀ W, Kept (Just (w.heap.size + 1)) wE W → W.cell? ⟨w1.heap.size, 0, none⟩ = some (.string ⟨N.toArray⟩) := fun W hW => (bE.kept hW (fun (h : w1.heap.size = w.heap.size + 1) => by omega)).cell 0
  have hc1 : ∀ W, Kept (Just (w.heap.size + 1)) wE W → W.cell? ⟨w1.heap.size, 1, none⟩ = some (.int .i64 V) := fun W hW => (bE.kept hW (fun (h : w1.heap.size = w.heap.size + 1) => by omega)).cell 1
  have hc2 : ∀ W, Kept (Just (w.heap.size + 1)) wE W → W.cell? ⟨w1.heap.size, 2, none⟩ = some (.int .u64 (K : Int)) := fun W hW => (bE.kept hW (fun (h : w1.heap.size = w.heap.size + 1) => by omega)).cell 2
  refine wp_region_plan_tail 10 (Kept (Just (w.heap.size + 1)) wE) [{ k := 7, uses := [100], spends := [100], pure := fun u => u = .int .i64 C, fact := fun _ W => Ref.Rd W lo hi' (w.heap.size + 1) S4 },
    { k := 9, uses := [], pure := fun u => ∃ g, u = .pointer (some ⟨g, 0, none⟩), fact := fun u W => ∃ g, u = .pointer (some ⟨g, 0, none⟩) ∧ wE.heap.size ≤ g ∧ Blk W g #[.string ⟨#[]⟩, .int .i64 0, .int .u64 0, .int .i64 0, .int .u64 0, .int .u64 0] 26 },
    { k := 100, uses := [], fact := fun _ W => Ref.Rd W lo hi' (w.heap.size + 1) S3 }] [100] (by kernel_rfl) (by kernel_rfl) (by kernel_rfl) (by rfl) ?pures ((Kept.refl _ wE).drew) ?starts ?walk
  case pures =>
    intro f hf
    simp only [List.mem_cons, List.not_mem_nil, or_false] at hf
    rcases hf with rfl | rfl | rfl
    · exact ⟨_, rfl⟩
    · exact ⟨_, 0, rfl⟩
    · exact ⟨undef, trivial⟩
  case starts =>
    intro k hk
    obtain rfl : k = 100 := by simpa using hk
    exact r3.kept ((Kept.refl None wE).drew) (fun _ _ _ h => h) (fun h => h)
  simp only [List.take_succ_cons, List.take_zero, List.drop_succ_cons, List.drop_zero]
  iterate 7 (refine wpPar_pure rfl (by rfl) _ (fun W hW => by
      have c0 := hc0 W hW
      have c1 := hc1 W hW
      have c2 := hc2 W hW
      go_simp
      exact rfl) ?_; simp only [Act.put, List.setIfInBounds_toArray, List.set_cons_zero, List.set_cons_succ])
  refine wpPar_adds rfl (by rfl) (fun W hW hd => ?_) (fun v7 hv => ?_)
  · have rW : Ref.Rd W lo hi' (w.heap.size + 1) S3 := hd 100 (List.Mem.head _)
    unfold Gives
    go_simp
    refine gives_call (J.out.2.1 _ _ _ W rW (by omega)) ?_
    rintro e W' ⟨rfl, k, r4⟩
    refine ⟨_, rfl, hW.trans k, rfl, r4, keeps_of fun f hf hs _ hne u hfu => ?_⟩
    simp only [List.mem_cons, List.not_mem_nil, or_false] at hf
    rcases hf with rfl | rfl | rfl
    · exact absurd rfl hne
    · obtain ⟨g, e1, e2, e3⟩ := hfu
      exact ⟨g, e1, e2, e3.kept k (fun (h : g = w.heap.size + 1) => by omega)⟩
    · exact absurd (List.Mem.head _) hs
  obtain rfl : v7 = .int .i64 C := hv
  simp only [Act.put, List.setIfInBounds_toArray, List.set_cons_zero, List.set_cons_succ]
  iterate 1 (refine wpPar_pure rfl (by rfl) _ (fun W hW => by
      go_simp
      exact rfl) ?_; simp only [Act.put, List.setIfInBounds_toArray, List.set_cons_zero, List.set_cons_succ])
  refine wpPar_adds rfl (by rfl) (fun W hW hd => ?_) (fun v9 hv => ?_)
  · unfold Gives
    go_simp
    refine ⟨hW.alloc _, ⟨_, rfl⟩, ⟨_, rfl, hW.size, Blk.new _ _ _⟩, keeps_of fun f hf hs _ hne u hfu => ?_⟩
    simp only [List.mem_cons, List.not_mem_nil, or_false] at hf
    rcases hf with rfl | rfl | rfl
    · exact Ref.Rd.kept hfu ((Kept.refl None W).alloc _) (fun _ _ _ h => h) (fun h => h)
    · exact absurd rfl hne
    · exact Ref.Rd.kept hfu ((Kept.refl None W).alloc _) (fun _ _ _ h => h) (fun h => h)
  obtain ⟨ub, rfl⟩ : ∃ g, v9 = .pointer (some ⟨g, 0, none⟩) := hv
  simp only [Act.put, List.setIfInBounds_toArray, List.set_cons_zero, List.set_cons_succ]
  refine wpPar_nil (fun W hW hG => ?_)
  have r4 : Ref.Rd W lo hi' (w.heap.size + 1) S4 := hG 7
  obtain ⟨g, e1, e2, uZ⟩ : ∃ g, Value.pointer (some ⟨ub, 0, none⟩) = .pointer (some ⟨g, 0, none⟩) ∧ wE.heap.size ≤ g ∧ Blk W g #[.string ⟨#[]⟩, .int .i64 0, .int .u64 0, .int .i64 0, .int .u64 0, .int .u64 0] 26 := hG 9
  obtain rfl : ub = g := by injection e1 with e1; injection e1 with e1; injection e1
  have k03 := k02.then hW (fun i hi (h : i = w.heap.size + 1) => by omega)
  have v3 := v2.kept hW (fun (h : w.heap.size = w.heap.size + 1) => by omega)
  have hub : w.heap.size + 1 < ub := by omega
  clear hG e1 e2 hc0 hc1 hc2 bE hEl hrl r3 v2 k02 hW
  have NE : ∀ k, lo ≤ k → k < hi' → ¬ Just ub k := fun k _ h e => by unfold Just at e; omega
  have NR : ¬ Just ub (w.heap.size + 1) := fun e => by unfold Just at e; omega
  have NU : ¬ Just (w.heap.size + 1) ub := fun e => by unfold Just at e; omega
  have NV : ¬ Just (w.heap.size + 1) w.heap.size := fun e => by unfold Just at e; omega
  have NW : ¬ Just ub w.heap.size := fun e => by unfold Just at e; omega
  have NN := hid (And.intro NE (And.intro NR (And.intro NU (And.intro NV (And.intro NW hub)))))
  clear NE NR NU NV NW hub
  go_wp2_with (first | (refine wpList_store_blk rfl _ _ _ rfl rfl rfl uZ Up.aUpd rfl (upd4_all _ _ _ _) ?_; intro w4 u4 kk4) | fail)
  have r4' := r4.kept kk4 NN.out.1 NN.out.2.1
  have v4 := v3.kept kk4 NN.out.2.2.2.2.1
  have k04 := k03.then kk4 (fun i hi (h : i = ub) => by have := NN.out.2.2.2.2.2; omega)
  clear uZ r4 v3 k03 kk4
  refine (J.out.2.2.1 _ _ _ _ r4' (by omega)).mono ?_
  rintro e w5 ⟨rfl, k5, r5⟩
  have k05 := k04.then k5 (fun i hi (h : i = w.heap.size + 1) => by omega)
  have v5 := v4.kept k5 NN.out.2.2.2.1
  have u5 := u4.kept k5 NN.out.2.2.1
  have c4 : w5.cell? ⟨ub, 4, none⟩ = some (.int .u64 0) := u5.cell 4
  have f4 := u5.free 4
  have r5' := r5.kept (Kept.one w5 ub 4 (.int .u64 (R : Int))) NN.out.1 NN.out.2.1
  have u5' : Blk (w5.setCell ⟨ub, 4, none⟩ (.int .u64 (R : Int))) ub #[.string ⟨N.toArray⟩, .int .i64 V, .int .u64 (K : Int), .int .i64 C, .int .u64 (R : Int), .int .u64 0] 26 := u5.set 4 _
  have v5' := v5.kept (Kept.one w5 ub 4 (.int .u64 (R : Int))) NN.out.2.2.2.2.1
  have k05' := k05.setNew (b := ub) (by have := NN.out.2.2.2.2.2; omega) 4 (.int .u64 (R : Int))
  clear r4' k04 v4 u4 k5 r5 k05 v5 u5
  go_wp2_with fail
  refine (J.out.2.2.2.1 _ _ _ _ r5' (by omega)).mono ?_
  rintro e w6 ⟨rfl, k6, r6⟩
  have k06 := k05'.then k6 (fun i hi (h : i = w.heap.size + 1) => by omega)
  have v6 := v5'.kept k6 NN.out.2.2.2.1
  have u6 := u5'.kept k6 NN.out.2.2.1
  have c5 : w6.cell? ⟨ub, 5, none⟩ = some (.int .u64 0) := u6.cell 5
  have f5 := u6.free 5
  have r6' := r6.kept (Kept.one w6 ub 5 (.int .u64 (S : Int))) NN.out.1 NN.out.2.1
  have u6' : Blk (w6.setCell ⟨ub, 5, none⟩ (.int .u64 (S : Int))) ub #[.string ⟨N.toArray⟩, .int .i64 V, .int .u64 (K : Int), .int .i64 C, .int .u64 (R : Int), .int .u64 (S : Int)] 26 := u6.set 5 _
  have v6' := v6.kept (Kept.one w6 ub 5 (.int .u64 (S : Int))) NN.out.2.2.2.2.1
  have k06' := k06.setNew (b := ub) (by have := NN.out.2.2.2.2.2; omega) 5 (.int .u64 (S : Int))
  have d1 : w6.cell? ⟨w.heap.size + 1, 1, none⟩ = some (.int .i64 S6.e) := by obtain ⟨ok, v', hb', hv'⟩ := r6; exact hb'.cell 1
  obtain ⟨a6, cp6, d0⟩ : ∃ a c, w6.cell? ⟨w.heap.size + 1, 0, none⟩ = some (.slice a S6.l.length c) := by
    obtain ⟨ok, v', hb', hv'⟩ := r6
    obtain ⟨a', c', e', _⟩ := hv'.shape
    rw [e'] at hb'
    exact ⟨a', c', hb'.cell 0⟩
  have hne1 : ub ≠ w.heap.size + 1 := by have := NN.out.2.2.2.2.2; omega
  have hne2 : w.heap.size + 1 ≠ ub := Ne.symm hne1
  clear r5' k05' v5' u5' k6 r6 k06 v6 u6 c4 f4
  rw [e6] at d1
  rw [l6] at d0
  clear e6 l6
  go_wp2_with (first | (refine wpList_load_blk rfl _ _ rfl rfl u6' Up.aUpd ?_) | fail)
  refine (J.out.2.2.2.2 _).mono ?_
  rintro e w8 ⟨rfl, k8⟩
  have k08 := k06'.trans k8
  have v8 := v6'.kept k8 (fun h => h)
  have u8 := u6'.kept k8 (fun h => h)
  clear k06' v6' u6' k8 d0 d1 r6' hne1 hne2 c5 f5 NN J
  go_wp2_with (first | (refine wpList_load_blk rfl _ _ rfl rfl u8 Up.aUpd ?_) | (refine wpList_store_blk rfl _ _ _ rfl rfl rfl v8 Up.aUpd rfl (Up.upd_all _ _ _ _ _ _) ?_; intro w7 hR7 k7) | fail)
  exact bodyPost_ret (v := .tuple #[updV ⟨N.toArray⟩ V K C R S, .int .i64 0]) (results_blk2 rfl _ rfl rfl hR7 Up.aUpd) rfl ⟨rfl, k08.then k7 (fun i hi (h : i = w.heap.size) => by omega)⟩

/-- postmarkref5.Read. -/
theorem read (v : Value) (lo hi : Nat) (l : List UInt8) (w : World) (hv : Bs w lo hi v l) : Calls Try.prog 40 #[v] w fun e w' => e = .returned (.tuple #[(readQ l).V, .int .i64 (readE l)]) ∧ Kept None w w' := by
  by_cases h : 512 < l.length
  · exact read_long v lo hi l w hv h
  by_cases h2 : (rd6 l).e ≠ 0
  · exact read_err v lo hi l w hv h h2
  by_cases h3 : 0 < (rd6 l).l.length
  · exact read_more v lo hi l w hv h h2 h3
  cases h4 : (reqOf wholeI l).right with
  | false => exact read_form v lo hi l w hv h h2 h3 h4
  | true => exact read_ok v lo hi l w hv h h2 h3 h4
end RUp
end Go.Proofs.Ytpbkdeljhehkdaa
namespace Go.Pm
open Go Go.RowKit
theorem num_of {L : List UInt8} (h : 8 ≤ L.length) : (St.mk L 0).num = leV L := if_pos ⟨rfl, h⟩
theorem numS_of {L : List UInt8} (h : 8 ≤ L.length) : (St.mk L 0).numS = ⟨L.drop 8, 0⟩ := by
  unfold St.numS
  rw [if_pos rfl, if_pos h]
theorem intI_small {x : Int} (h : x ≤ 1152921504606846976) : intI x = x := intI_le' (by omega)
theorem one_ref {S : Int} {L : List UInt8} (h : okJ 1 S L = true) : (⟨1, S, intI (St.mk L 0).num, intI (St.mk L 0).numS.num, Req.none, 0, 0⟩ : Rec) = candJ 1 S L ∧ (St.mk L 0).numS.numS.e = 0 := by
  obtain ⟨hl, _, h1, _, h2⟩ := okJ_one h
  have e1 : (L.drop 8).length = 8 := by rw [List.length_drop]; omega
  rw [numS_of (by omega), numS_of (by omega), num_of (by omega), num_of (by omega), intI_small h1, intI_small (by omega)]
  exact ⟨rfl, rfl⟩
theorem two_ref {S : Int} {L : List UInt8} (h : okJ 2 S L = true) : (⟨2, S, 0, 0, readQ (St.mk L 0).numS.l, intI (St.mk L 0).num, 0⟩ : Rec) = candJ 2 S L ∧ (St.mk L 0).numS.e = 0 ∧ readE (St.mk L 0).numS.l = 0 := by
  obtain ⟨hl, _, h1, h2⟩ := okJ_two h
  rw [numS_of hl, num_of hl, intI_small h1]
  refine ⟨rfl, rfl, ?_⟩
  by_cases he : readE (L.drop 8) = 0
  · exact he
  · rw [readE_bad he] at h2
    cases h2
theorem three_ref {S : Int} {L : List UInt8} (h : okJ 3 S L = true) : (⟨3, S, 0, 0, Req.none, 0, intI (St.mk L 0).num⟩ : Rec) = candJ 3 S L ∧ (St.mk L 0).numS.e = 0 := by
  obtain ⟨hl, _, h1⟩ := okJ_three h
  rw [numS_of (by omega), num_of (by omega), intI_small (by omega)]
  exact ⟨rfl, rfl⟩
theorem readQ_fits (l : List UInt8) : (readQ l).r < 18446744073709551616 ∧ (readQ l).s < 18446744073709551616 := by
  unfold readQ
  split
  · exact ⟨St.nat_lt _, St.nat_lt _⟩
  · exact ⟨by decide, by decide⟩
/-- What stands behind the switch. -/
def MidJ (K S : Int) (L : List UInt8) (r : Rec) (E : Int) : Prop := r.kind = K ∧ r.seq = S ∧ (r.u.r < 18446744073709551616 ∧ r.u.s < 18446744073709551616) ∧ (okJ K S L = true → r = candJ K S L ∧ E = 0)
end Go.Pm
namespace Go.Proofs.Ytpbkdeljhehkdaa
open Go.RowKit Go.Pm
namespace R12
theorem aRec : AggTy Try.prog 28 12 := Sg.AggTy.of (by kernel_rfl) (by kernel_rfl)
theorem zRec : (#[.int .i64 0, .int .i64 0, .int .i64 0, .int .i64 0, .string ⟨#[]⟩, .int .i64 0, .int .u64 0, .int .i64 0, .int .u64 0, .int .u64 0, .int .i64 0, .int .i64 0] : Array Value).all (·.oneCell') = true := Rec.C_one Rec.none
theorem iUpd : (Try.prog.info? 26).map (·.size) = some 6 := by kernel_rfl
set_option maxRecDepth 100000 in
set_option maxHeartbeats 8000000 in
theorem rread (v : Value) (lo hi : Nat) (b : List UInt8) (w : World) (hv0 : Bs w lo hi v b) (hl : b.length ≤ 1099511627000) :
    Calls Try.prog 20 #[v] w fun en w' => en = .returned (.tuple #[(readJ b).r.V, .int .i64 (readJ b).n, .int .i64 (readJ b).e]) ∧ Kept None w w' := by
  have hv := hv0.all
  clear hv0
  obtain ⟨av, cv, rfl, _⟩ := hv.shape
  have hR := fun W (h : Bs W 0 w.heap.size (.slice av b.length cv) b) => R12.read _ _ _ b W h hl
  obtain ⟨K, S, L, n, E, hF⟩ : ∃ K S L n E, readF b = ⟨K, S, L, n, E⟩ := ⟨_, _, _, _, _, rfl⟩
  simp only [hF] at hR
  have HR := hid hR
  have HV := hid hv
  have k0 : Kept None w (w.alloc (.cells #[.int .i64 0, .int .i64 0, .int .i64 0, .int .i64 0, .string ⟨#[]⟩, .int .i64 0, .int .u64 0, .int .i64 0, .int .u64 0, .int .u64 0, .int .i64 0, .int .i64 0] 28)) := (Kept.refl _ _).alloc _
  have HV0 := hid (hv.kept k0 (fun _ _ _ h => h))
  have hZ0 := hid (Blk.new w #[.int .i64 0, .int .i64 0, .int .i64 0, .int .i64 0, .string ⟨#[]⟩, .int .i64 0, .int .u64 0, .int .i64 0, .int .u64 0, .int .u64 0, .int .i64 0, .int .i64 0] 28)
  clear hR hv
  by_cases hE : E = 0
  · subst hE
    have ht := readF_take (b := b) (by rw [hF])
    rw [hF] at ht
    simp only at ht
    have HT := hid ht
    have HFF := hid hF
    clear hF ht
    go_enter Try.func20, Try.ntmps20
    go_wp2_with fail
    refine (HR.out _ HV0.out).mono ?_
    rintro e1 w1 ⟨u1, rfl, k1, b1⟩
    obtain ⟨a1, c1, rfl, _⟩ := b1.shape
    have BZ1 := hid (hZ0.out.kept k1 (fun h => h))
    have K1 := hid (k0.trans k1)
    have B1 := hid b1
    clear k1 b1 hZ0 HV0 HR
    go_upto_block 0 with fail
    have kA : Kept None w1 ((w1.alloc (.cells #[.int .i64 K, .int .i64 S, .int .i64 0, .int .i64 0, .string ⟨#[]⟩, .int .i64 0, .int .u64 0, .int .i64 0, .int .u64 0, .int .u64 0, .int .i64 0, .int .i64 0] 28)).alloc (.cells #[.slice a1 L.length c1, .int .i64 0] 80)) := ((Kept.refl _ _).alloc _).alloc _
    have bA : Blk ((w1.alloc (.cells #[.int .i64 K, .int .i64 S, .int .i64 0, .int .i64 0, .string ⟨#[]⟩, .int .i64 0, .int .u64 0, .int .i64 0, .int .u64 0, .int .u64 0, .int .i64 0, .int .i64 0] 28)).alloc (.cells #[.slice a1 L.length c1, .int .i64 0] 80)) w1.heap.size #[.int .i64 K, .int .i64 S, .int .i64 0, .int .i64 0, .string ⟨#[]⟩, .int .i64 0, .int .u64 0, .int .i64 0, .int .u64 0, .int .u64 0, .int .i64 0, .int .i64 0] 28 := (Blk.new w1 _ _).alloc _
    have rA : Blk ((w1.alloc (.cells #[.int .i64 K, .int .i64 S, .int .i64 0, .int .i64 0, .string ⟨#[]⟩, .int .i64 0, .int .u64 0, .int .i64 0, .int .u64 0, .int .u64 0, .int .i64 0, .int .i64 0] 28)).alloc (.cells #[.slice a1 L.length c1, .int .i64 0] 80)) (w1.heap.size + 1) #[.slice a1 L.length c1, .int .i64 0] 80 := Blk.new2 w1 _ _ _
    obtain ⟨wA, hwA⟩ : ∃ wA, wA = (w1.alloc (.cells #[.int .i64 K, .int .i64 S, .int .i64 0, .int .i64 0, .string ⟨#[]⟩, .int .i64 0, .int .u64 0, .int .i64 0, .int .u64 0, .int .u64 0, .int .i64 0, .int .i64 0] 28)).alloc (.cells #[.slice a1 L.length c1, .int .i64 0] 80) := ⟨_, rfl⟩
    rw [← hwA] at kA bA rA ⊢
    have RA := hid (show Ref.Rd wA 0 w.heap.size (w1.heap.size + 1) ⟨L, 0⟩ from ⟨fun h => absurd rfl h, _, rA, B1.out.kept kA (fun _ _ _ h => h)⟩)
    have BA := hid bA
    have KA := hid (K1.out.trans kA)
    have BZA := hid (BZ1.out.kept kA (fun h => h))
    have hz := hid (show w.heap.size < w1.heap.size from BZ1.out.lt)
    clear kA bA rA hwA B1 BZ1 K1 k0
    go_cut [13] (fun s13 wx => s13 = s13 ∧ ∃ (r : Rec) (Ex : Int) (vx : Value), Hid (MidJ K S L r Ex) ∧ Hid (Blk wx w1.heap.size r.C 28) ∧ Hid (Blk wx (w1.heap.size + 1) #[vx, .int .i64 Ex] 80) ∧ Hid (Blk wx w.heap.size #[.int .i64 0, .int .i64 0, .int .i64 0, .int .i64 0, .string ⟨#[]⟩, .int .i64 0, .int .u64 0, .int .i64 0, .int .u64 0, .int .u64 0, .int .i64 0, .int .i64 0] 28) ∧ Hid (Kept None w wx))
    case first =>
      by_cases hk1 : K = 1
      · subst hk1
        have R0 := RA
        go_wp2_with fail
        refine (Ref.rint (w1.heap.size + 1) 0 w.heap.size ⟨L, 0⟩ wA R0.out (by have := hz.out; omega)).mono ?_
        rintro e1 w2 ⟨rfl, k2, r2⟩
        obtain ⟨x1, hx1⟩ : ∃ x, x = intI (St.mk L 0).num := ⟨_, rfl⟩
        rw [← hx1]
        have HX1 := hid hx1
        have b2 := BA.out.kept k2 (fun (h : w1.heap.size = w1.heap.size + 1) => by omega)
        have z2 := BZA.out.kept k2 (fun (h : w.heap.size = w1.heap.size + 1) => by have := hz.out; omega)
        have q2 := hid (KA.out.then k2 (fun i hi (h : i = w1.heap.size + 1) => by have := hz.out; omega))
        have B2 := hid b2
        have Z2 := hid z2
        have RD2 := hid r2
        have cc := b2.cell 2
        have ff := b2.free 2
        clear k2 r2 b2 z2 hx1
        go_wp2_with fail
        clear cc ff
        have b3 := B2.out.set 2 (.int .i64 x1)
        have z3 := Z2.out.setOther (a := ⟨w1.heap.size, 2, none⟩) (by have := hz.out; simp only; omega) (.int .i64 x1)
        have k3 : Kept (Just w1.heap.size) w2 (w2.setCell ⟨w1.heap.size, 2, none⟩ (.int .i64 x1)) := Kept.one w2 w1.heap.size 2 _
        have r3 := RD2.out.kept k3 (fun k _ hk (h : k = w1.heap.size) => by have := hz.out; omega) (fun (h : w1.heap.size + 1 = w1.heap.size) => by omega)
        have q3 := q2.out.then k3 (fun i hi (h : i = w1.heap.size) => by have := hz.out; omega)
        obtain ⟨w3, hw3⟩ : ∃ w3, w3 = w2.setCell ⟨w1.heap.size, 2, none⟩ (.int .i64 x1) := ⟨_, rfl⟩
        rw [← hw3] at b3 z3 r3 q3 ⊢
        have B3 := hid b3
        have Z3 := hid z3
        have RD3 := hid r3
        have Q3 := hid q3
        clear b3 z3 k3 r3 q3 hw3 B2 Z2 RD2 q2
        go_wp2_with fail
        refine (Ref.rint (w1.heap.size + 1) 0 w.heap.size (St.mk L 0).numS w3 RD3.out (by have := hz.out; omega)).mono ?_
        rintro e2 w4 ⟨rfl, k4, r4⟩
        obtain ⟨x2, hx2⟩ : ∃ x, x = intI (St.mk L 0).numS.num := ⟨_, rfl⟩
        rw [← hx2]
        have HX2 := hid hx2
        have b4 := B3.out.kept k4 (fun (h : w1.heap.size = w1.heap.size + 1) => by omega)
        have z4 := hid (Z3.out.kept k4 (fun (h : w.heap.size = w1.heap.size + 1) => by have := hz.out; omega))
        have q4 := hid (Q3.out.then k4 (fun i hi (h : i = w1.heap.size + 1) => by have := hz.out; omega))
        have B4 := hid b4
        have RD4 := hid r4
        have cc := b4.cell 3
        have ff := b4.free 3
        simp at cc
        clear k4 r4 b4 hx2
        go_wp2_with fail
        clear cc ff
        have b5 := B4.out.set 3 (.int .i64 x2)
        have z5 := z4.out.setOther (a := ⟨w1.heap.size, 3, none⟩) (by have := hz.out; simp only; omega) (.int .i64 x2)
        have k5 : Kept (Just w1.heap.size) w4 (w4.setCell ⟨w1.heap.size, 3, none⟩ (.int .i64 x2)) := Kept.one w4 w1.heap.size 3 _
        have r5 := RD4.out.kept k5 (fun k _ hk (h : k = w1.heap.size) => by have := hz.out; omega) (fun (h : w1.heap.size + 1 = w1.heap.size) => by omega)
        have q5 := q4.out.then k5 (fun i hi (h : i = w1.heap.size) => by have := hz.out; omega)
        go_meet
        obtain ⟨_, vx, hbx, _⟩ := r5
        exact ⟨trivial, ⟨1, S, x1, x2, Req.none, 0, 0⟩, _, vx, hid ⟨rfl, rfl, (by show (0 : Nat) < 18446744073709551616 ∧ (0 : Nat) < 18446744073709551616; decide), fun h => by rw [HX1.out, HX2.out]; exact one_ref h⟩, hid b5, hid hbx, hid z5, hid q5⟩
      by_cases hk2 : K = 2
      · subst hk2
        have R0 := RA
        go_wp2_with fail
        refine (Ref.rint (w1.heap.size + 1) 0 w.heap.size ⟨L, 0⟩ wA R0.out (by have := hz.out; omega)).mono ?_
        rintro e1 w2 ⟨rfl, k2, r2⟩
        obtain ⟨x1, hx1⟩ : ∃ x, x = intI (St.mk L 0).num := ⟨_, rfl⟩
        rw [← hx1]
        have HX1 := hid hx1
        have b2 := BA.out.kept k2 (fun (h : w1.heap.size = w1.heap.size + 1) => by omega)
        have z2 := BZA.out.kept k2 (fun (h : w.heap.size = w1.heap.size + 1) => by have := hz.out; omega)
        have q2 := hid (KA.out.then k2 (fun i hi (h : i = w1.heap.size + 1) => by have := hz.out; omega))
        have B2 := hid b2
        have Z2 := hid z2
        have RD2 := hid r2
        have cc := b2.cell 10
        have ff := b2.free 10
        clear k2 r2 b2 z2 hx1
        go_upto_region 12 with fail
        clear cc ff
        have b3 := B2.out.set 10 (.int .i64 x1)
        have z3 := Z2.out.setOther (a := ⟨w1.heap.size, 10, none⟩) (by have := hz.out; simp only; omega) (.int .i64 x1)
        have k3 : Kept (Just w1.heap.size) w2 (w2.setCell ⟨w1.heap.size, 10, none⟩ (.int .i64 x1)) := Kept.one w2 w1.heap.size 10 _
        have r3 := RD2.out.kept k3 (fun k _ hk (h : k = w1.heap.size) => by have := hz.out; omega) (fun (h : w1.heap.size + 1 = w1.heap.size) => by omega)
        have q3 := q2.out.then k3 (fun i hi (h : i = w1.heap.size) => by have := hz.out; omega)
        obtain ⟨w3, hw3⟩ : ∃ w3, w3 = w2.setCell ⟨w1.heap.size, 10, none⟩ (.int .i64 x1) := ⟨_, rfl⟩
        rw [← hw3] at b3 z3 r3 q3 ⊢
        have B3 := hid b3
        have Z3 := hid z3
        have RD3 := hid r3
        have Q3 := hid q3
        clear b3 z3 k3 r3 q3 hw3 B2 Z2 RD2 q2
        obtain ⟨_, v3, hb3, hs3⟩ := RD3.out
        obtain ⟨av3, cv3, rfl, _⟩ := hs3.shape
        have cc := hb3.cell 0
        simp at cc
        have HS3 := hid hs3
        clear hb3 hs3
        go_wp2_with fail
        clear cc
        refine (RUp.read _ _ _ _ _ HS3.out).mono ?_
        rintro e2 w4 ⟨rfl, k4⟩
        obtain ⟨l3, hl3⟩ : ∃ l, l = (St.mk L 0).numS.l := ⟨_, rfl⟩
        obtain ⟨Q, hQ⟩ : ∃ Q, Q = readQ l3 := ⟨_, rfl⟩
        obtain ⟨E2, hE2⟩ : ∃ E2, E2 = readE l3 := ⟨_, rfl⟩
        rw [← hl3, ← hQ, ← hE2]
        have HQ := hid (And.intro hl3 (And.intro hQ hE2))
        have B4 := hid (B3.out.kept k4 (fun h => h))
        have Z4 := hid (Z3.out.kept k4 (fun h => h))
        have RD4 := hid (RD3.out.kept k4 (fun _ _ _ h => h) (fun h => h))
        have Q4 := hid (Q3.out.trans k4)
        clear k4 hl3 hQ hE2 HS3 B3 Z3 RD3 Q3
        by_cases h2 : E2 = 0
        · have d2 : (E2 == 0) = true := by simpa using h2
          have b5 := B4.out.alloc (.cells #[.string Q.n, .int .i64 Q.v, .int .u64 (Q.k : Int), .int .i64 Q.c, .int .u64 (Q.r : Int), .int .u64 (Q.s : Int)] 26)
          clear h2
          go_wp2_with (first | (refine wpList_store_agg rfl _ _ _ rfl (xs := [.string Q.n, .int .i64 Q.v, .int .u64 (Q.k : Int), .int .i64 Q.c, .int .u64 (Q.r : Int), .int .u64 (Q.s : Int)]) rfl rfl b5 iUpd (by simp [Value.oneCell']) (by simp) ?_; intro w6 b6 k6) | fail)
          have k56 := (Kept.refl None w4).alloc (.cells #[.string Q.n, .int .i64 Q.v, .int .u64 (Q.k : Int), .int .i64 Q.c, .int .u64 (Q.r : Int), .int .u64 (Q.s : Int)] 26)
          have z6 := (Z4.out.kept k56 (fun h => h)).kept k6 (fun (h : w.heap.size = w1.heap.size) => by have := hz.out; omega)
          have r6 := (RD4.out.kept k56 (fun _ _ _ h => h) (fun h => h)).kept k6 (fun k _ hk (h : k = w1.heap.size) => by have := hz.out; omega) (fun (h : w1.heap.size + 1 = w1.heap.size) => by omega)
          have q6 := (Q4.out.trans k56).then k6 (fun i hi (h : i = w1.heap.size) => by have := hz.out; omega)
          go_meet
          obtain ⟨_, vx, hbx, _⟩ := r6
          exact ⟨trivial, ⟨2, S, 0, 0, Q, x1, 0⟩, _, vx, hid ⟨rfl, rfl, by rw [HQ.out.2.1]; exact readQ_fits _, fun h => by rw [HX1.out, HQ.out.2.1, HQ.out.1]; exact ⟨(two_ref h).1, (two_ref h).2.1⟩⟩, hid b6, hid hbx, hid z6, hid q6⟩
        · have d2 : (E2 == 0) = false := by simpa using h2
          have hfin := hid (readJ_bad HFF.out (by
            cases ho : okJ 2 S L with
            | false => rfl
            | true => exact absurd (by rw [HQ.out.2.2, HQ.out.1]; exact (two_ref ho).2.2) h2))
          have z5 := Z4.out.alloc (.cells #[.string Q.n, .int .i64 Q.v, .int .u64 (Q.k : Int), .int .i64 Q.c, .int .u64 (Q.r : Int), .int .u64 (Q.s : Int)] 26)
          have k56 := (Kept.refl None w4).alloc (.cells #[.string Q.n, .int .i64 Q.v, .int .u64 (Q.k : Int), .int .i64 Q.c, .int .u64 (Q.r : Int), .int .u64 (Q.s : Int)] 26)
          clear h2
          go_wp2_with (first | (refine wpList_store_blk rfl _ _ _ rfl rfl rfl z5 aRec rfl zRec ?_; intro w9 hR9 k9) | fail)
          have kk : Kept None w w9 := (Q4.out.trans k56).then k9 (fun i hi (h : i = w.heap.size) => by omega)
          (try simp only [Exit.inBlock, Exit.then])
          refine bodyPost_ret (v := .tuple #[Rec.none.V, .int .i64 0, .int .i64 20]) (results_blk3 rfl _ rfl rfl rfl hR9 aRec) rfl ?_
          rw [hfin.out]
          exact ⟨rfl, kk⟩
      by_cases hk3 : K = 3
      · subst hk3
        have R0 := RA
        go_wp2_with fail
        refine (Ref.rint (w1.heap.size + 1) 0 w.heap.size ⟨L, 0⟩ wA R0.out (by have := hz.out; omega)).mono ?_
        rintro e1 w2 ⟨rfl, k2, r2⟩
        obtain ⟨x1, hx1⟩ : ∃ x, x = intI (St.mk L 0).num := ⟨_, rfl⟩
        rw [← hx1]
        have HX1 := hid hx1
        have b2 := BA.out.kept k2 (fun (h : w1.heap.size = w1.heap.size + 1) => by omega)
        have z2 := BZA.out.kept k2 (fun (h : w.heap.size = w1.heap.size + 1) => by have := hz.out; omega)
        have q2 := hid (KA.out.then k2 (fun i hi (h : i = w1.heap.size + 1) => by have := hz.out; omega))
        have B2 := hid b2
        have Z2 := hid z2
        have RD2 := hid r2
        have cc := b2.cell 11
        have ff := b2.free 11
        clear k2 r2 b2 z2 hx1
        go_wp2_with fail
        clear cc ff
        have b3 := B2.out.set 11 (.int .i64 x1)
        have z3 := Z2.out.setOther (a := ⟨w1.heap.size, 11, none⟩) (by have := hz.out; simp only; omega) (.int .i64 x1)
        have k3 : Kept (Just w1.heap.size) w2 (w2.setCell ⟨w1.heap.size, 11, none⟩ (.int .i64 x1)) := Kept.one w2 w1.heap.size 11 _
        have r3 := RD2.out.kept k3 (fun k _ hk (h : k = w1.heap.size) => by have := hz.out; omega) (fun (h : w1.heap.size + 1 = w1.heap.size) => by omega)
        have q3 := q2.out.then k3 (fun i hi (h : i = w1.heap.size) => by have := hz.out; omega)
        obtain ⟨w3, hw3⟩ : ∃ w3, w3 = w2.setCell ⟨w1.heap.size, 11, none⟩ (.int .i64 x1) := ⟨_, rfl⟩
        rw [← hw3] at b3 z3 r3 q3 ⊢
        have B3 := hid b3
        have Z3 := hid z3
        have RD3 := hid r3
        have Q3 := hid q3
        clear b3 z3 k3 r3 q3 hw3 B2 Z2 RD2 q2
        go_wp2_with fail
        go_meet
        obtain ⟨_, vx, hbx, _⟩ := RD3.out
        exact ⟨trivial, ⟨3, S, 0, 0, Req.none, 0, x1⟩, _, vx, hid ⟨rfl, rfl, (by show (0 : Nat) < 18446744073709551616 ∧ (0 : Nat) < 18446744073709551616; decide), fun h => by rw [HX1.out]; exact three_ref h⟩, B3, hid hbx, Z3, Q3⟩
      have e1 : (K == 1) = false := by simpa using hk1
      have e2 : (K == 2) = false := by simpa using hk2
      have e3 : (K == 3) = false := by simpa using hk3
      have HN := hid (And.intro hk1 (And.intro hk2 hk3))
      clear hk1 hk2 hk3
      go_wp2_with fail
      go_meet
      obtain ⟨_, vx, hbx, _⟩ := RA.out
      exact ⟨trivial, ⟨K, S, 0, 0, Req.none, 0, 0⟩, _, vx, hid ⟨rfl, rfl, (by show (0 : Nat) < 18446744073709551616 ∧ (0 : Nat) < 18446744073709551616; decide), fun h => by rcases okJ_kind h with h | h | h; exact absurd h HN.out.1; exact absurd h HN.out.2.1; exact absurd h HN.out.2.2⟩, BA, hid hbx, BZA, KA⟩
    case rest =>
      obtain ⟨_, r, Ex, vx, HM, HB, HX, HZ, HK⟩ := hcut
      obtain ⟨w5, rfl⟩ : ∃ w5 : World, w5 = wc := ⟨_, rfl⟩
      have hm := HM.out
      have hres := readJ_of HFF.out r hm.1 hm.2.1 hm.2.2.1 (fun h => (hm.2.2.2 h).1)
      have HP := hid (fun W => rput r W hm.2.2.1)
      have hbad : ¬ Ex = 0 → readJ b = ⟨Rec.none, 0, 20⟩ := fun h => readJ_bad HFF.out (by
        cases ho : okJ K S L with
        | false => rfl
        | true => exact absurd (hm.2.2.2 ho).2 h)
      have HRS := hid hres
      have HBD := hid hbad
      obtain ⟨A, hA⟩ : ∃ A, A = r.C := ⟨_, rfl⟩
      have hAr : AggTy Try.prog 28 A.size := by rw [hA]; exact aRec
      have HA := hid (And.intro hA (show A.all (·.oneCell') = true by rw [hA]; exact Rec.C_one r))
      have hAz : A.size = 12 := by rw [hA]; rfl
      rw [← hA] at HB
      have hPA : Hid (∀ W, Calls Try.prog 12 #[.agg A] W fun e w' => ∃ u, e = .returned (.tuple #[u, .int .i64 (putJE r)]) ∧ Kept None W w' ∧ Ob w' W.heap.size u (putJL r)) := hid (by rw [hA]; exact HP.out)
      have HAz := hid hAz
      have hb5 := HB.out
      clear hm hres hbad hA HP HM hAz
      go_wp2_with (first | (refine wpList_load_blk rfl _ _ rfl rfl hb5 hAr ?_) | fail)
      refine (hPA.out _).mono ?_
      rintro e1 w7 ⟨u7, rfl, k7, b7⟩
      obtain ⟨a7, c7, rfl⟩ := b7.form
      have KW := hid (HK.out.trans k7)
      have B7 := hid (HB.out.kept k7 (fun h => h))
      have Z7 := hid (HZ.out.kept k7 (fun h => h))
      have cX := (HX.out.kept k7 (fun h => h)).cell 1
      have hcx : w7.cell? ⟨w1.heap.size + 1, 1, none⟩ = some (.int .i64 Ex) := cX
      clear k7 cX hb5
      by_cases hEx : Ex = 0
      · subst hEx
        by_cases hr : rightJ r = true
        · have eP : putJE r = 0 := by unfold putJE; rw [if_pos hr]
          rw [eP]
          have cv1 := fun q => cvBytes ((b7.bs (Nat.le_refl _)).kept (Kept.toDrewN None w7 q) (fun _ _ _ h => h))
          obtain ⟨x8, sl8, p8⟩ := slice_to tBytes zBytes (HV.out.kept KW.out (fun _ _ _ h => h)) .i64 (n : Int) (Int.natCast_nonneg _) (by have := HT.out.2.2.2.1; omega)
          simp only [Int.toNat_natCast] at sl8 p8
          rw [← List.map_take] at p8
          obtain ⟨BN, hBN⟩ : ∃ BN, BN = b.take n := ⟨_, rfl⟩
          have lBN : n = BN.length := by rw [hBN, List.length_take]; have := HT.out.2.2.2.1; omega
          rw [← hBN] at p8
          obtain ⟨PJ, hPJ⟩ : ∃ PJ, PJ = putJL r := ⟨_, rfl⟩
          rw [← hPJ] at cv1 ⊢
          have cv2 := fun q => cvBytes (Bs.kept p8 (Kept.toDrewN None w7 q) (fun _ _ _ h => h))
          have HPB := hid (And.intro hPJ hBN)
          have HRT := hid hr
          by_cases hq : PJ = BN
          · have bq : (PJ == BN) = true := by simpa using hq
            have HQ := hid hq
            clear hq hr eP b7 p8 lBN hPJ hBN
            go_wp2_with fail
            go_quiet (fail)
            have b8 := (B7.out.drewN nq)
            have z8 := (Z7.out.drewN nq)
            go_wp2_with (first | (refine wpList_load_blk rfl _ _ rfl rfl b8 hAr ?_) | (refine wpList_store_blk rfl _ _ _ rfl rfl rfl z8 hAr HAz.out.symm HA.out.2 ?_; intro w9 hR9 k9) | fail)
            have kk : Kept None w w9 := (KW.out.trans (Kept.toDrewN None w7 nq)).then k9 (fun i hi (h : i = w.heap.size) => by omega)
            (try simp only [Exit.inBlock, Exit.then])
            refine bodyPost_ret (v := .tuple #[.agg A, .int .i64 n, .int .i64 0]) (results_blk3 rfl _ rfl rfl rfl hR9 hAr) rfl ?_
            have hfin := HRS.out
            rw [if_pos ⟨HRT.out, by rw [← HPB.out.1, ← HPB.out.2]; exact HQ.out⟩] at hfin
            rw [hfin, HA.out.1]
            exact ⟨rfl, kk⟩
          · have bq : (PJ == BN) = false := by simpa using hq
            have HQ := hid hq
            clear hq hr eP b7 p8 lBN hPJ hBN
            go_wp2_with fail
            go_quiet (fail)
            have z8 := (Z7.out.drewN nq)
            go_wp2_with (first | (refine wpList_store_blk rfl _ _ _ rfl rfl rfl z8 aRec rfl zRec ?_; intro w9 hR9 k9) | fail)
            have kk : Kept None w w9 := (KW.out.trans (Kept.toDrewN None w7 nq)).then k9 (fun i hi (h : i = w.heap.size) => by omega)
            (try simp only [Exit.inBlock, Exit.then])
            refine bodyPost_ret (v := .tuple #[Rec.none.V, .int .i64 0, .int .i64 20]) (results_blk3 rfl _ rfl rfl rfl hR9 aRec) rfl ?_
            have hfin := HRS.out
            rw [if_neg (fun h => HQ.out (by rw [HPB.out.1, HPB.out.2]; exact h.2))] at hfin
            rw [hfin]
            exact ⟨rfl, kk⟩
        · have eP : putJE r = 23 := by unfold putJE; rw [if_neg hr]
          rw [eP]
          have HRT := hid hr
          clear hr eP b7
          go_wp2_with fail
          go_quiet (fail)
          have z8 := (Z7.out.drewN nq)
          go_wp2_with (first | (refine wpList_store_blk rfl _ _ _ rfl rfl rfl z8 aRec rfl zRec ?_; intro w9 hR9 k9) | fail)
          have kk : Kept None w w9 := (KW.out.trans (Kept.toDrewN None w7 nq)).then k9 (fun i hi (h : i = w.heap.size) => by omega)
          (try simp only [Exit.inBlock, Exit.then])
          refine bodyPost_ret (v := .tuple #[Rec.none.V, .int .i64 0, .int .i64 20]) (results_blk3 rfl _ rfl rfl rfl hR9 aRec) rfl ?_
          have hfin := HRS.out
          rw [if_neg (fun h => HRT.out h.1)] at hfin
          rw [hfin]
          exact ⟨rfl, kk⟩
      · have dE : (Ex == 0) = false := by simpa using hEx
        have hfin := hid (HBD.out hEx)
        have dE2 : (Ex != 0) = true := by simpa using hEx
        have dE3 : (!decide (Ex = 0)) = true := by simpa using hEx
        have dE4 : decide (Ex = 0) = false := by simpa using hEx
        clear b7
        go_wp2_with fail
        go_quiet (fail)
        have z8 := (Z7.out.drewN nq)
        go_wp2_with (first | (refine wpList_store_blk rfl _ _ _ rfl rfl rfl z8 aRec rfl zRec ?_; intro w9 hR9 k9) | fail)
        have kk : Kept None w w9 := (KW.out.trans (Kept.toDrewN None w7 nq)).then k9 (fun i hi (h : i = w.heap.size) => by omega)
        (try simp only [Exit.inBlock, Exit.then])
        refine bodyPost_ret (v := .tuple #[Rec.none.V, .int .i64 0, .int .i64 20]) (results_blk3 rfl _ rfl rfl rfl hR9 aRec) rfl ?_
        rw [hfin.out]
        exact ⟨rfl, kk⟩
  · have e := hid (readJ_err hF hE)
    have dE : (E == 0) = false := by simpa using hE
    clear hE hF
    go_enter Try.func20, Try.ntmps20
    go_wp2_with fail
    refine (HR.out _ HV0.out).mono ?_
    rintro e1 w1 ⟨u1, rfl, k1, b1⟩
    obtain ⟨a1, c1, rfl, _⟩ := b1.shape
    have hZ := hZ0.out.kept k1 (fun h => h)
    have K1 := hid (k0.trans k1)
    clear k1 b1 hZ0 HV0 HR
    go_wp2_with (first | (refine wpList_store_blk rfl _ _ _ rfl rfl rfl hZ aRec rfl zRec ?_; intro w9 hR9 k9) | fail)
    have kk : Kept None w w9 := K1.out.then k9 (fun i hi (h : i = w.heap.size) => by omega)
    (try simp only [Exit.inBlock, Exit.then])
    refine bodyPost_ret (v := .tuple #[Rec.none.V, .int .i64 0, .int .i64 E]) (results_blk3 rfl _ rfl rfl rfl hR9 aRec) rfl ?_
    rw [e.out]
    exact ⟨rfl, kk⟩
end R12
end Go.Proofs.Ytpbkdeljhehkdaa
namespace Go.Pm
open Go Go.RowKit
/-- The fields of a body. -/
def fldJ (K : Int) (L : List UInt8) : Rec :=
  if K = 1 then ⟨K, 0, IntKind.i64.wrap (St.mk L 0).num, IntKind.i64.wrap (St.mk L 0).numS.num, Req.none, 0, 0⟩
  else if K = 2 then ⟨K, 0, 0, 0, readQ (St.mk L 0).numS.l, IntKind.i64.wrap (St.mk L 0).num, 0⟩
  else if K = 3 then ⟨K, 0, 0, 0, Req.none, 0, IntKind.i64.wrap (St.mk L 0).num⟩ else ⟨K, 0, 0, 0, Req.none, 0, 0⟩
theorem i64_small {x : Int} (h0 : 0 ≤ x) (h : x ≤ 1152921504606846976) : IntKind.i64.wrap x = x := by rw [IntKind.wrap_i64]; omega
theorem fldJ_kind (K : Int) (L : List UInt8) : (fldJ K L).kind = K := by
  unfold fldJ
  split
  · rfl
  · split
    · rfl
    · split <;> rfl
theorem fldJ_words (K : Int) (L : List UInt8) : (fldJ K L).u.r < 18446744073709551616 ∧ (fldJ K L).u.s < 18446744073709551616 := by
  have h0 : Req.none.r < 18446744073709551616 ∧ Req.none.s < 18446744073709551616 := ⟨by decide, by decide⟩
  unfold fldJ
  split
  · exact h0
  · split
    · exact readQ_fits _
    · split <;> exact h0
theorem fldJ_cand {K S : Int} {L : List UInt8} (h : okJ K S L = true) : (⟨(fldJ K L).kind, S, (fldJ K L).gen, (fldJ K L).count, (fldJ K L).u, (fldJ K L).tick, (fldJ K L).epoch⟩ : Rec) = candJ K S L := by
  rcases okJ_kind h with rfl | rfl | rfl
  · obtain ⟨hl, h0, h1, h2, h3⟩ := okJ_one h
    unfold fldJ
    rw [if_pos rfl, numS_of (by omega), num_of (by omega), num_of (by rw [List.length_drop]; omega), i64_small h0 h1, i64_small h2 (by omega)]
    rfl
  · obtain ⟨hl, h0, h1, _⟩ := okJ_two h
    unfold fldJ
    rw [if_neg (by decide), if_pos rfl, numS_of hl, num_of hl, i64_small h0 h1]
    rfl
  · obtain ⟨hl, h0, h1⟩ := okJ_three h
    unfold fldJ
    rw [if_neg (by decide), if_neg (by decide), if_pos rfl, num_of (by omega), i64_small (by omega) (by omega)]
    rfl
theorem raw_all {s : St} (h : s.Ok) : s.raw s.l.length = s.l := by
  unfold St.raw
  by_cases he : s.e = 0
  · rw [if_pos ⟨he, Int.le_refl _⟩, Int.toNat_natCast, List.take_length]
  · rw [if_neg (fun h => he h.1), h he]
/-- What a candidate for a frame's record comes to, by its body. -/
theorem readJ_of2 {b L : List UInt8} {K S : Int} {n : Nat} (hF : readF b = ⟨K, S, L, n, 0⟩) (r : Rec) (hk : r.kind = K) (hs : r.seq = S) (hf : r.u.r < 18446744073709551616 ∧ r.u.s < 18446744073709551616) (hc : okJ K S L = true → r = candJ K S L) :
    readJ b = if rightJ r = true ∧ bodyJ r = L then ⟨r, n, 0⟩ else ⟨Rec.none, 0, 20⟩ := by
  have e0 : readJ b = if okJ K S L = true then ⟨candJ K S L, n, 0⟩ else ⟨Rec.none, 0, 20⟩ := by
    unfold readJ
    rw [hF]
    simp only [if_pos]
  rw [e0]
  by_cases h : okJ K S L = true
  · have e := hc h
    have h2 : rightJ (candJ K S L) = true ∧ bodyJ (candJ K S L) = L := by
      unfold okJ at h
      simpa using h
    rw [if_pos h, if_pos ⟨by rw [e]; exact h2.1, by rw [e]; exact h2.2⟩, e]
  · rw [if_neg h, if_neg]
    rintro ⟨h1, h2⟩
    have e3 := candJ_body h1 hf
    rw [hk, hs, h2] at e3
    exact h (by unfold okJ; rw [e3, h1, h2]; simp)
end Go.Pm
namespace Go.Proofs.Ytpbkdeljhehkdaa
open Go.RowKit Go.Pm
namespace Jr
theorem aRecF : AggTy Try.prog 28 12 := Sg.AggTy.of (by kernel_rfl) (by kernel_rfl)
theorem zRecF : (#[.int .i64 0, .int .i64 0, .int .i64 0, .int .i64 0, .string ⟨#[]⟩, .int .i64 0, .int .u64 0, .int .i64 0, .int .u64 0, .int .u64 0, .int .i64 0, .int .i64 0] : Array Value).all (·.oneCell') = true := Rec.C_one Rec.none
theorem iUpdF : (Try.prog.info? 26).map (·.size) = some 6 := by kernel_rfl
set_option maxRecDepth 100000 in
set_option maxHeartbeats 8000000 in
theorem fields (K : Int) (v : Value) (lo hi : Nat) (L : List UInt8) (w : World) (hv : Bs w lo hi v L) (hl : L.length ≤ 140737488355328) :
    Calls Try.prog 34 #[.int .i64 K, v] w fun en w' => en = .returned (fldJ K L).V ∧ Kept None w w' := by
  obtain ⟨av, cv, rfl, _⟩ := hv.shape
  have HN := hid (fun W (hW : Kept None w W) => Bin.new _ lo hi L W (hv.kept hW (fun _ _ _ h => h)) hl)
  have HL := hid hl
  clear hv hl
  go_enter Try.func34, Try.ntmps34
  go_wp2_with fail
  have B0 := hid (show Blk ((w.alloc (.cells #[.int .i64 0, .int .i64 0, .int .i64 0, .int .i64 0, .string ⟨#[]⟩, .int .i64 0, .int .u64 0, .int .i64 0, .int .u64 0, .int .u64 0, .int .i64 0, .int .i64 0] 28)).alloc (.cells #[.int .i64 K, .int .i64 0, .int .i64 0, .int .i64 0, .string ⟨#[]⟩, .int .i64 0, .int .u64 0, .int .i64 0, .int .u64 0, .int .u64 0, .int .i64 0, .int .i64 0] 28)) (w.heap.size + 1) #[.int .i64 K, .int .i64 0, .int .i64 0, .int .i64 0, .string ⟨#[]⟩, .int .i64 0, .int .u64 0, .int .i64 0, .int .u64 0, .int .u64 0, .int .i64 0, .int .i64 0] 28 from Blk.new2 w _ _ _)
  have Z0 := hid (show Blk ((w.alloc (.cells #[.int .i64 0, .int .i64 0, .int .i64 0, .int .i64 0, .string ⟨#[]⟩, .int .i64 0, .int .u64 0, .int .i64 0, .int .u64 0, .int .u64 0, .int .i64 0, .int .i64 0] 28)).alloc (.cells #[.int .i64 K, .int .i64 0, .int .i64 0, .int .i64 0, .string ⟨#[]⟩, .int .i64 0, .int .u64 0, .int .i64 0, .int .u64 0, .int .u64 0, .int .i64 0, .int .i64 0] 28)) w.heap.size #[.int .i64 0, .int .i64 0, .int .i64 0, .int .i64 0, .string ⟨#[]⟩, .int .i64 0, .int .u64 0, .int .i64 0, .int .u64 0, .int .u64 0, .int .i64 0, .int .i64 0] 28 from (Blk.new w _ _).alloc _)
  have K0 := hid (show Kept None w ((w.alloc (.cells #[.int .i64 0, .int .i64 0, .int .i64 0, .int .i64 0, .string ⟨#[]⟩, .int .i64 0, .int .u64 0, .int .i64 0, .int .u64 0, .int .u64 0, .int .i64 0, .int .i64 0] 28)).alloc (.cells #[.int .i64 K, .int .i64 0, .int .i64 0, .int .i64 0, .string ⟨#[]⟩, .int .i64 0, .int .u64 0, .int .i64 0, .int .u64 0, .int .u64 0, .int .i64 0, .int .i64 0] 28)) from ((Kept.refl _ _).alloc _).alloc _)
  obtain ⟨w0, hw0⟩ : ∃ w0, w0 = (w.alloc (.cells #[.int .i64 0, .int .i64 0, .int .i64 0, .int .i64 0, .string ⟨#[]⟩, .int .i64 0, .int .u64 0, .int .i64 0, .int .u64 0, .int .u64 0, .int .i64 0, .int .i64 0] 28)).alloc (.cells #[.int .i64 K, .int .i64 0, .int .i64 0, .int .i64 0, .string ⟨#[]⟩, .int .i64 0, .int .u64 0, .int .i64 0, .int .u64 0, .int .u64 0, .int .i64 0, .int .i64 0] 28) := ⟨_, rfl⟩
  have hs0 : w0.heap.size = w.heap.size + 2 := by rw [hw0]; simp
  rw [← hw0] at B0 Z0 K0 ⊢
  clear hw0
  refine (HN.out w0 K0.out).mono ?_
  rintro e0 w1 ⟨r, rfl, k1, hr1, R⟩
  have hr := hid (show w.heap.size + 2 ≤ r ∧ w0.heap.size = w.heap.size + 2 by omega)
  have B1 := hid (B0.out.kept k1 (fun h => h))
  have Z1 := hid (Z0.out.kept k1 (fun h => h))
  have Q1 := hid (K0.out.trans k1)
  have R1 := hid R
  clear k1 hr1 R B0 Z0 K0 HN hs0
  by_cases hk1 : K = 1
  · subst hk1
    go_wp2_with fail
    refine (Bin.rnum r w0.heap.size r ⟨L, 0⟩ w1 R1.out (Nat.le_refl _)).mono ?_
    rintro e1 w2 ⟨rfl, k2, r2⟩
    obtain ⟨N1, hN1⟩ : ∃ N, N = St.num ⟨L, 0⟩ := ⟨_, rfl⟩
    obtain ⟨x1, hx1⟩ : ∃ x, x = IntKind.i64.wrap N1 := ⟨_, rfl⟩
    rw [← hN1]
    have HX1 := hid (show x1 = IntKind.i64.wrap (St.num ⟨L, 0⟩) by rw [hx1, hN1])
    have wx := hx1.symm
    have b2 := B1.out.kept k2 (fun (h : (w.heap.size + 1) = r) => by have := hr.out; omega)
    have z2 := Z1.out.kept k2 (fun (h : w.heap.size = r) => by have := hr.out; omega)
    have Q2 := hid (Q1.out.then k2 (fun i hi (h : i = r) => by have := hr.out; omega))
    have B2 := hid b2
    have Z2 := hid z2
    have R2 := hid r2
    have cc := b2.cell 2
    have ff := b2.free 2
    (try simp at cc)
    clear k2 r2 b2 z2 hx1 hN1 B1 Z1 R1 Q1
    go_upto_region 6 with fail
    clear cc ff wx
    have B3 := hid (B2.out.set 2 (.int .i64 x1))
    have Z3 := hid (Z2.out.setOther (a := ⟨(w.heap.size + 1), 2, none⟩) (by simp only; omega) (.int .i64 x1))
    have k3 : Kept (Just (w.heap.size + 1)) w2 (w2.setCell ⟨(w.heap.size + 1), 2, none⟩ (.int .i64 x1)) := Kept.one w2 (w.heap.size + 1) 2 _
    have R3 := hid (R2.out.kept k3 (fun k hk1 hk (h : k = (w.heap.size + 1)) => by have := hr.out; omega) (fun (h : r = (w.heap.size + 1)) => by have := hr.out; omega))
    have Q3 := hid (Q2.out.then k3 (fun i hi (h : i = (w.heap.size + 1)) => by omega))
    obtain ⟨w3, hw3⟩ : ∃ w3, w3 = w2.setCell ⟨(w.heap.size + 1), 2, none⟩ (.int .i64 x1) := ⟨_, rfl⟩
    rw [← hw3] at B3 Z3 R3 Q3 ⊢
    clear k3 hw3 B2 Z2 R2 Q2
    go_wp2_with fail
    refine (Bin.rnum r w0.heap.size r (St.mk L 0).numS w3 R3.out (Nat.le_refl _)).mono ?_
    rintro e3 w4 ⟨rfl, k4, r4⟩
    obtain ⟨N3, hN3⟩ : ∃ N, N = St.num (St.mk L 0).numS := ⟨_, rfl⟩
    obtain ⟨x3, hx3⟩ : ∃ x, x = IntKind.i64.wrap N3 := ⟨_, rfl⟩
    rw [← hN3]
    have HX3 := hid (show x3 = IntKind.i64.wrap (St.num (St.mk L 0).numS) by rw [hx3, hN3])
    have wx := hx3.symm
    have b4 := B3.out.kept k4 (fun (h : (w.heap.size + 1) = r) => by have := hr.out; omega)
    have z4 := Z3.out.kept k4 (fun (h : w.heap.size = r) => by have := hr.out; omega)
    have Q4 := hid (Q3.out.then k4 (fun i hi (h : i = r) => by have := hr.out; omega))
    have B4 := hid b4
    have Z4 := hid z4
    have R4 := hid r4
    have cc := b4.cell 3
    have ff := b4.free 3
    (try simp at cc)
    clear k4 r4 b4 z4 hx3 hN3 B3 Z3 R3 Q3
    go_upto_region 12 with fail
    clear cc ff wx
    have B5 := hid (B4.out.set 3 (.int .i64 x3))
    have Z5 := hid (Z4.out.setOther (a := ⟨(w.heap.size + 1), 3, none⟩) (by simp only; omega) (.int .i64 x3))
    have k5 : Kept (Just (w.heap.size + 1)) w4 (w4.setCell ⟨(w.heap.size + 1), 3, none⟩ (.int .i64 x3)) := Kept.one w4 (w.heap.size + 1) 3 _
    have R5 := hid (R4.out.kept k5 (fun k hk1 hk (h : k = (w.heap.size + 1)) => by have := hr.out; omega) (fun (h : r = (w.heap.size + 1)) => by have := hr.out; omega))
    have Q5 := hid (Q4.out.then k5 (fun i hi (h : i = (w.heap.size + 1)) => by omega))
    obtain ⟨w5, hw5⟩ : ∃ w5, w5 = w4.setCell ⟨(w.heap.size + 1), 3, none⟩ (.int .i64 x3) := ⟨_, rfl⟩
    rw [← hw5] at B5 Z5 R5 Q5 ⊢
    clear k5 hw5 B4 Z4 R4 Q4
    obtain ⟨A, hA⟩ : ∃ A, A = (⟨1, 0, x1, x3, Req.none, 0, 0⟩ : Rec).C := ⟨_, rfl⟩
    have bA : Blk w5 (w.heap.size + 1) A 28 := by rw [hA]; exact B5.out
    have aA : AggTy Try.prog 28 A.size := by rw [hA]; exact aRecF
    have hz : 12 = A.size := by rw [hA]; rfl
    have hall : A.all (·.oneCell') = true := by rw [hA]; exact Rec.C_one _
    have HA := hid hA
    have HZ := hid hz
    have zA := Z5.out
    clear hA hz
    go_wp2_with (first | (refine wpList_load_blk rfl _ _ rfl rfl bA aA ?_) | (refine wpList_store_blk rfl _ _ _ rfl rfl rfl zA aA HZ.out hall ?_; intro w9 hR9 k9) | fail)
    have kk : Kept None w w9 := Q5.out.then k9 (fun i hi (h : i = w.heap.size) => by omega)
    (try simp only [Exit.inBlock, Exit.then])
    refine bodyPost_ret (v := .agg A) (results_blk rfl _ rfl hR9 aA) rfl ?_
    rw [HA.out]
    refine ⟨?_, kk⟩
    rw [HX1.out, HX3.out]
    rfl
  by_cases hk2 : K = 2
  · subst hk2
    go_wp2_with fail
    refine (Bin.rnum r w0.heap.size r ⟨L, 0⟩ w1 R1.out (Nat.le_refl _)).mono ?_
    rintro e1 w2 ⟨rfl, k2, r2⟩
    obtain ⟨N1, hN1⟩ : ∃ N, N = St.num ⟨L, 0⟩ := ⟨_, rfl⟩
    obtain ⟨x1, hx1⟩ : ∃ x, x = IntKind.i64.wrap N1 := ⟨_, rfl⟩
    rw [← hN1]
    have HX1 := hid (show x1 = IntKind.i64.wrap (St.num ⟨L, 0⟩) by rw [hx1, hN1])
    have wx := hx1.symm
    have b2 := B1.out.kept k2 (fun (h : (w.heap.size + 1) = r) => by have := hr.out; omega)
    have z2 := Z1.out.kept k2 (fun (h : w.heap.size = r) => by have := hr.out; omega)
    have Q2 := hid (Q1.out.then k2 (fun i hi (h : i = r) => by have := hr.out; omega))
    have B2 := hid b2
    have Z2 := hid z2
    have R2 := hid r2
    have cc := b2.cell 10
    have ff := b2.free 10
    (try simp at cc)
    clear k2 r2 b2 z2 hx1 hN1 B1 Z1 R1 Q1
    go_upto_region 9 with fail
    clear cc ff wx
    have B3 := hid (B2.out.set 10 (.int .i64 x1))
    have Z3 := hid (Z2.out.setOther (a := ⟨(w.heap.size + 1), 10, none⟩) (by simp only; omega) (.int .i64 x1))
    have k3 : Kept (Just (w.heap.size + 1)) w2 (w2.setCell ⟨(w.heap.size + 1), 10, none⟩ (.int .i64 x1)) := Kept.one w2 (w.heap.size + 1) 10 _
    have R3 := hid (R2.out.kept k3 (fun k hk1 hk (h : k = (w.heap.size + 1)) => by have := hr.out; omega) (fun (h : r = (w.heap.size + 1)) => by have := hr.out; omega))
    have Q3 := hid (Q2.out.then k3 (fun i hi (h : i = (w.heap.size + 1)) => by omega))
    obtain ⟨w3, hw3⟩ : ∃ w3, w3 = w2.setCell ⟨(w.heap.size + 1), 10, none⟩ (.int .i64 x1) := ⟨_, rfl⟩
    rw [← hw3] at B3 Z3 R3 Q3 ⊢
    clear k3 hw3 B2 Z2 R2 Q2
    have hok := R3.out.1
    have hra := raw_all hok
    obtain ⟨s, hs⟩ : ∃ s, s = (St.mk L 0).numS := ⟨_, rfl⟩
    have hsl : s.l.length ≤ 140737488355328 := by rw [hs]; have := St.numS_len (St.mk L 0); have := HL.out; simp only at *; omega
    have HS := hid hs
    rw [← hs] at R3 hra
    clear hok hs
    go_wp2_with fail
    refine (Bin.rleft r _ _ s w3 R3.out hsl).mono ?_
    rintro e2 w4 ⟨rfl, hw34⟩
    subst hw34
    go_wp2_with fail
    refine (Bin.rraw r _ _ s _ w3 R3.out (by omega) (by omega) (Nat.le_refl _) hsl).mono ?_
    rintro e2 w4 ⟨v4, rfl, k4, b4, _⟩
    rw [hra] at b4
    have B4 := hid (B3.out.kept k4 (fun (h : (w.heap.size + 1) = r) => by have := hr.out; omega))
    have Z4 := hid (Z3.out.kept k4 (fun (h : w.heap.size = r) => by have := hr.out; omega))
    have Q4 := hid (Q3.out.then k4 (fun i hi (h : i = r) => by have := hr.out; omega))
    obtain ⟨l4, hl4⟩ : ∃ l, l = s.l := ⟨_, rfl⟩
    rw [← hl4] at b4
    have HL4 := hid hl4
    have b4' := hid (b4.bs (Nat.le_refl _))
    clear k4 b4 hra hl4 B3 Z3 Q3 R3 hsl
    go_wp2_with fail
    refine (Up.read _ _ _ l4 _ b4'.out).mono ?_
    rintro e2 w5 ⟨rfl, k5⟩
    obtain ⟨Q, hQ⟩ : ∃ Q, Q = readQ l4 := ⟨_, rfl⟩
    obtain ⟨E2, hE2⟩ : ∃ E2, E2 = readE l4 := ⟨_, rfl⟩
    rw [← hQ, ← hE2]
    have HQ := hid hQ
    have B5 := hid (B4.out.kept k5 (fun h => h))
    have Z5 := hid (Z4.out.kept k5 (fun h => h))
    have Q5 := hid (Q4.out.trans k5)
    have b5 := B5.out
    clear k5 hQ hE2 b4' B4 Z4 Q4
    go_upto_region 12 with (first | (refine wpList_store_agg rfl _ _ _ rfl (xs := [.string Q.n, .int .i64 Q.v, .int .u64 (Q.k : Int), .int .i64 Q.c, .int .u64 (Q.r : Int), .int .u64 (Q.s : Int)]) rfl rfl b5 iUpdF (by simp [Value.oneCell']) (by simp) ?_; intro w6 b6 k6) | fail)
    have B6 := hid b6
    have Z6 := hid (Z5.out.kept k6 (fun (h : w.heap.size = (w.heap.size + 1)) => by omega))
    have Q6 := hid (Q5.out.then k6 (fun i hi (h : i = (w.heap.size + 1)) => by omega))
    clear b5 b6 k6 B5 Z5 Q5
    obtain ⟨A, hA⟩ : ∃ A, A = (⟨2, 0, 0, 0, Q, x1, 0⟩ : Rec).C := ⟨_, rfl⟩
    have bA : Blk w6 (w.heap.size + 1) A 28 := by rw [hA]; exact B6.out
    have aA : AggTy Try.prog 28 A.size := by rw [hA]; exact aRecF
    have hz : 12 = A.size := by rw [hA]; rfl
    have hall : A.all (·.oneCell') = true := by rw [hA]; exact Rec.C_one _
    have HA := hid hA
    have HZ := hid hz
    have zA := Z6.out
    clear hA hz
    go_wp2_with (first | (refine wpList_load_blk rfl _ _ rfl rfl bA aA ?_) | (refine wpList_store_blk rfl _ _ _ rfl rfl rfl zA aA HZ.out hall ?_; intro w9 hR9 k9) | fail)
    have kk : Kept None w w9 := Q6.out.then k9 (fun i hi (h : i = w.heap.size) => by omega)
    (try simp only [Exit.inBlock, Exit.then])
    refine bodyPost_ret (v := .agg A) (results_blk rfl _ rfl hR9 aA) rfl ?_
    rw [HA.out]
    refine ⟨?_, kk⟩
    rw [HX1.out, HQ.out, HL4.out, HS.out]
    rfl
  by_cases hk3 : K = 3
  · subst hk3
    go_wp2_with fail
    refine (Bin.rnum r w0.heap.size r ⟨L, 0⟩ w1 R1.out (Nat.le_refl _)).mono ?_
    rintro e1 w2 ⟨rfl, k2, r2⟩
    obtain ⟨N1, hN1⟩ : ∃ N, N = St.num ⟨L, 0⟩ := ⟨_, rfl⟩
    obtain ⟨x1, hx1⟩ : ∃ x, x = IntKind.i64.wrap N1 := ⟨_, rfl⟩
    rw [← hN1]
    have HX1 := hid (show x1 = IntKind.i64.wrap (St.num ⟨L, 0⟩) by rw [hx1, hN1])
    have wx := hx1.symm
    have b2 := B1.out.kept k2 (fun (h : (w.heap.size + 1) = r) => by have := hr.out; omega)
    have z2 := Z1.out.kept k2 (fun (h : w.heap.size = r) => by have := hr.out; omega)
    have Q2 := hid (Q1.out.then k2 (fun i hi (h : i = r) => by have := hr.out; omega))
    have B2 := hid b2
    have Z2 := hid z2
    have R2 := hid r2
    have cc := b2.cell 11
    have ff := b2.free 11
    (try simp at cc)
    clear k2 r2 b2 z2 hx1 hN1 B1 Z1 R1 Q1
    go_upto_region 12 with fail
    clear cc ff wx
    have B3 := hid (B2.out.set 11 (.int .i64 x1))
    have Z3 := hid (Z2.out.setOther (a := ⟨(w.heap.size + 1), 11, none⟩) (by simp only; omega) (.int .i64 x1))
    have k3 : Kept (Just (w.heap.size + 1)) w2 (w2.setCell ⟨(w.heap.size + 1), 11, none⟩ (.int .i64 x1)) := Kept.one w2 (w.heap.size + 1) 11 _
    have R3 := hid (R2.out.kept k3 (fun k hk1 hk (h : k = (w.heap.size + 1)) => by have := hr.out; omega) (fun (h : r = (w.heap.size + 1)) => by have := hr.out; omega))
    have Q3 := hid (Q2.out.then k3 (fun i hi (h : i = (w.heap.size + 1)) => by omega))
    obtain ⟨w3, hw3⟩ : ∃ w3, w3 = w2.setCell ⟨(w.heap.size + 1), 11, none⟩ (.int .i64 x1) := ⟨_, rfl⟩
    rw [← hw3] at B3 Z3 R3 Q3 ⊢
    clear k3 hw3 B2 Z2 R2 Q2
    obtain ⟨A, hA⟩ : ∃ A, A = (⟨3, 0, 0, 0, Req.none, 0, x1⟩ : Rec).C := ⟨_, rfl⟩
    have bA : Blk w3 (w.heap.size + 1) A 28 := by rw [hA]; exact B3.out
    have aA : AggTy Try.prog 28 A.size := by rw [hA]; exact aRecF
    have hz : 12 = A.size := by rw [hA]; rfl
    have hall : A.all (·.oneCell') = true := by rw [hA]; exact Rec.C_one _
    have HA := hid hA
    have HZ := hid hz
    have zA := Z3.out
    clear hA hz
    go_wp2_with (first | (refine wpList_load_blk rfl _ _ rfl rfl bA aA ?_) | (refine wpList_store_blk rfl _ _ _ rfl rfl rfl zA aA HZ.out hall ?_; intro w9 hR9 k9) | fail)
    have kk : Kept None w w9 := Q3.out.then k9 (fun i hi (h : i = w.heap.size) => by omega)
    (try simp only [Exit.inBlock, Exit.then])
    refine bodyPost_ret (v := .agg A) (results_blk rfl _ rfl hR9 aA) rfl ?_
    rw [HA.out]
    refine ⟨?_, kk⟩
    rw [HX1.out]
    rfl
  have e1 : (K == 1) = false := by simpa using hk1
  have e2 : (K == 2) = false := by simpa using hk2
  have e3 : (K == 3) = false := by simpa using hk3
  have HN := hid (And.intro hk1 (And.intro hk2 hk3))
  clear hk1 hk2 hk3
  obtain ⟨A, hA⟩ : ∃ A, A = (⟨K, 0, 0, 0, Req.none, 0, 0⟩ : Rec).C := ⟨_, rfl⟩
  have bA : Blk w1 (w.heap.size + 1) A 28 := by rw [hA]; exact B1.out
  have aA : AggTy Try.prog 28 A.size := by rw [hA]; exact aRecF
  have hz : 12 = A.size := by rw [hA]; rfl
  have hall : A.all (·.oneCell') = true := by rw [hA]; exact Rec.C_one _
  have HA := hid hA
  have HZ := hid hz
  have zA := Z1.out
  clear hA hz
  go_wp2_with (first | (refine wpList_load_blk rfl _ _ rfl rfl bA aA ?_) | (refine wpList_store_blk rfl _ _ _ rfl rfl rfl zA aA HZ.out hall ?_; intro w9 hR9 k9) | fail)
  have kk : Kept None w w9 := Q1.out.then k9 (fun i hi (h : i = w.heap.size) => by omega)
  (try simp only [Exit.inBlock, Exit.then])
  refine bodyPost_ret (v := .agg A) (results_blk rfl _ rfl hR9 aA) rfl ?_
  rw [HA.out]
  refine ⟨?_, kk⟩
  unfold fldJ
  rw [if_neg HN.out.1, if_neg HN.out.2.1, if_neg HN.out.2.2]
end Jr
end Go.Proofs.Ytpbkdeljhehkdaa
namespace Go.Pm
open Go Go.RowKit
def countsB (n : Int) : Bool := decide (0 ≤ n) && decide (n ≤ 1152921504606846976)
def mayJ (r : Rec) : Bool :=
  if r.kind = 1 then (countsB r.gen && decide (0 ≤ r.count)) && decide (r.count ≤ 32)
  else if r.kind = 2 then rightB r.u.n.size r.u.v r.u.k r.u.c && countsB r.tick
  else if r.kind = 3 then decide (1 ≤ r.epoch) && decide (r.epoch ≤ 1073741824) else false
def ownJ (r : Rec) : Rec :=
  if r.kind = 1 then ⟨r.kind, r.seq, r.gen, r.count, Req.none, 0, 0⟩
  else if r.kind = 2 then ⟨r.kind, r.seq, 0, 0, r.u, r.tick, 0⟩
  else if r.kind = 3 then ⟨r.kind, r.seq, 0, 0, Req.none, 0, r.epoch⟩ else ⟨r.kind, r.seq, 0, 0, Req.none, 0, 0⟩
theorem rightJ_own (r : Rec) : rightJ r = ((countsB r.seq && mayJ r) && recEq r (ownJ r)) := by
  rw [Bool.eq_iff_iff, rightJ_iff]
  simp only [Bool.and_eq_true, recEq_iff, countsB, decide_eq_true_eq]
  obtain ⟨kd, s, g, c, u, t, e⟩ := r
  unfold mayJ ownJ countsB
  simp only
  by_cases h1 : kd = 1
  · subst h1
    simp only [Rec.mk.injEq, if_true, Bool.and_eq_true, decide_eq_true_eq, true_and, show ((1 : Int) = 2) = False by decide, show ((1 : Int) = 3) = False by decide, false_and, or_false]
    constructor
    · rintro ⟨hs, he, h⟩
      exact ⟨⟨hs, ⟨⟨h.1, h.2.1⟩, h.2.2.1⟩, h.2.2.2⟩, he⟩
    · rintro ⟨⟨hs, ⟨⟨h1, h2⟩, h3⟩, h4⟩, he⟩
      exact ⟨hs, he, h1, h2, h3, h4⟩
  by_cases h2 : kd = 2
  · subst h2
    simp only [Rec.mk.injEq, if_true, Bool.and_eq_true, decide_eq_true_eq, true_and, show ((2 : Int) = 1) = False by decide, show ((2 : Int) = 3) = False by decide, false_and, or_false, false_or, if_false, Req.right]
    constructor
    · rintro ⟨hs, he, h⟩
      exact ⟨⟨hs, h.1, h.2.1, h.2.2⟩, he⟩
    · rintro ⟨⟨hs, h1, h2, h3⟩, he⟩
      exact ⟨hs, he, h1, h2, h3⟩
  by_cases h3 : kd = 3
  · subst h3
    simp only [Rec.mk.injEq, if_true, Bool.and_eq_true, decide_eq_true_eq, true_and, show ((3 : Int) = 1) = False by decide, show ((3 : Int) = 2) = False by decide, false_and, false_or, if_false]
    constructor
    · rintro ⟨hs, he, h⟩
      exact ⟨⟨hs, h⟩, he⟩
    · rintro ⟨⟨hs, h⟩, he⟩
      exact ⟨hs, he, h⟩
  · simp [h1, h2, h3]
end Go.Pm
namespace Go.Proofs.Ytpbkdeljhehkdaa
open Go.RowKit Go.Pm
namespace Jr
theorem aRec : AggTy Try.prog 28 12 := Sg.AggTy.of (by kernel_rfl) (by kernel_rfl)
set_option maxRecDepth 100000 in
theorem counts (n : Int) (w : World) : Calls Try.prog 29 #[.int .i64 n] w fun e w' => e = .returned (.bool (countsB n)) ∧ Kept None w w' := by
  rcases Bool.eq_false_or_eq_true (decide (0 ≤ n)) with h1 | h1
  · rcases Bool.eq_false_or_eq_true (decide (n ≤ 1152921504606846976)) with h2 | h2
    · go_enter Try.func29, Try.ntmps29
      go_wp2_with (first | go_skip | fail)
      go_ret
      exact ⟨by simp [countsB, h1, h2], Kept.refl _ _⟩
    · go_enter Try.func29, Try.ntmps29
      go_wp2_with (first | go_skip | fail)
      go_ret
      exact ⟨by simp [countsB, h1, h2], Kept.refl _ _⟩
  · go_enter Try.func29, Try.ntmps29
    go_wp2_with (first | go_skip | fail)
    go_ret
    exact ⟨by simp [countsB, h1], Kept.refl _ _⟩
set_option maxRecDepth 100000 in
set_option maxHeartbeats 4000000 in
theorem may1 (s g c : Int) (n : ByteArray) (v cl t e : Int) (k rr ss : Nat) (w : World) :
    Calls Try.prog 30 #[(⟨1, s, g, c, ⟨n, v, k, cl, rr, ss⟩, t, e⟩ : Rec).V] w fun e' w' => e' = .returned (.bool (mayJ (⟨1, s, g, c, ⟨n, v, k, cl, rr, ss⟩, t, e⟩ : Rec))) ∧ Kept None w w' := by
  have hm : mayJ (⟨1, s, g, c, ⟨n, v, k, cl, rr, ss⟩, t, e⟩ : Rec) = ((countsB g && decide (0 ≤ c)) && decide (c ≤ 32)) := rfl
  rw [hm]
  have HC := hid (fun W => counts g W)
  obtain ⟨X, hX⟩ : ∃ X, X = countsB g := ⟨_, rfl⟩
  rw [← hX] at HC ⊢
  clear hX hm
  unfold Rec.V Rec.C
  have hb := Blk.new w #[.int .i64 1, .int .i64 s, .int .i64 g, .int .i64 c, .string n, .int .i64 v, .int .u64 (k : Int), .int .i64 cl, .int .u64 (rr : Int), .int .u64 (ss : Int), .int .i64 t, .int .i64 e] 28
  have HB := hid hb
  clear hb
  go_enter Try.func30, Try.ntmps30
  go_wp2_with fail
  refine (HC.out _).mono ?_
  rintro e1 w1 ⟨rfl, k1⟩
  have kk : Kept None w w1 := ((Kept.refl _ _).alloc _).trans k1
  have hc : w1.cell? ⟨w.heap.size, 3, none⟩ = some (.int .i64 c) := (HB.out.kept k1 (fun h => h)).cell 3
  clear k1 HB HC
  cases X with
  | false =>
    go_wp2_with (first | go_skip | fail)
    go_ret
    exact ⟨by simp, kk⟩
  | true =>
    rcases Bool.eq_false_or_eq_true (decide (0 ≤ c)) with h1 | h1
    · rcases Bool.eq_false_or_eq_true (decide (c ≤ 32)) with h2 | h2
      all_goals
        go_wp2_with (first | go_skip | fail)
        go_ret
        exact ⟨by simp [h1, h2], kk⟩
    · go_wp2_with (first | go_skip | fail)
      go_ret
      exact ⟨by simp [h1], kk⟩
set_option maxRecDepth 100000 in
set_option maxHeartbeats 4000000 in
theorem may2 (s g c : Int) (n : ByteArray) (v cl t e : Int) (k rr ss : Nat) (w : World) :
    Calls Try.prog 30 #[(⟨2, s, g, c, ⟨n, v, k, cl, rr, ss⟩, t, e⟩ : Rec).V] w fun e' w' => e' = .returned (.bool (mayJ (⟨2, s, g, c, ⟨n, v, k, cl, rr, ss⟩, t, e⟩ : Rec))) ∧ Kept None w w' := by
  have hm : mayJ (⟨2, s, g, c, ⟨n, v, k, cl, rr, ss⟩, t, e⟩ : Rec) = (rightB n.size v k cl && countsB t) := rfl
  rw [hm]
  have HC := hid (fun W => counts t W)
  have HR := hid (fun W => Up.right n v cl k rr ss W)
  obtain ⟨X, hX⟩ : ∃ X, X = rightB n.size v k cl := ⟨_, rfl⟩
  obtain ⟨Y, hY⟩ : ∃ Y, Y = countsB t := ⟨_, rfl⟩
  rw [← hX] at HR ⊢
  rw [← hY] at HC ⊢
  clear hX hm hY
  unfold Rec.V Rec.C
  have hb := Blk.new w #[.int .i64 2, .int .i64 s, .int .i64 g, .int .i64 c, .string n, .int .i64 v, .int .u64 (k : Int), .int .i64 cl, .int .u64 (rr : Int), .int .u64 (ss : Int), .int .i64 t, .int .i64 e] 28
  have HB := hid hb
  clear hb
  go_enter Try.func30, Try.ntmps30
  go_wp2_with fail
  refine (HR.out _).mono ?_
  rintro e1 w1 ⟨rfl, k1⟩
  have kk : Kept None w w1 := ((Kept.refl _ _).alloc _).trans k1
  have hc : w1.cell? ⟨w.heap.size, 10, none⟩ = some (.int .i64 t) := (HB.out.kept k1 (fun h => h)).cell 10
  clear k1 HB HR
  cases X with
  | false =>
    go_wp2_with (first | go_skip | fail)
    go_ret
    exact ⟨by simp, kk⟩
  | true =>
    go_wp2_with (first | go_skip | fail)
    refine (HC.out _).mono ?_
    rintro e1 w2 ⟨rfl, k2⟩
    have kk2 := kk.trans k2
    clear k2 hc kk
    go_wp2
    go_ret
    exact ⟨by simp, kk2⟩
set_option maxRecDepth 100000 in
set_option maxHeartbeats 4000000 in
theorem may3 (s g c : Int) (n : ByteArray) (v cl t e : Int) (k rr ss : Nat) (w : World) :
    Calls Try.prog 30 #[(⟨3, s, g, c, ⟨n, v, k, cl, rr, ss⟩, t, e⟩ : Rec).V] w fun e' w' => e' = .returned (.bool (mayJ (⟨3, s, g, c, ⟨n, v, k, cl, rr, ss⟩, t, e⟩ : Rec))) ∧ Kept None w w' := by
  have hm : mayJ (⟨3, s, g, c, ⟨n, v, k, cl, rr, ss⟩, t, e⟩ : Rec) = (decide (1 ≤ e) && decide (e ≤ 1073741824)) := rfl
  rw [hm]
  clear hm
  unfold Rec.V Rec.C
  rcases Bool.eq_false_or_eq_true (decide (1 ≤ e)) with h1 | h1
  · rcases Bool.eq_false_or_eq_true (decide (e ≤ 1073741824)) with h2 | h2
    all_goals
      go_enter Try.func30, Try.ntmps30
      go_wp2_with (first | go_skip | fail)
      go_ret
      exact ⟨by simp [h1, h2], (Kept.refl _ _).alloc _⟩
  · go_enter Try.func30, Try.ntmps30
    go_wp2_with (first | go_skip | fail)
    go_ret
    exact ⟨by simp [h1], (Kept.refl _ _).alloc _⟩
set_option maxRecDepth 100000 in
set_option maxHeartbeats 4000000 in
theorem may (r : Rec) (w : World) : Calls Try.prog 30 #[r.V] w fun e' w' => e' = .returned (.bool (mayJ r)) ∧ Kept None w w' := by
  obtain ⟨kd, s, g, c, ⟨n, v, k, cl, rr, ss⟩, t, e⟩ := r
  by_cases h1 : kd = 1
  · subst h1; exact may1 s g c n v cl t e k rr ss w
  by_cases h2 : kd = 2
  · subst h2; exact may2 s g c n v cl t e k rr ss w
  by_cases h3 : kd = 3
  · subst h3; exact may3 s g c n v cl t e k rr ss w
  have hm : mayJ (⟨kd, s, g, c, ⟨n, v, k, cl, rr, ss⟩, t, e⟩ : Rec) = false := by unfold mayJ; rw [if_neg h1, if_neg h2, if_neg h3]
  rw [hm]
  have e1 : (kd == 1) = false := by simpa using h1
  have e2 : (kd == 2) = false := by simpa using h2
  have e3 : (kd == 3) = false := by simpa using h3
  clear h1 h2 h3 hm
  unfold Rec.V Rec.C
  go_enter Try.func30, Try.ntmps30
  go_wp2
  go_ret
  exact ⟨rfl, (Kept.refl _ _).alloc _⟩
set_option maxRecDepth 100000 in
set_option maxHeartbeats 4000000 in
theorem own1 (s g c : Int) (n : ByteArray) (v cl t e : Int) (k rr ss : Nat) (w : World) :
    Calls Try.prog 31 #[(⟨1, s, g, c, ⟨n, v, k, cl, rr, ss⟩, t, e⟩ : Rec).V] w fun e' w' => e' = .returned ((⟨1, s, g, c, Req.none, 0, 0⟩ : Rec)).V ∧ Kept None w w' := by
  unfold Rec.V Rec.C
  go_enter Try.func31, Try.ntmps31
  go_upto_region 4 with fail
  go_region
  go_wp2
  exact bodyPost_ret (v := .agg #[.int .i64 1, .int .i64 s, .int .i64 g, .int .i64 c, .string ⟨#[]⟩, .int .i64 0, .int .u64 0, .int .i64 0, .int .u64 0, .int .u64 0, .int .i64 0, .int .i64 0]) (results_blk rfl _ rfl (((Blk.new2 w (.cells #[.int .i64 1, .int .i64 s, .int .i64 g, .int .i64 c, .string n, .int .i64 v, .int .u64 (k : Int), .int .i64 cl, .int .u64 (rr : Int), .int .u64 (ss : Int), .int .i64 t, .int .i64 e] 28) #[.int .i64 1, .int .i64 s, .int .i64 g, .int .i64 c, .string ⟨#[]⟩, .int .i64 0, .int .u64 0, .int .i64 0, .int .u64 0, .int .u64 0, .int .i64 0, .int .i64 0] 28).alloc _).drew) aRec) rfl ⟨rfl, ((((Kept.refl _ _).alloc _).alloc _).alloc _).drew⟩
set_option maxRecDepth 100000 in
set_option maxHeartbeats 4000000 in
theorem own2 (s g c : Int) (n : ByteArray) (v cl t e : Int) (k rr ss : Nat) (w : World) :
    Calls Try.prog 31 #[(⟨2, s, g, c, ⟨n, v, k, cl, rr, ss⟩, t, e⟩ : Rec).V] w fun e' w' => e' = .returned ((⟨2, s, 0, 0, ⟨n, v, k, cl, rr, ss⟩, t, 0⟩ : Rec)).V ∧ Kept None w w' := by
  unfold Rec.V Rec.C
  go_enter Try.func31, Try.ntmps31
  go_upto_region 6 with fail
  go_region
  go_wp2
  exact bodyPost_ret (v := .agg #[.int .i64 2, .int .i64 s, .int .i64 0, .int .i64 0, .string n, .int .i64 v, .int .u64 (k : Int), .int .i64 cl, .int .u64 (rr : Int), .int .u64 (ss : Int), .int .i64 t, .int .i64 0]) (results_blk rfl _ rfl (((Blk.new2 w (.cells #[.int .i64 2, .int .i64 s, .int .i64 g, .int .i64 c, .string n, .int .i64 v, .int .u64 (k : Int), .int .i64 cl, .int .u64 (rr : Int), .int .u64 (ss : Int), .int .i64 t, .int .i64 e] 28) #[.int .i64 2, .int .i64 s, .int .i64 0, .int .i64 0, .string n, .int .i64 v, .int .u64 (k : Int), .int .i64 cl, .int .u64 (rr : Int), .int .u64 (ss : Int), .int .i64 t, .int .i64 0] 28).alloc _).drew) aRec) rfl ⟨rfl, ((((Kept.refl _ _).alloc _).alloc _).alloc _).drew⟩
set_option maxRecDepth 100000 in
set_option maxHeartbeats 4000000 in
theorem own3 (s g c : Int) (n : ByteArray) (v cl t e : Int) (k rr ss : Nat) (w : World) :
    Calls Try.prog 31 #[(⟨3, s, g, c, ⟨n, v, k, cl, rr, ss⟩, t, e⟩ : Rec).V] w fun e' w' => e' = .returned ((⟨3, s, 0, 0, Req.none, 0, e⟩ : Rec)).V ∧ Kept None w w' := by
  unfold Rec.V Rec.C
  go_enter Try.func31, Try.ntmps31
  go_wp2
  exact bodyPost_ret (v := .agg #[.int .i64 3, .int .i64 s, .int .i64 0, .int .i64 0, .string ⟨#[]⟩, .int .i64 0, .int .u64 0, .int .i64 0, .int .u64 0, .int .u64 0, .int .i64 0, .int .i64 e]) (results_blk rfl _ rfl (((Blk.new2 w (.cells #[.int .i64 3, .int .i64 s, .int .i64 g, .int .i64 c, .string n, .int .i64 v, .int .u64 (k : Int), .int .i64 cl, .int .u64 (rr : Int), .int .u64 (ss : Int), .int .i64 t, .int .i64 e] 28) #[.int .i64 3, .int .i64 s, .int .i64 0, .int .i64 0, .string ⟨#[]⟩, .int .i64 0, .int .u64 0, .int .i64 0, .int .u64 0, .int .u64 0, .int .i64 0, .int .i64 e] 28).alloc _)) aRec) rfl ⟨rfl, ((((Kept.refl _ _).alloc _).alloc _).alloc _)⟩
set_option maxRecDepth 100000 in
set_option maxHeartbeats 4000000 in
theorem own (r : Rec) (w : World) : Calls Try.prog 31 #[r.V] w fun e' w' => e' = .returned (ownJ r).V ∧ Kept None w w' := by
  obtain ⟨kd, s, g, c, ⟨n, v, k, cl, rr, ss⟩, t, e⟩ := r
  by_cases h1 : kd = 1
  · subst h1; exact own1 s g c n v cl t e k rr ss w
  by_cases h2 : kd = 2
  · subst h2; exact own2 s g c n v cl t e k rr ss w
  by_cases h3 : kd = 3
  · subst h3; exact own3 s g c n v cl t e k rr ss w
  have hm : ownJ (⟨kd, s, g, c, ⟨n, v, k, cl, rr, ss⟩, t, e⟩ : Rec) = ⟨kd, s, 0, 0, Req.none, 0, 0⟩ := by unfold ownJ; rw [if_neg h1, if_neg h2, if_neg h3]
  rw [hm]
  have e1 : (kd == 1) = false := by simpa using h1
  have e2 : (kd == 2) = false := by simpa using h2
  have e3 : (kd == 3) = false := by simpa using h3
  clear h1 h2 h3 hm
  unfold Rec.V Rec.C
  go_enter Try.func31, Try.ntmps31
  go_wp2
  exact bodyPost_ret (v := .agg #[.int .i64 kd, .int .i64 s, .int .i64 0, .int .i64 0, .string ⟨#[]⟩, .int .i64 0, .int .u64 0, .int .i64 0, .int .u64 0, .int .u64 0, .int .i64 0, .int .i64 0]) (results_blk rfl _ rfl (((Blk.new2 w (.cells #[.int .i64 kd, .int .i64 s, .int .i64 g, .int .i64 c, .string n, .int .i64 v, .int .u64 (k : Int), .int .i64 cl, .int .u64 (rr : Int), .int .u64 (ss : Int), .int .i64 t, .int .i64 e] 28) #[.int .i64 kd, .int .i64 s, .int .i64 0, .int .i64 0, .string ⟨#[]⟩, .int .i64 0, .int .u64 0, .int .i64 0, .int .u64 0, .int .u64 0, .int .i64 0, .int .i64 0] 28).alloc _)) aRec) rfl ⟨rfl, ((((Kept.refl _ _).alloc _).alloc _).alloc _)⟩
set_option maxRecDepth 100000 in
set_option maxHeartbeats 4000000 in
theorem right (r : Rec) (w : World) : Calls Try.prog 13 #[r.V] w fun e' w' => e' = .returned (.bool (rightJ r)) ∧ Kept None w w' := by
  rw [rightJ_own]
  have HC := hid (fun W => counts r.seq W)
  have HM := hid (fun W => may r W)
  have HO := hid (fun W => own r W)
  have heq := fun W => Jq.eqRec r (ownJ r) W
  obtain ⟨A, hA⟩ : ∃ A, A = r.C := ⟨_, rfl⟩
  obtain ⟨O, hO⟩ : ∃ O, O = (ownJ r).C := ⟨_, rfl⟩
  obtain ⟨X, hX⟩ : ∃ X, X = countsB r.seq := ⟨_, rfl⟩
  obtain ⟨Y, hY⟩ : ∃ Y, Y = mayJ r := ⟨_, rfl⟩
  obtain ⟨Z, hZ⟩ : ∃ Z, Z = recEq r (ownJ r) := ⟨_, rfl⟩
  obtain ⟨s, hs0⟩ : ∃ s, s = r.seq := ⟨_, rfl⟩
  have h1 : A[1]? = some (.int .i64 s) := by rw [hA, hs0]; rfl
  have hz : A.size = 12 := by rw [hA]; rfl
  have hall : A.all (·.oneCell') = true := by rw [hA]; exact Rec.C_one r
  unfold Rec.V at HM HO ⊢
  rw [← hX, ← hs0] at HC
  rw [← hY, ← hA] at HM
  rw [← hA, ← hO] at HO heq
  rw [← hZ] at heq
  rw [← hX, ← hY, ← hZ, ← hA]
  clear hA hO hX hY hZ hs0
  have HQ := hid heq
  have aA : AggTy Try.prog 28 A.size := by rw [hz]; exact aRec
  clear heq
  have HA := hid (And.intro aA hall)
  go_enter Try.func13, Try.ntmps13
  go_upto_region 1 with (first | (refine wpList_box_agg A 28 rfl rfl ?_) | fail)
  obtain ⟨w0, hw0⟩ : ∃ w0, w0 = w.alloc (.cells A 28) := ⟨_, rfl⟩
  have k0 : Kept None w w0 := by rw [hw0]; exact (Kept.refl _ _).alloc _
  have hB : Blk w0 w.heap.size A 28 := by rw [hw0]; exact Blk.new w A 28
  rw [← hw0]
  have HBK := hid (fun W (hW : Kept None w0 W) => hB.kept hW (fun h => h))
  have HCS := hid (fun W (hW : Kept None w0 W) => show W.cell? ⟨w.heap.size, 1, none⟩ = some (.int .i64 s) from by
    rw [(HBK.out W hW).cell 1]; exact h1)
  clear hw0 hB h1 HA hall hz
  cases X with
  | false =>
    have hs : Steady [.val 2 (.bool false)] := Go.Pm.Steady.val (Go.Pm.Steady.nil)
    refine wp_region_kn w0 _ hs (Kept.refl _ _) (by kernel_rfl) (by kernel_rfl) (by kernel_rfl) ?_
    iterate 1 (refine wpPar_pure rfl (by rfl) _ (fun W hW => by
        have hc1 := HCS.out W hW
        have hq := HQ.out
        go_simp
        exact rfl) ?_; simp only [Act.put, List.setIfInBounds_toArray, List.set_cons_zero, List.set_cons_succ])
    refine wpPar_pure rfl (by rfl) _ (fun W hW => by first | exact exec_load_blk _ _ rfl rfl (HBK.out W hW) aA | (have hc1 := HCS.out W hW; have hq := HQ.out; go_simp; exact rfl)) ?_; simp only [Act.put, List.setIfInBounds_toArray, List.set_cons_zero, List.set_cons_succ]
    refine wpKn_adds hs rfl (by rfl) (fun W hW hd => ?_) (fun v2 hv => ?_)
    · unfold Gives
      go_simp
      refine gives_call (HC.out W) ?_
      rintro e w3 ⟨rfl, k3⟩
      exact ⟨_, rfl, k3, rfl, trivial⟩
    obtain rfl : v2 = .bool false := hv
    simp only [Act.put, List.setIfInBounds_toArray, List.set_cons_zero, List.set_cons_succ]
    iterate 1 (refine wpPar_pure rfl (by rfl) _ (fun W hW => by
        have hc1 := HCS.out W hW
        have hq := HQ.out
        go_simp
        exact rfl) ?_; simp only [Act.put, List.setIfInBounds_toArray, List.set_cons_zero, List.set_cons_succ])
    refine wpPar_skip (by kernel_rfl) ?_; simp only [Act.put, List.setIfInBounds_toArray, List.set_cons_zero, List.set_cons_succ]
    refine wpPar_skip (by kernel_rfl) ?_; simp only [Act.put, List.setIfInBounds_toArray, List.set_cons_zero, List.set_cons_succ]
    iterate 2 (refine wpPar_pure rfl (by rfl) _ (fun W hW => by
        have hc1 := HCS.out W hW
        have hq := HQ.out
        go_simp
        exact rfl) ?_; simp only [Act.put, List.setIfInBounds_toArray, List.set_cons_zero, List.set_cons_succ])
    refine wpPar_skip (by kernel_rfl) ?_; simp only [Act.put, List.setIfInBounds_toArray, List.set_cons_zero, List.set_cons_succ]
    refine wpPar_skip (by kernel_rfl) ?_; simp only [Act.put, List.setIfInBounds_toArray, List.set_cons_zero, List.set_cons_succ]
    refine wpPar_skip (by kernel_rfl) ?_; simp only [Act.put, List.setIfInBounds_toArray, List.set_cons_zero, List.set_cons_succ]
    refine wpPar_skip (by kernel_rfl) ?_; simp only [Act.put, List.setIfInBounds_toArray, List.set_cons_zero, List.set_cons_succ]
    iterate 2 (refine wpPar_pure rfl (by rfl) _ (fun W hW => by
        have hc1 := HCS.out W hW
        have hq := HQ.out
        go_simp
        exact rfl) ?_; simp only [Act.put, List.setIfInBounds_toArray, List.set_cons_zero, List.set_cons_succ])
    refine wpPar_nil (fun W hW hG => ?_)
    have hk := hid (Kept.trans k0 hW)
    clear hG hs hW
    go_wp2
    go_ret
    exact ⟨by simp, hk.out⟩
  | true =>
  cases Y with
  | false =>
    have hs : Steady [.val 2 (.bool true), .val 5 (.bool false)] := Go.Pm.Steady.val (Go.Pm.Steady.val (Go.Pm.Steady.nil))
    refine wp_region_kn w0 _ hs (Kept.refl _ _) (by kernel_rfl) (by kernel_rfl) (by kernel_rfl) ?_
    iterate 1 (refine wpPar_pure rfl (by rfl) _ (fun W hW => by
        have hc1 := HCS.out W hW
        have hq := HQ.out
        go_simp
        exact rfl) ?_; simp only [Act.put, List.setIfInBounds_toArray, List.set_cons_zero, List.set_cons_succ])
    refine wpPar_pure rfl (by rfl) _ (fun W hW => by first | exact exec_load_blk _ _ rfl rfl (HBK.out W hW) aA | (have hc1 := HCS.out W hW; have hq := HQ.out; go_simp; exact rfl)) ?_; simp only [Act.put, List.setIfInBounds_toArray, List.set_cons_zero, List.set_cons_succ]
    refine wpKn_adds hs rfl (by rfl) (fun W hW hd => ?_) (fun v2 hv => ?_)
    · unfold Gives
      go_simp
      refine gives_call (HC.out W) ?_
      rintro e w3 ⟨rfl, k3⟩
      exact ⟨_, rfl, k3, rfl, trivial⟩
    obtain rfl : v2 = .bool true := hv
    simp only [Act.put, List.setIfInBounds_toArray, List.set_cons_zero, List.set_cons_succ]
    iterate 1 (refine wpPar_pure rfl (by rfl) _ (fun W hW => by
        have hc1 := HCS.out W hW
        have hq := HQ.out
        go_simp
        exact rfl) ?_; simp only [Act.put, List.setIfInBounds_toArray, List.set_cons_zero, List.set_cons_succ])
    refine wpPar_pure rfl (by kernel_rfl) _ (fun W hW => by first | exact exec_load_blk _ _ rfl rfl (HBK.out W hW) aA | (have hc1 := HCS.out W hW; have hq := HQ.out; go_simp; exact rfl)) ?_; simp only [Act.put, List.setIfInBounds_toArray, List.set_cons_zero, List.set_cons_succ]
    refine wpKn_adds hs rfl (by kernel_rfl) (fun W hW hd => ?_) (fun v5 hv => ?_)
    · unfold Gives
      go_simp
      refine gives_call (HM.out W) ?_
      rintro e w3 ⟨rfl, k3⟩
      exact ⟨_, rfl, k3, rfl, trivial⟩
    obtain rfl : v5 = .bool false := hv
    simp only [Act.put, List.setIfInBounds_toArray, List.set_cons_zero, List.set_cons_succ]
    iterate 2 (refine wpPar_pure rfl (by rfl) _ (fun W hW => by
        have hc1 := HCS.out W hW
        have hq := HQ.out
        go_simp
        exact rfl) ?_; simp only [Act.put, List.setIfInBounds_toArray, List.set_cons_zero, List.set_cons_succ])
    refine wpPar_skip (by kernel_rfl) ?_; simp only [Act.put, List.setIfInBounds_toArray, List.set_cons_zero, List.set_cons_succ]
    refine wpPar_skip (by kernel_rfl) ?_; simp only [Act.put, List.setIfInBounds_toArray, List.set_cons_zero, List.set_cons_succ]
    refine wpPar_skip (by kernel_rfl) ?_; simp only [Act.put, List.setIfInBounds_toArray, List.set_cons_zero, List.set_cons_succ]
    refine wpPar_skip (by kernel_rfl) ?_; simp only [Act.put, List.setIfInBounds_toArray, List.set_cons_zero, List.set_cons_succ]
    iterate 2 (refine wpPar_pure rfl (by rfl) _ (fun W hW => by
        have hc1 := HCS.out W hW
        have hq := HQ.out
        go_simp
        exact rfl) ?_; simp only [Act.put, List.setIfInBounds_toArray, List.set_cons_zero, List.set_cons_succ])
    refine wpPar_nil (fun W hW hG => ?_)
    have hk := hid (Kept.trans k0 hW)
    clear hG hs hW
    go_wp2
    go_ret
    exact ⟨by simp, hk.out⟩
  | true =>
    have hs : Steady [.val 2 (.bool true), .val 5 (.bool true), .val 10 (.agg O)] := Go.Pm.Steady.val (Go.Pm.Steady.val (Go.Pm.Steady.val (Go.Pm.Steady.nil)))
    refine wp_region_kn w0 _ hs (Kept.refl _ _) (by kernel_rfl) (by kernel_rfl) (by kernel_rfl) ?_
    iterate 1 (refine wpPar_pure rfl (by rfl) _ (fun W hW => by
        have hc1 := HCS.out W hW
        have hq := HQ.out
        go_simp
        exact rfl) ?_; simp only [Act.put, List.setIfInBounds_toArray, List.set_cons_zero, List.set_cons_succ])
    refine wpPar_pure rfl (by rfl) _ (fun W hW => by first | exact exec_load_blk _ _ rfl rfl (HBK.out W hW) aA | (have hc1 := HCS.out W hW; have hq := HQ.out; go_simp; exact rfl)) ?_; simp only [Act.put, List.setIfInBounds_toArray, List.set_cons_zero, List.set_cons_succ]
    refine wpKn_adds hs rfl (by rfl) (fun W hW hd => ?_) (fun v2 hv => ?_)
    · unfold Gives
      go_simp
      refine gives_call (HC.out W) ?_
      rintro e w3 ⟨rfl, k3⟩
      exact ⟨_, rfl, k3, rfl, trivial⟩
    obtain rfl : v2 = .bool true := hv
    simp only [Act.put, List.setIfInBounds_toArray, List.set_cons_zero, List.set_cons_succ]
    iterate 1 (refine wpPar_pure rfl (by rfl) _ (fun W hW => by
        have hc1 := HCS.out W hW
        have hq := HQ.out
        go_simp
        exact rfl) ?_; simp only [Act.put, List.setIfInBounds_toArray, List.set_cons_zero, List.set_cons_succ])
    refine wpPar_pure rfl (by kernel_rfl) _ (fun W hW => by first | exact exec_load_blk _ _ rfl rfl (HBK.out W hW) aA | (have hc1 := HCS.out W hW; have hq := HQ.out; go_simp; exact rfl)) ?_; simp only [Act.put, List.setIfInBounds_toArray, List.set_cons_zero, List.set_cons_succ]
    refine wpKn_adds hs rfl (by kernel_rfl) (fun W hW hd => ?_) (fun v5 hv => ?_)
    · unfold Gives
      go_simp
      refine gives_call (HM.out W) ?_
      rintro e w3 ⟨rfl, k3⟩
      exact ⟨_, rfl, k3, rfl, trivial⟩
    obtain rfl : v5 = .bool true := hv
    simp only [Act.put, List.setIfInBounds_toArray, List.set_cons_zero, List.set_cons_succ]
    iterate 2 (refine wpPar_pure rfl (by rfl) _ (fun W hW => by
        have hc1 := HCS.out W hW
        have hq := HQ.out
        go_simp
        exact rfl) ?_; simp only [Act.put, List.setIfInBounds_toArray, List.set_cons_zero, List.set_cons_succ])
    refine wpPar_pure rfl (by kernel_rfl) _ (fun W hW => by first | exact exec_load_blk _ _ rfl rfl (HBK.out W hW) aA | (have hc1 := HCS.out W hW; have hq := HQ.out; go_simp; exact rfl)) ?_; simp only [Act.put, List.setIfInBounds_toArray, List.set_cons_zero, List.set_cons_succ]
    refine wpPar_pure rfl (by kernel_rfl) _ (fun W hW => by first | exact exec_load_blk _ _ rfl rfl (HBK.out W hW) aA | (have hc1 := HCS.out W hW; have hq := HQ.out; go_simp; exact rfl)) ?_; simp only [Act.put, List.setIfInBounds_toArray, List.set_cons_zero, List.set_cons_succ]
    refine wpKn_adds hs rfl (by kernel_rfl) (fun W hW hd => ?_) (fun v10 hv => ?_)
    · unfold Gives
      go_simp
      refine gives_call (HO.out W) ?_
      rintro e w3 ⟨rfl, k3⟩
      exact ⟨_, rfl, k3, rfl, trivial⟩
    obtain rfl : v10 = .agg O := hv
    simp only [Act.put, List.setIfInBounds_toArray, List.set_cons_zero, List.set_cons_succ]
    refine wpPar_pure rfl (by kernel_rfl) _ (fun W hW => by
        have hc1 := HCS.out W hW
        have hq := HQ.out
        go_simp
        exact rfl) ?_; simp only [Act.put, List.setIfInBounds_toArray, List.set_cons_zero, List.set_cons_succ]
    iterate 2 (refine wpPar_pure rfl (by rfl) _ (fun W hW => by
        have hc1 := HCS.out W hW
        have hq := HQ.out
        go_simp
        exact rfl) ?_; simp only [Act.put, List.setIfInBounds_toArray, List.set_cons_zero, List.set_cons_succ])
    refine wpPar_nil (fun W hW hG => ?_)
    have hk := hid (Kept.trans k0 hW)
    clear hG hs hW
    go_wp2
    go_ret
    exact ⟨by simp, hk.out⟩
end Jr
end Go.Proofs.Ytpbkdeljhehkdaa
namespace Go.Proofs.Ytpbkdeljhehkdaa
open Go.RowKit Go.Pm
namespace Sg
set_option maxRecDepth 100000 in
set_option maxHeartbeats 1000000 in
theorem put (r s : Nat) (w : World) (hr : r < 18446744073709551616) (hs0 : s < 18446744073709551616) :
    Calls Try.prog 72 #[sigV r s] w fun e w' => ∃ v, e = .returned v ∧ Kept None w w' ∧ Ob w' w.heap.size v (sigB r s) := by
  go_enter Try.func72, Try.ntmps72
  go_wp2_with fail
  obtain ⟨w1, hw1⟩ : ∃ w1, w1 = w.alloc (.cells #[.int .u64 (r : Int), .int .u64 (s : Int)] 24) := ⟨_, rfl⟩
  have hB := Blk.new w #[.int .u64 (r : Int), .int .u64 (s : Int)] 24
  have k0 : Kept None w (w.alloc (.cells #[.int .u64 (r : Int), .int .u64 (s : Int)] 24)) := (Kept.refl _ _).alloc _
  rw [← hw1] at hB k0 ⊢
  clear hw1
  have hc0 : ∀ W, Kept None w1 W → W.cell? ⟨w.heap.size, 0, none⟩ = some (.int .u64 (r : Int)) := fun W hW => (hB.kept hW (fun h => h)).cell 0
  have hc1 : ∀ W, Kept None w1 W → W.cell? ⟨w.heap.size, 1, none⟩ = some (.int .u64 (s : Int)) := fun W hW => (hB.kept hW (fun h => h)).cell 1
  clear hB
  have hs : Steady [.bytes 2 (leB r), .bytes 5 (leB s), .lists 6 ([leB r, leB s]) [2, 5], .own 5 7 (w1.heap.size) (sigB r s) [6]] := Steady.bytes (Steady.bytes (Steady.lists (Steady.own (Steady.nil))))
  refine wp_region_kn w1 _ hs (Kept.refl _ _) (by kernel_rfl) (by kernel_rfl) (by kernel_rfl) ?_
  iterate 2 (refine wpPar_pure rfl (by rfl) _ (fun W hW => by
      have c0 := hc0 W hW
      have c1 := hc1 W hW
      go_simp
      exact rfl) ?_; simp only [Act.put, List.setIfInBounds_toArray, List.set_cons_zero, List.set_cons_succ])
  refine wpKn_adds hs rfl (by rfl) (fun W hW hd => ?_) (fun v2 hv => ?_)
  · unfold Gives
    go_simp
    refine gives_call (Bin.num r W (by omega) (by omega)) ?_
    rintro e w3 ⟨u, rfl, k3, b3⟩
    exact ⟨_, rfl, k3, b3.form, _, _, b3.bs (Nat.le_refl _)⟩
  obtain ⟨a2, c2, rfl⟩ := hv
  simp only [Act.put, List.setIfInBounds_toArray, List.set_cons_zero, List.set_cons_succ]
  iterate 2 (refine wpPar_pure rfl (by rfl) _ (fun W hW => by
      have c0 := hc0 W hW
      have c1 := hc1 W hW
      go_simp
      exact rfl) ?_; simp only [Act.put, List.setIfInBounds_toArray, List.set_cons_zero, List.set_cons_succ])
  refine wpKn_adds hs rfl (by rfl) (fun W hW hd => ?_) (fun v5 hv => ?_)
  · unfold Gives
    go_simp
    refine gives_call (Bin.num s W (by omega) (by omega)) ?_
    rintro e w3 ⟨u, rfl, k3, b3⟩
    exact ⟨_, rfl, k3, b3.form, _, _, b3.bs (Nat.le_refl _)⟩
  obtain ⟨a5, c5, rfl⟩ := hv
  simp only [Act.put, List.setIfInBounds_toArray, List.set_cons_zero, List.set_cons_succ]
  refine wpKn_adds hs rfl (by rfl) (fun W hW hd => ?_) (fun v6 hv => ?_)
  · unfold Gives
    obtain ⟨lo1, hi1, h1⟩ : ∃ lo hi, Bs W lo hi (.slice a2 (leB r).length c2) (leB r) := hd 2 (List.Mem.head _)
    obtain ⟨lo2, hi2, h2⟩ : ∃ lo hi, Bs W lo hi (.slice a5 (leB s).length c5) (leB s) := hd 5 (List.Mem.tail _ (List.Mem.head _))
    go_simp
    exact ⟨(Kept.refl None W).alloc _, ⟨_, _, rfl⟩, _, _, _, _, Bss.new W #[.slice a2 (leB r).length c2, .slice a5 (leB s).length c5] 29 [leB r, leB s] 2 rfl (by decide) ⟨h1.all, h2.all, trivial⟩⟩
  obtain ⟨a6, c6, rfl⟩ := hv
  simp only [Act.put, List.setIfInBounds_toArray, List.set_cons_zero, List.set_cons_succ]
  refine wpKn_adds hs rfl (by rfl) (fun W hW hd => ?_) (fun v7 hv => ?_)
  · unfold Gives
    obtain ⟨lo1, hi1, lo2, hi2, h1⟩ : ∃ lo hi lo' hi', Bss W lo hi lo' hi' (.slice a6 [leB r, leB s].length c6) [leB r, leB s] := hd 6 (List.Mem.head _)
    go_simp
    refine gives_call (Bin.join _ _ _ _ _ _ W h1 (by simp [total, leB_length])) ?_
    rintro e w3 ⟨u, rfl, k3, b3⟩
    have b4 := b3.base hW.size
    rw [show [leB (r : Int), leB (s : Int)].flatten = sigB r s by simp [sigB]] at b4
    exact ⟨_, rfl, k3, b4.form, b4⟩
  obtain ⟨a7, c7, rfl⟩ := hv
  simp only [Act.put, List.setIfInBounds_toArray, List.set_cons_zero, List.set_cons_succ]
  iterate 1 (refine wpPar_pure rfl (by rfl) _ (fun W hW => by
      go_simp
      exact rfl) ?_; simp only [Act.put, List.setIfInBounds_toArray, List.set_cons_zero, List.set_cons_succ])
  refine wpPar_nil (fun W hW hG => ?_)
  have hb : Ob W w1.heap.size (.slice a7 (sigB r s).length c7) (sigB r s) := hG 7
  have hb1 := hb.base k0.size
  have k01 := k0.then hW (fun _ _ h => h)
  clear hG hb hc0 hc1 hs k0 hW
  go_wp2
  go_ret
  exact ⟨_, rfl, k01, hb1⟩
end Sg
end Go.Proofs.Ytpbkdeljhehkdaa
namespace Go.Proofs.Ytpbkdeljhehkdaa
open Go.RowKit Go.Pm
namespace Up
theorem put_flat (n : ByteArray) (v c : Int) (k r s : Nat) : [lumpB (strB n), leB (U6 v), leB (k : Int), leB (U6 c), leB (r : Int) ++ leB (s : Int)].flatten = putB n v k c r s := by simp [putB, fieldsB]

set_option maxRecDepth 100000 in
set_option maxHeartbeats 4000000 in
/-- update.Put. -/
theorem put (n : ByteArray) (v c : Int) (k r s : Nat) (w : World) (hr : r < 18446744073709551616) (hs : s < 18446744073709551616) :
    Calls Try.prog 48 #[updV n v k c r s] w fun e w' => ∃ u, e = .returned (.tuple #[u, .int .i64 (putE n.size v k c)]) ∧ Kept None w w' ∧ Ob w' w.heap.size u (putL n v k c r s) := by
  have hq := fun w => right n v c k r s w
  have hB0 := Blk.new w #[.string n, .int .i64 v, .int .u64 (k : Int), .int .i64 c, .int .u64 (r : Int), .int .u64 (s : Int)] 26
  have k0 : Kept None w (w.alloc (.cells #[.string n, .int .i64 v, .int .u64 (k : Int), .int .i64 c, .int .u64 (r : Int), .int .u64 (s : Int)] 26)) := (Kept.refl _ _).alloc _
  cases hb : rightB n.size v k c with
  | false =>
    rw [hb] at hq
    have e1 : putE n.size v k c = 23 := by unfold putE; rw [hb]; rfl
    have e2 : putL n v k c r s = [] := by unfold putL; rw [hb]; rfl
    rw [e1, e2]
    have H := hid hq
    clear hq hb e1 e2
    go_enter Try.func48, Try.ntmps48
    go_wp2_with (first | (refine wpList_load_blk rfl _ _ rfl rfl hB0 aUpd ?_) | fail)
    refine (H.out _).mono ?_
    rintro e w1 ⟨rfl, k1⟩
    have k01 := k0.trans k1
    go_wp2
    go_ret2
    exact ⟨_, rfl, k01, Bo.nil _ _ _⟩
  | true =>
    have e1 : putE n.size v k c = 0 := by unfold putE; rw [hb]; rfl
    have e2 : putL n v k c r s = putB n v k c r s := by unfold putL; rw [hb]; rfl
    have hh := (rightB_iff _ _ _ _).1 hb
    have hk : k < 18446744073709551616 := Nat.lt_trans hh.1.2.2.2.2.2 (by decide)
    have hn : n.size ≤ 32 := hh.1.2.1
    rw [e1, e2]
    rw [hb] at hq
    have hg := fun w => Sg.put r s w hr hs
    have hsn := strB_len n
    have hw1 : IntKind.u64.wrap v = U6 v := by rw [IntKind.wrap_u64]
    have hw2 : IntKind.u64.wrap c = U6 c := by rw [IntKind.wrap_u64]
    have hf := put_flat n v c k r s
    have HV0 := And.intro (U6_ge v) (And.intro (U6_lt v) (And.intro (U6_ge c) (And.intro (U6_lt c) hk)))
    have hG2 : (leB (r : Int) ++ leB (s : Int)).length = 16 := rfl
    obtain ⟨V, hV⟩ : ∃ V, V = U6 v := ⟨_, rfl⟩
    obtain ⟨C, hC⟩ : ∃ C, C = U6 c := ⟨_, rfl⟩
    rw [← hV] at hw1 hf HV0
    rw [← hC] at hw2 hf HV0
    rw [show Sg.sigB r s = leB r ++ leB s from rfl] at hg
    obtain ⟨G, hGG⟩ : ∃ G, G = leB (r : Int) ++ leB (s : Int) := ⟨_, rfl⟩
    rw [← hGG] at hg hf hG2
    obtain ⟨T, hTT⟩ : ∃ T, T = putB n v k c r s := ⟨_, rfl⟩
    rw [← hTT] at hf ⊢
    obtain ⟨L, hL⟩ : ∃ L, L = lumpB (strB n) := ⟨_, rfl⟩
    have hLl : L.length ≤ 40 ∧ G.length = 16 := ⟨by rw [hL, lumpB_len, hsn]; omega, hG2⟩
    have hj : ∀ v lo hi W, Bs W lo hi v (strB n) → Calls Try.prog 71 #[v] W fun en w' => ∃ v', en = .returned v' ∧ Kept None W w' ∧ Ob w' W.heap.size v' L := by
      intro v lo hi W h
      rw [hL]
      exact Bin.lump v lo hi (strB n) W h (by omega)
    rw [← hL] at hf
    have HJ := hid hj
    have HT := hid hf
    have HV := hid HV0
    have HQ := hid hq
    have HG := hid hg
    have HL := hid hLl
    have HN := hid hn
    clear hj hf HV0 hq hg hLl hL hTT hGG hC hV hG2 hh hb e1 e2 hn hk hr hs
    go_enter Try.func48, Try.ntmps48
    go_wp2_with (first | (refine wpList_load_blk rfl _ _ rfl rfl hB0 aUpd ?_) | fail)
    refine (HQ.out _).mono ?_
    rintro e w1 ⟨rfl, k1⟩
    have k01 := k0.trans k1
    have hB1 := hB0.kept k1 (fun h => h)
    have c0 : w1.cell? ⟨w.heap.size, 0, none⟩ = some (.string n) := hB1.cell 0
    clear k0 k1 hB0
    go_wp2_with (first | (refine wpList_bytes rfl 9 29 5 _ rfl tString tBytes' tByte rfl (by have := HN.out; omega) ?_; intro gB cB w2 hgB kB bB) | fail)
    refine (HJ.out _ _ _ _ bB).mono ?_
    rintro e w3 ⟨u, rfl, k3, b3⟩
    have kk := kB.trans k3
    have hB3 := hB1.kept kk (fun h => h)
    have k03 := k01.trans kk
    have hbL := b3.bs (Nat.le_refl _)
    obtain ⟨aL, cL, rfl⟩ := b3.form
    clear hB1 k01 kB bB k3 kk b3 c0
    obtain ⟨w2, rfl⟩ : ∃ w2, w2 = w3 := ⟨_, rfl⟩
    go_wp2_with fail
    have hc0 : ∀ W, Kept None w2 W → W.cell? ⟨w.heap.size, 0, none⟩ = some (.string n) := fun W hW => (hB3.kept hW (fun h => h)).cell 0
    have hc1 : ∀ W, Kept None w2 W → W.cell? ⟨w.heap.size, 1, none⟩ = some (.int .i64 v) := fun W hW => (hB3.kept hW (fun h => h)).cell 1
    have hc2 : ∀ W, Kept None w2 W → W.cell? ⟨w.heap.size, 2, none⟩ = some (.int .u64 (k : Int)) := fun W hW => (hB3.kept hW (fun h => h)).cell 2
    have hc3 : ∀ W, Kept None w2 W → W.cell? ⟨w.heap.size, 3, none⟩ = some (.int .i64 c) := fun W hW => (hB3.kept hW (fun h => h)).cell 3
    have hc4 : ∀ W, Kept None w2 W → W.cell? ⟨w.heap.size, 4, none⟩ = some (.int .u64 (r : Int)) := fun W hW => (hB3.kept hW (fun h => h)).cell 4
    have hc5 : ∀ W, Kept None w2 W → W.cell? ⟨w.heap.size, 5, none⟩ = some (.int .u64 (s : Int)) := fun W hW => (hB3.kept hW (fun h => h)).cell 5
    clear hB3
    have hs : Steady [.bytes 4 (leB V), .bytes 7 (leB k), .bytes 11 (leB C), .bytes 14 (G), .lists 15 ([L, leB V, leB k, leB C, G]) [4, 7, 11, 14], .own 5 16 (w2.heap.size) (T) [15]] := Steady.bytes (Steady.bytes (Steady.bytes (Steady.bytes (Steady.lists (Steady.own (Steady.nil))))))
    refine wp_region_kn w2 _ hs (Kept.refl _ _) (by kernel_rfl) (by kernel_rfl) (by kernel_rfl) ?_
    iterate 4 (refine wpPar_pure rfl (by rfl) _ (fun W hW => by
        have c1 := hc1 W hW
        have c2 := hc2 W hW
        have c3 := hc3 W hW
        have c4 := hc4 W hW
        have c5 := hc5 W hW
        go_simp
        exact rfl) ?_; simp only [Act.put, List.setIfInBounds_toArray, List.set_cons_zero, List.set_cons_succ])
    refine wpKn_adds hs rfl (by rfl) (fun W hW hd => ?_) (fun v4 hv => ?_)
    · unfold Gives
      go_simp
      refine gives_call (Bin.num V W HV.out.1 HV.out.2.1) ?_
      rintro e w3 ⟨u, rfl, k3, b3⟩
      exact ⟨_, rfl, k3, b3.form, _, _, b3.bs (Nat.le_refl _)⟩
    obtain ⟨a4, c4, rfl⟩ : ∃ a c, v4 = .slice a 8 c := hv
    simp only [Act.put, List.setIfInBounds_toArray, List.set_cons_zero, List.set_cons_succ]
    iterate 2 (refine wpPar_pure rfl (by rfl) _ (fun W hW => by
        have c1 := hc1 W hW
        have c2 := hc2 W hW
        have c3 := hc3 W hW
        have c4 := hc4 W hW
        have c5 := hc5 W hW
        go_simp
        exact rfl) ?_; simp only [Act.put, List.setIfInBounds_toArray, List.set_cons_zero, List.set_cons_succ])
    refine wpKn_adds hs rfl (by rfl) (fun W hW hd => ?_) (fun v7 hv => ?_)
    · unfold Gives
      go_simp
      refine gives_call (Bin.num k W (by omega) (by have := HV.out; omega)) ?_
      rintro e w3 ⟨u, rfl, k3, b3⟩
      exact ⟨_, rfl, k3, b3.form, _, _, b3.bs (Nat.le_refl _)⟩
    obtain ⟨a7, c7, rfl⟩ : ∃ a c, v7 = .slice a 8 c := hv
    simp only [Act.put, List.setIfInBounds_toArray, List.set_cons_zero, List.set_cons_succ]
    iterate 3 (refine wpPar_pure rfl (by rfl) _ (fun W hW => by
        have c1 := hc1 W hW
        have c2 := hc2 W hW
        have c3 := hc3 W hW
        have c4 := hc4 W hW
        have c5 := hc5 W hW
        go_simp
        exact rfl) ?_; simp only [Act.put, List.setIfInBounds_toArray, List.set_cons_zero, List.set_cons_succ])
    refine wpKn_adds hs rfl (by rfl) (fun W hW hd => ?_) (fun v11 hv => ?_)
    · unfold Gives
      go_simp
      refine gives_call (Bin.num C W HV.out.2.2.1 HV.out.2.2.2.1) ?_
      rintro e w3 ⟨u, rfl, k3, b3⟩
      exact ⟨_, rfl, k3, b3.form, _, _, b3.bs (Nat.le_refl _)⟩
    obtain ⟨a11, c11, rfl⟩ : ∃ a c, v11 = .slice a 8 c := hv
    simp only [Act.put, List.setIfInBounds_toArray, List.set_cons_zero, List.set_cons_succ]
    iterate 2 (refine wpPar_pure rfl (by rfl) _ (fun W hW => by
        have c1 := hc1 W hW
        have c2 := hc2 W hW
        have c3 := hc3 W hW
        have c4 := hc4 W hW
        have c5 := hc5 W hW
        go_simp
        exact rfl) ?_; simp only [Act.put, List.setIfInBounds_toArray, List.set_cons_zero, List.set_cons_succ])
    refine wpKn_adds hs rfl (by rfl) (fun W hW hd => ?_) (fun v14 hv => ?_)
    · unfold Gives
      go_simp
      refine gives_call (HG.out W) ?_
      rintro e w3 ⟨u, rfl, k3, b3⟩
      exact ⟨_, rfl, k3, b3.form, _, _, b3.bs (Nat.le_refl _)⟩
    obtain ⟨a14, c14, rfl⟩ : ∃ a c, v14 = .slice a G.length c := hv
    simp only [Act.put, List.setIfInBounds_toArray, List.set_cons_zero, List.set_cons_succ]
    refine wpKn_adds hs rfl (by rfl) (fun W hW hd => ?_) (fun v15 hv => ?_)
    · unfold Gives
      have h0 := hbL.kept hW (fun _ _ _ h => h)
      obtain ⟨lo2, hi2, h2⟩ : ∃ lo hi, Bs W lo hi (.slice a4 8 c4) (leB V) := hd 4 (List.Mem.head _)
      obtain ⟨lo3, hi3, h3⟩ : ∃ lo hi, Bs W lo hi (.slice a7 8 c7) (leB k) := hd 7 (List.Mem.tail _ (List.Mem.head _))
      obtain ⟨lo4, hi4, h4⟩ : ∃ lo hi, Bs W lo hi (.slice a11 8 c11) (leB C) := hd 11 (List.Mem.tail _ (List.Mem.tail _ (List.Mem.head _)))
      obtain ⟨lo5, hi5, h5⟩ : ∃ lo hi, Bs W lo hi (.slice a14 G.length c14) G := hd 14 (List.Mem.tail _ (List.Mem.tail _ (List.Mem.tail _ (List.Mem.head _))))
      go_simp
      exact ⟨(Kept.refl None W).alloc _, ⟨_, _, rfl⟩, _, _, _, _, Bss.new W #[.slice aL L.length cL, .slice a4 8 c4, .slice a7 8 c7, .slice a11 8 c11, .slice a14 G.length c14] 29 [L, leB V, leB k, leB C, G] 5 rfl (by decide) ⟨h0.all, h2.all, h3.all, h4.all, h5.all, trivial⟩⟩
    obtain ⟨a15, c15, rfl⟩ : ∃ a c, v15 = .slice a 5 c := hv
    simp only [Act.put, List.setIfInBounds_toArray, List.set_cons_zero, List.set_cons_succ]
    refine wpKn_adds hs rfl (by rfl) (fun W hW hd => ?_) (fun v16 hv => ?_)
    · unfold Gives
      obtain ⟨lo1, hi1, lo2, hi2, h1⟩ : ∃ lo hi lo' hi', Bss W lo hi lo' hi' (.slice a15 5 c15) [L, leB V, leB k, leB C, G] := hd 15 (List.Mem.head _)
      go_simp
      refine gives_call (Bin.join _ _ _ _ _ _ W h1 (by have := HL.out; simp [total, leB_length]; omega)) ?_
      rintro e w3 ⟨u, rfl, k3, b3⟩
      have b4 := b3.base hW.size
      rw [HT.out] at b4
      exact ⟨_, rfl, k3, b4.form, b4⟩
    obtain ⟨a16, c16, rfl⟩ : ∃ a c, v16 = .slice a T.length c := hv
    simp only [Act.put, List.setIfInBounds_toArray, List.set_cons_zero, List.set_cons_succ]
    iterate 2 (refine wpPar_pure rfl (by rfl) _ (fun W hW => by
        go_simp
        exact rfl) ?_; simp only [Act.put, List.setIfInBounds_toArray, List.set_cons_zero, List.set_cons_succ])
    refine wpPar_nil (fun W hW hG => ?_)
    have hb : Ob W w2.heap.size (.slice a16 T.length c16) T := hG 16
    have hb1 := hb.base k03.size
    have k04 := k03.then hW (fun _ _ h => h)
    clear hG hb hc0 hc1 hc2 hc3 hc4 hc5 hs k03 hW hbL
    go_wp2
    go_ret2
    exact ⟨_, rfl, k04, hb1⟩
end Up
end Go.Proofs.Ytpbkdeljhehkdaa
namespace Go.Proofs.Ytpbkdeljhehkdaa
open Go.RowKit Go.Pm
namespace Fm
set_option maxRecDepth 100000 in
set_option maxHeartbeats 2000000 in
theorem sum (k s : Int) (v : Value) (lo hi : Nat) (b : List UInt8) (w : World) (hv : Bs w lo hi v b) (k0 : 0 ≤ k) (k1 : k < 256) (s0 : 0 ≤ s) (s1 : s < 9223372036854775808) (hl : b.length ≤ 1099511627000) :
    Calls Try.prog 47 #[.int .u8 k, .int .u64 s, v] w fun e w' => ∃ a c, e = .returned (.slice a 8 c) ∧ Kept None w w' ∧ Bs w' w.heap.size w'.heap.size (.slice a 8 c) (markF k s b) := by
  obtain ⟨av, cv, rfl, _⟩ := hv.shape
  have hn := fun W => Bin.num s W s0 (by omega)
  have ht := fun W lo hi lo' hi' u h => Sp.tag 102 u lo hi lo' hi' [[Go.Pm.byteOf k], leB s, b] W (by decide) (by decide) h (by simp) (by simp [total, leB_length]; omega)
  have HN := hid hn
  have HT := hid ht
  have HV := hid hv.all
  have HK := hid (And.intro k0 k1)
  obtain ⟨H, hH⟩ : ∃ H, H = sumB (textB 102 [[Go.Pm.byteOf k], leB s, b]) := ⟨_, rfl⟩
  have h32 : H.length = 32 := by rw [hH]; exact sumB_len _
  have hM : markF k s b = H.take 8 := by rw [hH]; rfl
  obtain ⟨HA, hHA⟩ : ∃ A : Array Value, A = (H.map u8v).toArray := ⟨_, rfl⟩
  have aH : AggTy Try.prog 110 HA.size := by rw [hHA, show (H.map u8v).toArray.size = 32 by simpa using h32]; exact Sp.aH
  have HH := hid (And.intro hH (And.intro h32 (And.intro hM hHA)))
  clear hn ht hv k0 k1 s0 s1 hl hH h32 hM hHA
  go_enter Try.func47, Try.ntmps47
  go_wp2_with fail
  refine (HN.out _).mono ?_
  rintro e w2 ⟨v2, rfl, k2, b2⟩
  obtain ⟨a2, c2, rfl⟩ := b2.form
  have kx : Kept None w w2 := ((Kept.refl None w).alloc (.cells #[.int .u8 k] 5)).trans k2
  have hk1 : Bs w2 0 w2.heap.size (.slice (some ⟨w.heap.size, 0, none⟩) 1 1) [Go.Pm.byteOf k] := by
    have h0 : Bs (w.alloc (.cells #[.int .u8 k] 5)) w.heap.size (w.heap.size + 1) (.slice (some ⟨w.heap.size, 0, none⟩) 1 1) [Go.Pm.byteOf k] :=
      Bs.newMark w #[.int .u8 k] 5 (0, 0) 1 rfl (by decide) [Go.Pm.byteOf k] (by simp [u8v_byteOf' HK.out.1 HK.out.2])
    exact (h0.kept k2 (fun _ _ _ h => h)).all
  have hbs := Bss.new w2 #[.slice (some ⟨w.heap.size, 0, none⟩) 1 1, .slice a2 (leB s).length c2, .slice av b.length cv] 29 [[Go.Pm.byteOf k], leB s, b] 3 rfl (by decide) ⟨hk1, (b2.bs (Nat.le_refl _)).all, (HV.out.kept kx (fun _ _ _ h => h)).all, trivial⟩
  have HB := hid hbs
  have k3 : Kept None w (w2.alloc (.cells #[.slice (some ⟨w.heap.size, 0, none⟩) 1 1, .slice a2 (leB s).length c2, .slice av b.length cv] 29)) := kx.alloc _
  have K3 := hid k3
  clear hbs hk1 kx k2 b2 k3
  go_wp2_with fail
  refine (HT.out _ _ _ _ _ _ HB.out).mono ?_
  rintro e w4 ⟨rfl, k4⟩
  have K4 := hid (K3.out.trans k4)
  rw [← HH.out.1]
  show _
  unfold hashV
  rw [← HH.out.2.2.2]
  have z1 : Blk (w4.alloc (.cells #[.int .u8 0, .int .u8 0, .int .u8 0, .int .u8 0, .int .u8 0, .int .u8 0, .int .u8 0, .int .u8 0, .int .u8 0, .int .u8 0, .int .u8 0, .int .u8 0, .int .u8 0, .int .u8 0, .int .u8 0, .int .u8 0, .int .u8 0, .int .u8 0, .int .u8 0, .int .u8 0, .int .u8 0, .int .u8 0, .int .u8 0, .int .u8 0, .int .u8 0, .int .u8 0, .int .u8 0, .int .u8 0, .int .u8 0, .int .u8 0, .int .u8 0, .int .u8 0] 110)) w4.heap.size #[.int .u8 0, .int .u8 0, .int .u8 0, .int .u8 0, .int .u8 0, .int .u8 0, .int .u8 0, .int .u8 0, .int .u8 0, .int .u8 0, .int .u8 0, .int .u8 0, .int .u8 0, .int .u8 0, .int .u8 0, .int .u8 0, .int .u8 0, .int .u8 0, .int .u8 0, .int .u8 0, .int .u8 0, .int .u8 0, .int .u8 0, .int .u8 0, .int .u8 0, .int .u8 0, .int .u8 0, .int .u8 0, .int .u8 0, .int .u8 0, .int .u8 0, .int .u8 0] 110 := Blk.new _ _ _
  obtain ⟨z, hz, hZ⟩ := Blk.any (n := 32) z1 (by rfl)
  have hsz : HA.size = 32 := by rw [HH.out.2.2.2]; simpa using HH.out.2.1
  have hal : HA.all (·.oneCell') = true := by rw [HH.out.2.2.2]; exact u8v_all' _
  have E := hid (And.intro (hz.trans hsz.symm) hal)
  have kz : Kept None w (w4.alloc (.cells #[.int .u8 0, .int .u8 0, .int .u8 0, .int .u8 0, .int .u8 0, .int .u8 0, .int .u8 0, .int .u8 0, .int .u8 0, .int .u8 0, .int .u8 0, .int .u8 0, .int .u8 0, .int .u8 0, .int .u8 0, .int .u8 0, .int .u8 0, .int .u8 0, .int .u8 0, .int .u8 0, .int .u8 0, .int .u8 0, .int .u8 0, .int .u8 0, .int .u8 0, .int .u8 0, .int .u8 0, .int .u8 0, .int .u8 0, .int .u8 0, .int .u8 0, .int .u8 0] 110)) := K4.out.alloc _
  have KZ := hid kz
  have h4 := K4.out.size
  have H4 := hid h4
  clear k4 z1 hz hsz hal kz h4
  go_wp2_with (first | (refine wpList_store_blk rfl _ _ _ rfl rfl rfl hZ aH E.out.1 E.out.2 ?_; intro w9 hR9 k9) | fail)
  go_ret
  refine ⟨_, _, rfl, KZ.out.then k9 (fun i hi e => by have e : i = w4.heap.size := e; have := H4.out; omega), ?_⟩
  rw [HH.out.2.2.1]
  have hlt := hR9.lt
  refine ⟨some ⟨w4.heap.size, 0, none⟩, 32, by simp [HH.out.2.1], by simp [HH.out.2.1], by decide, (fun h => by cases h), fun ad had i x hx => ?_⟩
  obtain rfl := Option.some.inj had
  have hi : i < 8 := by
    have := (List.getElem?_eq_some_iff.1 hx).1
    simp [HH.out.2.1] at this
    omega
  refine ⟨H4.out, hlt, ?_⟩
  have ea : (⟨w4.heap.size, 0, none⟩ : Addr).add i = ⟨w4.heap.size, i, none⟩ := by unfold Addr.add; split <;> simp_all
  rw [ea, hR9.cell, HH.out.2.2.2]
  rw [List.map_take, List.getElem?_take_of_lt hi] at hx
  simpa using hx
end Fm
end Go.Proofs.Ytpbkdeljhehkdaa
