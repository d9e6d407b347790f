/- Package postmarkref5, Read: by contract, over the same plain functions as update.Read. -/
import Derived.Test.YtbckjkfdkgomiaaUpdD5
import Derived.Test.YtbckjkfdkgomiaaRUpd5
import Derived.Test.YtbckjkfdkgomiaaRefBin
import Derived.Test.YtbckjkfdkgomiaaTail5
namespace Go.Proofs.Ytbckjkfdkgomiaa
open Go.RowKit Go.Pm
namespace RUp

theorem intI_le {n : Int} (h : ¬ 9223372036854775807 < n) : intI n = n := by unfold intI; rw [if_neg h]
theorem intI_gt {n : Int} (h : 9223372036854775807 < n) : intI n = -1 := by unfold intI; rw [if_pos h]
set_option maxRecDepth 100000 in
set_option maxHeartbeats 400000 in
/-- (*postmarkref1.Reader).Int. -/
theorem int (r : Nat) (lo hi : Nat) (s : St) (w : World) (hr : Ref.Rd w lo hi r s) (hlo : hi ≤ r) :
    Calls Try.prog 46 #[.pointer (some ⟨r, 0, none⟩)] w fun en w' => en = .returned (.int .i64 (intI s.num)) ∧ Kept (Just r) w w' ∧ Ref.Rd w' lo hi r s.numS := by
  have j := fun w h => Ref.rnum r lo hi s w h hlo
  have n0 := St.num_ge s
  have n1 := St.num_lt s
  obtain ⟨x, hx⟩ : ∃ x, x = s.num := ⟨_, rfl⟩
  rw [← hx] at j n0 n1 ⊢
  obtain ⟨s', hs'⟩ : ∃ s', s' = s.numS := ⟨_, rfl⟩
  rw [← hs'] at j ⊢
  have J := hid j
  clear j hx hs'
  by_cases h : 9223372036854775807 < x
  · rw [intI_gt h]
    go_enter Try.func46, Try.ntmps46
    go_wp2_with fail
    refine (J.out _ hr).mono ?_
    rintro e w1 ⟨rfl, k1, r1⟩
    go_wp2
    go_ret
    exact ⟨rfl, k1, r1⟩
  · rw [intI_le h]
    go_enter Try.func46, Try.ntmps46
    go_wp2_with fail
    refine (J.out _ hr).mono ?_
    rintro e w1 ⟨rfl, k1, r1⟩
    go_wp2
    go_ret
    exact ⟨rfl, k1, r1⟩

set_option maxRecDepth 100000 in
set_option maxHeartbeats 4000000 in
/-- postmarkref5.Of. -/
theorem of (rr lo hi : Nat) (l : List UInt8) (w : World) (hr : Ref.Rd w lo hi rr ⟨l, 0⟩) (hlo : hi ≤ rr) :
    Calls Try.prog 45 #[.pointer (some ⟨rr, 0, none⟩)] w fun e w' => e = .returned (entV ⟨(rdN l).toArray⟩ (intI (rd1 l).num) (rd2 l).nat) ∧ Kept (Just rr) w w' ∧ Ref.Rd w' lo hi rr (rd3 l) := by
  have j0 := fun w h => Ref.rlump rr lo hi ⟨l, 0⟩ 32 w h (by decide) (by decide) hlo
  have q1 := fun w h => int rr lo hi (rd1 l) w h hlo
  have q2 := fun w h => Ref.rnum rr lo hi (rd2 l) w h hlo
  rw [← St.nat_eq] at q2
  rw [show St.lump ⟨l, 0⟩ 32 = rdN l from rfl, show St.lumpS ⟨l, 0⟩ 32 = rd1 l from rfl] at j0
  rw [show (rd1 l).numS = rd2 l from rfl] at q1
  rw [show (rd2 l).numS = rd3 l from rfl] at q2
  obtain ⟨N, hN⟩ : ∃ N, N = rdN l := ⟨_, rfl⟩
  obtain ⟨V, hV⟩ : ∃ V, V = intI (rd1 l).num := ⟨_, rfl⟩
  obtain ⟨K, hK⟩ : ∃ K, K = (rd2 l).nat := ⟨_, rfl⟩
  rw [← hN, ← hV, ← hK]
  rw [← hN] at j0
  rw [← hV] at q1
  rw [← hK] at q2
  obtain ⟨S0, hS0⟩ : ∃ S0, S0 = (⟨l, 0⟩ : St) := ⟨_, rfl⟩
  obtain ⟨S1, hS1⟩ : ∃ S1, S1 = rd1 l := ⟨_, rfl⟩
  obtain ⟨S2, hS2⟩ : ∃ S2, S2 = rd2 l := ⟨_, rfl⟩
  obtain ⟨S3, hS3⟩ : ∃ S3, S3 = rd3 l := ⟨_, rfl⟩
  rw [← hS0] at hr j0
  rw [← hS1] at j0 q1
  rw [← hS2] at q1 q2
  rw [← hS3] at q2 ⊢
  have J := hid (And.intro j0 (And.intro q1 q2))
  clear j0 q1 q2 hN hV hK hS0 hS1 hS2 hS3
  have hlt := hr.lt
  have k0 : Kept (Just rr) w (w.alloc (.cells #[.string ⟨#[]⟩, .int .i64 0, .int .u64 0] 39)) := (Kept.refl _ _).alloc _
  have r0 := hr.kept ((Kept.refl None w).alloc (.cells #[.string ⟨#[]⟩, .int .i64 0, .int .u64 0] 39)) (fun _ _ _ h => h) (fun h => h)
  have v0 := Blk.new w #[.string ⟨#[]⟩, .int .i64 0, .int .u64 0] 39
  go_enter Try.func45, Try.ntmps45
  go_wp2_with fail
  refine (J.out.1 _ r0).mono ?_
  rintro e w1 ⟨uN, rfl, k1, bN, r1⟩
  have kk1 := k0.trans k1
  have v1 := v0.kept k1 (fun (h : w.heap.size = rr) => by omega)
  obtain ⟨aN, cN, rfl, g1, g2, g3⟩ := bN.shape
  clear g3 k0 r0 v0 k1 hr
  go_wp2_with (first | (refine wpList_text rfl 32 9 5 _ rfl tBytes' tByte tString rfl bN ?_) | fail)
  refine (J.out.2.1 _ r1).mono ?_
  rintro e w2 ⟨rfl, k2, r2⟩
  have kk2 := kk1.trans k2
  have v2 := v1.kept k2 (fun (h : w.heap.size = rr) => by omega)
  clear kk1 k2 v1 bN r1
  go_wp2_with fail
  refine (J.out.2.2 _ r2).mono ?_
  rintro e w3 ⟨rfl, k3, r3⟩
  have kk3 := kk2.trans k3
  have v3 := v2.kept k3 (fun (h : w.heap.size = rr) => by omega)
  clear kk2 k3 v2 r2
  go_wp2_with (first | (refine wpList_store_blk rfl _ _ _ rfl rfl rfl v3 Up.aEnt rfl (Up.ent_all _ _ _) ?_; intro w7 hR7 k7) | fail)
  exact bodyPost_ret (v := entV ⟨N.toArray⟩ V K) (results_blk rfl _ rfl hR7 Up.aEnt) rfl ⟨rfl, kk3.then k7 (fun i hi (h : i = w.heap.size) => by omega), r3.kept k7 (fun k _ h (e : k = w.heap.size) => by omega) (fun (e : rr = w.heap.size) => by omega)⟩

set_option maxRecDepth 100000 in
set_option maxHeartbeats 8000000 in
theorem read_long (v : Value) (lo hi : Nat) (l : List UInt8) (w : World) (hv : Bs w lo hi v l) (h : 512 < l.length) : Calls Try.prog 26 #[v] w fun e w' => e = .returned (.tuple #[(readQ l).V, .int .i64 (readE l)]) ∧ Kept None w w' := by
  rw [Up.readQ_none (Up.readE_long h) (by decide), Up.readE_long h]
  obtain ⟨a, cap, rfl, g1, g2, g3⟩ := hv.shape
  clear g3 hv
  have k0 : Kept None w (w.alloc (.cells #[.string ⟨#[]⟩, .int .i64 0, .int .u64 0, .int .i64 0, .int .u64 0, .int .u64 0] 26)) := (Kept.refl _ _).alloc _
  have u0 := Blk.new w #[.string ⟨#[]⟩, .int .i64 0, .int .u64 0, .int .i64 0, .int .u64 0, .int .u64 0] 26
  go_enter Try.func26, Try.ntmps26
  go_wp2_with (first | (refine wpList_store_blk rfl _ _ _ rfl rfl rfl u0 Up.aUpd rfl Up.zero_all ?_; intro w7 hR7 k7) | fail)
  exact bodyPost_ret (v := .tuple #[Req.none.V, .int .i64 22]) (results_blk2 rfl _ rfl rfl hR7 Up.aUpd) rfl ⟨rfl, k0.then k7 (fun i hi (h : i = w.heap.size) => by omega)⟩

theorem upd4_all (n : ByteArray) (v c : Int) (k : Nat) : (#[.string n, .int .i64 v, .int .u64 (k : Int), .int .i64 c, .int .u64 0, .int .u64 0] : Array Value).all (·.oneCell') = true := by simp [Value.oneCell']

theorem gives_store_blk {P : Program} {o : Oper} {a : Act} {w : World} {X : Value → World → Prop} (ty : TypeId) (x y : Operand) (ho : o.op = .store ty x y) {g : Nat} (hx : a.eval x = .pointer (some ⟨g, 0, none⟩)) {cs' : Array Value} (hy : a.eval y = .agg cs')
    {t : TypeId} {cs : Array Value} (hb : Blk w g cs t) (hT : AggTy P ty cs'.size) (hs : cs.size = cs'.size) (h1 : cs'.all (·.oneCell') = true) (h : ∀ w', Blk w' g cs' t → Kept (Just g) w w' → X undef w') : Gives P o a w X := by
  have hr := run_store_blk (P := P) (ty := ty) hb hT hs h1
  unfold Gives
  simp only [execOp, ho, hx, hy, Sem.run_bind, hr, Result.andThen_ok, Sem.run_pure]
  exact h _ (hb.setRow _) (Kept.row _ _ _)

set_option maxRecDepth 100000 in
set_option maxHeartbeats 16000000 in
theorem read_err (v : Value) (lo hi : Nat) (l : List UInt8) (w : World) (hv : Bs w lo hi v l) (h : ¬ 512 < l.length) (h2 : (rd6 l).e ≠ 0) : Calls Try.prog 26 #[v] w fun e w' => e = .returned (.tuple #[(readQ l).V, .int .i64 (readE l)]) ∧ Kept None w w' := by
  rw [Up.readQ_none (Up.readE_err h h2) h2, Up.readE_err h h2]
  have j0 := fun rr lo hi w hr hlo => of rr lo hi l w hr hlo
  have j1 := fun rr lo hi w hr hlo => int rr lo hi (rd3 l) w hr hlo
  have j2 := fun rr lo hi w hr hlo => Ref.rnum rr lo hi (rd4 l) w hr hlo
  have j3 := fun rr lo hi w hr hlo => Ref.rnum rr lo hi (rd5 l) w hr hlo
  have j4 := fun w => right ⟨(rdN l).toArray⟩ (intI (rd1 l).num) (intI (rd3 l).num) (rd2 l).nat (rd4 l).nat (rd5 l).nat w
  rw [← St.nat_eq] at j2 j3
  rw [show (rd3 l).numS = rd4 l from rfl] at j1
  rw [show (rd4 l).numS = rd5 l from rfl] at j2
  rw [show (rd5 l).numS = rd6 l from rfl] at j3
  obtain ⟨N, hN⟩ : ∃ N, N = rdN l := ⟨_, rfl⟩
  obtain ⟨V, hV⟩ : ∃ V, V = intI (rd1 l).num := ⟨_, rfl⟩
  obtain ⟨K, hK⟩ : ∃ K, K = (rd2 l).nat := ⟨_, rfl⟩
  obtain ⟨C, hC⟩ : ∃ C, C = intI (rd3 l).num := ⟨_, rfl⟩
  obtain ⟨R, hR⟩ : ∃ R, R = (rd4 l).nat := ⟨_, rfl⟩
  obtain ⟨S, hS⟩ : ∃ S, S = (rd5 l).nat := ⟨_, rfl⟩
  rw [← hN, ← hV, ← hK] at j0
  rw [← hC] at j1
  rw [← hR] at j2
  rw [← hS] at j3
  rw [← hN, ← hV, ← hK, ← hC, ← hR, ← hS] at j4
  obtain ⟨S0, hS0⟩ : ∃ S0, S0 = (⟨l, 0⟩ : St) := ⟨_, rfl⟩
  obtain ⟨S3, hS3⟩ : ∃ S3, S3 = rd3 l := ⟨_, rfl⟩
  obtain ⟨S4, hS4⟩ : ∃ S4, S4 = rd4 l := ⟨_, rfl⟩
  obtain ⟨S5, hS5⟩ : ∃ S5, S5 = rd5 l := ⟨_, rfl⟩
  obtain ⟨S6, hS6⟩ : ∃ S6, S6 = rd6 l := ⟨_, rfl⟩
  rw [← hS0, ← hS3] at j0
  rw [← hS3, ← hS4] at j1
  rw [← hS4, ← hS5] at j2
  rw [← hS5, ← hS6] at j3
  rw [← hS6] at h2 ⊢
  have h2b : (S6.e != 0) = true := by simpa using h2
  clear h2 hS6
  have J := hid (And.intro j0 (And.intro j1 (And.intro j2 (And.intro j3 j4))))
  have HS0 := hid hS0
  clear j0 j1 j2 j3 j4 hN hV hK hC hR hS hS0 hS3 hS4 hS5
  have hv' := Vs.lt hv
  have hhi : min hi w.heap.size ≤ w.heap.size := Nat.min_le_right _ _
  generalize min hi w.heap.size = hi' at hv' hhi
  obtain ⟨a, cap, rfl, g1, g2, g3⟩ := hv.shape
  clear g3 hv
  have hv0 : Bs w lo hi' (.slice a l.length cap) l := hv'
  clear hv'
  have hv1 := (hv0.kept ((Kept.refl None w).alloc (.cells #[.string ⟨#[]⟩, .int .i64 0, .int .u64 0, .int .i64 0, .int .u64 0, .int .u64 0] 26)) (fun _ _ _ h => h)).kept ((Kept.refl None _).alloc (.cells #[.slice a l.length cap, .int .i64 0] 74)) (fun _ _ _ h => h)
  have r1 : Ref.Rd ((w.alloc (.cells #[.string ⟨#[]⟩, .int .i64 0, .int .u64 0, .int .i64 0, .int .u64 0, .int .u64 0] 26)).alloc (.cells #[.slice a l.length cap, .int .i64 0] 74)) lo hi' (w.heap.size + 1) S0 := by
    rw [HS0.out]
    exact ⟨fun h => absurd rfl h, _, Blk.new2 w _ _ _, hv1⟩
  have k0 : Kept None w ((w.alloc (.cells #[.string ⟨#[]⟩, .int .i64 0, .int .u64 0, .int .i64 0, .int .u64 0, .int .u64 0] 26)).alloc (.cells #[.slice a l.length cap, .int .i64 0] 74)) := ((Kept.refl _ _).alloc _).alloc _
  have v0 : Blk ((w.alloc (.cells #[.string ⟨#[]⟩, .int .i64 0, .int .u64 0, .int .i64 0, .int .u64 0, .int .u64 0] 26)).alloc (.cells #[.slice a l.length cap, .int .i64 0] 74)) w.heap.size #[.string ⟨#[]⟩, .int .i64 0, .int .u64 0, .int .i64 0, .int .u64 0, .int .u64 0] 26 := (Blk.new w _ _).alloc _
  clear hv0 hv1 HS0
  go_enter Try.func26, Try.ntmps26
  go_wp2_with fail
  refine (J.out.1 _ _ _ _ r1 (by omega)).mono ?_
  rintro e w1 ⟨rfl, k1, r2⟩
  have k01 := k0.then k1 (fun i hi (h : i = w.heap.size + 1) => by omega)
  have v1 := v0.kept k1 (fun (h : w.heap.size = w.heap.size + 1) => by omega)
  clear r1 k0 v0 k1
  go_wp2_with fail
  obtain ⟨wE, hwE⟩ : ∃ wE, wE = w1.alloc (.cells #[.string ⟨N.toArray⟩, .int .i64 V, .int .u64 (K : Int)] 39) := ⟨_, rfl⟩
  have r3 := r2.kept ((Kept.refl None w1).alloc (.cells #[.string ⟨N.toArray⟩, .int .i64 V, .int .u64 (K : Int)] 39)) (fun _ _ _ h => h) (fun h => h)
  have v2 := v1.alloc (.cells #[.string ⟨N.toArray⟩, .int .i64 V, .int .u64 (K : Int)] 39)
  have k02 := k01.alloc (.cells #[.string ⟨N.toArray⟩, .int .i64 V, .int .u64 (K : Int)] 39)
  have bE := Blk.new w1 #[.string ⟨N.toArray⟩, .int .i64 V, .int .u64 (K : Int)] 39
  have hrl := r2.lt
  rw [← hwE] at r3 v2 k02 bE ⊢
  clear hwE r2 v1 k01
  have hEl := bE.lt
  have hc0 : ∀ W, Kept (Just (w.heap.size + 1)) wE W → W.cell? ⟨w1.heap.size, 0, none⟩ = some (.string ⟨N.toArray⟩) := fun W hW => (bE.kept hW (fun (h : w1.heap.size = w.heap.size + 1) => by omega)).cell 0
  have hc1 : ∀ W, Kept (Just (w.heap.size + 1)) wE W → W.cell? ⟨w1.heap.size, 1, none⟩ = some (.int .i64 V) := fun W hW => (bE.kept hW (fun (h : w1.heap.size = w.heap.size + 1) => by omega)).cell 1
  have hc2 : ∀ W, Kept (Just (w.heap.size + 1)) wE W → W.cell? ⟨w1.heap.size, 2, none⟩ = some (.int .u64 (K : Int)) := fun W hW => (bE.kept hW (fun (h : w1.heap.size = w.heap.size + 1) => by omega)).cell 2
  refine wp_region_plan_tail 10 (Kept (Just (w.heap.size + 1)) wE) [{ k := 7, uses := [100], spends := [100], pure := fun u => u = .int .i64 C, fact := fun _ W => Ref.Rd W lo hi' (w.heap.size + 1) S4 },
    { k := 9, uses := [], pure := fun u => ∃ g, u = .pointer (some ⟨g, 0, none⟩), fact := fun u W => ∃ g, u = .pointer (some ⟨g, 0, none⟩) ∧ wE.heap.size ≤ g ∧ Blk W g #[.string ⟨#[]⟩, .int .i64 0, .int .u64 0, .int .i64 0, .int .u64 0, .int .u64 0] 26 },
    { k := 100, uses := [], fact := fun _ W => Ref.Rd W lo hi' (w.heap.size + 1) S3 }] [100] (by kernel_rfl) (by kernel_rfl) (by kernel_rfl) (by rfl) ?pures ((Kept.refl _ wE).drew) ?starts ?walk
  case pures =>
    intro f hf
    simp only [List.mem_cons, List.not_mem_nil, or_false] at hf
    rcases hf with rfl | rfl | rfl
    · exact ⟨_, rfl⟩
    · exact ⟨_, 0, rfl⟩
    · exact ⟨undef, trivial⟩
  case starts =>
    intro k hk
    obtain rfl : k = 100 := by simpa using hk
    exact r3.kept ((Kept.refl None wE).drew) (fun _ _ _ h => h) (fun h => h)
  simp only [List.take_succ_cons, List.take_zero, List.drop_succ_cons, List.drop_zero]
  iterate 7 (refine wpPar_pure rfl (by rfl) _ (fun W hW => by
      have c0 := hc0 W hW
      have c1 := hc1 W hW
      have c2 := hc2 W hW
      go_simp
      exact rfl) ?_; simp only [Act.put, List.setIfInBounds_toArray, List.set_cons_zero, List.set_cons_succ])
  refine wpPar_adds rfl (by rfl) (fun W hW hd => ?_) (fun v7 hv => ?_)
  · have rW : Ref.Rd W lo hi' (w.heap.size + 1) S3 := hd 100 (List.Mem.head _)
    unfold Gives
    go_simp
    refine gives_call (J.out.2.1 _ _ _ W rW (by omega)) ?_
    rintro e W' ⟨rfl, k, r4⟩
    refine ⟨_, rfl, hW.trans k, rfl, r4, keeps_of fun f hf hs _ hne u hfu => ?_⟩
    simp only [List.mem_cons, List.not_mem_nil, or_false] at hf
    rcases hf with rfl | rfl | rfl
    · exact absurd rfl hne
    · obtain ⟨g, e1, e2, e3⟩ := hfu
      exact ⟨g, e1, e2, e3.kept k (fun (h : g = w.heap.size + 1) => by omega)⟩
    · exact absurd (List.Mem.head _) hs
  obtain rfl : v7 = .int .i64 C := hv
  simp only [Act.put, List.setIfInBounds_toArray, List.set_cons_zero, List.set_cons_succ]
  iterate 1 (refine wpPar_pure rfl (by rfl) _ (fun W hW => by
      go_simp
      exact rfl) ?_; simp only [Act.put, List.setIfInBounds_toArray, List.set_cons_zero, List.set_cons_succ])
  refine wpPar_adds rfl (by rfl) (fun W hW hd => ?_) (fun v9 hv => ?_)
  · unfold Gives
    go_simp
    refine ⟨hW.alloc _, ⟨_, rfl⟩, ⟨_, rfl, hW.size, Blk.new _ _ _⟩, keeps_of fun f hf hs _ hne u hfu => ?_⟩
    simp only [List.mem_cons, List.not_mem_nil, or_false] at hf
    rcases hf with rfl | rfl | rfl
    · exact Ref.Rd.kept hfu ((Kept.refl None W).alloc _) (fun _ _ _ h => h) (fun h => h)
    · exact absurd rfl hne
    · exact Ref.Rd.kept hfu ((Kept.refl None W).alloc _) (fun _ _ _ h => h) (fun h => h)
  obtain ⟨ub, rfl⟩ : ∃ g, v9 = .pointer (some ⟨g, 0, none⟩) := hv
  simp only [Act.put, List.setIfInBounds_toArray, List.set_cons_zero, List.set_cons_succ]
  refine wpPar_nil (fun W hW hG => ?_)
  have r4 : Ref.Rd W lo hi' (w.heap.size + 1) S4 := hG 7
  obtain ⟨g, e1, e2, uZ⟩ : ∃ g, Value.pointer (some ⟨ub, 0, none⟩) = .pointer (some ⟨g, 0, none⟩) ∧ wE.heap.size ≤ g ∧ Blk W g #[.string ⟨#[]⟩, .int .i64 0, .int .u64 0, .int .i64 0, .int .u64 0, .int .u64 0] 26 := hG 9
  obtain rfl : ub = g := by injection e1 with e1; injection e1 with e1; injection e1
  have k03 := k02.then hW (fun i hi (h : i = w.heap.size + 1) => by omega)
  have v3 := v2.kept hW (fun (h : w.heap.size = w.heap.size + 1) => by omega)
  have hub : w.heap.size + 1 < ub := by omega
  clear hG e1 e2 hc0 hc1 hc2 bE hEl hrl r3 v2 k02 hW
  have NE : ∀ k, lo ≤ k → k < hi' → ¬ Just ub k := fun k _ h e => by unfold Just at e; omega
  have NR : ¬ Just ub (w.heap.size + 1) := fun e => by unfold Just at e; omega
  have NU : ¬ Just (w.heap.size + 1) ub := fun e => by unfold Just at e; omega
  have NV : ¬ Just (w.heap.size + 1) w.heap.size := fun e => by unfold Just at e; omega
  have NW : ¬ Just ub w.heap.size := fun e => by unfold Just at e; omega
  have NN := hid (And.intro NE (And.intro NR (And.intro NU (And.intro NV (And.intro NW hub)))))
  clear NE NR NU NV NW hub
  go_wp2_with (first | (refine wpList_store_blk rfl _ _ _ rfl rfl rfl uZ Up.aUpd rfl (upd4_all _ _ _ _) ?_; intro w4 u4 kk4) | fail)
  have r4' := r4.kept kk4 NN.out.1 NN.out.2.1
  have v4 := v3.kept kk4 NN.out.2.2.2.2.1
  have k04 := k03.then kk4 (fun i hi (h : i = ub) => by have := NN.out.2.2.2.2.2; omega)
  clear uZ r4 v3 k03 kk4
  refine (J.out.2.2.1 _ _ _ _ r4' (by omega)).mono ?_
  rintro e w5 ⟨rfl, k5, r5⟩
  have k05 := k04.then k5 (fun i hi (h : i = w.heap.size + 1) => by omega)
  have v5 := v4.kept k5 NN.out.2.2.2.1
  have u5 := u4.kept k5 NN.out.2.2.1
  have c4 : w5.cell? ⟨ub, 4, none⟩ = some (.int .u64 0) := u5.cell 4
  have f4 := u5.free 4
  have r5' := r5.kept (Kept.one w5 ub 4 (.int .u64 (R : Int))) NN.out.1 NN.out.2.1
  have u5' : Blk (w5.setCell ⟨ub, 4, none⟩ (.int .u64 (R : Int))) ub #[.string ⟨N.toArray⟩, .int .i64 V, .int .u64 (K : Int), .int .i64 C, .int .u64 (R : Int), .int .u64 0] 26 := u5.set 4 _
  have v5' := v5.kept (Kept.one w5 ub 4 (.int .u64 (R : Int))) NN.out.2.2.2.2.1
  have k05' := k05.setNew (b := ub) (by have := NN.out.2.2.2.2.2; omega) 4 (.int .u64 (R : Int))
  clear r4' k04 v4 u4 k5 r5 k05 v5 u5
  go_wp2_with fail
  refine (J.out.2.2.2.1 _ _ _ _ r5' (by omega)).mono ?_
  rintro e w6 ⟨rfl, k6, r6⟩
  have k06 := k05'.then k6 (fun i hi (h : i = w.heap.size + 1) => by omega)
  have v6 := v5'.kept k6 NN.out.2.2.2.1
  have u6 := u5'.kept k6 NN.out.2.2.1
  have c5 : w6.cell? ⟨ub, 5, none⟩ = some (.int .u64 0) := u6.cell 5
  have f5 := u6.free 5
  have r6' := r6.kept (Kept.one w6 ub 5 (.int .u64 (S : Int))) NN.out.1 NN.out.2.1
  have u6' : Blk (w6.setCell ⟨ub, 5, none⟩ (.int .u64 (S : Int))) ub #[.string ⟨N.toArray⟩, .int .i64 V, .int .u64 (K : Int), .int .i64 C, .int .u64 (R : Int), .int .u64 (S : Int)] 26 := u6.set 5 _
  have v6' := v6.kept (Kept.one w6 ub 5 (.int .u64 (S : Int))) NN.out.2.2.2.2.1
  have k06' := k06.setNew (b := ub) (by have := NN.out.2.2.2.2.2; omega) 5 (.int .u64 (S : Int))
  have d1 : w6.cell? ⟨w.heap.size + 1, 1, none⟩ = some (.int .i64 S6.e) := by obtain ⟨ok, v', hb', hv'⟩ := r6; exact hb'.cell 1
  obtain ⟨a6, cp6, d0⟩ : ∃ a c, w6.cell? ⟨w.heap.size + 1, 0, none⟩ = some (.slice a S6.l.length c) := by
    obtain ⟨ok, v', hb', hv'⟩ := r6
    obtain ⟨a', c', e', _⟩ := hv'.shape
    rw [e'] at hb'
    exact ⟨a', c', hb'.cell 0⟩
  have hne1 : ub ≠ w.heap.size + 1 := by have := NN.out.2.2.2.2.2; omega
  have hne2 : w.heap.size + 1 ≠ ub := Ne.symm hne1
  clear r5' k05' v5' u5' k6 r6 k06 v6 u6 c4 f4
  go_wp2_with fail
  obtain ⟨wX, hwX⟩ : ∃ wX, wX = w6.setCell ⟨ub, 5, none⟩ (.int .u64 (S : Int)) := ⟨_, rfl⟩
  rw [← hwX] at r6' v6' k06' ⊢
  clear hwX u6' c5 f5 d0 d1 hne1 hne2 NN
  have hdX : ∀ W, Kept (Just w.heap.size) wX W → W.cell? ⟨w.heap.size + 1, 1, none⟩ = some (.int .i64 S6.e) := fun W hW => by
    obtain ⟨ok, v', hb', hv'⟩ := r6'.kept hW (fun k _ h (e : k = w.heap.size) => by omega) (fun (e : w.heap.size + 1 = w.heap.size) => by omega)
    exact hb'.cell 1
  obtain ⟨E6, hE6⟩ : ∃ E6, E6 = S6.e := ⟨_, rfl⟩
  rw [← hE6] at hdX h2b ⊢
  have HE6 := hid hE6
  clear hE6 r6' J
  refine wp_region_plan (Kept (Just w.heap.size) wX) [{ k := 5, uses := [100], spends := [100], fact := fun _ W => Blk W w.heap.size #[.string ⟨#[]⟩, .int .i64 0, .int .u64 0, .int .i64 0, .int .u64 0, .int .u64 0] 26 }, { k := 100, uses := [], fact := fun _ W => Blk W w.heap.size #[.string ⟨#[]⟩, .int .i64 0, .int .u64 0, .int .i64 0, .int .u64 0, .int .u64 0] 26 }] [100] (by kernel_rfl) (by kernel_rfl) (by kernel_rfl) (by rfl) ?pures2 ((Kept.refl _ wX).drew) ?starts2 ?walk2
  case pures2 =>
    intro f hf
    exact ⟨undef, by simp only [List.mem_cons, List.not_mem_nil, or_false] at hf; rcases hf with rfl | rfl <;> trivial⟩
  case starts2 =>
    intro k hk
    obtain rfl : k = 100 := by simpa using hk
    exact v6'.drew
  iterate 5 (refine wpPar_pure rfl (by rfl) _ (fun W hW => by
      have d1 := hdX W hW
      go_simp
      exact rfl) ?_; simp only [Act.put, List.setIfInBounds_toArray, List.set_cons_zero, List.set_cons_succ])
  refine wpPar_adds rfl (by rfl) (fun W hW hd => ?_) (fun v5 hv => ?_)
  · have vW : Blk W w.heap.size #[.string ⟨#[]⟩, .int .i64 0, .int .u64 0, .int .i64 0, .int .u64 0, .int .u64 0] 26 := hd 100 (List.Mem.head _)
    refine gives_store_blk _ _ _ rfl rfl rfl vW Up.aUpd rfl Up.zero_all fun W' b' k' => ?_
    refine ⟨hW.trans k', trivial, b', keeps_of fun f hf hs _ hne u hfu => ?_⟩
    simp only [List.mem_cons, List.not_mem_nil, or_false] at hf
    rcases hf with rfl | rfl
    · exact absurd rfl hne
    · exact absurd (List.Mem.head _) hs
  simp only [Act.put]
  iterate 1 (refine wpPar_pure rfl (by rfl) _ (fun W hW => by
      go_simp
      exact rfl) ?_; simp only [Act.put, List.setIfInBounds_toArray, List.set_cons_zero, List.set_cons_succ])
  refine wpPar_nil (fun W hW hG => ?_)
  have hR7 : Blk W w.heap.size #[.string ⟨#[]⟩, .int .i64 0, .int .u64 0, .int .i64 0, .int .u64 0, .int .u64 0] 26 := hG 5
  have k7 := k06'.then hW (fun i hi (h : i = w.heap.size) => by omega)
  clear hG hdX v6' k06' hW
  go_wp2
  exact bodyPost_ret (v := .tuple #[Req.none.V, .int .i64 E6]) (results_blk2 rfl _ rfl rfl hR7 Up.aUpd) rfl ⟨by rw [HE6.out], k7⟩

set_option maxRecDepth 100000 in
set_option maxHeartbeats 16000000 in
theorem read_more (v : Value) (lo hi : Nat) (l : List UInt8) (w : World) (hv : Bs w lo hi v l) (h : ¬ 512 < l.length) (h2 : ¬ (rd6 l).e ≠ 0) (h3 : 0 < (rd6 l).l.length) : Calls Try.prog 26 #[v] w fun e w' => e = .returned (.tuple #[(readQ l).V, .int .i64 (readE l)]) ∧ Kept None w w' := by
  rw [Up.readQ_none (Up.readE_more h h2 h3) (by decide), Up.readE_more h h2 h3]
  have j0 := fun rr lo hi w hr hlo => of rr lo hi l w hr hlo
  have j1 := fun rr lo hi w hr hlo => int rr lo hi (rd3 l) w hr hlo
  have j2 := fun rr lo hi w hr hlo => Ref.rnum rr lo hi (rd4 l) w hr hlo
  have j3 := fun rr lo hi w hr hlo => Ref.rnum rr lo hi (rd5 l) w hr hlo
  have j4 := fun w => right ⟨(rdN l).toArray⟩ (intI (rd1 l).num) (intI (rd3 l).num) (rd2 l).nat (rd4 l).nat (rd5 l).nat w
  rw [← St.nat_eq] at j2 j3
  rw [show (rd3 l).numS = rd4 l from rfl] at j1
  rw [show (rd4 l).numS = rd5 l from rfl] at j2
  rw [show (rd5 l).numS = rd6 l from rfl] at j3
  obtain ⟨N, hN⟩ : ∃ N, N = rdN l := ⟨_, rfl⟩
  obtain ⟨V, hV⟩ : ∃ V, V = intI (rd1 l).num := ⟨_, rfl⟩
  obtain ⟨K, hK⟩ : ∃ K, K = (rd2 l).nat := ⟨_, rfl⟩
  obtain ⟨C, hC⟩ : ∃ C, C = intI (rd3 l).num := ⟨_, rfl⟩
  obtain ⟨R, hR⟩ : ∃ R, R = (rd4 l).nat := ⟨_, rfl⟩
  obtain ⟨S, hS⟩ : ∃ S, S = (rd5 l).nat := ⟨_, rfl⟩
  rw [← hN, ← hV, ← hK] at j0
  rw [← hC] at j1
  rw [← hR] at j2
  rw [← hS] at j3
  rw [← hN, ← hV, ← hK, ← hC, ← hR, ← hS] at j4
  obtain ⟨S0, hS0⟩ : ∃ S0, S0 = (⟨l, 0⟩ : St) := ⟨_, rfl⟩
  obtain ⟨S3, hS3⟩ : ∃ S3, S3 = rd3 l := ⟨_, rfl⟩
  obtain ⟨S4, hS4⟩ : ∃ S4, S4 = rd4 l := ⟨_, rfl⟩
  obtain ⟨S5, hS5⟩ : ∃ S5, S5 = rd5 l := ⟨_, rfl⟩
  obtain ⟨S6, hS6⟩ : ∃ S6, S6 = rd6 l := ⟨_, rfl⟩
  rw [← hS0, ← hS3] at j0
  rw [← hS3, ← hS4] at j1
  rw [← hS4, ← hS5] at j2
  rw [← hS5, ← hS6] at j3
  have e6 : S6.e = 0 := by rw [hS6]; omega
  rw [← hS6] at h3
  clear hS6 h2
  have J := hid (And.intro j0 (And.intro j1 (And.intro j2 (And.intro j3 j4))))
  have HS0 := hid hS0
  clear j0 j1 j2 j3 j4 hN hV hK hC hR hS hS0 hS3 hS4 hS5
  have hv' := Vs.lt hv
  have hhi : min hi w.heap.size ≤ w.heap.size := Nat.min_le_right _ _
  generalize min hi w.heap.size = hi' at hv' hhi
  obtain ⟨a, cap, rfl, g1, g2, g3⟩ := hv.shape
  clear g3 hv
  have hv0 : Bs w lo hi' (.slice a l.length cap) l := hv'
  clear hv'
  have hv1 := (hv0.kept ((Kept.refl None w).alloc (.cells #[.string ⟨#[]⟩, .int .i64 0, .int .u64 0, .int .i64 0, .int .u64 0, .int .u64 0] 26)) (fun _ _ _ h => h)).kept ((Kept.refl None _).alloc (.cells #[.slice a l.length cap, .int .i64 0] 74)) (fun _ _ _ h => h)
  have r1 : Ref.Rd ((w.alloc (.cells #[.string ⟨#[]⟩, .int .i64 0, .int .u64 0, .int .i64 0, .int .u64 0, .int .u64 0] 26)).alloc (.cells #[.slice a l.length cap, .int .i64 0] 74)) lo hi' (w.heap.size + 1) S0 := by
    rw [HS0.out]
    exact ⟨fun h => absurd rfl h, _, Blk.new2 w _ _ _, hv1⟩
  have k0 : Kept None w ((w.alloc (.cells #[.string ⟨#[]⟩, .int .i64 0, .int .u64 0, .int .i64 0, .int .u64 0, .int .u64 0] 26)).alloc (.cells #[.slice a l.length cap, .int .i64 0] 74)) := ((Kept.refl _ _).alloc _).alloc _
  have v0 : Blk ((w.alloc (.cells #[.string ⟨#[]⟩, .int .i64 0, .int .u64 0, .int .i64 0, .int .u64 0, .int .u64 0] 26)).alloc (.cells #[.slice a l.length cap, .int .i64 0] 74)) w.heap.size #[.string ⟨#[]⟩, .int .i64 0, .int .u64 0, .int .i64 0, .int .u64 0, .int .u64 0] 26 := (Blk.new w _ _).alloc _
  clear hv0 hv1 HS0
  go_enter Try.func26, Try.ntmps26
  go_wp2_with fail
  refine (J.out.1 _ _ _ _ r1 (by omega)).mono ?_
  rintro e w1 ⟨rfl, k1, r2⟩
  have k01 := k0.then k1 (fun i hi (h : i = w.heap.size + 1) => by omega)
  have v1 := v0.kept k1 (fun (h : w.heap.size = w.heap.size + 1) => by omega)
  clear r1 k0 v0 k1
  go_wp2_with fail
  obtain ⟨wE, hwE⟩ : ∃ wE, wE = w1.alloc (.cells #[.string ⟨N.toArray⟩, .int .i64 V, .int .u64 (K : Int)] 39) := ⟨_, rfl⟩
  have r3 := r2.kept ((Kept.refl None w1).alloc (.cells #[.string ⟨N.toArray⟩, .int .i64 V, .int .u64 (K : Int)] 39)) (fun _ _ _ h => h) (fun h => h)
  have v2 := v1.alloc (.cells #[.string ⟨N.toArray⟩, .int .i64 V, .int .u64 (K : Int)] 39)
  have k02 := k01.alloc (.cells #[.string ⟨N.toArray⟩, .int .i64 V, .int .u64 (K : Int)] 39)
  have bE := Blk.new w1 #[.string ⟨N.toArray⟩, .int .i64 V, .int .u64 (K : Int)] 39
  have hrl := r2.lt
  rw [← hwE] at r3 v2 k02 bE ⊢
  clear hwE r2 v1 k01
  have hEl := bE.lt
  have hc0 : ∀ W, Kept (Just (w.heap.size + 1)) wE W → W.cell? ⟨w1.heap.size, 0, none⟩ = some (.string ⟨N.toArray⟩) := fun W hW => (bE.kept hW (fun (h : w1.heap.size = w.heap.size + 1) => by omega)).cell 0
  have hc1 : ∀ W, Kept (Just (w.heap.size + 1)) wE W → W.cell? ⟨w1.heap.size, 1, none⟩ = some (.int .i64 V) := fun W hW => (bE.kept hW (fun (h : w1.heap.size = w.heap.size + 1) => by omega)).cell 1
  have hc2 : ∀ W, Kept (Just (w.heap.size + 1)) wE W → W.cell? ⟨w1.heap.size, 2, none⟩ = some (.int .u64 (K : Int)) := fun W hW => (bE.kept hW (fun (h : w1.heap.size = w.heap.size + 1) => by omega)).cell 2
  refine wp_region_plan_tail 10 (Kept (Just (w.heap.size + 1)) wE) [{ k := 7, uses := [100], spends := [100], pure := fun u => u = .int .i64 C, fact := fun _ W => Ref.Rd W lo hi' (w.heap.size + 1) S4 },
    { k := 9, uses := [], pure := fun u => ∃ g, u = .pointer (some ⟨g, 0, none⟩), fact := fun u W => ∃ g, u = .pointer (some ⟨g, 0, none⟩) ∧ wE.heap.size ≤ g ∧ Blk W g #[.string ⟨#[]⟩, .int .i64 0, .int .u64 0, .int .i64 0, .int .u64 0, .int .u64 0] 26 },
    { k := 100, uses := [], fact := fun _ W => Ref.Rd W lo hi' (w.heap.size + 1) S3 }] [100] (by kernel_rfl) (by kernel_rfl) (by kernel_rfl) (by rfl) ?pures ((Kept.refl _ wE).drew) ?starts ?walk
  case pures =>
    intro f hf
    simp only [List.mem_cons, List.not_mem_nil, or_false] at hf
    rcases hf with rfl | rfl | rfl
    · exact ⟨_, rfl⟩
    · exact ⟨_, 0, rfl⟩
    · exact ⟨undef, trivial⟩
  case starts =>
    intro k hk
    obtain rfl : k = 100 := by simpa using hk
    exact r3.kept ((Kept.refl None wE).drew) (fun _ _ _ h => h) (fun h => h)
  simp only [List.take_succ_cons, List.take_zero, List.drop_succ_cons, List.drop_zero]
  iterate 7 (refine wpPar_pure rfl (by rfl) _ (fun W hW => by
      have c0 := hc0 W hW
      have c1 := hc1 W hW
      have c2 := hc2 W hW
      go_simp
      exact rfl) ?_; simp only [Act.put, List.setIfInBounds_toArray, List.set_cons_zero, List.set_cons_succ])
  refine wpPar_adds rfl (by rfl) (fun W hW hd => ?_) (fun v7 hv => ?_)
  · have rW : Ref.Rd W lo hi' (w.heap.size + 1) S3 := hd 100 (List.Mem.head _)
    unfold Gives
    go_simp
    refine gives_call (J.out.2.1 _ _ _ W rW (by omega)) ?_
    rintro e W' ⟨rfl, k, r4⟩
    refine ⟨_, rfl, hW.trans k, rfl, r4, keeps_of fun f hf hs _ hne u hfu => ?_⟩
    simp only [List.mem_cons, List.not_mem_nil, or_false] at hf
    rcases hf with rfl | rfl | rfl
    · exact absurd rfl hne
    · obtain ⟨g, e1, e2, e3⟩ := hfu
      exact ⟨g, e1, e2, e3.kept k (fun (h : g = w.heap.size + 1) => by omega)⟩
    · exact absurd (List.Mem.head _) hs
  obtain rfl : v7 = .int .i64 C := hv
  simp only [Act.put, List.setIfInBounds_toArray, List.set_cons_zero, List.set_cons_succ]
  iterate 1 (refine wpPar_pure rfl (by rfl) _ (fun W hW => by
      go_simp
      exact rfl) ?_; simp only [Act.put, List.setIfInBounds_toArray, List.set_cons_zero, List.set_cons_succ])
  refine wpPar_adds rfl (by rfl) (fun W hW hd => ?_) (fun v9 hv => ?_)
  · unfold Gives
    go_simp
    refine ⟨hW.alloc _, ⟨_, rfl⟩, ⟨_, rfl, hW.size, Blk.new _ _ _⟩, keeps_of fun f hf hs _ hne u hfu => ?_⟩
    simp only [List.mem_cons, List.not_mem_nil, or_false] at hf
    rcases hf with rfl | rfl | rfl
    · exact Ref.Rd.kept hfu ((Kept.refl None W).alloc _) (fun _ _ _ h => h) (fun h => h)
    · exact absurd rfl hne
    · exact Ref.Rd.kept hfu ((Kept.refl None W).alloc _) (fun _ _ _ h => h) (fun h => h)
  obtain ⟨ub, rfl⟩ : ∃ g, v9 = .pointer (some ⟨g, 0, none⟩) := hv
  simp only [Act.put, List.setIfInBounds_toArray, List.set_cons_zero, List.set_cons_succ]
  refine wpPar_nil (fun W hW hG => ?_)
  have r4 : Ref.Rd W lo hi' (w.heap.size + 1) S4 := hG 7
  obtain ⟨g, e1, e2, uZ⟩ : ∃ g, Value.pointer (some ⟨ub, 0, none⟩) = .pointer (some ⟨g, 0, none⟩) ∧ wE.heap.size ≤ g ∧ Blk W g #[.string ⟨#[]⟩, .int .i64 0, .int .u64 0, .int .i64 0, .int .u64 0, .int .u64 0] 26 := hG 9
  obtain rfl : ub = g := by injection e1 with e1; injection e1 with e1; injection e1
  have k03 := k02.then hW (fun i hi (h : i = w.heap.size + 1) => by omega)
  have v3 := v2.kept hW (fun (h : w.heap.size = w.heap.size + 1) => by omega)
  have hub : w.heap.size + 1 < ub := by omega
  clear hG e1 e2 hc0 hc1 hc2 bE hEl hrl r3 v2 k02 hW
  have NE : ∀ k, lo ≤ k → k < hi' → ¬ Just ub k := fun k _ h e => by unfold Just at e; omega
  have NR : ¬ Just ub (w.heap.size + 1) := fun e => by unfold Just at e; omega
  have NU : ¬ Just (w.heap.size + 1) ub := fun e => by unfold Just at e; omega
  have NV : ¬ Just (w.heap.size + 1) w.heap.size := fun e => by unfold Just at e; omega
  have NW : ¬ Just ub w.heap.size := fun e => by unfold Just at e; omega
  have NN := hid (And.intro NE (And.intro NR (And.intro NU (And.intro NV (And.intro NW hub)))))
  clear NE NR NU NV NW hub
  go_wp2_with (first | (refine wpList_store_blk rfl _ _ _ rfl rfl rfl uZ Up.aUpd rfl (upd4_all _ _ _ _) ?_; intro w4 u4 kk4) | fail)
  have r4' := r4.kept kk4 NN.out.1 NN.out.2.1
  have v4 := v3.kept kk4 NN.out.2.2.2.2.1
  have k04 := k03.then kk4 (fun i hi (h : i = ub) => by have := NN.out.2.2.2.2.2; omega)
  clear uZ r4 v3 k03 kk4
  refine (J.out.2.2.1 _ _ _ _ r4' (by omega)).mono ?_
  rintro e w5 ⟨rfl, k5, r5⟩
  have k05 := k04.then k5 (fun i hi (h : i = w.heap.size + 1) => by omega)
  have v5 := v4.kept k5 NN.out.2.2.2.1
  have u5 := u4.kept k5 NN.out.2.2.1
  have c4 : w5.cell? ⟨ub, 4, none⟩ = some (.int .u64 0) := u5.cell 4
  have f4 := u5.free 4
  have r5' := r5.kept (Kept.one w5 ub 4 (.int .u64 (R : Int))) NN.out.1 NN.out.2.1
  have u5' : Blk (w5.setCell ⟨ub, 4, none⟩ (.int .u64 (R : Int))) ub #[.string ⟨N.toArray⟩, .int .i64 V, .int .u64 (K : Int), .int .i64 C, .int .u64 (R : Int), .int .u64 0] 26 := u5.set 4 _
  have v5' := v5.kept (Kept.one w5 ub 4 (.int .u64 (R : Int))) NN.out.2.2.2.2.1
  have k05' := k05.setNew (b := ub) (by have := NN.out.2.2.2.2.2; omega) 4 (.int .u64 (R : Int))
  clear r4' k04 v4 u4 k5 r5 k05 v5 u5
  go_wp2_with fail
  refine (J.out.2.2.2.1 _ _ _ _ r5' (by omega)).mono ?_
  rintro e w6 ⟨rfl, k6, r6⟩
  have k06 := k05'.then k6 (fun i hi (h : i = w.heap.size + 1) => by omega)
  have v6 := v5'.kept k6 NN.out.2.2.2.1
  have u6 := u5'.kept k6 NN.out.2.2.1
  have c5 : w6.cell? ⟨ub, 5, none⟩ = some (.int .u64 0) := u6.cell 5
  have f5 := u6.free 5
  have r6' := r6.kept (Kept.one w6 ub 5 (.int .u64 (S : Int))) NN.out.1 NN.out.2.1
  have u6' : Blk (w6.setCell ⟨ub, 5, none⟩ (.int .u64 (S : Int))) ub #[.string ⟨N.toArray⟩, .int .i64 V, .int .u64 (K : Int), .int .i64 C, .int .u64 (R : Int), .int .u64 (S : Int)] 26 := u6.set 5 _
  have v6' := v6.kept (Kept.one w6 ub 5 (.int .u64 (S : Int))) NN.out.2.2.2.2.1
  have k06' := k06.setNew (b := ub) (by have := NN.out.2.2.2.2.2; omega) 5 (.int .u64 (S : Int))
  have d1 : w6.cell? ⟨w.heap.size + 1, 1, none⟩ = some (.int .i64 S6.e) := by obtain ⟨ok, v', hb', hv'⟩ := r6; exact hb'.cell 1
  obtain ⟨a6, cp6, d0⟩ : ∃ a c, w6.cell? ⟨w.heap.size + 1, 0, none⟩ = some (.slice a S6.l.length c) := by
    obtain ⟨ok, v', hb', hv'⟩ := r6
    obtain ⟨a', c', e', _⟩ := hv'.shape
    rw [e'] at hb'
    exact ⟨a', c', hb'.cell 0⟩
  have hne1 : ub ≠ w.heap.size + 1 := by have := NN.out.2.2.2.2.2; omega
  have hne2 : w.heap.size + 1 ≠ ub := Ne.symm hne1
  clear r5' k05' v5' u5' k6 r6 k06 v6 u6 c4 f4
  rw [e6] at d1
  clear e6
  go_wp2_with (first | (refine wpList_load_blk rfl _ _ rfl rfl u6' Up.aUpd ?_) | (refine wpList_store_blk rfl _ _ _ rfl rfl rfl v6' Up.aUpd rfl Up.zero_all ?_; intro w7 hR7 k7) | fail)
  exact bodyPost_ret (v := .tuple #[Req.none.V, .int .i64 20]) (results_blk2 rfl _ rfl rfl hR7 Up.aUpd) rfl ⟨rfl, k06'.then k7 (fun i hi (h : i = w.heap.size) => by omega)⟩

set_option maxRecDepth 100000 in
set_option maxHeartbeats 16000000 in
theorem read_form (v : Value) (lo hi : Nat) (l : List UInt8) (w : World) (hv : Bs w lo hi v l) (h : ¬ 512 < l.length) (h2 : ¬ (rd6 l).e ≠ 0) (h3 : ¬ 0 < (rd6 l).l.length) (h4 : (reqOf wholeI l).right = false) : Calls Try.prog 26 #[v] w fun e w' => e = .returned (.tuple #[(readQ l).V, .int .i64 (readE l)]) ∧ Kept None w w' := by
  rw [Up.readQ_none (Up.readE_form h h2 h3 h4) (by decide), Up.readE_form h h2 h3 h4]
  have j0 := fun rr lo hi w hr hlo => of rr lo hi l w hr hlo
  have j1 := fun rr lo hi w hr hlo => int rr lo hi (rd3 l) w hr hlo
  have j2 := fun rr lo hi w hr hlo => Ref.rnum rr lo hi (rd4 l) w hr hlo
  have j3 := fun rr lo hi w hr hlo => Ref.rnum rr lo hi (rd5 l) w hr hlo
  have j4 := fun w => right ⟨(rdN l).toArray⟩ (intI (rd1 l).num) (intI (rd3 l).num) (rd2 l).nat (rd4 l).nat (rd5 l).nat w
  rw [← St.nat_eq] at j2 j3
  rw [show (rd3 l).numS = rd4 l from rfl] at j1
  rw [show (rd4 l).numS = rd5 l from rfl] at j2
  rw [show (rd5 l).numS = rd6 l from rfl] at j3
  obtain ⟨N, hN⟩ : ∃ N, N = rdN l := ⟨_, rfl⟩
  obtain ⟨V, hV⟩ : ∃ V, V = intI (rd1 l).num := ⟨_, rfl⟩
  obtain ⟨K, hK⟩ : ∃ K, K = (rd2 l).nat := ⟨_, rfl⟩
  obtain ⟨C, hC⟩ : ∃ C, C = intI (rd3 l).num := ⟨_, rfl⟩
  obtain ⟨R, hR⟩ : ∃ R, R = (rd4 l).nat := ⟨_, rfl⟩
  obtain ⟨S, hS⟩ : ∃ S, S = (rd5 l).nat := ⟨_, rfl⟩
  have h5 : rightB (⟨N.toArray⟩ : ByteArray).size V K C = false := by rw [hN, hV, hK, hC]; exact ((right_int l).trans (right_whole l).symm).trans h4
  rw [← hN, ← hV, ← hK] at j0
  rw [← hC] at j1
  rw [← hR] at j2
  rw [← hS] at j3
  rw [← hN, ← hV, ← hK, ← hC, ← hR, ← hS] at j4
  rw [h5] at j4
  clear h4 h5
  obtain ⟨S0, hS0⟩ : ∃ S0, S0 = (⟨l, 0⟩ : St) := ⟨_, rfl⟩
  obtain ⟨S3, hS3⟩ : ∃ S3, S3 = rd3 l := ⟨_, rfl⟩
  obtain ⟨S4, hS4⟩ : ∃ S4, S4 = rd4 l := ⟨_, rfl⟩
  obtain ⟨S5, hS5⟩ : ∃ S5, S5 = rd5 l := ⟨_, rfl⟩
  obtain ⟨S6, hS6⟩ : ∃ S6, S6 = rd6 l := ⟨_, rfl⟩
  rw [← hS0, ← hS3] at j0
  rw [← hS3, ← hS4] at j1
  rw [← hS4, ← hS5] at j2
  rw [← hS5, ← hS6] at j3
  have e6 : S6.e = 0 := by rw [hS6]; omega
  have l6 : S6.l.length = 0 := by rw [hS6]; omega
  clear hS6 h2 h3
  have J := hid (And.intro j0 (And.intro j1 (And.intro j2 (And.intro j3 j4))))
  have HS0 := hid hS0
  clear j0 j1 j2 j3 j4 hN hV hK hC hR hS hS0 hS3 hS4 hS5
  have hv' := Vs.lt hv
  have hhi : min hi w.heap.size ≤ w.heap.size := Nat.min_le_right _ _
  generalize min hi w.heap.size = hi' at hv' hhi
  obtain ⟨a, cap, rfl, g1, g2, g3⟩ := hv.shape
  clear g3 hv
  have hv0 : Bs w lo hi' (.slice a l.length cap) l := hv'
  clear hv'
  have hv1 := (hv0.kept ((Kept.refl None w).alloc (.cells #[.string ⟨#[]⟩, .int .i64 0, .int .u64 0, .int .i64 0, .int .u64 0, .int .u64 0] 26)) (fun _ _ _ h => h)).kept ((Kept.refl None _).alloc (.cells #[.slice a l.length cap, .int .i64 0] 74)) (fun _ _ _ h => h)
  have r1 : Ref.Rd ((w.alloc (.cells #[.string ⟨#[]⟩, .int .i64 0, .int .u64 0, .int .i64 0, .int .u64 0, .int .u64 0] 26)).alloc (.cells #[.slice a l.length cap, .int .i64 0] 74)) lo hi' (w.heap.size + 1) S0 := by
    rw [HS0.out]
    exact ⟨fun h => absurd rfl h, _, Blk.new2 w _ _ _, hv1⟩
  have k0 : Kept None w ((w.alloc (.cells #[.string ⟨#[]⟩, .int .i64 0, .int .u64 0, .int .i64 0, .int .u64 0, .int .u64 0] 26)).alloc (.cells #[.slice a l.length cap, .int .i64 0] 74)) := ((Kept.refl _ _).alloc _).alloc _
  have v0 : Blk ((w.alloc (.cells #[.string ⟨#[]⟩, .int .i64 0, .int .u64 0, .int .i64 0, .int .u64 0, .int .u64 0] 26)).alloc (.cells #[.slice a l.length cap, .int .i64 0] 74)) w.heap.size #[.string ⟨#[]⟩, .int .i64 0, .int .u64 0, .int .i64 0, .int .u64 0, .int .u64 0] 26 := (Blk.new w _ _).alloc _
  clear hv0 hv1 HS0
  go_enter Try.func26, Try.ntmps26
  go_wp2_with fail
  refine (J.out.1 _ _ _ _ r1 (by omega)).mono ?_
  rintro e w1 ⟨rfl, k1, r2⟩
  have k01 := k0.then k1 (fun i hi (h : i = w.heap.size + 1) => by omega)
  have v1 := v0.kept k1 (fun (h : w.heap.size = w.heap.size + 1) => by omega)
  clear r1 k0 v0 k1
  go_wp2_with fail
  obtain ⟨wE, hwE⟩ : ∃ wE, wE = w1.alloc (.cells #[.string ⟨N.toArray⟩, .int .i64 V, .int .u64 (K : Int)] 39) := ⟨_, rfl⟩
  have r3 := r2.kept ((Kept.refl None w1).alloc (.cells #[.string ⟨N.toArray⟩, .int .i64 V, .int .u64 (K : Int)] 39)) (fun _ _ _ h => h) (fun h => h)
  have v2 := v1.alloc (.cells #[.string ⟨N.toArray⟩, .int .i64 V, .int .u64 (K : Int)] 39)
  have k02 := k01.alloc (.cells #[.string ⟨N.toArray⟩, .int .i64 V, .int .u64 (K : Int)] 39)
  have bE := Blk.new w1 #[.string ⟨N.toArray⟩, .int .i64 V, .int .u64 (K : Int)] 39
  have hrl := r2.lt
  rw [← hwE] at r3 v2 k02 bE ⊢
  clear hwE r2 v1 k01
  have hEl := bE.lt
  have hc0 : ∀ W, Kept (Just (w.heap.size + 1)) wE W → W.cell? ⟨w1.heap.size, 0, none⟩ = some (.string ⟨N.toArray⟩) := fun W hW => (bE.kept hW (fun (h : w1.heap.size = w.heap.size + 1) => by omega)).cell 0
  have hc1 : ∀ W, Kept (Just (w.heap.size + 1)) wE W → W.cell? ⟨w1.heap.size, 1, none⟩ = some (.int .i64 V) := fun W hW => (bE.kept hW (fun (h : w1.heap.size = w.heap.size + 1) => by omega)).cell 1
  have hc2 : ∀ W, Kept (Just (w.heap.size + 1)) wE W → W.cell? ⟨w1.heap.size, 2, none⟩ = some (.int .u64 (K : Int)) := fun W hW => (bE.kept hW (fun (h : w1.heap.size = w.heap.size + 1) => by omega)).cell 2
  refine wp_region_plan_tail 10 (Kept (Just (w.heap.size + 1)) wE) [{ k := 7, uses := [100], spends := [100], pure := fun u => u = .int .i64 C, fact := fun _ W => Ref.Rd W lo hi' (w.heap.size + 1) S4 },
    { k := 9, uses := [], pure := fun u => ∃ g, u = .pointer (some ⟨g, 0, none⟩), fact := fun u W => ∃ g, u = .pointer (some ⟨g, 0, none⟩) ∧ wE.heap.size ≤ g ∧ Blk W g #[.string ⟨#[]⟩, .int .i64 0, .int .u64 0, .int .i64 0, .int .u64 0, .int .u64 0] 26 },
    { k := 100, uses := [], fact := fun _ W => Ref.Rd W lo hi' (w.heap.size + 1) S3 }] [100] (by kernel_rfl) (by kernel_rfl) (by kernel_rfl) (by rfl) ?pures ((Kept.refl _ wE).drew) ?starts ?walk
  case pures =>
    intro f hf
    simp only [List.mem_cons, List.not_mem_nil, or_false] at hf
    rcases hf with rfl | rfl | rfl
    · exact ⟨_, rfl⟩
    · exact ⟨_, 0, rfl⟩
    · exact ⟨undef, trivial⟩
  case starts =>
    intro k hk
    obtain rfl : k = 100 := by simpa using hk
    exact r3.kept ((Kept.refl None wE).drew) (fun _ _ _ h => h) (fun h => h)
  simp only [List.take_succ_cons, List.take_zero, List.drop_succ_cons, List.drop_zero]
  iterate 7 (refine wpPar_pure rfl (by rfl) _ (fun W hW => by
      have c0 := hc0 W hW
      have c1 := hc1 W hW
      have c2 := hc2 W hW
      go_simp
      exact rfl) ?_; simp only [Act.put, List.setIfInBounds_toArray, List.set_cons_zero, List.set_cons_succ])
  refine wpPar_adds rfl (by rfl) (fun W hW hd => ?_) (fun v7 hv => ?_)
  · have rW : Ref.Rd W lo hi' (w.heap.size + 1) S3 := hd 100 (List.Mem.head _)
    unfold Gives
    go_simp
    refine gives_call (J.out.2.1 _ _ _ W rW (by omega)) ?_
    rintro e W' ⟨rfl, k, r4⟩
    refine ⟨_, rfl, hW.trans k, rfl, r4, keeps_of fun f hf hs _ hne u hfu => ?_⟩
    simp only [List.mem_cons, List.not_mem_nil, or_false] at hf
    rcases hf with rfl | rfl | rfl
    · exact absurd rfl hne
    · obtain ⟨g, e1, e2, e3⟩ := hfu
      exact ⟨g, e1, e2, e3.kept k (fun (h : g = w.heap.size + 1) => by omega)⟩
    · exact absurd (List.Mem.head _) hs
  obtain rfl : v7 = .int .i64 C := hv
  simp only [Act.put, List.setIfInBounds_toArray, List.set_cons_zero, List.set_cons_succ]
  iterate 1 (refine wpPar_pure rfl (by rfl) _ (fun W hW => by
      go_simp
      exact rfl) ?_; simp only [Act.put, List.setIfInBounds_toArray, List.set_cons_zero, List.set_cons_succ])
  refine wpPar_adds rfl (by rfl) (fun W hW hd => ?_) (fun v9 hv => ?_)
  · unfold Gives
    go_simp
    refine ⟨hW.alloc _, ⟨_, rfl⟩, ⟨_, rfl, hW.size, Blk.new _ _ _⟩, keeps_of fun f hf hs _ hne u hfu => ?_⟩
    simp only [List.mem_cons, List.not_mem_nil, or_false] at hf
    rcases hf with rfl | rfl | rfl
    · exact Ref.Rd.kept hfu ((Kept.refl None W).alloc _) (fun _ _ _ h => h) (fun h => h)
    · exact absurd rfl hne
    · exact Ref.Rd.kept hfu ((Kept.refl None W).alloc _) (fun _ _ _ h => h) (fun h => h)
  obtain ⟨ub, rfl⟩ : ∃ g, v9 = .pointer (some ⟨g, 0, none⟩) := hv
  simp only [Act.put, List.setIfInBounds_toArray, List.set_cons_zero, List.set_cons_succ]
  refine wpPar_nil (fun W hW hG => ?_)
  have r4 : Ref.Rd W lo hi' (w.heap.size + 1) S4 := hG 7
  obtain ⟨g, e1, e2, uZ⟩ : ∃ g, Value.pointer (some ⟨ub, 0, none⟩) = .pointer (some ⟨g, 0, none⟩) ∧ wE.heap.size ≤ g ∧ Blk W g #[.string ⟨#[]⟩, .int .i64 0, .int .u64 0, .int .i64 0, .int .u64 0, .int .u64 0] 26 := hG 9
  obtain rfl : ub = g := by injection e1 with e1; injection e1 with e1; injection e1
  have k03 := k02.then hW (fun i hi (h : i = w.heap.size + 1) => by omega)
  have v3 := v2.kept hW (fun (h : w.heap.size = w.heap.size + 1) => by omega)
  have hub : w.heap.size + 1 < ub := by omega
  clear hG e1 e2 hc0 hc1 hc2 bE hEl hrl r3 v2 k02 hW
  have NE : ∀ k, lo ≤ k → k < hi' → ¬ Just ub k := fun k _ h e => by unfold Just at e; omega
  have NR : ¬ Just ub (w.heap.size + 1) := fun e => by unfold Just at e; omega
  have NU : ¬ Just (w.heap.size + 1) ub := fun e => by unfold Just at e; omega
  have NV : ¬ Just (w.heap.size + 1) w.heap.size := fun e => by unfold Just at e; omega
  have NW : ¬ Just ub w.heap.size := fun e => by unfold Just at e; omega
  have NN := hid (And.intro NE (And.intro NR (And.intro NU (And.intro NV (And.intro NW hub)))))
  clear NE NR NU NV NW hub
  go_wp2_with (first | (refine wpList_store_blk rfl _ _ _ rfl rfl rfl uZ Up.aUpd rfl (upd4_all _ _ _ _) ?_; intro w4 u4 kk4) | fail)
  have r4' := r4.kept kk4 NN.out.1 NN.out.2.1
  have v4 := v3.kept kk4 NN.out.2.2.2.2.1
  have k04 := k03.then kk4 (fun i hi (h : i = ub) => by have := NN.out.2.2.2.2.2; omega)
  clear uZ r4 v3 k03 kk4
  refine (J.out.2.2.1 _ _ _ _ r4' (by omega)).mono ?_
  rintro e w5 ⟨rfl, k5, r5⟩
  have k05 := k04.then k5 (fun i hi (h : i = w.heap.size + 1) => by omega)
  have v5 := v4.kept k5 NN.out.2.2.2.1
  have u5 := u4.kept k5 NN.out.2.2.1
  have c4 : w5.cell? ⟨ub, 4, none⟩ = some (.int .u64 0) := u5.cell 4
  have f4 := u5.free 4
  have r5' := r5.kept (Kept.one w5 ub 4 (.int .u64 (R : Int))) NN.out.1 NN.out.2.1
  have u5' : Blk (w5.setCell ⟨ub, 4, none⟩ (.int .u64 (R : Int))) ub #[.string ⟨N.toArray⟩, .int .i64 V, .int .u64 (K : Int), .int .i64 C, .int .u64 (R : Int), .int .u64 0] 26 := u5.set 4 _
  have v5' := v5.kept (Kept.one w5 ub 4 (.int .u64 (R : Int))) NN.out.2.2.2.2.1
  have k05' := k05.setNew (b := ub) (by have := NN.out.2.2.2.2.2; omega) 4 (.int .u64 (R : Int))
  clear r4' k04 v4 u4 k5 r5 k05 v5 u5
  go_wp2_with fail
  refine (J.out.2.2.2.1 _ _ _ _ r5' (by omega)).mono ?_
  rintro e w6 ⟨rfl, k6, r6⟩
  have k06 := k05'.then k6 (fun i hi (h : i = w.heap.size + 1) => by omega)
  have v6 := v5'.kept k6 NN.out.2.2.2.1
  have u6 := u5'.kept k6 NN.out.2.2.1
  have c5 : w6.cell? ⟨ub, 5, none⟩ = some (.int .u64 0) := u6.cell 5
  have f5 := u6.free 5
  have r6' := r6.kept (Kept.one w6 ub 5 (.int .u64 (S : Int))) NN.out.1 NN.out.2.1
  have u6' : Blk (w6.setCell ⟨ub, 5, none⟩ (.int .u64 (S : Int))) ub #[.string ⟨N.toArray⟩, .int .i64 V, .int .u64 (K : Int), .int .i64 C, .int .u64 (R : Int), .int .u64 (S : Int)] 26 := u6.set 5 _
  have v6' := v6.kept (Kept.one w6 ub 5 (.int .u64 (S : Int))) NN.out.2.2.2.2.1
  have k06' := k06.setNew (b := ub) (by have := NN.out.2.2.2.2.2; omega) 5 (.int .u64 (S : Int))
  have d1 : w6.cell? ⟨w.heap.size + 1, 1, none⟩ = some (.int .i64 S6.e) := by obtain ⟨ok, v', hb', hv'⟩ := r6; exact hb'.cell 1
  obtain ⟨a6, cp6, d0⟩ : ∃ a c, w6.cell? ⟨w.heap.size + 1, 0, none⟩ = some (.slice a S6.l.length c) := by
    obtain ⟨ok, v', hb', hv'⟩ := r6
    obtain ⟨a', c', e', _⟩ := hv'.shape
    rw [e'] at hb'
    exact ⟨a', c', hb'.cell 0⟩
  have hne1 : ub ≠ w.heap.size + 1 := by have := NN.out.2.2.2.2.2; omega
  have hne2 : w.heap.size + 1 ≠ ub := Ne.symm hne1
  clear r5' k05' v5' u5' k6 r6 k06 v6 u6 c4 f4
  rw [e6] at d1
  rw [l6] at d0
  clear e6 l6
  go_wp2_with (first | (refine wpList_load_blk rfl _ _ rfl rfl u6' Up.aUpd ?_) | fail)
  refine (J.out.2.2.2.2 _).mono ?_
  rintro e w8 ⟨rfl, k8⟩
  have k08 := k06'.trans k8
  have v8 := v6'.kept k8 (fun h => h)
  have u8 := u6'.kept k8 (fun h => h)
  clear k06' v6' u6' k8 d0 d1 r6' hne1 hne2 c5 f5 NN J
  go_wp2_with (first | (refine wpList_load_blk rfl _ _ rfl rfl u8 Up.aUpd ?_) | (refine wpList_store_blk rfl _ _ _ rfl rfl rfl v8 Up.aUpd rfl Up.zero_all ?_; intro w7 hR7 k7) | fail)
  exact bodyPost_ret (v := .tuple #[Req.none.V, .int .i64 23]) (results_blk2 rfl _ rfl rfl hR7 Up.aUpd) rfl ⟨rfl, k08.then k7 (fun i hi (h : i = w.heap.size) => by omega)⟩

set_option maxRecDepth 100000 in
set_option maxHeartbeats 16000000 in
theorem read_ok (v : Value) (lo hi : Nat) (l : List UInt8) (w : World) (hv : Bs w lo hi v l) (h : ¬ 512 < l.length) (h2 : ¬ (rd6 l).e ≠ 0) (h3 : ¬ 0 < (rd6 l).l.length) (h4 : (reqOf wholeI l).right = true) : Calls Try.prog 26 #[v] w fun e w' => e = .returned (.tuple #[(readQ l).V, .int .i64 (readE l)]) ∧ Kept None w w' := by
  have eQ : (readQ l).V = updV ⟨(rdN l).toArray⟩ (intI (rd1 l).num) (rd2 l).nat (intI (rd3 l).num) (rd4 l).nat (rd5 l).nat := by unfold readQ; rw [Up.readE_ok h h2 h3 h4, if_pos rfl, ← reqOf_right l h4]; rfl
  rw [eQ, Up.readE_ok h h2 h3 h4]
  clear eQ
  have j0 := fun rr lo hi w hr hlo => of rr lo hi l w hr hlo
  have j1 := fun rr lo hi w hr hlo => int rr lo hi (rd3 l) w hr hlo
  have j2 := fun rr lo hi w hr hlo => Ref.rnum rr lo hi (rd4 l) w hr hlo
  have j3 := fun rr lo hi w hr hlo => Ref.rnum rr lo hi (rd5 l) w hr hlo
  have j4 := fun w => right ⟨(rdN l).toArray⟩ (intI (rd1 l).num) (intI (rd3 l).num) (rd2 l).nat (rd4 l).nat (rd5 l).nat w
  rw [← St.nat_eq] at j2 j3
  rw [show (rd3 l).numS = rd4 l from rfl] at j1
  rw [show (rd4 l).numS = rd5 l from rfl] at j2
  rw [show (rd5 l).numS = rd6 l from rfl] at j3
  obtain ⟨N, hN⟩ : ∃ N, N = rdN l := ⟨_, rfl⟩
  obtain ⟨V, hV⟩ : ∃ V, V = intI (rd1 l).num := ⟨_, rfl⟩
  obtain ⟨K, hK⟩ : ∃ K, K = (rd2 l).nat := ⟨_, rfl⟩
  obtain ⟨C, hC⟩ : ∃ C, C = intI (rd3 l).num := ⟨_, rfl⟩
  obtain ⟨R, hR⟩ : ∃ R, R = (rd4 l).nat := ⟨_, rfl⟩
  obtain ⟨S, hS⟩ : ∃ S, S = (rd5 l).nat := ⟨_, rfl⟩
  have h5 : rightB (⟨N.toArray⟩ : ByteArray).size V K C = true := by rw [hN, hV, hK, hC]; exact ((right_int l).trans (right_whole l).symm).trans h4
  rw [← hN, ← hV, ← hK, ← hC, ← hR, ← hS]
  rw [← hN, ← hV, ← hK] at j0
  rw [← hC] at j1
  rw [← hR] at j2
  rw [← hS] at j3
  rw [← hN, ← hV, ← hK, ← hC, ← hR, ← hS] at j4
  rw [h5] at j4
  clear h4 h5
  obtain ⟨S0, hS0⟩ : ∃ S0, S0 = (⟨l, 0⟩ : St) := ⟨_, rfl⟩
  obtain ⟨S3, hS3⟩ : ∃ S3, S3 = rd3 l := ⟨_, rfl⟩
  obtain ⟨S4, hS4⟩ : ∃ S4, S4 = rd4 l := ⟨_, rfl⟩
  obtain ⟨S5, hS5⟩ : ∃ S5, S5 = rd5 l := ⟨_, rfl⟩
  obtain ⟨S6, hS6⟩ : ∃ S6, S6 = rd6 l := ⟨_, rfl⟩
  rw [← hS0, ← hS3] at j0
  rw [← hS3, ← hS4] at j1
  rw [← hS4, ← hS5] at j2
  rw [← hS5, ← hS6] at j3
  have e6 : S6.e = 0 := by rw [hS6]; omega
  have l6 : S6.l.length = 0 := by rw [hS6]; omega
  clear hS6 h2 h3
  have J := hid (And.intro j0 (And.intro j1 (And.intro j2 (And.intro j3 j4))))
  have HS0 := hid hS0
  clear j0 j1 j2 j3 j4 hN hV hK hC hR hS hS0 hS3 hS4 hS5
  have hv' := Vs.lt hv
  have hhi : min hi w.heap.size ≤ w.heap.size := Nat.min_le_right _ _
  generalize min hi w.heap.size = hi' at hv' hhi
  obtain ⟨a, cap, rfl, g1, g2, g3⟩ := hv.shape
  clear g3 hv
  have hv0 : Bs w lo hi' (.slice a l.length cap) l := hv'
  clear hv'
  have hv1 := (hv0.kept ((Kept.refl None w).alloc (.cells #[.string ⟨#[]⟩, .int .i64 0, .int .u64 0, .int .i64 0, .int .u64 0, .int .u64 0] 26)) (fun _ _ _ h => h)).kept ((Kept.refl None _).alloc (.cells #[.slice a l.length cap, .int .i64 0] 74)) (fun _ _ _ h => h)
  have r1 : Ref.Rd ((w.alloc (.cells #[.string ⟨#[]⟩, .int .i64 0, .int .u64 0, .int .i64 0, .int .u64 0, .int .u64 0] 26)).alloc (.cells #[.slice a l.length cap, .int .i64 0] 74)) lo hi' (w.heap.size + 1) S0 := by
    rw [HS0.out]
    exact ⟨fun h => absurd rfl h, _, Blk.new2 w _ _ _, hv1⟩
  have k0 : Kept None w ((w.alloc (.cells #[.string ⟨#[]⟩, .int .i64 0, .int .u64 0, .int .i64 0, .int .u64 0, .int .u64 0] 26)).alloc (.cells #[.slice a l.length cap, .int .i64 0] 74)) := ((Kept.refl _ _).alloc _).alloc _
  have v0 : Blk ((w.alloc (.cells #[.string ⟨#[]⟩, .int .i64 0, .int .u64 0, .int .i64 0, .int .u64 0, .int .u64 0] 26)).alloc (.cells #[.slice a l.length cap, .int .i64 0] 74)) w.heap.size #[.string ⟨#[]⟩, .int .i64 0, .int .u64 0, .int .i64 0, .int .u64 0, .int .u64 0] 26 := (Blk.new w _ _).alloc _
  clear hv0 hv1 HS0
  go_enter Try.func26, Try.ntmps26
  go_wp2_with fail
  refine (J.out.1 _ _ _ _ r1 (by omega)).mono ?_
  rintro e w1 ⟨rfl, k1, r2⟩
  have k01 := k0.then k1 (fun i hi (h : i = w.heap.size + 1) => by omega)
  have v1 := v0.kept k1 (fun (h : w.heap.size = w.heap.size + 1) => by omega)
  clear r1 k0 v0 k1
  go_wp2_with fail
  obtain ⟨wE, hwE⟩ : ∃ wE, wE = w1.alloc (.cells #[.string ⟨N.toArray⟩, .int .i64 V, .int .u64 (K : Int)] 39) := ⟨_, rfl⟩
  have r3 := r2.kept ((Kept.refl None w1).alloc (.cells #[.string ⟨N.toArray⟩, .int .i64 V, .int .u64 (K : Int)] 39)) (fun _ _ _ h => h) (fun h => h)
  have v2 := v1.alloc (.cells #[.string ⟨N.toArray⟩, .int .i64 V, .int .u64 (K : Int)] 39)
  have k02 := k01.alloc (.cells #[.string ⟨N.toArray⟩, .int .i64 V, .int .u64 (K : Int)] 39)
  have bE := Blk.new w1 #[.string ⟨N.toArray⟩, .int .i64 V, .int .u64 (K : Int)] 39
  have hrl := r2.lt
  rw [← hwE] at r3 v2 k02 bE ⊢
  clear hwE r2 v1 k01
  have hEl := bE.lt
  have hc0 : ∀ W, Kept (Just (w.heap.size + 1)) wE W → W.cell? ⟨w1.heap.size, 0, none⟩ = some (.string ⟨N.toArray⟩) := fun W hW => (bE.kept hW (fun (h : w1.heap.size = w.heap.size + 1) => by omega)).cell 0
  have hc1 : ∀ W, Kept (Just (w.heap.size + 1)) wE W → W.cell? ⟨w1.heap.size, 1, none⟩ = some (.int .i64 V) := fun W hW => (bE.kept hW (fun (h : w1.heap.size = w.heap.size + 1) => by omega)).cell 1
  have hc2 : ∀ W, Kept (Just (w.heap.size + 1)) wE W → W.cell? ⟨w1.heap.size, 2, none⟩ = some (.int .u64 (K : Int)) := fun W hW => (bE.kept hW (fun (h : w1.heap.size = w.heap.size + 1) => by omega)).cell 2
  refine wp_region_plan_tail 10 (Kept (Just (w.heap.size + 1)) wE) [{ k := 7, uses := [100], spends := [100], pure := fun u => u = .int .i64 C, fact := fun _ W => Ref.Rd W lo hi' (w.heap.size + 1) S4 },
    { k := 9, uses := [], pure := fun u => ∃ g, u = .pointer (some ⟨g, 0, none⟩), fact := fun u W => ∃ g, u = .pointer (some ⟨g, 0, none⟩) ∧ wE.heap.size ≤ g ∧ Blk W g #[.string ⟨#[]⟩, .int .i64 0, .int .u64 0, .int .i64 0, .int .u64 0, .int .u64 0] 26 },
    { k := 100, uses := [], fact := fun _ W => Ref.Rd W lo hi' (w.heap.size + 1) S3 }] [100] (by kernel_rfl) (by kernel_rfl) (by kernel_rfl) (by rfl) ?pures ((Kept.refl _ wE).drew) ?starts ?walk
  case pures =>
    intro f hf
    simp only [List.mem_cons, List.not_mem_nil, or_false] at hf
    rcases hf with rfl | rfl | rfl
    · exact ⟨_, rfl⟩
    · exact ⟨_, 0, rfl⟩
    · exact ⟨undef, trivial⟩
  case starts =>
    intro k hk
    obtain rfl : k = 100 := by simpa using hk
    exact r3.kept ((Kept.refl None wE).drew) (fun _ _ _ h => h) (fun h => h)
  simp only [List.take_succ_cons, List.take_zero, List.drop_succ_cons, List.drop_zero]
  iterate 7 (refine wpPar_pure rfl (by rfl) _ (fun W hW => by
      have c0 := hc0 W hW
      have c1 := hc1 W hW
      have c2 := hc2 W hW
      go_simp
      exact rfl) ?_; simp only [Act.put, List.setIfInBounds_toArray, List.set_cons_zero, List.set_cons_succ])
  refine wpPar_adds rfl (by rfl) (fun W hW hd => ?_) (fun v7 hv => ?_)
  · have rW : Ref.Rd W lo hi' (w.heap.size + 1) S3 := hd 100 (List.Mem.head _)
    unfold Gives
    go_simp
    refine gives_call (J.out.2.1 _ _ _ W rW (by omega)) ?_
    rintro e W' ⟨rfl, k, r4⟩
    refine ⟨_, rfl, hW.trans k, rfl, r4, keeps_of fun f hf hs _ hne u hfu => ?_⟩
    simp only [List.mem_cons, List.not_mem_nil, or_false] at hf
    rcases hf with rfl | rfl | rfl
    · exact absurd rfl hne
    · obtain ⟨g, e1, e2, e3⟩ := hfu
      exact ⟨g, e1, e2, e3.kept k (fun (h : g = w.heap.size + 1) => by omega)⟩
    · exact absurd (List.Mem.head _) hs
  obtain rfl : v7 = .int .i64 C := hv
  simp only [Act.put, List.setIfInBounds_toArray, List.set_cons_zero, List.set_cons_succ]
  iterate 1 (refine wpPar_pure rfl (by rfl) _ (fun W hW => by
      go_simp
      exact rfl) ?_; simp only [Act.put, List.setIfInBounds_toArray, List.set_cons_zero, List.set_cons_succ])
  refine wpPar_adds rfl (by rfl) (fun W hW hd => ?_) (fun v9 hv => ?_)
  · unfold Gives
    go_simp
    refine ⟨hW.alloc _, ⟨_, rfl⟩, ⟨_, rfl, hW.size, Blk.new _ _ _⟩, keeps_of fun f hf hs _ hne u hfu => ?_⟩
    simp only [List.mem_cons, List.not_mem_nil, or_false] at hf
    rcases hf with rfl | rfl | rfl
    · exact Ref.Rd.kept hfu ((Kept.refl None W).alloc _) (fun _ _ _ h => h) (fun h => h)
    · exact absurd rfl hne
    · exact Ref.Rd.kept hfu ((Kept.refl None W).alloc _) (fun _ _ _ h => h) (fun h => h)
  obtain ⟨ub, rfl⟩ : ∃ g, v9 = .pointer (some ⟨g, 0, none⟩) := hv
  simp only [Act.put, List.setIfInBounds_toArray, List.set_cons_zero, List.set_cons_succ]
  refine wpPar_nil (fun W hW hG => ?_)
  have r4 : Ref.Rd W lo hi' (w.heap.size + 1) S4 := hG 7
  obtain ⟨g, e1, e2, uZ⟩ : ∃ g, Value.pointer (some ⟨ub, 0, none⟩) = .pointer (some ⟨g, 0, none⟩) ∧ wE.heap.size ≤ g ∧ Blk W g #[.string ⟨#[]⟩, .int .i64 0, .int .u64 0, .int .i64 0, .int .u64 0, .int .u64 0] 26 := hG 9
  obtain rfl : ub = g := by injection e1 with e1; injection e1 with e1; injection e1
  have k03 := k02.then hW (fun i hi (h : i = w.heap.size + 1) => by omega)
  have v3 := v2.kept hW (fun (h : w.heap.size = w.heap.size + 1) => by omega)
  have hub : w.heap.size + 1 < ub := by omega
  clear hG e1 e2 hc0 hc1 hc2 bE hEl hrl r3 v2 k02 hW
  have NE : ∀ k, lo ≤ k → k < hi' → ¬ Just ub k := fun k _ h e => by unfold Just at e; omega
  have NR : ¬ Just ub (w.heap.size + 1) := fun e => by unfold Just at e; omega
  have NU : ¬ Just (w.heap.size + 1) ub := fun e => by unfold Just at e; omega
  have NV : ¬ Just (w.heap.size + 1) w.heap.size := fun e => by unfold Just at e; omega
  have NW : ¬ Just ub w.heap.size := fun e => by unfold Just at e; omega
  have NN := hid (And.intro NE (And.intro NR (And.intro NU (And.intro NV (And.intro NW hub)))))
  clear NE NR NU NV NW hub
  go_wp2_with (first | (refine wpList_store_blk rfl _ _ _ rfl rfl rfl uZ Up.aUpd rfl (upd4_all _ _ _ _) ?_; intro w4 u4 kk4) | fail)
  have r4' := r4.kept kk4 NN.out.1 NN.out.2.1
  have v4 := v3.kept kk4 NN.out.2.2.2.2.1
  have k04 := k03.then kk4 (fun i hi (h : i = ub) => by have := NN.out.2.2.2.2.2; omega)
  clear uZ r4 v3 k03 kk4
  refine (J.out.2.2.1 _ _ _ _ r4' (by omega)).mono ?_
  rintro e w5 ⟨rfl, k5, r5⟩
  have k05 := k04.then k5 (fun i hi (h : i = w.heap.size + 1) => by omega)
  have v5 := v4.kept k5 NN.out.2.2.2.1
  have u5 := u4.kept k5 NN.out.2.2.1
  have c4 : w5.cell? ⟨ub, 4, none⟩ = some (.int .u64 0) := u5.cell 4
  have f4 := u5.free 4
  have r5' := r5.kept (Kept.one w5 ub 4 (.int .u64 (R : Int))) NN.out.1 NN.out.2.1
  have u5' : Blk (w5.setCell ⟨ub, 4, none⟩ (.int .u64 (R : Int))) ub #[.string ⟨N.toArray⟩, .int .i64 V, .int .u64 (K : Int), .int .i64 C, .int .u64 (R : Int), .int .u64 0] 26 := u5.set 4 _
  have v5' := v5.kept (Kept.one w5 ub 4 (.int .u64 (R : Int))) NN.out.2.2.2.2.1
  have k05' := k05.setNew (b := ub) (by have := NN.out.2.2.2.2.2; omega) 4 (.int .u64 (R : Int))
  clear r4' k04 v4 u4 k5 r5 k05 v5 u5
  go_wp2_with fail
  refine (J.out.2.2.2.1 _ _ _ _ r5' (by omega)).mono ?_
  rintro e w6 ⟨rfl, k6, r6⟩
  have k06 := k05'.then k6 (fun i hi (h : i = w.heap.size + 1) => by omega)
  have v6 := v5'.kept k6 NN.out.2.2.2.1
  have u6 := u5'.kept k6 NN.out.2.2.1
  have c5 : w6.cell? ⟨ub, 5, none⟩ = some (.int .u64 0) := u6.cell 5
  have f5 := u6.free 5
  have r6' := r6.kept (Kept.one w6 ub 5 (.int .u64 (S : Int))) NN.out.1 NN.out.2.1
  have u6' : Blk (w6.setCell ⟨ub, 5, none⟩ (.int .u64 (S : Int))) ub #[.string ⟨N.toArray⟩, .int .i64 V, .int .u64 (K : Int), .int .i64 C, .int .u64 (R : Int), .int .u64 (S : Int)] 26 := u6.set 5 _
  have v6' := v6.kept (Kept.one w6 ub 5 (.int .u64 (S : Int))) NN.out.2.2.2.2.1
  have k06' := k06.setNew (b := ub) (by have := NN.out.2.2.2.2.2; omega) 5 (.int .u64 (S : Int))
  have d1 : w6.cell? ⟨w.heap.size + 1, 1, none⟩ = some (.int .i64 S6.e) := by obtain ⟨ok, v', hb', hv'⟩ := r6; exact hb'.cell 1
  obtain ⟨a6, cp6, d0⟩ : ∃ a c, w6.cell? ⟨w.heap.size + 1, 0, none⟩ = some (.slice a S6.l.length c) := by
    obtain ⟨ok, v', hb', hv'⟩ := r6
    obtain ⟨a', c', e', _⟩ := hv'.shape
    rw [e'] at hb'
    exact ⟨a', c', hb'.cell 0⟩
  have hne1 : ub ≠ w.heap.size + 1 := by have := NN.out.2.2.2.2.2; omega
  have hne2 : w.heap.size + 1 ≠ ub := Ne.symm hne1
  clear r5' k05' v5' u5' k6 r6 k06 v6 u6 c4 f4
  rw [e6] at d1
  rw [l6] at d0
  clear e6 l6
  go_wp2_with (first | (refine wpList_load_blk rfl _ _ rfl rfl u6' Up.aUpd ?_) | fail)
  refine (J.out.2.2.2.2 _).mono ?_
  rintro e w8 ⟨rfl, k8⟩
  have k08 := k06'.trans k8
  have v8 := v6'.kept k8 (fun h => h)
  have u8 := u6'.kept k8 (fun h => h)
  clear k06' v6' u6' k8 d0 d1 r6' hne1 hne2 c5 f5 NN J
  go_wp2_with (first | (refine wpList_load_blk rfl _ _ rfl rfl u8 Up.aUpd ?_) | (refine wpList_store_blk rfl _ _ _ rfl rfl rfl v8 Up.aUpd rfl (Up.upd_all _ _ _ _ _ _) ?_; intro w7 hR7 k7) | fail)
  exact bodyPost_ret (v := .tuple #[updV ⟨N.toArray⟩ V K C R S, .int .i64 0]) (results_blk2 rfl _ rfl rfl hR7 Up.aUpd) rfl ⟨rfl, k08.then k7 (fun i hi (h : i = w.heap.size) => by omega)⟩

/-- postmarkref5.Read. -/
theorem read (v : Value) (lo hi : Nat) (l : List UInt8) (w : World) (hv : Bs w lo hi v l) : Calls Try.prog 26 #[v] w fun e w' => e = .returned (.tuple #[(readQ l).V, .int .i64 (readE l)]) ∧ Kept None w w' := by
  by_cases h : 512 < l.length
  · exact read_long v lo hi l w hv h
  by_cases h2 : (rd6 l).e ≠ 0
  · exact read_err v lo hi l w hv h h2
  by_cases h3 : 0 < (rd6 l).l.length
  · exact read_more v lo hi l w hv h h2 h3
  cases h4 : (reqOf wholeI l).right with
  | false => exact read_form v lo hi l w hv h h2 h3 h4
  | true => exact read_ok v lo hi l w hv h h2 h3 h4
end RUp
end Go.Proofs.Ytbckjkfdkgomiaa
