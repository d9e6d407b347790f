/- Package update, what reads. -/
import Derived.Test.YtbckjkfdkgomiaaLowUpd
import Derived.Test.YtbckjkfdkgomiaaLowRd
/- update.Read, by contract. -/
namespace Go.Proofs.Ytbckjkfdkgomiaa
open Go.RowKit Go.Pm
namespace Up

theorem wholeI_le {n : Int} (h : n ≤ 9223372036854775807) : wholeI n = n := by unfold wholeI; omega
theorem wholeI_gt {n : Int} (h : 9223372036854775807 < n) : wholeI n = 9223372036854775807 := by unfold wholeI; omega
set_option maxRecDepth 100000 in
/-- update.whole. -/
theorem whole (n : Int) (w : World) (h0 : 0 ≤ n) (h1 : n < 18446744073709551616) : Calls Try.prog 64 #[.int .u64 n] w fun e w' => e = .returned (.int .i64 (wholeI n)) ∧ w = w' := by
  by_cases h : n ≤ 9223372036854775807
  · rw [wholeI_le h]
    go_enter Try.func64, Try.ntmps64
    go_wp2
    go_ret
    exact ⟨rfl, rfl⟩
  · rw [wholeI_gt (by omega)]
    go_enter Try.func64, Try.ntmps64
    go_wp2
    go_ret
    exact ⟨rfl, rfl⟩

set_option maxRecDepth 100000 in
set_option maxHeartbeats 8000000 in
/-- update.fields. -/
theorem fields (rr lo hi : Nat) (l : List UInt8) (w : World) (hr : Bin.Rd w lo hi rr ⟨l, 0⟩) (hlo : hi ≤ rr) (hl : l.length ≤ 512) :
    Calls Try.prog 42 #[.pointer (some ⟨rr, 0, none⟩)] w fun e w' => e = .returned (reqOf wholeI l).V ∧ Kept (Just rr) w w' ∧ Bin.Rd w' lo hi rr (rd6 l) := by
  have j0 := fun w h => Bin.rlump rr lo hi ⟨l, 0⟩ 32 w h (by decide) (by decide) hlo (by simp; omega)
  have q1 := fun w h => Bin.rnum rr lo hi (rd1 l) w h hlo
  have q2 := fun w h => Bin.rnum rr lo hi (rd2 l) w h hlo
  have q3 := fun w h => Bin.rnum rr lo hi (rd3 l) w h hlo
  have q4 := fun w h => Bin.rnum rr lo hi (rd4 l) w h hlo
  have q5 := fun w h => Bin.rnum rr lo hi (rd5 l) w h hlo
  have p1 := fun w => whole (rd1 l).num w (St.num_ge _) (St.num_lt _)
  have p3 := fun w => whole (rd3 l).num w (St.num_ge _) (St.num_lt _)
  rw [← St.nat_eq] at q2 q4 q5
  rw [show St.lump ⟨l, 0⟩ 32 = rdN l from rfl, show St.lumpS ⟨l, 0⟩ 32 = rd1 l from rfl] at j0
  rw [show (rd1 l).numS = rd2 l from rfl] at q1
  rw [show (rd2 l).numS = rd3 l from rfl] at q2
  rw [show (rd3 l).numS = rd4 l from rfl] at q3
  rw [show (rd4 l).numS = rd5 l from rfl] at q4
  rw [show (rd5 l).numS = rd6 l from rfl] at q5
  show Calls Try.prog 42 #[.pointer (some ⟨rr, 0, none⟩)] w fun e w' => e = .returned (updV ⟨(rdN l).toArray⟩ (wholeI (rd1 l).num) (rd2 l).nat (wholeI (rd3 l).num) (rd4 l).nat (rd5 l).nat) ∧ Kept (Just rr) w w' ∧ Bin.Rd w' lo hi rr (rd6 l)
  obtain ⟨N, hN⟩ : ∃ N, N = rdN l := ⟨_, rfl⟩
  obtain ⟨V, hV⟩ : ∃ V, V = wholeI (rd1 l).num := ⟨_, rfl⟩
  obtain ⟨K, hK⟩ : ∃ K, K = (rd2 l).nat := ⟨_, rfl⟩
  obtain ⟨C, hC⟩ : ∃ C, C = wholeI (rd3 l).num := ⟨_, rfl⟩
  obtain ⟨R, hR⟩ : ∃ R, R = (rd4 l).nat := ⟨_, rfl⟩
  obtain ⟨S, hS⟩ : ∃ S, S = (rd5 l).nat := ⟨_, rfl⟩
  rw [← hN, ← hV, ← hK, ← hC, ← hR, ← hS]
  rw [← hN] at j0
  rw [← hV] at p1
  rw [← hC] at p3
  rw [← hK] at q2
  rw [← hR] at q4
  rw [← hS] at q5
  obtain ⟨x1, hx1⟩ : ∃ x, x = (rd1 l).num := ⟨_, rfl⟩
  obtain ⟨x3, hx3⟩ : ∃ x, x = (rd3 l).num := ⟨_, rfl⟩
  rw [← hx1] at q1 p1
  rw [← hx3] at q3 p3
  obtain ⟨S0, hS0⟩ : ∃ S0, S0 = (⟨l, 0⟩ : St) := ⟨_, rfl⟩
  obtain ⟨S1, hS1⟩ : ∃ S1, S1 = rd1 l := ⟨_, rfl⟩
  obtain ⟨S2, hS2⟩ : ∃ S2, S2 = rd2 l := ⟨_, rfl⟩
  obtain ⟨S3, hS3⟩ : ∃ S3, S3 = rd3 l := ⟨_, rfl⟩
  obtain ⟨S4, hS4⟩ : ∃ S4, S4 = rd4 l := ⟨_, rfl⟩
  obtain ⟨S5, hS5⟩ : ∃ S5, S5 = rd5 l := ⟨_, rfl⟩
  obtain ⟨S6, hS6⟩ : ∃ S6, S6 = rd6 l := ⟨_, rfl⟩
  rw [← hS0] at hr j0
  rw [← hS1] at j0 q1
  rw [← hS2] at q1 q2
  rw [← hS3] at q2 q3
  rw [← hS4] at q3 q4
  rw [← hS5] at q4 q5
  rw [← hS6] at q5 ⊢
  have J := hid (And.intro j0 (And.intro q1 (And.intro q2 (And.intro q3 (And.intro q4 (And.intro q5 (And.intro p1 p3)))))))
  clear j0 q1 q2 q3 q4 q5 p1 p3 hN hV hK hC hR hS hx1 hx3 hS0 hS1 hS2 hS3 hS4 hS5 hS6 hl
  have hlt := hr.lt
  have NE : ∀ k, lo ≤ k → k < hi → ¬ Just (w.heap.size + 1) k := fun k _ h e => by unfold Just at e; omega
  have NR : ¬ Just (w.heap.size + 1) rr := fun e => by unfold Just at e; omega
  have NU : ¬ Just rr (w.heap.size + 1) := fun e => by unfold Just at e; omega
  have NV : ¬ Just rr w.heap.size := fun e => by unfold Just at e; omega
  have NW : ¬ Just (w.heap.size + 1) w.heap.size := fun e => by unfold Just at e; omega
  have NN := hid (And.intro NE (And.intro NR (And.intro NU (And.intro NV NW))))
  clear NE NR NU NV NW
  have k0 : Kept (Just rr) w ((w.alloc (.cells #[.string ⟨#[]⟩, .int .i64 0, .int .u64 0, .int .i64 0, .int .u64 0, .int .u64 0] 26)).alloc (.cells #[.string ⟨#[]⟩, .int .i64 0, .int .u64 0, .int .i64 0, .int .u64 0, .int .u64 0] 26)) := ((Kept.refl _ _).alloc _).alloc _
  have r0 := hr.kept (((Kept.refl None w).alloc (.cells #[.string ⟨#[]⟩, .int .i64 0, .int .u64 0, .int .i64 0, .int .u64 0, .int .u64 0] 26)).alloc (.cells #[.string ⟨#[]⟩, .int .i64 0, .int .u64 0, .int .i64 0, .int .u64 0, .int .u64 0] 26)) (fun _ _ _ h => h) (fun h => h)
  have u0 := Blk.new2 w (.cells #[.string ⟨#[]⟩, .int .i64 0, .int .u64 0, .int .i64 0, .int .u64 0, .int .u64 0] 26) #[.string ⟨#[]⟩, .int .i64 0, .int .u64 0, .int .i64 0, .int .u64 0, .int .u64 0] 26
  have v0 : Blk ((w.alloc (.cells #[.string ⟨#[]⟩, .int .i64 0, .int .u64 0, .int .i64 0, .int .u64 0, .int .u64 0] 26)).alloc (.cells #[.string ⟨#[]⟩, .int .i64 0, .int .u64 0, .int .i64 0, .int .u64 0, .int .u64 0] 26)) w.heap.size #[.string ⟨#[]⟩, .int .i64 0, .int .u64 0, .int .i64 0, .int .u64 0, .int .u64 0] 26 := (Blk.new w _ _).alloc _
  go_enter Try.func42, Try.ntmps42
  go_wp2_with fail
  refine (J.out.1 _ r0).mono ?_
  rintro e w1 ⟨uN, rfl, k1, b1, r1⟩
  have bN := b1.bs (Nat.le_refl _)
  obtain ⟨aN, cN, rfl⟩ := b1.form
  have kk1 := k0.trans k1
  have u1 := u0.kept k1 NN.out.2.2.1
  have v1 := v0.kept k1 NN.out.2.2.2.1
  have c0 : w1.cell? ⟨w.heap.size + 1, 0, none⟩ = some (.string ⟨#[]⟩) := u1.cell 0
  have f0 := u1.free 0
  have r1' := r1.kept (Kept.one w1 (w.heap.size + 1) 0 (.string ⟨N.toArray⟩)) NN.out.1 NN.out.2.1
  have u1' : Blk (w1.setCell ⟨w.heap.size + 1, 0, none⟩ (.string ⟨N.toArray⟩)) (w.heap.size + 1) #[.string ⟨N.toArray⟩, .int .i64 0, .int .u64 0, .int .i64 0, .int .u64 0, .int .u64 0] 26 := u1.set 0 _
  have v1' := v1.setOther (a := ⟨w.heap.size + 1, 0, none⟩) (by show w.heap.size ≠ w.heap.size + 1; omega) (.string ⟨N.toArray⟩)
  have kk1' := kk1.setNew (b := w.heap.size + 1) (by omega) 0 (.string ⟨N.toArray⟩)
  clear r0 u0 v0 k0 r1 b1 u1 v1 kk1 k1 hr
  go_wp2_with (first | (refine wpList_text rfl 32 9 5 _ rfl tBytes' tByte tString rfl bN ?_) | fail)
  refine (J.out.2.1 _ r1').mono ?_
  rintro e w2 ⟨rfl, k2, r2⟩
  have kk2 := kk1'.trans k2
  have u2 := u1'.kept k2 NN.out.2.2.1
  have v2 := v1'.kept k2 NN.out.2.2.2.1
  clear r1' u1' v1' kk1' k2 c0 f0
  go_wp2_with fail
  refine (J.out.2.2.2.2.2.2.1 _).mono ?_
  rintro e w2' ⟨rfl, rfl⟩
  have c1 : w2.cell? ⟨w.heap.size + 1, 1, none⟩ = some (.int .i64 0) := u2.cell 1
  have f1 := u2.free 1
  have r2' := r2.kept (Kept.one w2 (w.heap.size + 1) 1 (.int .i64 V)) NN.out.1 NN.out.2.1
  have u2' : Blk (w2.setCell ⟨w.heap.size + 1, 1, none⟩ (.int .i64 V)) (w.heap.size + 1) #[.string ⟨N.toArray⟩, .int .i64 V, .int .u64 0, .int .i64 0, .int .u64 0, .int .u64 0] 26 := u2.set 1 _
  have v2' := v2.setOther (a := ⟨w.heap.size + 1, 1, none⟩) (by show w.heap.size ≠ w.heap.size + 1; omega) (.int .i64 V)
  have kk2' := kk2.setNew (b := w.heap.size + 1) (by omega) 1 (.int .i64 V)
  clear r2 u2 v2 kk2
  go_wp2_with fail
  refine (J.out.2.2.1 _ r2').mono ?_
  rintro e w3 ⟨rfl, k3, r3⟩
  have kk3 := kk2'.trans k3
  have u3 := u2'.kept k3 NN.out.2.2.1
  have v3 := v2'.kept k3 NN.out.2.2.2.1
  have c2 : w3.cell? ⟨w.heap.size + 1, 2, none⟩ = some (.int .u64 0) := u3.cell 2
  have f2 := u3.free 2
  have r3' := r3.kept (Kept.one w3 (w.heap.size + 1) 2 (.int .u64 (K : Int))) NN.out.1 NN.out.2.1
  have u3' : Blk (w3.setCell ⟨w.heap.size + 1, 2, none⟩ (.int .u64 (K : Int))) (w.heap.size + 1) #[.string ⟨N.toArray⟩, .int .i64 V, .int .u64 (K : Int), .int .i64 0, .int .u64 0, .int .u64 0] 26 := u3.set 2 _
  have v3' := v3.setOther (a := ⟨w.heap.size + 1, 2, none⟩) (by show w.heap.size ≠ w.heap.size + 1; omega) (.int .u64 (K : Int))
  have kk3' := kk3.setNew (b := w.heap.size + 1) (by omega) 2 (.int .u64 (K : Int))
  clear r3 u3 v3 kk3 r2' u2' v2' kk2' k3 c1 f1
  go_wp2_with fail
  refine (J.out.2.2.2.1 _ r3').mono ?_
  rintro e w4 ⟨rfl, k4, r4⟩
  have kk4 := kk3'.trans k4
  have u4 := u3'.kept k4 NN.out.2.2.1
  have v4 := v3'.kept k4 NN.out.2.2.2.1
  clear r3' u3' v3' kk3' k4 c2 f2
  go_wp2_with fail
  refine (J.out.2.2.2.2.2.2.2 _).mono ?_
  rintro e w4' ⟨rfl, rfl⟩
  have c3 : w4.cell? ⟨w.heap.size + 1, 3, none⟩ = some (.int .i64 0) := u4.cell 3
  have f3 := u4.free 3
  have r4' := r4.kept (Kept.one w4 (w.heap.size + 1) 3 (.int .i64 C)) NN.out.1 NN.out.2.1
  have u4' : Blk (w4.setCell ⟨w.heap.size + 1, 3, none⟩ (.int .i64 C)) (w.heap.size + 1) #[.string ⟨N.toArray⟩, .int .i64 V, .int .u64 (K : Int), .int .i64 C, .int .u64 0, .int .u64 0] 26 := u4.set 3 _
  have v4' := v4.setOther (a := ⟨w.heap.size + 1, 3, none⟩) (by show w.heap.size ≠ w.heap.size + 1; omega) (.int .i64 C)
  have kk4' := kk4.setNew (b := w.heap.size + 1) (by omega) 3 (.int .i64 C)
  clear r4 u4 v4 kk4
  go_wp2_with fail
  refine (J.out.2.2.2.2.1 _ r4').mono ?_
  rintro e w5 ⟨rfl, k5, r5⟩
  have kk5 := kk4'.trans k5
  have u5 := u4'.kept k5 NN.out.2.2.1
  have v5 := v4'.kept k5 NN.out.2.2.2.1
  have c4 : w5.cell? ⟨w.heap.size + 1, 4, none⟩ = some (.int .u64 0) := u5.cell 4
  have f4 := u5.free 4
  have r5' := r5.kept (Kept.one w5 (w.heap.size + 1) 4 (.int .u64 (R : Int))) NN.out.1 NN.out.2.1
  have u5' : Blk (w5.setCell ⟨w.heap.size + 1, 4, none⟩ (.int .u64 (R : Int))) (w.heap.size + 1) #[.string ⟨N.toArray⟩, .int .i64 V, .int .u64 (K : Int), .int .i64 C, .int .u64 (R : Int), .int .u64 0] 26 := u5.set 4 _
  have v5' := v5.setOther (a := ⟨w.heap.size + 1, 4, none⟩) (by show w.heap.size ≠ w.heap.size + 1; omega) (.int .u64 (R : Int))
  have kk5' := kk5.setNew (b := w.heap.size + 1) (by omega) 4 (.int .u64 (R : Int))
  clear r5 u5 v5 kk5 r4' u4' v4' kk4' k5 c3 f3
  go_wp2_with fail
  refine (J.out.2.2.2.2.2.1 _ r5').mono ?_
  rintro e w6 ⟨rfl, k6, r6⟩
  have kk6 := kk5'.trans k6
  have u6 := u5'.kept k6 NN.out.2.2.1
  have v6 := v5'.kept k6 NN.out.2.2.2.1
  have c5 : w6.cell? ⟨w.heap.size + 1, 5, none⟩ = some (.int .u64 0) := u6.cell 5
  have f5 := u6.free 5
  have r6' := r6.kept (Kept.one w6 (w.heap.size + 1) 5 (.int .u64 (S : Int))) NN.out.1 NN.out.2.1
  have u6' : Blk (w6.setCell ⟨w.heap.size + 1, 5, none⟩ (.int .u64 (S : Int))) (w.heap.size + 1) #[.string ⟨N.toArray⟩, .int .i64 V, .int .u64 (K : Int), .int .i64 C, .int .u64 (R : Int), .int .u64 (S : Int)] 26 := u6.set 5 _
  have v6' := v6.setOther (a := ⟨w.heap.size + 1, 5, none⟩) (by show w.heap.size ≠ w.heap.size + 1; omega) (.int .u64 (S : Int))
  have kk6' := kk6.setNew (b := w.heap.size + 1) (by omega) 5 (.int .u64 (S : Int))
  clear r6 u6 v6 kk6 r5' u5' v5' kk5' k6 c4 f4
  go_wp2_with (first | (refine wpList_load_blk rfl _ _ rfl rfl u6' aUpd ?_) | (refine wpList_store_blk rfl _ _ _ rfl rfl rfl v6' aUpd rfl (upd_all _ _ _ _ _ _) ?_; intro w7 hR7 k7) | fail)
  exact bodyPost_ret (v := updV ⟨N.toArray⟩ V K C R S) (results_blk rfl _ rfl hR7 aUpd) rfl ⟨rfl, kk6'.then k7 (fun i hi (h : i = w.heap.size) => by omega), r6'.kept k7 (fun k _ h (e : k = w.heap.size) => by omega) (fun (e : rr = w.heap.size) => by omega)⟩
end Up
end Go.Proofs.Ytbckjkfdkgomiaa

/- update.Read, by contract: the whole. -/
namespace Go.Proofs.Ytbckjkfdkgomiaa
open Go.RowKit Go.Pm

theorem results_blk2 {P : Program} {fn : Func} {p q : Tmp} {ty : TypeId} (h : fn.results = #[.cell p ty, .tmp q]) (tmps : Array Value) {w : World} {g : Nat} {t : TypeId} {cs : Array Value} (hp : tmps.getD p undef = .pointer (some ⟨g, 0, none⟩)) {x : Value} (hq : tmps.getD q undef = x) (hb : Blk w g cs t)
    (hT : AggTy P ty cs.size) : (results fn tmps).run P w = .ok (.tuple #[.agg cs, x]) w := by
  obtain ⟨d, hu, hd⟩ := hT.ag
  have hp' : tmps[p]?.getD undef = .pointer (some ⟨g, 0, none⟩) := by simpa using hp
  have hq' : tmps[q]?.getD undef = x := by simpa using hq
  have hl := run_loadVar_row w g t ty cs (0, 0) d hb hu (by cases d <;> first | rfl | exact hd) hT.size
  simp [results, h, hp', hq', asAddr, hl]

namespace Up
theorem zero_all : (#[.string ⟨#[]⟩, .int .i64 0, .int .u64 0, .int .i64 0, .int .u64 0, .int .u64 0] : Array Value).all (·.oneCell') = true := by simp [Value.oneCell']
theorem readE_long {l : List UInt8} (h : 512 < l.length) : readE l = 22 := by unfold readE; rw [if_pos h]
theorem readE_err {l : List UInt8} (h : ¬ 512 < l.length) (h2 : (rd6 l).e ≠ 0) : readE l = (rd6 l).e := by unfold readE; rw [if_neg h, if_pos h2]
theorem readE_more {l : List UInt8} (h : ¬ 512 < l.length) (h2 : ¬ (rd6 l).e ≠ 0) (h3 : 0 < (rd6 l).l.length) : readE l = 20 := by unfold readE; rw [if_neg h, if_neg h2, if_pos h3]
theorem readE_form {l : List UInt8} (h : ¬ 512 < l.length) (h2 : ¬ (rd6 l).e ≠ 0) (h3 : ¬ 0 < (rd6 l).l.length) (h4 : (reqOf wholeI l).right = false) : readE l = 23 := by unfold readE; rw [if_neg h, if_neg h2, if_neg h3, h4]; rfl
theorem readE_ok {l : List UInt8} (h : ¬ 512 < l.length) (h2 : ¬ (rd6 l).e ≠ 0) (h3 : ¬ 0 < (rd6 l).l.length) (h4 : (reqOf wholeI l).right = true) : readE l = 0 := by unfold readE; rw [if_neg h, if_neg h2, if_neg h3, h4]; rfl
theorem readQ_none {l : List UInt8} {e : Int} (h : readE l = e) (h0 : e ≠ 0) : readQ l = Req.none := by unfold readQ; rw [h, if_neg h0]
theorem rd_len (l : List UInt8) (m : Nat) (h : l.length ≤ m) : (rd6 l).l.length ≤ m := by
  have h1 : (rd1 l).l.length ≤ l.length := St.lumpS_len ⟨l, 0⟩ 32
  have h2 := St.numS_len (rd1 l)
  have h3 := St.numS_len (rd2 l)
  have h4 := St.numS_len (rd3 l)
  have h5 := St.numS_len (rd4 l)
  have h6 := St.numS_len (rd5 l)
  unfold rd6 rd5 rd4 rd3 rd2 at *
  omega

set_option maxRecDepth 100000 in
set_option maxHeartbeats 8000000 in
theorem read_long (v : Value) (lo hi : Nat) (l : List UInt8) (w : World) (hv : Bs w lo hi v l) (h : 512 < l.length) : Calls Try.prog 24 #[v] w fun e w' => e = .returned (.tuple #[(readQ l).V, .int .i64 (readE l)]) ∧ Kept None w w' := by
  rw [readQ_none (readE_long h) (by decide), readE_long h]
  obtain ⟨a, cap, rfl, g1, g2, g3⟩ := hv.shape
  clear g3 hv
  have k0 : Kept None w (w.alloc (.cells #[.string ⟨#[]⟩, .int .i64 0, .int .u64 0, .int .i64 0, .int .u64 0, .int .u64 0] 26)) := (Kept.refl _ _).alloc _
  have u0 := Blk.new w #[.string ⟨#[]⟩, .int .i64 0, .int .u64 0, .int .i64 0, .int .u64 0, .int .u64 0] 26
  go_enter Try.func24, Try.ntmps24
  go_wp2_with (first | (refine wpList_store_blk rfl _ _ _ rfl rfl rfl u0 aUpd rfl zero_all ?_; intro w7 hR7 k7) | fail)
  exact bodyPost_ret (v := .tuple #[Req.none.V, .int .i64 22]) (results_blk2 rfl _ rfl rfl hR7 aUpd) rfl ⟨rfl, k0.then k7 (fun i hi (h : i = w.heap.size) => by omega)⟩

set_option maxRecDepth 100000 in
set_option maxHeartbeats 8000000 in
theorem read_err (v : Value) (lo hi : Nat) (l : List UInt8) (w : World) (hv : Bs w lo hi v l) (h : ¬ 512 < l.length) (h2 : (rd6 l).e ≠ 0) : Calls Try.prog 24 #[v] w fun e w' => e = .returned (.tuple #[(readQ l).V, .int .i64 (readE l)]) ∧ Kept None w w' := by
  rw [readQ_none (readE_err h h2) h2, readE_err h h2]
  have j0 : ∀ rr lo hi w, Bin.Rd w lo hi rr ⟨l, 0⟩ → hi ≤ rr → Calls Try.prog 42 #[.pointer (some ⟨rr, 0, none⟩)] w fun e w' => e = .returned (updV ⟨(rdN l).toArray⟩ (wholeI (rd1 l).num) (rd2 l).nat (wholeI (rd3 l).num) (rd4 l).nat (rd5 l).nat) ∧ Kept (Just rr) w w' ∧ Bin.Rd w' lo hi rr (rd6 l) := fun rr lo hi w hr hlo => fields rr lo hi l w hr hlo (by omega)
  have j1 := fun rr lo hi w h => Bin.rerr rr lo hi (rd6 l) w h
  have j2 := fun rr lo hi w h => Bin.rleft rr lo hi (rd6 l) w h (rd_len l _ (by omega))
  have j3 := fun w => right ⟨(rdN l).toArray⟩ (wholeI (rd1 l).num) (wholeI (rd3 l).num) (rd2 l).nat (rd4 l).nat (rd5 l).nat w
  obtain ⟨N, hN⟩ : ∃ N, N = rdN l := ⟨_, rfl⟩
  obtain ⟨V, hV⟩ : ∃ V, V = wholeI (rd1 l).num := ⟨_, rfl⟩
  obtain ⟨K, hK⟩ : ∃ K, K = (rd2 l).nat := ⟨_, rfl⟩
  obtain ⟨C, hC⟩ : ∃ C, C = wholeI (rd3 l).num := ⟨_, rfl⟩
  obtain ⟨R, hR⟩ : ∃ R, R = (rd4 l).nat := ⟨_, rfl⟩
  obtain ⟨S, hS⟩ : ∃ S, S = (rd5 l).nat := ⟨_, rfl⟩
  rw [← hN, ← hV, ← hK, ← hC, ← hR, ← hS] at j0 j3
  obtain ⟨S6, hS6⟩ : ∃ S6, S6 = rd6 l := ⟨_, rfl⟩
  rw [← hS6] at j0 j1 j2 h2 ⊢
  obtain ⟨E6, hE6⟩ : ∃ E6, E6 = S6.e := ⟨_, rfl⟩
  rw [← hE6] at j1 h2 ⊢
  have h2b : (E6 != 0) = true := by simpa using h2
  have H := hid (And.intro j0 (And.intro j1 (And.intro j2 j3)))
  clear j0 j1 j2 j3 hS6 hE6 h2
  clear hN hV hK hC hR hS
  obtain ⟨a, cap, rfl, g1, g2, g3⟩ := hv.shape
  clear g3
  have k0 : Kept None w (w.alloc (.cells #[.string ⟨#[]⟩, .int .i64 0, .int .u64 0, .int .i64 0, .int .u64 0, .int .u64 0] 26)) := (Kept.refl _ _).alloc _
  have v0 := Blk.new w #[.string ⟨#[]⟩, .int .i64 0, .int .u64 0, .int .i64 0, .int .u64 0, .int .u64 0] 26
  have hv0 := hv.kept ((Kept.refl None w).alloc (.cells #[.string ⟨#[]⟩, .int .i64 0, .int .u64 0, .int .i64 0, .int .u64 0, .int .u64 0] 26)) (fun _ _ _ h => h)
  clear hv
  go_enter Try.func24, Try.ntmps24
  go_wp2_with fail
  refine (Bin.new _ lo hi l _ hv0 (by omega)).mono ?_
  rintro e w1 ⟨rr, rfl, k1, hsz, r1⟩
  have hsz' : w.heap.size < rr := by simp at hsz; omega
  have k01 := k0.trans k1
  have v1 := v0.kept k1 (fun h => h)
  clear hv0 k0 k1 v0 hsz
  go_wp2_with fail
  refine (H.out.1 _ _ _ _ r1 (Nat.le_refl _)).mono ?_
  rintro e w2 ⟨rfl, k2, r2⟩
  have k02 := k01.then k2 (fun i hi (h : i = rr) => by omega)
  have v2 := v1.kept k2 (fun (h : w.heap.size = rr) => by omega)
  clear k01 k2 v1 r1
  have r3 := r2.kept ((Kept.refl None w2).alloc (.cells #[.string ⟨N.toArray⟩, .int .i64 V, .int .u64 (K : Int), .int .i64 C, .int .u64 (R : Int), .int .u64 (S : Int)] 26)) (fun _ _ _ h => h) (fun h => h)
  have v3 := v2.alloc (.cells #[.string ⟨N.toArray⟩, .int .i64 V, .int .u64 (K : Int), .int .i64 C, .int .u64 (R : Int), .int .u64 (S : Int)] 26)
  have u3 := Blk.new w2 #[.string ⟨N.toArray⟩, .int .i64 V, .int .u64 (K : Int), .int .i64 C, .int .u64 (R : Int), .int .u64 (S : Int)] 26
  have k03 := k02.alloc (.cells #[.string ⟨N.toArray⟩, .int .i64 V, .int .u64 (K : Int), .int .i64 C, .int .u64 (R : Int), .int .u64 (S : Int)] 26)
  clear k02 v2 r2
  go_wp2_with (first | (refine wpList_load_blk rfl _ _ rfl rfl u3 aUpd ?_) | fail)
  refine (H.out.2.1 _ _ _ _ r3).mono ?_
  rintro e w4 ⟨rfl, rfl⟩
  go_wp2_with fail
  refine (H.out.2.1 _ _ _ _ r3).mono ?_
  rintro e w4 ⟨rfl, rfl⟩
  clear r3 H
  go_wp2_with (first | (refine wpList_load_blk rfl _ _ rfl rfl u3 aUpd ?_) | (refine wpList_store_blk rfl _ _ _ rfl rfl rfl v3 aUpd rfl zero_all ?_; intro w7 hR7 k7) | fail)
  exact bodyPost_ret (v := .tuple #[Req.none.V, .int .i64 E6]) (results_blk2 rfl _ rfl rfl hR7 aUpd) rfl ⟨rfl, k03.then k7 (fun i hi (h : i = w.heap.size) => by omega)⟩

set_option maxRecDepth 100000 in
set_option maxHeartbeats 8000000 in
theorem read_more (v : Value) (lo hi : Nat) (l : List UInt8) (w : World) (hv : Bs w lo hi v l) (h : ¬ 512 < l.length) (h2 : ¬ (rd6 l).e ≠ 0) (h3 : 0 < (rd6 l).l.length) : Calls Try.prog 24 #[v] w fun e w' => e = .returned (.tuple #[(readQ l).V, .int .i64 (readE l)]) ∧ Kept None w w' := by
  rw [readQ_none (readE_more h h2 h3) (by decide), readE_more h h2 h3]
  have j0 : ∀ rr lo hi w, Bin.Rd w lo hi rr ⟨l, 0⟩ → hi ≤ rr → Calls Try.prog 42 #[.pointer (some ⟨rr, 0, none⟩)] w fun e w' => e = .returned (updV ⟨(rdN l).toArray⟩ (wholeI (rd1 l).num) (rd2 l).nat (wholeI (rd3 l).num) (rd4 l).nat (rd5 l).nat) ∧ Kept (Just rr) w w' ∧ Bin.Rd w' lo hi rr (rd6 l) := fun rr lo hi w hr hlo => fields rr lo hi l w hr hlo (by omega)
  have j1 := fun rr lo hi w h => Bin.rerr rr lo hi (rd6 l) w h
  have j2 := fun rr lo hi w h => Bin.rleft rr lo hi (rd6 l) w h (rd_len l _ (by omega))
  have j3 := fun w => right ⟨(rdN l).toArray⟩ (wholeI (rd1 l).num) (wholeI (rd3 l).num) (rd2 l).nat (rd4 l).nat (rd5 l).nat w
  obtain ⟨N, hN⟩ : ∃ N, N = rdN l := ⟨_, rfl⟩
  obtain ⟨V, hV⟩ : ∃ V, V = wholeI (rd1 l).num := ⟨_, rfl⟩
  obtain ⟨K, hK⟩ : ∃ K, K = (rd2 l).nat := ⟨_, rfl⟩
  obtain ⟨C, hC⟩ : ∃ C, C = wholeI (rd3 l).num := ⟨_, rfl⟩
  obtain ⟨R, hR⟩ : ∃ R, R = (rd4 l).nat := ⟨_, rfl⟩
  obtain ⟨S, hS⟩ : ∃ S, S = (rd5 l).nat := ⟨_, rfl⟩
  rw [← hN, ← hV, ← hK, ← hC, ← hR, ← hS] at j0 j3
  obtain ⟨S6, hS6⟩ : ∃ S6, S6 = rd6 l := ⟨_, rfl⟩
  have e6 : S6.e = 0 := by rw [hS6]; omega
  rw [← hS6] at j0 j1 j2 h3
  rw [e6] at j1
  have H := hid (And.intro j0 (And.intro j1 (And.intro j2 j3)))
  clear j0 j1 j2 j3 hS6 e6 h2
  clear hN hV hK hC hR hS
  obtain ⟨a, cap, rfl, g1, g2, g3⟩ := hv.shape
  clear g3
  have k0 : Kept None w (w.alloc (.cells #[.string ⟨#[]⟩, .int .i64 0, .int .u64 0, .int .i64 0, .int .u64 0, .int .u64 0] 26)) := (Kept.refl _ _).alloc _
  have v0 := Blk.new w #[.string ⟨#[]⟩, .int .i64 0, .int .u64 0, .int .i64 0, .int .u64 0, .int .u64 0] 26
  have hv0 := hv.kept ((Kept.refl None w).alloc (.cells #[.string ⟨#[]⟩, .int .i64 0, .int .u64 0, .int .i64 0, .int .u64 0, .int .u64 0] 26)) (fun _ _ _ h => h)
  clear hv
  go_enter Try.func24, Try.ntmps24
  go_wp2_with fail
  refine (Bin.new _ lo hi l _ hv0 (by omega)).mono ?_
  rintro e w1 ⟨rr, rfl, k1, hsz, r1⟩
  have hsz' : w.heap.size < rr := by simp at hsz; omega
  have k01 := k0.trans k1
  have v1 := v0.kept k1 (fun h => h)
  clear hv0 k0 k1 v0 hsz
  go_wp2_with fail
  refine (H.out.1 _ _ _ _ r1 (Nat.le_refl _)).mono ?_
  rintro e w2 ⟨rfl, k2, r2⟩
  have k02 := k01.then k2 (fun i hi (h : i = rr) => by omega)
  have v2 := v1.kept k2 (fun (h : w.heap.size = rr) => by omega)
  clear k01 k2 v1 r1
  have r3 := r2.kept ((Kept.refl None w2).alloc (.cells #[.string ⟨N.toArray⟩, .int .i64 V, .int .u64 (K : Int), .int .i64 C, .int .u64 (R : Int), .int .u64 (S : Int)] 26)) (fun _ _ _ h => h) (fun h => h)
  have v3 := v2.alloc (.cells #[.string ⟨N.toArray⟩, .int .i64 V, .int .u64 (K : Int), .int .i64 C, .int .u64 (R : Int), .int .u64 (S : Int)] 26)
  have u3 := Blk.new w2 #[.string ⟨N.toArray⟩, .int .i64 V, .int .u64 (K : Int), .int .i64 C, .int .u64 (R : Int), .int .u64 (S : Int)] 26
  have k03 := k02.alloc (.cells #[.string ⟨N.toArray⟩, .int .i64 V, .int .u64 (K : Int), .int .i64 C, .int .u64 (R : Int), .int .u64 (S : Int)] 26)
  clear k02 v2 r2
  go_wp2_with (first | (refine wpList_load_blk rfl _ _ rfl rfl u3 aUpd ?_) | fail)
  refine (H.out.2.1 _ _ _ _ r3).mono ?_
  rintro e w4 ⟨rfl, rfl⟩
  go_wp2_with fail
  refine (H.out.2.2.1 _ _ _ _ r3).mono ?_
  rintro e w4 ⟨rfl, rfl⟩
  clear r3 H
  go_wp2_with (first | (refine wpList_load_blk rfl _ _ rfl rfl u3 aUpd ?_) | (refine wpList_store_blk rfl _ _ _ rfl rfl rfl v3 aUpd rfl zero_all ?_; intro w7 hR7 k7) | fail)
  exact bodyPost_ret (v := .tuple #[Req.none.V, .int .i64 20]) (results_blk2 rfl _ rfl rfl hR7 aUpd) rfl ⟨rfl, k03.then k7 (fun i hi (h : i = w.heap.size) => by omega)⟩

set_option maxRecDepth 100000 in
set_option maxHeartbeats 8000000 in
theorem read_form (v : Value) (lo hi : Nat) (l : List UInt8) (w : World) (hv : Bs w lo hi v l) (h : ¬ 512 < l.length) (h2 : ¬ (rd6 l).e ≠ 0) (h3 : ¬ 0 < (rd6 l).l.length) (h4 : (reqOf wholeI l).right = false) : Calls Try.prog 24 #[v] w fun e w' => e = .returned (.tuple #[(readQ l).V, .int .i64 (readE l)]) ∧ Kept None w w' := by
  rw [readQ_none (readE_form h h2 h3 h4) (by decide), readE_form h h2 h3 h4]
  have j0 : ∀ rr lo hi w, Bin.Rd w lo hi rr ⟨l, 0⟩ → hi ≤ rr → Calls Try.prog 42 #[.pointer (some ⟨rr, 0, none⟩)] w fun e w' => e = .returned (updV ⟨(rdN l).toArray⟩ (wholeI (rd1 l).num) (rd2 l).nat (wholeI (rd3 l).num) (rd4 l).nat (rd5 l).nat) ∧ Kept (Just rr) w w' ∧ Bin.Rd w' lo hi rr (rd6 l) := fun rr lo hi w hr hlo => fields rr lo hi l w hr hlo (by omega)
  have j1 := fun rr lo hi w h => Bin.rerr rr lo hi (rd6 l) w h
  have j2 := fun rr lo hi w h => Bin.rleft rr lo hi (rd6 l) w h (rd_len l _ (by omega))
  have j3 := fun w => right ⟨(rdN l).toArray⟩ (wholeI (rd1 l).num) (wholeI (rd3 l).num) (rd2 l).nat (rd4 l).nat (rd5 l).nat w
  obtain ⟨N, hN⟩ : ∃ N, N = rdN l := ⟨_, rfl⟩
  obtain ⟨V, hV⟩ : ∃ V, V = wholeI (rd1 l).num := ⟨_, rfl⟩
  obtain ⟨K, hK⟩ : ∃ K, K = (rd2 l).nat := ⟨_, rfl⟩
  obtain ⟨C, hC⟩ : ∃ C, C = wholeI (rd3 l).num := ⟨_, rfl⟩
  obtain ⟨R, hR⟩ : ∃ R, R = (rd4 l).nat := ⟨_, rfl⟩
  obtain ⟨S, hS⟩ : ∃ S, S = (rd5 l).nat := ⟨_, rfl⟩
  rw [← hN, ← hV, ← hK, ← hC, ← hR, ← hS] at j0 j3
  obtain ⟨S6, hS6⟩ : ∃ S6, S6 = rd6 l := ⟨_, rfl⟩
  have e6 : S6.e = 0 := by rw [hS6]; omega
  have l6 : S6.l.length = 0 := by rw [hS6]; omega
  have h5 : rightB (⟨N.toArray⟩ : ByteArray).size V K C = false := by rw [hN, hV, hK, hC]; exact h4
  rw [h5] at j3
  rw [← hS6] at j0 j1 j2
  rw [e6] at j1
  rw [l6] at j2
  have H := hid (And.intro j0 (And.intro j1 (And.intro j2 j3)))
  clear j0 j1 j2 j3 hS6 e6 l6 h2 h3 h4 h5
  clear hN hV hK hC hR hS
  obtain ⟨a, cap, rfl, g1, g2, g3⟩ := hv.shape
  clear g3
  have k0 : Kept None w (w.alloc (.cells #[.string ⟨#[]⟩, .int .i64 0, .int .u64 0, .int .i64 0, .int .u64 0, .int .u64 0] 26)) := (Kept.refl _ _).alloc _
  have v0 := Blk.new w #[.string ⟨#[]⟩, .int .i64 0, .int .u64 0, .int .i64 0, .int .u64 0, .int .u64 0] 26
  have hv0 := hv.kept ((Kept.refl None w).alloc (.cells #[.string ⟨#[]⟩, .int .i64 0, .int .u64 0, .int .i64 0, .int .u64 0, .int .u64 0] 26)) (fun _ _ _ h => h)
  clear hv
  go_enter Try.func24, Try.ntmps24
  go_wp2_with fail
  refine (Bin.new _ lo hi l _ hv0 (by omega)).mono ?_
  rintro e w1 ⟨rr, rfl, k1, hsz, r1⟩
  have hsz' : w.heap.size < rr := by simp at hsz; omega
  have k01 := k0.trans k1
  have v1 := v0.kept k1 (fun h => h)
  clear hv0 k0 k1 v0 hsz
  go_wp2_with fail
  refine (H.out.1 _ _ _ _ r1 (Nat.le_refl _)).mono ?_
  rintro e w2 ⟨rfl, k2, r2⟩
  have k02 := k01.then k2 (fun i hi (h : i = rr) => by omega)
  have v2 := v1.kept k2 (fun (h : w.heap.size = rr) => by omega)
  clear k01 k2 v1 r1
  have r3 := r2.kept ((Kept.refl None w2).alloc (.cells #[.string ⟨N.toArray⟩, .int .i64 V, .int .u64 (K : Int), .int .i64 C, .int .u64 (R : Int), .int .u64 (S : Int)] 26)) (fun _ _ _ h => h) (fun h => h)
  have v3 := v2.alloc (.cells #[.string ⟨N.toArray⟩, .int .i64 V, .int .u64 (K : Int), .int .i64 C, .int .u64 (R : Int), .int .u64 (S : Int)] 26)
  have u3 := Blk.new w2 #[.string ⟨N.toArray⟩, .int .i64 V, .int .u64 (K : Int), .int .i64 C, .int .u64 (R : Int), .int .u64 (S : Int)] 26
  have k03 := k02.alloc (.cells #[.string ⟨N.toArray⟩, .int .i64 V, .int .u64 (K : Int), .int .i64 C, .int .u64 (R : Int), .int .u64 (S : Int)] 26)
  clear k02 v2 r2
  go_wp2_with (first | (refine wpList_load_blk rfl _ _ rfl rfl u3 aUpd ?_) | fail)
  refine (H.out.2.1 _ _ _ _ r3).mono ?_
  rintro e w4 ⟨rfl, rfl⟩
  go_wp2_with fail
  refine (H.out.2.2.1 _ _ _ _ r3).mono ?_
  rintro e w4 ⟨rfl, rfl⟩
  clear r3
  go_wp2_with (first | (refine wpList_load_blk rfl _ _ rfl rfl u3 aUpd ?_) | fail)
  refine (H.out.2.2.2 _).mono ?_
  rintro e w5 ⟨rfl, k5⟩
  have k05 := k03.trans k5
  have v5 := v3.kept k5 (fun h => h)
  have u5 := u3.kept k5 (fun h => h)
  clear k03 v3 u3 k5
  clear H
  go_wp2_with (first | (refine wpList_load_blk rfl _ _ rfl rfl u5 aUpd ?_) | (refine wpList_store_blk rfl _ _ _ rfl rfl rfl v5 aUpd rfl zero_all ?_; intro w7 hR7 k7) | fail)
  exact bodyPost_ret (v := .tuple #[Req.none.V, .int .i64 23]) (results_blk2 rfl _ rfl rfl hR7 aUpd) rfl ⟨rfl, k05.then k7 (fun i hi (h : i = w.heap.size) => by omega)⟩

set_option maxRecDepth 100000 in
set_option maxHeartbeats 8000000 in
theorem read_ok (v : Value) (lo hi : Nat) (l : List UInt8) (w : World) (hv : Bs w lo hi v l) (h : ¬ 512 < l.length) (h2 : ¬ (rd6 l).e ≠ 0) (h3 : ¬ 0 < (rd6 l).l.length) (h4 : (reqOf wholeI l).right = true) : Calls Try.prog 24 #[v] w fun e w' => e = .returned (.tuple #[(readQ l).V, .int .i64 (readE l)]) ∧ Kept None w w' := by
  have eQ : (readQ l).V = updV ⟨(rdN l).toArray⟩ (wholeI (rd1 l).num) (rd2 l).nat (wholeI (rd3 l).num) (rd4 l).nat (rd5 l).nat := by unfold readQ; rw [readE_ok h h2 h3 h4, if_pos rfl]; rfl
  rw [eQ, readE_ok h h2 h3 h4]
  clear eQ
  have j0 : ∀ rr lo hi w, Bin.Rd w lo hi rr ⟨l, 0⟩ → hi ≤ rr → Calls Try.prog 42 #[.pointer (some ⟨rr, 0, none⟩)] w fun e w' => e = .returned (updV ⟨(rdN l).toArray⟩ (wholeI (rd1 l).num) (rd2 l).nat (wholeI (rd3 l).num) (rd4 l).nat (rd5 l).nat) ∧ Kept (Just rr) w w' ∧ Bin.Rd w' lo hi rr (rd6 l) := fun rr lo hi w hr hlo => fields rr lo hi l w hr hlo (by omega)
  have j1 := fun rr lo hi w h => Bin.rerr rr lo hi (rd6 l) w h
  have j2 := fun rr lo hi w h => Bin.rleft rr lo hi (rd6 l) w h (rd_len l _ (by omega))
  have j3 := fun w => right ⟨(rdN l).toArray⟩ (wholeI (rd1 l).num) (wholeI (rd3 l).num) (rd2 l).nat (rd4 l).nat (rd5 l).nat w
  obtain ⟨N, hN⟩ : ∃ N, N = rdN l := ⟨_, rfl⟩
  obtain ⟨V, hV⟩ : ∃ V, V = wholeI (rd1 l).num := ⟨_, rfl⟩
  obtain ⟨K, hK⟩ : ∃ K, K = (rd2 l).nat := ⟨_, rfl⟩
  obtain ⟨C, hC⟩ : ∃ C, C = wholeI (rd3 l).num := ⟨_, rfl⟩
  obtain ⟨R, hR⟩ : ∃ R, R = (rd4 l).nat := ⟨_, rfl⟩
  obtain ⟨S, hS⟩ : ∃ S, S = (rd5 l).nat := ⟨_, rfl⟩
  rw [← hN, ← hV, ← hK, ← hC, ← hR, ← hS] at j0 j3 ⊢
  obtain ⟨S6, hS6⟩ : ∃ S6, S6 = rd6 l := ⟨_, rfl⟩
  have e6 : S6.e = 0 := by rw [hS6]; omega
  have l6 : S6.l.length = 0 := by rw [hS6]; omega
  have h5 : rightB (⟨N.toArray⟩ : ByteArray).size V K C = true := by rw [hN, hV, hK, hC]; exact h4
  rw [h5] at j3
  rw [← hS6] at j0 j1 j2
  rw [e6] at j1
  rw [l6] at j2
  have H := hid (And.intro j0 (And.intro j1 (And.intro j2 j3)))
  clear j0 j1 j2 j3 hS6 e6 l6 h2 h3 h4 h5
  clear hN hV hK hC hR hS
  obtain ⟨a, cap, rfl, g1, g2, g3⟩ := hv.shape
  clear g3
  have k0 : Kept None w (w.alloc (.cells #[.string ⟨#[]⟩, .int .i64 0, .int .u64 0, .int .i64 0, .int .u64 0, .int .u64 0] 26)) := (Kept.refl _ _).alloc _
  have v0 := Blk.new w #[.string ⟨#[]⟩, .int .i64 0, .int .u64 0, .int .i64 0, .int .u64 0, .int .u64 0] 26
  have hv0 := hv.kept ((Kept.refl None w).alloc (.cells #[.string ⟨#[]⟩, .int .i64 0, .int .u64 0, .int .i64 0, .int .u64 0, .int .u64 0] 26)) (fun _ _ _ h => h)
  clear hv
  go_enter Try.func24, Try.ntmps24
  go_wp2_with fail
  refine (Bin.new _ lo hi l _ hv0 (by omega)).mono ?_
  rintro e w1 ⟨rr, rfl, k1, hsz, r1⟩
  have hsz' : w.heap.size < rr := by simp at hsz; omega
  have k01 := k0.trans k1
  have v1 := v0.kept k1 (fun h => h)
  clear hv0 k0 k1 v0 hsz
  go_wp2_with fail
  refine (H.out.1 _ _ _ _ r1 (Nat.le_refl _)).mono ?_
  rintro e w2 ⟨rfl, k2, r2⟩
  have k02 := k01.then k2 (fun i hi (h : i = rr) => by omega)
  have v2 := v1.kept k2 (fun (h : w.heap.size = rr) => by omega)
  clear k01 k2 v1 r1
  have r3 := r2.kept ((Kept.refl None w2).alloc (.cells #[.string ⟨N.toArray⟩, .int .i64 V, .int .u64 (K : Int), .int .i64 C, .int .u64 (R : Int), .int .u64 (S : Int)] 26)) (fun _ _ _ h => h) (fun h => h)
  have v3 := v2.alloc (.cells #[.string ⟨N.toArray⟩, .int .i64 V, .int .u64 (K : Int), .int .i64 C, .int .u64 (R : Int), .int .u64 (S : Int)] 26)
  have u3 := Blk.new w2 #[.string ⟨N.toArray⟩, .int .i64 V, .int .u64 (K : Int), .int .i64 C, .int .u64 (R : Int), .int .u64 (S : Int)] 26
  have k03 := k02.alloc (.cells #[.string ⟨N.toArray⟩, .int .i64 V, .int .u64 (K : Int), .int .i64 C, .int .u64 (R : Int), .int .u64 (S : Int)] 26)
  clear k02 v2 r2
  go_wp2_with (first | (refine wpList_load_blk rfl _ _ rfl rfl u3 aUpd ?_) | fail)
  refine (H.out.2.1 _ _ _ _ r3).mono ?_
  rintro e w4 ⟨rfl, rfl⟩
  go_wp2_with fail
  refine (H.out.2.2.1 _ _ _ _ r3).mono ?_
  rintro e w4 ⟨rfl, rfl⟩
  clear r3
  go_wp2_with (first | (refine wpList_load_blk rfl _ _ rfl rfl u3 aUpd ?_) | fail)
  refine (H.out.2.2.2 _).mono ?_
  rintro e w5 ⟨rfl, k5⟩
  have k05 := k03.trans k5
  have v5 := v3.kept k5 (fun h => h)
  have u5 := u3.kept k5 (fun h => h)
  clear k03 v3 u3 k5
  clear H
  go_wp2_with (first | (refine wpList_load_blk rfl _ _ rfl rfl u5 aUpd ?_) | (refine wpList_store_blk rfl _ _ _ rfl rfl rfl v5 aUpd rfl (upd_all _ _ _ _ _ _) ?_; intro w7 hR7 k7) | fail)
  exact bodyPost_ret (v := .tuple #[updV ⟨N.toArray⟩ V K C R S, .int .i64 0]) (results_blk2 rfl _ rfl rfl hR7 aUpd) rfl ⟨rfl, k05.then k7 (fun i hi (h : i = w.heap.size) => by omega)⟩

/-- update.Read. -/
theorem read (v : Value) (lo hi : Nat) (l : List UInt8) (w : World) (hv : Bs w lo hi v l) : Calls Try.prog 24 #[v] w fun e w' => e = .returned (.tuple #[(readQ l).V, .int .i64 (readE l)]) ∧ Kept None w w' := by
  by_cases h : 512 < l.length
  · exact read_long v lo hi l w hv h
  by_cases h2 : (rd6 l).e ≠ 0
  · exact read_err v lo hi l w hv h h2
  by_cases h3 : 0 < (rd6 l).l.length
  · exact read_more v lo hi l w hv h h2 h3
  cases h4 : (reqOf wholeI l).right with
  | false => exact read_form v lo hi l w hv h h2 h3 h4
  | true => exact read_ok v lo hi l w hv h h2 h3 h4
end Up
end Go.Proofs.Ytbckjkfdkgomiaa
