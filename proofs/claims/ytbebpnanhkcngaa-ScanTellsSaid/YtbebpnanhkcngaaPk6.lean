/- Texts joined: LowUpdRead, RInt1, RUpOf, LowRUpdRead, RReadJ14, RRec15. -/
import Derived.Test.YtbebpnanhkcngaaPk3
import Derived.Test.YtbebpnanhkcngaaPk5
import Derived.Test.YtbebpnanhkcngaaPk4
import Derived.Test.YtbebpnanhkcngaaPk1
import Derived.Test.YtbebpnanhkcngaaPk2
import Derived.Deep.CutBlock
import Derived.Deep.DeepCutAuto
import Derived.Deep.QuietTactic
import Derived.BigQuiet
/- update.Read, by contract. -/
namespace Go.Proofs.Ytbebpnanhkcngaa
open Go.RowKit Go.Pm
namespace Up

theorem wholeI_le {n : Int} (h : n ≤ 9223372036854775807) : wholeI n = n := by unfold wholeI; omega
theorem wholeI_gt {n : Int} (h : 9223372036854775807 < n) : wholeI n = 9223372036854775807 := by unfold wholeI; omega
set_option maxRecDepth 100000 in
/-- update.whole. -/
theorem whole (n : Int) (w : World) (h0 : 0 ≤ n) (h1 : n < 18446744073709551616) : Calls Try.prog 96 #[.int .u64 n] w fun e w' => e = .returned (.int .i64 (wholeI n)) ∧ w = w' := by
  by_cases h : n ≤ 9223372036854775807
  · rw [wholeI_le h]
    go_enter Try.func96, Try.ntmps96
    go_wp2
    go_ret
    exact ⟨rfl, rfl⟩
  · rw [wholeI_gt (by omega)]
    go_enter Try.func96, Try.ntmps96
    go_wp2
    go_ret
    exact ⟨rfl, rfl⟩

set_option maxRecDepth 100000 in
set_option maxHeartbeats 8000000 in
/-- update.fields. -/
theorem fields (rr lo hi : Nat) (l : List UInt8) (w : World) (hr : Bin.Rd w lo hi rr ⟨l, 0⟩) (hlo : hi ≤ rr) (hl : l.length ≤ 512) :
    Calls Try.prog 82 #[.pointer (some ⟨rr, 0, none⟩)] w fun e w' => e = .returned (reqOf wholeI l).V ∧ Kept (Just rr) w w' ∧ Bin.Rd w' lo hi rr (rd6 l) := by
  have j0 := fun w h => Bin.rlump rr lo hi ⟨l, 0⟩ 32 w h (by decide) (by decide) hlo (by simp; omega)
  have q1 := fun w h => Bin.rnum rr lo hi (rd1 l) w h hlo
  have q2 := fun w h => Bin.rnum rr lo hi (rd2 l) w h hlo
  have q3 := fun w h => Bin.rnum rr lo hi (rd3 l) w h hlo
  have q4 := fun w h => Bin.rnum rr lo hi (rd4 l) w h hlo
  have q5 := fun w h => Bin.rnum rr lo hi (rd5 l) w h hlo
  have p1 := fun w => whole (rd1 l).num w (St.num_ge _) (St.num_lt _)
  have p3 := fun w => whole (rd3 l).num w (St.num_ge _) (St.num_lt _)
  rw [← St.nat_eq] at q2 q4 q5
  rw [show St.lump ⟨l, 0⟩ 32 = rdN l from rfl, show St.lumpS ⟨l, 0⟩ 32 = rd1 l from rfl] at j0
  rw [show (rd1 l).numS = rd2 l from rfl] at q1
  rw [show (rd2 l).numS = rd3 l from rfl] at q2
  rw [show (rd3 l).numS = rd4 l from rfl] at q3
  rw [show (rd4 l).numS = rd5 l from rfl] at q4
  rw [show (rd5 l).numS = rd6 l from rfl] at q5
  show Calls Try.prog 82 #[.pointer (some ⟨rr, 0, none⟩)] w fun e w' => e = .returned (updV ⟨(rdN l).toArray⟩ (wholeI (rd1 l).num) (rd2 l).nat (wholeI (rd3 l).num) (rd4 l).nat (rd5 l).nat) ∧ Kept (Just rr) w w' ∧ Bin.Rd w' lo hi rr (rd6 l)
  obtain ⟨N, hN⟩ : ∃ N, N = rdN l := ⟨_, rfl⟩
  obtain ⟨V, hV⟩ : ∃ V, V = wholeI (rd1 l).num := ⟨_, rfl⟩
  obtain ⟨K, hK⟩ : ∃ K, K = (rd2 l).nat := ⟨_, rfl⟩
  obtain ⟨C, hC⟩ : ∃ C, C = wholeI (rd3 l).num := ⟨_, rfl⟩
  obtain ⟨R, hR⟩ : ∃ R, R = (rd4 l).nat := ⟨_, rfl⟩
  obtain ⟨S, hS⟩ : ∃ S, S = (rd5 l).nat := ⟨_, rfl⟩
  rw [← hN, ← hV, ← hK, ← hC, ← hR, ← hS]
  rw [← hN] at j0
  rw [← hV] at p1
  rw [← hC] at p3
  rw [← hK] at q2
  rw [← hR] at q4
  rw [← hS] at q5
  obtain ⟨x1, hx1⟩ : ∃ x, x = (rd1 l).num := ⟨_, rfl⟩
  obtain ⟨x3, hx3⟩ : ∃ x, x = (rd3 l).num := ⟨_, rfl⟩
  rw [← hx1] at q1 p1
  rw [← hx3] at q3 p3
  obtain ⟨S0, hS0⟩ : ∃ S0, S0 = (⟨l, 0⟩ : St) := ⟨_, rfl⟩
  obtain ⟨S1, hS1⟩ : ∃ S1, S1 = rd1 l := ⟨_, rfl⟩
  obtain ⟨S2, hS2⟩ : ∃ S2, S2 = rd2 l := ⟨_, rfl⟩
  obtain ⟨S3, hS3⟩ : ∃ S3, S3 = rd3 l := ⟨_, rfl⟩
  obtain ⟨S4, hS4⟩ : ∃ S4, S4 = rd4 l := ⟨_, rfl⟩
  obtain ⟨S5, hS5⟩ : ∃ S5, S5 = rd5 l := ⟨_, rfl⟩
  obtain ⟨S6, hS6⟩ : ∃ S6, S6 = rd6 l := ⟨_, rfl⟩
  rw [← hS0] at hr j0
  rw [← hS1] at j0 q1
  rw [← hS2] at q1 q2
  rw [← hS3] at q2 q3
  rw [← hS4] at q3 q4
  rw [← hS5] at q4 q5
  rw [← hS6] at q5 ⊢
  have J := hid (And.intro j0 (And.intro q1 (And.intro q2 (And.intro q3 (And.intro q4 (And.intro q5 (And.intro p1 p3)))))))
  clear j0 q1 q2 q3 q4 q5 p1 p3 hN hV hK hC hR hS hx1 hx3 hS0 hS1 hS2 hS3 hS4 hS5 hS6 hl
  have hlt := hr.lt
  have NE : ∀ k, lo ≤ k → k < hi → ¬ Just (w.heap.size + 1) k := fun k _ h e => by unfold Just at e; omega
  have NR : ¬ Just (w.heap.size + 1) rr := fun e => by unfold Just at e; omega
  have NU : ¬ Just rr (w.heap.size + 1) := fun e => by unfold Just at e; omega
  have NV : ¬ Just rr w.heap.size := fun e => by unfold Just at e; omega
  have NW : ¬ Just (w.heap.size + 1) w.heap.size := fun e => by unfold Just at e; omega
  have NN := hid (And.intro NE (And.intro NR (And.intro NU (And.intro NV NW))))
  clear NE NR NU NV NW
  have k0 : Kept (Just rr) w ((w.alloc (.cells #[.string ⟨#[]⟩, .int .i64 0, .int .u64 0, .int .i64 0, .int .u64 0, .int .u64 0] 43)).alloc (.cells #[.string ⟨#[]⟩, .int .i64 0, .int .u64 0, .int .i64 0, .int .u64 0, .int .u64 0] 43)) := ((Kept.refl _ _).alloc _).alloc _
  have r0 := hr.kept (((Kept.refl None w).alloc (.cells #[.string ⟨#[]⟩, .int .i64 0, .int .u64 0, .int .i64 0, .int .u64 0, .int .u64 0] 43)).alloc (.cells #[.string ⟨#[]⟩, .int .i64 0, .int .u64 0, .int .i64 0, .int .u64 0, .int .u64 0] 43)) (fun _ _ _ h => h) (fun h => h)
  have u0 := Blk.new2 w (.cells #[.string ⟨#[]⟩, .int .i64 0, .int .u64 0, .int .i64 0, .int .u64 0, .int .u64 0] 43) #[.string ⟨#[]⟩, .int .i64 0, .int .u64 0, .int .i64 0, .int .u64 0, .int .u64 0] 43
  have v0 : Blk ((w.alloc (.cells #[.string ⟨#[]⟩, .int .i64 0, .int .u64 0, .int .i64 0, .int .u64 0, .int .u64 0] 43)).alloc (.cells #[.string ⟨#[]⟩, .int .i64 0, .int .u64 0, .int .i64 0, .int .u64 0, .int .u64 0] 43)) w.heap.size #[.string ⟨#[]⟩, .int .i64 0, .int .u64 0, .int .i64 0, .int .u64 0, .int .u64 0] 43 := (Blk.new w _ _).alloc _
  go_enter Try.func82, Try.ntmps82
  go_wp2_with fail
  refine (J.out.1 _ r0).mono ?_
  rintro e w1 ⟨uN, rfl, k1, b1, r1⟩
  have bN := b1.bs (Nat.le_refl _)
  obtain ⟨aN, cN, rfl⟩ := b1.form
  have kk1 := k0.trans k1
  have u1 := u0.kept k1 NN.out.2.2.1
  have v1 := v0.kept k1 NN.out.2.2.2.1
  have c0 : w1.cell? ⟨w.heap.size + 1, 0, none⟩ = some (.string ⟨#[]⟩) := u1.cell 0
  have f0 := u1.free 0
  have r1' := r1.kept (Kept.one w1 (w.heap.size + 1) 0 (.string ⟨N.toArray⟩)) NN.out.1 NN.out.2.1
  have u1' : Blk (w1.setCell ⟨w.heap.size + 1, 0, none⟩ (.string ⟨N.toArray⟩)) (w.heap.size + 1) #[.string ⟨N.toArray⟩, .int .i64 0, .int .u64 0, .int .i64 0, .int .u64 0, .int .u64 0] 43 := u1.set 0 _
  have v1' := v1.setOther (a := ⟨w.heap.size + 1, 0, none⟩) (by show w.heap.size ≠ w.heap.size + 1; omega) (.string ⟨N.toArray⟩)
  have kk1' := kk1.setNew (b := w.heap.size + 1) (by omega) 0 (.string ⟨N.toArray⟩)
  clear r0 u0 v0 k0 r1 b1 u1 v1 kk1 k1 hr
  go_wp2_with (first | (refine wpList_text rfl 22 9 5 _ rfl tBytes' tByte tString rfl bN ?_) | fail)
  refine (J.out.2.1 _ r1').mono ?_
  rintro e w2 ⟨rfl, k2, r2⟩
  have kk2 := kk1'.trans k2
  have u2 := u1'.kept k2 NN.out.2.2.1
  have v2 := v1'.kept k2 NN.out.2.2.2.1
  clear r1' u1' v1' kk1' k2 c0 f0
  go_wp2_with fail
  refine (J.out.2.2.2.2.2.2.1 _).mono ?_
  rintro e w2' ⟨rfl, rfl⟩
  have c1 : w2.cell? ⟨w.heap.size + 1, 1, none⟩ = some (.int .i64 0) := u2.cell 1
  have f1 := u2.free 1
  have r2' := r2.kept (Kept.one w2 (w.heap.size + 1) 1 (.int .i64 V)) NN.out.1 NN.out.2.1
  have u2' : Blk (w2.setCell ⟨w.heap.size + 1, 1, none⟩ (.int .i64 V)) (w.heap.size + 1) #[.string ⟨N.toArray⟩, .int .i64 V, .int .u64 0, .int .i64 0, .int .u64 0, .int .u64 0] 43 := u2.set 1 _
  have v2' := v2.setOther (a := ⟨w.heap.size + 1, 1, none⟩) (by show w.heap.size ≠ w.heap.size + 1; omega) (.int .i64 V)
  have kk2' := kk2.setNew (b := w.heap.size + 1) (by omega) 1 (.int .i64 V)
  clear r2 u2 v2 kk2
  go_wp2_with fail
  refine (J.out.2.2.1 _ r2').mono ?_
  rintro e w3 ⟨rfl, k3, r3⟩
  have kk3 := kk2'.trans k3
  have u3 := u2'.kept k3 NN.out.2.2.1
  have v3 := v2'.kept k3 NN.out.2.2.2.1
  have c2 : w3.cell? ⟨w.heap.size + 1, 2, none⟩ = some (.int .u64 0) := u3.cell 2
  have f2 := u3.free 2
  have r3' := r3.kept (Kept.one w3 (w.heap.size + 1) 2 (.int .u64 (K : Int))) NN.out.1 NN.out.2.1
  have u3' : Blk (w3.setCell ⟨w.heap.size + 1, 2, none⟩ (.int .u64 (K : Int))) (w.heap.size + 1) #[.string ⟨N.toArray⟩, .int .i64 V, .int .u64 (K : Int), .int .i64 0, .int .u64 0, .int .u64 0] 43 := u3.set 2 _
  have v3' := v3.setOther (a := ⟨w.heap.size + 1, 2, none⟩) (by show w.heap.size ≠ w.heap.size + 1; omega) (.int .u64 (K : Int))
  have kk3' := kk3.setNew (b := w.heap.size + 1) (by omega) 2 (.int .u64 (K : Int))
  clear r3 u3 v3 kk3 r2' u2' v2' kk2' k3 c1 f1
  go_wp2_with fail
  refine (J.out.2.2.2.1 _ r3').mono ?_
  rintro e w4 ⟨rfl, k4, r4⟩
  have kk4 := kk3'.trans k4
  have u4 := u3'.kept k4 NN.out.2.2.1
  have v4 := v3'.kept k4 NN.out.2.2.2.1
  clear r3' u3' v3' kk3' k4 c2 f2
  go_wp2_with fail
  refine (J.out.2.2.2.2.2.2.2 _).mono ?_
  rintro e w4' ⟨rfl, rfl⟩
  have c3 : w4.cell? ⟨w.heap.size + 1, 3, none⟩ = some (.int .i64 0) := u4.cell 3
  have f3 := u4.free 3
  have r4' := r4.kept (Kept.one w4 (w.heap.size + 1) 3 (.int .i64 C)) NN.out.1 NN.out.2.1
  have u4' : Blk (w4.setCell ⟨w.heap.size + 1, 3, none⟩ (.int .i64 C)) (w.heap.size + 1) #[.string ⟨N.toArray⟩, .int .i64 V, .int .u64 (K : Int), .int .i64 C, .int .u64 0, .int .u64 0] 43 := u4.set 3 _
  have v4' := v4.setOther (a := ⟨w.heap.size + 1, 3, none⟩) (by show w.heap.size ≠ w.heap.size + 1; omega) (.int .i64 C)
  have kk4' := kk4.setNew (b := w.heap.size + 1) (by omega) 3 (.int .i64 C)
  clear r4 u4 v4 kk4
  go_wp2_with fail
  refine (J.out.2.2.2.2.1 _ r4').mono ?_
  rintro e w5 ⟨rfl, k5, r5⟩
  have kk5 := kk4'.trans k5
  have u5 := u4'.kept k5 NN.out.2.2.1
  have v5 := v4'.kept k5 NN.out.2.2.2.1
  have c4 : w5.cell? ⟨w.heap.size + 1, 4, none⟩ = some (.int .u64 0) := u5.cell 4
  have f4 := u5.free 4
  have r5' := r5.kept (Kept.one w5 (w.heap.size + 1) 4 (.int .u64 (R : Int))) NN.out.1 NN.out.2.1
  have u5' : Blk (w5.setCell ⟨w.heap.size + 1, 4, none⟩ (.int .u64 (R : Int))) (w.heap.size + 1) #[.string ⟨N.toArray⟩, .int .i64 V, .int .u64 (K : Int), .int .i64 C, .int .u64 (R : Int), .int .u64 0] 43 := u5.set 4 _
  have v5' := v5.setOther (a := ⟨w.heap.size + 1, 4, none⟩) (by show w.heap.size ≠ w.heap.size + 1; omega) (.int .u64 (R : Int))
  have kk5' := kk5.setNew (b := w.heap.size + 1) (by omega) 4 (.int .u64 (R : Int))
  clear r5 u5 v5 kk5 r4' u4' v4' kk4' k5 c3 f3
  go_wp2_with fail
  refine (J.out.2.2.2.2.2.1 _ r5').mono ?_
  rintro e w6 ⟨rfl, k6, r6⟩
  have kk6 := kk5'.trans k6
  have u6 := u5'.kept k6 NN.out.2.2.1
  have v6 := v5'.kept k6 NN.out.2.2.2.1
  have c5 : w6.cell? ⟨w.heap.size + 1, 5, none⟩ = some (.int .u64 0) := u6.cell 5
  have f5 := u6.free 5
  have r6' := r6.kept (Kept.one w6 (w.heap.size + 1) 5 (.int .u64 (S : Int))) NN.out.1 NN.out.2.1
  have u6' : Blk (w6.setCell ⟨w.heap.size + 1, 5, none⟩ (.int .u64 (S : Int))) (w.heap.size + 1) #[.string ⟨N.toArray⟩, .int .i64 V, .int .u64 (K : Int), .int .i64 C, .int .u64 (R : Int), .int .u64 (S : Int)] 43 := u6.set 5 _
  have v6' := v6.setOther (a := ⟨w.heap.size + 1, 5, none⟩) (by show w.heap.size ≠ w.heap.size + 1; omega) (.int .u64 (S : Int))
  have kk6' := kk6.setNew (b := w.heap.size + 1) (by omega) 5 (.int .u64 (S : Int))
  clear r6 u6 v6 kk6 r5' u5' v5' kk5' k6 c4 f4
  go_wp2_with (first | (refine wpList_load_blk rfl _ _ rfl rfl u6' aUpd ?_) | (refine wpList_store_blk rfl _ _ _ rfl rfl rfl v6' aUpd rfl (upd_all _ _ _ _ _ _) ?_; intro w7 hR7 k7) | fail)
  exact bodyPost_ret (v := updV ⟨N.toArray⟩ V K C R S) (results_blk rfl _ rfl hR7 aUpd) rfl ⟨rfl, kk6'.then k7 (fun i hi (h : i = w.heap.size) => by omega), r6'.kept k7 (fun k _ h (e : k = w.heap.size) => by omega) (fun (e : rr = w.heap.size) => by omega)⟩
end Up
end Go.Proofs.Ytbebpnanhkcngaa

/- update.Read, by contract: the whole. -/
namespace Go.Proofs.Ytbebpnanhkcngaa
open Go.RowKit Go.Pm

theorem results_blk2 {P : Program} {fn : Func} {p q : Tmp} {ty : TypeId} (h : fn.results = #[.cell p ty, .tmp q]) (tmps : Array Value) {w : World} {g : Nat} {t : TypeId} {cs : Array Value} (hp : tmps.getD p undef = .pointer (some ⟨g, 0, none⟩)) {x : Value} (hq : tmps.getD q undef = x) (hb : Blk w g cs t)
    (hT : AggTy P ty cs.size) : (results fn tmps).run P w = .ok (.tuple #[.agg cs, x]) w := by
  obtain ⟨d, hu, hd⟩ := hT.ag
  have hp' : tmps[p]?.getD undef = .pointer (some ⟨g, 0, none⟩) := by simpa using hp
  have hq' : tmps[q]?.getD undef = x := by simpa using hq
  have hl := run_loadVar_row w g t ty cs (0, 0) d hb hu (by cases d <;> first | rfl | exact hd) hT.size
  simp [results, h, hp', hq', asAddr, hl]

namespace Up
theorem zero_all : (#[.string ⟨#[]⟩, .int .i64 0, .int .u64 0, .int .i64 0, .int .u64 0, .int .u64 0] : Array Value).all (·.oneCell') = true := by simp [Value.oneCell']
theorem readE_long {l : List UInt8} (h : 512 < l.length) : readE l = 22 := by unfold readE; rw [if_pos h]
theorem readE_err {l : List UInt8} (h : ¬ 512 < l.length) (h2 : (rd6 l).e ≠ 0) : readE l = (rd6 l).e := by unfold readE; rw [if_neg h, if_pos h2]
theorem readE_more {l : List UInt8} (h : ¬ 512 < l.length) (h2 : ¬ (rd6 l).e ≠ 0) (h3 : 0 < (rd6 l).l.length) : readE l = 20 := by unfold readE; rw [if_neg h, if_neg h2, if_pos h3]
theorem readE_form {l : List UInt8} (h : ¬ 512 < l.length) (h2 : ¬ (rd6 l).e ≠ 0) (h3 : ¬ 0 < (rd6 l).l.length) (h4 : (reqOf wholeI l).right = false) : readE l = 23 := by unfold readE; rw [if_neg h, if_neg h2, if_neg h3, h4]; rfl
theorem readE_ok {l : List UInt8} (h : ¬ 512 < l.length) (h2 : ¬ (rd6 l).e ≠ 0) (h3 : ¬ 0 < (rd6 l).l.length) (h4 : (reqOf wholeI l).right = true) : readE l = 0 := by unfold readE; rw [if_neg h, if_neg h2, if_neg h3, h4]; rfl
theorem readQ_none {l : List UInt8} {e : Int} (h : readE l = e) (h0 : e ≠ 0) : readQ l = Req.none := by unfold readQ; rw [h, if_neg h0]
theorem rd_len (l : List UInt8) (m : Nat) (h : l.length ≤ m) : (rd6 l).l.length ≤ m := by
  have h1 : (rd1 l).l.length ≤ l.length := St.lumpS_len ⟨l, 0⟩ 32
  have h2 := St.numS_len (rd1 l)
  have h3 := St.numS_len (rd2 l)
  have h4 := St.numS_len (rd3 l)
  have h5 := St.numS_len (rd4 l)
  have h6 := St.numS_len (rd5 l)
  unfold rd6 rd5 rd4 rd3 rd2 at *
  omega

set_option maxRecDepth 100000 in
set_option maxHeartbeats 8000000 in
theorem read_long (v : Value) (lo hi : Nat) (l : List UInt8) (w : World) (hv : Bs w lo hi v l) (h : 512 < l.length) : Calls Try.prog 61 #[v] w fun e w' => e = .returned (.tuple #[(readQ l).V, .int .i64 (readE l)]) ∧ Kept None w w' := by
  rw [readQ_none (readE_long h) (by decide), readE_long h]
  obtain ⟨a, cap, rfl, g1, g2, g3⟩ := hv.shape
  clear g3 hv
  have k0 : Kept None w (w.alloc (.cells #[.string ⟨#[]⟩, .int .i64 0, .int .u64 0, .int .i64 0, .int .u64 0, .int .u64 0] 43)) := (Kept.refl _ _).alloc _
  have u0 := Blk.new w #[.string ⟨#[]⟩, .int .i64 0, .int .u64 0, .int .i64 0, .int .u64 0, .int .u64 0] 43
  go_enter Try.func61, Try.ntmps61
  go_wp2_with (first | (refine wpList_store_blk rfl _ _ _ rfl rfl rfl u0 aUpd rfl zero_all ?_; intro w7 hR7 k7) | fail)
  exact bodyPost_ret (v := .tuple #[Req.none.V, .int .i64 22]) (results_blk2 rfl _ rfl rfl hR7 aUpd) rfl ⟨rfl, k0.then k7 (fun i hi (h : i = w.heap.size) => by omega)⟩

set_option maxRecDepth 100000 in
set_option maxHeartbeats 8000000 in
theorem read_err (v : Value) (lo hi : Nat) (l : List UInt8) (w : World) (hv : Bs w lo hi v l) (h : ¬ 512 < l.length) (h2 : (rd6 l).e ≠ 0) : Calls Try.prog 61 #[v] w fun e w' => e = .returned (.tuple #[(readQ l).V, .int .i64 (readE l)]) ∧ Kept None w w' := by
  rw [readQ_none (readE_err h h2) h2, readE_err h h2]
  have j0 : ∀ rr lo hi w, Bin.Rd w lo hi rr ⟨l, 0⟩ → hi ≤ rr → Calls Try.prog 82 #[.pointer (some ⟨rr, 0, none⟩)] w fun e w' => e = .returned (updV ⟨(rdN l).toArray⟩ (wholeI (rd1 l).num) (rd2 l).nat (wholeI (rd3 l).num) (rd4 l).nat (rd5 l).nat) ∧ Kept (Just rr) w w' ∧ Bin.Rd w' lo hi rr (rd6 l) := fun rr lo hi w hr hlo => fields rr lo hi l w hr hlo (by omega)
  have j1 := fun rr lo hi w h => Bin.rerr rr lo hi (rd6 l) w h
  have j2 := fun rr lo hi w h => Bin.rleft rr lo hi (rd6 l) w h (rd_len l _ (by omega))
  have j3 := fun w => right ⟨(rdN l).toArray⟩ (wholeI (rd1 l).num) (wholeI (rd3 l).num) (rd2 l).nat (rd4 l).nat (rd5 l).nat w
  obtain ⟨N, hN⟩ : ∃ N, N = rdN l := ⟨_, rfl⟩
  obtain ⟨V, hV⟩ : ∃ V, V = wholeI (rd1 l).num := ⟨_, rfl⟩
  obtain ⟨K, hK⟩ : ∃ K, K = (rd2 l).nat := ⟨_, rfl⟩
  obtain ⟨C, hC⟩ : ∃ C, C = wholeI (rd3 l).num := ⟨_, rfl⟩
  obtain ⟨R, hR⟩ : ∃ R, R = (rd4 l).nat := ⟨_, rfl⟩
  obtain ⟨S, hS⟩ : ∃ S, S = (rd5 l).nat := ⟨_, rfl⟩
  rw [← hN, ← hV, ← hK, ← hC, ← hR, ← hS] at j0 j3
  obtain ⟨S6, hS6⟩ : ∃ S6, S6 = rd6 l := ⟨_, rfl⟩
  rw [← hS6] at j0 j1 j2 h2 ⊢
  obtain ⟨E6, hE6⟩ : ∃ E6, E6 = S6.e := ⟨_, rfl⟩
  rw [← hE6] at j1 h2 ⊢
  have h2b : (E6 != 0) = true := by simpa using h2
  have H := hid (And.intro j0 (And.intro j1 (And.intro j2 j3)))
  clear j0 j1 j2 j3 hS6 hE6 h2
  clear hN hV hK hC hR hS
  obtain ⟨a, cap, rfl, g1, g2, g3⟩ := hv.shape
  clear g3
  have k0 : Kept None w (w.alloc (.cells #[.string ⟨#[]⟩, .int .i64 0, .int .u64 0, .int .i64 0, .int .u64 0, .int .u64 0] 43)) := (Kept.refl _ _).alloc _
  have v0 := Blk.new w #[.string ⟨#[]⟩, .int .i64 0, .int .u64 0, .int .i64 0, .int .u64 0, .int .u64 0] 43
  have hv0 := hv.kept ((Kept.refl None w).alloc (.cells #[.string ⟨#[]⟩, .int .i64 0, .int .u64 0, .int .i64 0, .int .u64 0, .int .u64 0] 43)) (fun _ _ _ h => h)
  clear hv
  go_enter Try.func61, Try.ntmps61
  go_wp2_with fail
  refine (Bin.new _ lo hi l _ hv0 (by omega)).mono ?_
  rintro e w1 ⟨rr, rfl, k1, hsz, r1⟩
  have hsz' : w.heap.size < rr := by simp at hsz; omega
  have k01 := k0.trans k1
  have v1 := v0.kept k1 (fun h => h)
  clear hv0 k0 k1 v0 hsz
  go_wp2_with fail
  refine (H.out.1 _ _ _ _ r1 (Nat.le_refl _)).mono ?_
  rintro e w2 ⟨rfl, k2, r2⟩
  have k02 := k01.then k2 (fun i hi (h : i = rr) => by omega)
  have v2 := v1.kept k2 (fun (h : w.heap.size = rr) => by omega)
  clear k01 k2 v1 r1
  have r3 := r2.kept ((Kept.refl None w2).alloc (.cells #[.string ⟨N.toArray⟩, .int .i64 V, .int .u64 (K : Int), .int .i64 C, .int .u64 (R : Int), .int .u64 (S : Int)] 43)) (fun _ _ _ h => h) (fun h => h)
  have v3 := v2.alloc (.cells #[.string ⟨N.toArray⟩, .int .i64 V, .int .u64 (K : Int), .int .i64 C, .int .u64 (R : Int), .int .u64 (S : Int)] 43)
  have u3 := Blk.new w2 #[.string ⟨N.toArray⟩, .int .i64 V, .int .u64 (K : Int), .int .i64 C, .int .u64 (R : Int), .int .u64 (S : Int)] 43
  have k03 := k02.alloc (.cells #[.string ⟨N.toArray⟩, .int .i64 V, .int .u64 (K : Int), .int .i64 C, .int .u64 (R : Int), .int .u64 (S : Int)] 43)
  clear k02 v2 r2
  go_wp2_with (first | (refine wpList_load_blk rfl _ _ rfl rfl u3 aUpd ?_) | fail)
  refine (H.out.2.1 _ _ _ _ r3).mono ?_
  rintro e w4 ⟨rfl, rfl⟩
  go_wp2_with fail
  refine (H.out.2.1 _ _ _ _ r3).mono ?_
  rintro e w4 ⟨rfl, rfl⟩
  clear r3 H
  go_wp2_with (first | (refine wpList_load_blk rfl _ _ rfl rfl u3 aUpd ?_) | (refine wpList_store_blk rfl _ _ _ rfl rfl rfl v3 aUpd rfl zero_all ?_; intro w7 hR7 k7) | fail)
  exact bodyPost_ret (v := .tuple #[Req.none.V, .int .i64 E6]) (results_blk2 rfl _ rfl rfl hR7 aUpd) rfl ⟨rfl, k03.then k7 (fun i hi (h : i = w.heap.size) => by omega)⟩

set_option maxRecDepth 100000 in
set_option maxHeartbeats 8000000 in
theorem read_more (v : Value) (lo hi : Nat) (l : List UInt8) (w : World) (hv : Bs w lo hi v l) (h : ¬ 512 < l.length) (h2 : ¬ (rd6 l).e ≠ 0) (h3 : 0 < (rd6 l).l.length) : Calls Try.prog 61 #[v] w fun e w' => e = .returned (.tuple #[(readQ l).V, .int .i64 (readE l)]) ∧ Kept None w w' := by
  rw [readQ_none (readE_more h h2 h3) (by decide), readE_more h h2 h3]
  have j0 : ∀ rr lo hi w, Bin.Rd w lo hi rr ⟨l, 0⟩ → hi ≤ rr → Calls Try.prog 82 #[.pointer (some ⟨rr, 0, none⟩)] w fun e w' => e = .returned (updV ⟨(rdN l).toArray⟩ (wholeI (rd1 l).num) (rd2 l).nat (wholeI (rd3 l).num) (rd4 l).nat (rd5 l).nat) ∧ Kept (Just rr) w w' ∧ Bin.Rd w' lo hi rr (rd6 l) := fun rr lo hi w hr hlo => fields rr lo hi l w hr hlo (by omega)
  have j1 := fun rr lo hi w h => Bin.rerr rr lo hi (rd6 l) w h
  have j2 := fun rr lo hi w h => Bin.rleft rr lo hi (rd6 l) w h (rd_len l _ (by omega))
  have j3 := fun w => right ⟨(rdN l).toArray⟩ (wholeI (rd1 l).num) (wholeI (rd3 l).num) (rd2 l).nat (rd4 l).nat (rd5 l).nat w
  obtain ⟨N, hN⟩ : ∃ N, N = rdN l := ⟨_, rfl⟩
  obtain ⟨V, hV⟩ : ∃ V, V = wholeI (rd1 l).num := ⟨_, rfl⟩
  obtain ⟨K, hK⟩ : ∃ K, K = (rd2 l).nat := ⟨_, rfl⟩
  obtain ⟨C, hC⟩ : ∃ C, C = wholeI (rd3 l).num := ⟨_, rfl⟩
  obtain ⟨R, hR⟩ : ∃ R, R = (rd4 l).nat := ⟨_, rfl⟩
  obtain ⟨S, hS⟩ : ∃ S, S = (rd5 l).nat := ⟨_, rfl⟩
  rw [← hN, ← hV, ← hK, ← hC, ← hR, ← hS] at j0 j3
  obtain ⟨S6, hS6⟩ : ∃ S6, S6 = rd6 l := ⟨_, rfl⟩
  have e6 : S6.e = 0 := by rw [hS6]; omega
  rw [← hS6] at j0 j1 j2 h3
  rw [e6] at j1
  have H := hid (And.intro j0 (And.intro j1 (And.intro j2 j3)))
  clear j0 j1 j2 j3 hS6 e6 h2
  clear hN hV hK hC hR hS
  obtain ⟨a, cap, rfl, g1, g2, g3⟩ := hv.shape
  clear g3
  have k0 : Kept None w (w.alloc (.cells #[.string ⟨#[]⟩, .int .i64 0, .int .u64 0, .int .i64 0, .int .u64 0, .int .u64 0] 43)) := (Kept.refl _ _).alloc _
  have v0 := Blk.new w #[.string ⟨#[]⟩, .int .i64 0, .int .u64 0, .int .i64 0, .int .u64 0, .int .u64 0] 43
  have hv0 := hv.kept ((Kept.refl None w).alloc (.cells #[.string ⟨#[]⟩, .int .i64 0, .int .u64 0, .int .i64 0, .int .u64 0, .int .u64 0] 43)) (fun _ _ _ h => h)
  clear hv
  go_enter Try.func61, Try.ntmps61
  go_wp2_with fail
  refine (Bin.new _ lo hi l _ hv0 (by omega)).mono ?_
  rintro e w1 ⟨rr, rfl, k1, hsz, r1⟩
  have hsz' : w.heap.size < rr := by simp at hsz; omega
  have k01 := k0.trans k1
  have v1 := v0.kept k1 (fun h => h)
  clear hv0 k0 k1 v0 hsz
  go_wp2_with fail
  refine (H.out.1 _ _ _ _ r1 (Nat.le_refl _)).mono ?_
  rintro e w2 ⟨rfl, k2, r2⟩
  have k02 := k01.then k2 (fun i hi (h : i = rr) => by omega)
  have v2 := v1.kept k2 (fun (h : w.heap.size = rr) => by omega)
  clear k01 k2 v1 r1
  have r3 := r2.kept ((Kept.refl None w2).alloc (.cells #[.string ⟨N.toArray⟩, .int .i64 V, .int .u64 (K : Int), .int .i64 C, .int .u64 (R : Int), .int .u64 (S : Int)] 43)) (fun _ _ _ h => h) (fun h => h)
  have v3 := v2.alloc (.cells #[.string ⟨N.toArray⟩, .int .i64 V, .int .u64 (K : Int), .int .i64 C, .int .u64 (R : Int), .int .u64 (S : Int)] 43)
  have u3 := Blk.new w2 #[.string ⟨N.toArray⟩, .int .i64 V, .int .u64 (K : Int), .int .i64 C, .int .u64 (R : Int), .int .u64 (S : Int)] 43
  have k03 := k02.alloc (.cells #[.string ⟨N.toArray⟩, .int .i64 V, .int .u64 (K : Int), .int .i64 C, .int .u64 (R : Int), .int .u64 (S : Int)] 43)
  clear k02 v2 r2
  go_wp2_with (first | (refine wpList_load_blk rfl _ _ rfl rfl u3 aUpd ?_) | fail)
  refine (H.out.2.1 _ _ _ _ r3).mono ?_
  rintro e w4 ⟨rfl, rfl⟩
  go_wp2_with fail
  refine (H.out.2.2.1 _ _ _ _ r3).mono ?_
  rintro e w4 ⟨rfl, rfl⟩
  clear r3 H
  go_wp2_with (first | (refine wpList_load_blk rfl _ _ rfl rfl u3 aUpd ?_) | (refine wpList_store_blk rfl _ _ _ rfl rfl rfl v3 aUpd rfl zero_all ?_; intro w7 hR7 k7) | fail)
  exact bodyPost_ret (v := .tuple #[Req.none.V, .int .i64 20]) (results_blk2 rfl _ rfl rfl hR7 aUpd) rfl ⟨rfl, k03.then k7 (fun i hi (h : i = w.heap.size) => by omega)⟩

set_option maxRecDepth 100000 in
set_option maxHeartbeats 8000000 in
theorem read_form (v : Value) (lo hi : Nat) (l : List UInt8) (w : World) (hv : Bs w lo hi v l) (h : ¬ 512 < l.length) (h2 : ¬ (rd6 l).e ≠ 0) (h3 : ¬ 0 < (rd6 l).l.length) (h4 : (reqOf wholeI l).right = false) : Calls Try.prog 61 #[v] w fun e w' => e = .returned (.tuple #[(readQ l).V, .int .i64 (readE l)]) ∧ Kept None w w' := by
  rw [readQ_none (readE_form h h2 h3 h4) (by decide), readE_form h h2 h3 h4]
  have j0 : ∀ rr lo hi w, Bin.Rd w lo hi rr ⟨l, 0⟩ → hi ≤ rr → Calls Try.prog 82 #[.pointer (some ⟨rr, 0, none⟩)] w fun e w' => e = .returned (updV ⟨(rdN l).toArray⟩ (wholeI (rd1 l).num) (rd2 l).nat (wholeI (rd3 l).num) (rd4 l).nat (rd5 l).nat) ∧ Kept (Just rr) w w' ∧ Bin.Rd w' lo hi rr (rd6 l) := fun rr lo hi w hr hlo => fields rr lo hi l w hr hlo (by omega)
  have j1 := fun rr lo hi w h => Bin.rerr rr lo hi (rd6 l) w h
  have j2 := fun rr lo hi w h => Bin.rleft rr lo hi (rd6 l) w h (rd_len l _ (by omega))
  have j3 := fun w => right ⟨(rdN l).toArray⟩ (wholeI (rd1 l).num) (wholeI (rd3 l).num) (rd2 l).nat (rd4 l).nat (rd5 l).nat w
  obtain ⟨N, hN⟩ : ∃ N, N = rdN l := ⟨_, rfl⟩
  obtain ⟨V, hV⟩ : ∃ V, V = wholeI (rd1 l).num := ⟨_, rfl⟩
  obtain ⟨K, hK⟩ : ∃ K, K = (rd2 l).nat := ⟨_, rfl⟩
  obtain ⟨C, hC⟩ : ∃ C, C = wholeI (rd3 l).num := ⟨_, rfl⟩
  obtain ⟨R, hR⟩ : ∃ R, R = (rd4 l).nat := ⟨_, rfl⟩
  obtain ⟨S, hS⟩ : ∃ S, S = (rd5 l).nat := ⟨_, rfl⟩
  rw [← hN, ← hV, ← hK, ← hC, ← hR, ← hS] at j0 j3
  obtain ⟨S6, hS6⟩ : ∃ S6, S6 = rd6 l := ⟨_, rfl⟩
  have e6 : S6.e = 0 := by rw [hS6]; omega
  have l6 : S6.l.length = 0 := by rw [hS6]; omega
  have h5 : rightB (⟨N.toArray⟩ : ByteArray).size V K C = false := by rw [hN, hV, hK, hC]; exact h4
  rw [h5] at j3
  rw [← hS6] at j0 j1 j2
  rw [e6] at j1
  rw [l6] at j2
  have H := hid (And.intro j0 (And.intro j1 (And.intro j2 j3)))
  clear j0 j1 j2 j3 hS6 e6 l6 h2 h3 h4 h5
  clear hN hV hK hC hR hS
  obtain ⟨a, cap, rfl, g1, g2, g3⟩ := hv.shape
  clear g3
  have k0 : Kept None w (w.alloc (.cells #[.string ⟨#[]⟩, .int .i64 0, .int .u64 0, .int .i64 0, .int .u64 0, .int .u64 0] 43)) := (Kept.refl _ _).alloc _
  have v0 := Blk.new w #[.string ⟨#[]⟩, .int .i64 0, .int .u64 0, .int .i64 0, .int .u64 0, .int .u64 0] 43
  have hv0 := hv.kept ((Kept.refl None w).alloc (.cells #[.string ⟨#[]⟩, .int .i64 0, .int .u64 0, .int .i64 0, .int .u64 0, .int .u64 0] 43)) (fun _ _ _ h => h)
  clear hv
  go_enter Try.func61, Try.ntmps61
  go_wp2_with fail
  refine (Bin.new _ lo hi l _ hv0 (by omega)).mono ?_
  rintro e w1 ⟨rr, rfl, k1, hsz, r1⟩
  have hsz' : w.heap.size < rr := by simp at hsz; omega
  have k01 := k0.trans k1
  have v1 := v0.kept k1 (fun h => h)
  clear hv0 k0 k1 v0 hsz
  go_wp2_with fail
  refine (H.out.1 _ _ _ _ r1 (Nat.le_refl _)).mono ?_
  rintro e w2 ⟨rfl, k2, r2⟩
  have k02 := k01.then k2 (fun i hi (h : i = rr) => by omega)
  have v2 := v1.kept k2 (fun (h : w.heap.size = rr) => by omega)
  clear k01 k2 v1 r1
  have r3 := r2.kept ((Kept.refl None w2).alloc (.cells #[.string ⟨N.toArray⟩, .int .i64 V, .int .u64 (K : Int), .int .i64 C, .int .u64 (R : Int), .int .u64 (S : Int)] 43)) (fun _ _ _ h => h) (fun h => h)
  have v3 := v2.alloc (.cells #[.string ⟨N.toArray⟩, .int .i64 V, .int .u64 (K : Int), .int .i64 C, .int .u64 (R : Int), .int .u64 (S : Int)] 43)
  have u3 := Blk.new w2 #[.string ⟨N.toArray⟩, .int .i64 V, .int .u64 (K : Int), .int .i64 C, .int .u64 (R : Int), .int .u64 (S : Int)] 43
  have k03 := k02.alloc (.cells #[.string ⟨N.toArray⟩, .int .i64 V, .int .u64 (K : Int), .int .i64 C, .int .u64 (R : Int), .int .u64 (S : Int)] 43)
  clear k02 v2 r2
  go_wp2_with (first | (refine wpList_load_blk rfl _ _ rfl rfl u3 aUpd ?_) | fail)
  refine (H.out.2.1 _ _ _ _ r3).mono ?_
  rintro e w4 ⟨rfl, rfl⟩
  go_wp2_with fail
  refine (H.out.2.2.1 _ _ _ _ r3).mono ?_
  rintro e w4 ⟨rfl, rfl⟩
  clear r3
  go_wp2_with (first | (refine wpList_load_blk rfl _ _ rfl rfl u3 aUpd ?_) | fail)
  refine (H.out.2.2.2 _).mono ?_
  rintro e w5 ⟨rfl, k5⟩
  have k05 := k03.trans k5
  have v5 := v3.kept k5 (fun h => h)
  have u5 := u3.kept k5 (fun h => h)
  clear k03 v3 u3 k5
  clear H
  go_wp2_with (first | (refine wpList_load_blk rfl _ _ rfl rfl u5 aUpd ?_) | (refine wpList_store_blk rfl _ _ _ rfl rfl rfl v5 aUpd rfl zero_all ?_; intro w7 hR7 k7) | fail)
  exact bodyPost_ret (v := .tuple #[Req.none.V, .int .i64 23]) (results_blk2 rfl _ rfl rfl hR7 aUpd) rfl ⟨rfl, k05.then k7 (fun i hi (h : i = w.heap.size) => by omega)⟩

set_option maxRecDepth 100000 in
set_option maxHeartbeats 8000000 in
theorem read_ok (v : Value) (lo hi : Nat) (l : List UInt8) (w : World) (hv : Bs w lo hi v l) (h : ¬ 512 < l.length) (h2 : ¬ (rd6 l).e ≠ 0) (h3 : ¬ 0 < (rd6 l).l.length) (h4 : (reqOf wholeI l).right = true) : Calls Try.prog 61 #[v] w fun e w' => e = .returned (.tuple #[(readQ l).V, .int .i64 (readE l)]) ∧ Kept None w w' := by
  have eQ : (readQ l).V = updV ⟨(rdN l).toArray⟩ (wholeI (rd1 l).num) (rd2 l).nat (wholeI (rd3 l).num) (rd4 l).nat (rd5 l).nat := by unfold readQ; rw [readE_ok h h2 h3 h4, if_pos rfl]; rfl
  rw [eQ, readE_ok h h2 h3 h4]
  clear eQ
  have j0 : ∀ rr lo hi w, Bin.Rd w lo hi rr ⟨l, 0⟩ → hi ≤ rr → Calls Try.prog 82 #[.pointer (some ⟨rr, 0, none⟩)] w fun e w' => e = .returned (updV ⟨(rdN l).toArray⟩ (wholeI (rd1 l).num) (rd2 l).nat (wholeI (rd3 l).num) (rd4 l).nat (rd5 l).nat) ∧ Kept (Just rr) w w' ∧ Bin.Rd w' lo hi rr (rd6 l) := fun rr lo hi w hr hlo => fields rr lo hi l w hr hlo (by omega)
  have j1 := fun rr lo hi w h => Bin.rerr rr lo hi (rd6 l) w h
  have j2 := fun rr lo hi w h => Bin.rleft rr lo hi (rd6 l) w h (rd_len l _ (by omega))
  have j3 := fun w => right ⟨(rdN l).toArray⟩ (wholeI (rd1 l).num) (wholeI (rd3 l).num) (rd2 l).nat (rd4 l).nat (rd5 l).nat w
  obtain ⟨N, hN⟩ : ∃ N, N = rdN l := ⟨_, rfl⟩
  obtain ⟨V, hV⟩ : ∃ V, V = wholeI (rd1 l).num := ⟨_, rfl⟩
  obtain ⟨K, hK⟩ : ∃ K, K = (rd2 l).nat := ⟨_, rfl⟩
  obtain ⟨C, hC⟩ : ∃ C, C = wholeI (rd3 l).num := ⟨_, rfl⟩
  obtain ⟨R, hR⟩ : ∃ R, R = (rd4 l).nat := ⟨_, rfl⟩
  obtain ⟨S, hS⟩ : ∃ S, S = (rd5 l).nat := ⟨_, rfl⟩
  rw [← hN, ← hV, ← hK, ← hC, ← hR, ← hS] at j0 j3 ⊢
  obtain ⟨S6, hS6⟩ : ∃ S6, S6 = rd6 l := ⟨_, rfl⟩
  have e6 : S6.e = 0 := by rw [hS6]; omega
  have l6 : S6.l.length = 0 := by rw [hS6]; omega
  have h5 : rightB (⟨N.toArray⟩ : ByteArray).size V K C = true := by rw [hN, hV, hK, hC]; exact h4
  rw [h5] at j3
  rw [← hS6] at j0 j1 j2
  rw [e6] at j1
  rw [l6] at j2
  have H := hid (And.intro j0 (And.intro j1 (And.intro j2 j3)))
  clear j0 j1 j2 j3 hS6 e6 l6 h2 h3 h4 h5
  clear hN hV hK hC hR hS
  obtain ⟨a, cap, rfl, g1, g2, g3⟩ := hv.shape
  clear g3
  have k0 : Kept None w (w.alloc (.cells #[.string ⟨#[]⟩, .int .i64 0, .int .u64 0, .int .i64 0, .int .u64 0, .int .u64 0] 43)) := (Kept.refl _ _).alloc _
  have v0 := Blk.new w #[.string ⟨#[]⟩, .int .i64 0, .int .u64 0, .int .i64 0, .int .u64 0, .int .u64 0] 43
  have hv0 := hv.kept ((Kept.refl None w).alloc (.cells #[.string ⟨#[]⟩, .int .i64 0, .int .u64 0, .int .i64 0, .int .u64 0, .int .u64 0] 43)) (fun _ _ _ h => h)
  clear hv
  go_enter Try.func61, Try.ntmps61
  go_wp2_with fail
  refine (Bin.new _ lo hi l _ hv0 (by omega)).mono ?_
  rintro e w1 ⟨rr, rfl, k1, hsz, r1⟩
  have hsz' : w.heap.size < rr := by simp at hsz; omega
  have k01 := k0.trans k1
  have v1 := v0.kept k1 (fun h => h)
  clear hv0 k0 k1 v0 hsz
  go_wp2_with fail
  refine (H.out.1 _ _ _ _ r1 (Nat.le_refl _)).mono ?_
  rintro e w2 ⟨rfl, k2, r2⟩
  have k02 := k01.then k2 (fun i hi (h : i = rr) => by omega)
  have v2 := v1.kept k2 (fun (h : w.heap.size = rr) => by omega)
  clear k01 k2 v1 r1
  have r3 := r2.kept ((Kept.refl None w2).alloc (.cells #[.string ⟨N.toArray⟩, .int .i64 V, .int .u64 (K : Int), .int .i64 C, .int .u64 (R : Int), .int .u64 (S : Int)] 43)) (fun _ _ _ h => h) (fun h => h)
  have v3 := v2.alloc (.cells #[.string ⟨N.toArray⟩, .int .i64 V, .int .u64 (K : Int), .int .i64 C, .int .u64 (R : Int), .int .u64 (S : Int)] 43)
  have u3 := Blk.new w2 #[.string ⟨N.toArray⟩, .int .i64 V, .int .u64 (K : Int), .int .i64 C, .int .u64 (R : Int), .int .u64 (S : Int)] 43
  have k03 := k02.alloc (.cells #[.string ⟨N.toArray⟩, .int .i64 V, .int .u64 (K : Int), .int .i64 C, .int .u64 (R : Int), .int .u64 (S : Int)] 43)
  clear k02 v2 r2
  go_wp2_with (first | (refine wpList_load_blk rfl _ _ rfl rfl u3 aUpd ?_) | fail)
  refine (H.out.2.1 _ _ _ _ r3).mono ?_
  rintro e w4 ⟨rfl, rfl⟩
  go_wp2_with fail
  refine (H.out.2.2.1 _ _ _ _ r3).mono ?_
  rintro e w4 ⟨rfl, rfl⟩
  clear r3
  go_wp2_with (first | (refine wpList_load_blk rfl _ _ rfl rfl u3 aUpd ?_) | fail)
  refine (H.out.2.2.2 _).mono ?_
  rintro e w5 ⟨rfl, k5⟩
  have k05 := k03.trans k5
  have v5 := v3.kept k5 (fun h => h)
  have u5 := u3.kept k5 (fun h => h)
  clear k03 v3 u3 k5
  clear H
  go_wp2_with (first | (refine wpList_load_blk rfl _ _ rfl rfl u5 aUpd ?_) | (refine wpList_store_blk rfl _ _ _ rfl rfl rfl v5 aUpd rfl (upd_all _ _ _ _ _ _) ?_; intro w7 hR7 k7) | fail)
  exact bodyPost_ret (v := .tuple #[updV ⟨N.toArray⟩ V K C R S, .int .i64 0]) (results_blk2 rfl _ rfl rfl hR7 aUpd) rfl ⟨rfl, k05.then k7 (fun i hi (h : i = w.heap.size) => by omega)⟩

/-- update.Read. -/
theorem read (v : Value) (lo hi : Nat) (l : List UInt8) (w : World) (hv : Bs w lo hi v l) : Calls Try.prog 61 #[v] w fun e w' => e = .returned (.tuple #[(readQ l).V, .int .i64 (readE l)]) ∧ Kept None w w' := by
  by_cases h : 512 < l.length
  · exact read_long v lo hi l w hv h
  by_cases h2 : (rd6 l).e ≠ 0
  · exact read_err v lo hi l w hv h h2
  by_cases h3 : 0 < (rd6 l).l.length
  · exact read_more v lo hi l w hv h h2 h3
  cases h4 : (reqOf wholeI l).right with
  | false => exact read_form v lo hi l w hv h h2 h3 h4
  | true => exact read_ok v lo hi l w hv h h2 h3 h4
end Up
end Go.Proofs.Ytbebpnanhkcngaa
namespace Go.Pm
open Go Go.RowKit
theorem intI_le' {n : Int} (h : ¬ 9223372036854775807 < n) : intI n = n := by unfold intI; rw [if_neg h]
theorem intI_gt' {n : Int} (h : 9223372036854775807 < n) : intI n = -1 := by unfold intI; rw [if_pos h]
end Go.Pm
namespace Go.Proofs.Ytbebpnanhkcngaa
open Go.RowKit Go.Pm
namespace Ref
set_option maxRecDepth 100000 in
set_option maxHeartbeats 400000 in
theorem rint (r : Nat) (lo hi : Nat) (s : St) (w : World) (hr : Ref.Rd w lo hi r s) (hlo : hi ≤ r) :
    Calls Try.prog 29 #[.pointer (some ⟨r, 0, none⟩)] w fun en w' => en = .returned (.int .i64 (intI s.num)) ∧ Kept (Just r) w w' ∧ Ref.Rd w' lo hi r s.numS := by
  have j := fun w h => Ref.rnum r lo hi s w h hlo
  have n0 := St.num_ge s
  have n1 := St.num_lt s
  obtain ⟨x, hx⟩ : ∃ x, x = s.num := ⟨_, rfl⟩
  rw [← hx] at j n0 n1 ⊢
  obtain ⟨s', hs'⟩ : ∃ s', s' = s.numS := ⟨_, rfl⟩
  rw [← hs'] at j ⊢
  have J := hid j
  clear j hx hs'
  by_cases h : 9223372036854775807 < x
  · rw [intI_gt' h]
    go_enter Try.func29, Try.ntmps29
    go_wp2_with fail
    refine (J.out _ hr).mono ?_
    rintro e w1 ⟨rfl, k1, r1⟩
    go_wp2
    go_ret
    exact ⟨rfl, k1, r1⟩
  · rw [intI_le' h]
    go_enter Try.func29, Try.ntmps29
    go_wp2_with fail
    refine (J.out _ hr).mono ?_
    rintro e w1 ⟨rfl, k1, r1⟩
    go_wp2
    go_ret
    exact ⟨rfl, k1, r1⟩
end Ref
end Go.Proofs.Ytbebpnanhkcngaa
namespace Go.Proofs.Ytbebpnanhkcngaa
open Go.RowKit Go.Pm
namespace RUp
set_option maxRecDepth 100000 in
set_option maxHeartbeats 4000000 in
/-- postmarkref5.Of. -/
theorem of (rr lo hi : Nat) (l : List UInt8) (w : World) (hr : Ref.Rd w lo hi rr ⟨l, 0⟩) (hlo : hi ≤ rr) :
    Calls Try.prog 47 #[.pointer (some ⟨rr, 0, none⟩)] w fun e w' => e = .returned (entV ⟨(rdN l).toArray⟩ (intI (rd1 l).num) (rd2 l).nat) ∧ Kept (Just rr) w w' ∧ Ref.Rd w' lo hi rr (rd3 l) := by
  have j0 := fun w h => Ref.rlump rr lo hi ⟨l, 0⟩ 32 w h (by decide) (by decide) hlo
  have q1 := fun w h => Ref.rint rr lo hi (rd1 l) w h hlo
  have q2 := fun w h => Ref.rnum rr lo hi (rd2 l) w h hlo
  rw [← St.nat_eq] at q2
  rw [show St.lump ⟨l, 0⟩ 32 = rdN l from rfl, show St.lumpS ⟨l, 0⟩ 32 = rd1 l from rfl] at j0
  rw [show (rd1 l).numS = rd2 l from rfl] at q1
  rw [show (rd2 l).numS = rd3 l from rfl] at q2
  obtain ⟨N, hN⟩ : ∃ N, N = rdN l := ⟨_, rfl⟩
  obtain ⟨V, hV⟩ : ∃ V, V = intI (rd1 l).num := ⟨_, rfl⟩
  obtain ⟨K, hK⟩ : ∃ K, K = (rd2 l).nat := ⟨_, rfl⟩
  rw [← hN, ← hV, ← hK]
  rw [← hN] at j0
  rw [← hV] at q1
  rw [← hK] at q2
  obtain ⟨S0, hS0⟩ : ∃ S0, S0 = (⟨l, 0⟩ : St) := ⟨_, rfl⟩
  obtain ⟨S1, hS1⟩ : ∃ S1, S1 = rd1 l := ⟨_, rfl⟩
  obtain ⟨S2, hS2⟩ : ∃ S2, S2 = rd2 l := ⟨_, rfl⟩
  obtain ⟨S3, hS3⟩ : ∃ S3, S3 = rd3 l := ⟨_, rfl⟩
  rw [← hS0] at hr j0
  rw [← hS1] at j0 q1
  rw [← hS2] at q1 q2
  rw [← hS3] at q2 ⊢
  have J := hid (And.intro j0 (And.intro q1 q2))
  clear j0 q1 q2 hN hV hK hS0 hS1 hS2 hS3
  have hlt := hr.lt
  have k0 : Kept (Just rr) w (w.alloc (.cells #[.string ⟨#[]⟩, .int .i64 0, .int .u64 0] 94)) := (Kept.refl _ _).alloc _
  have r0 := hr.kept ((Kept.refl None w).alloc (.cells #[.string ⟨#[]⟩, .int .i64 0, .int .u64 0] 94)) (fun _ _ _ h => h) (fun h => h)
  have v0 := Blk.new w #[.string ⟨#[]⟩, .int .i64 0, .int .u64 0] 94
  go_enter Try.func47, Try.ntmps47
  go_wp2_with fail
  refine (J.out.1 _ r0).mono ?_
  rintro e w1 ⟨uN, rfl, k1, bN, r1⟩
  have kk1 := k0.trans k1
  have v1 := v0.kept k1 (fun (h : w.heap.size = rr) => by omega)
  obtain ⟨aN, cN, rfl, g1, g2, g3⟩ := bN.shape
  clear g3 k0 r0 v0 k1 hr
  go_wp2_with (first | (refine wpList_text rfl 22 9 5 _ rfl tBytes' tByte tString rfl bN ?_) | fail)
  refine (J.out.2.1 _ r1).mono ?_
  rintro e w2 ⟨rfl, k2, r2⟩
  have kk2 := kk1.trans k2
  have v2 := v1.kept k2 (fun (h : w.heap.size = rr) => by omega)
  clear kk1 k2 v1 bN r1
  go_wp2_with fail
  refine (J.out.2.2 _ r2).mono ?_
  rintro e w3 ⟨rfl, k3, r3⟩
  have kk3 := kk2.trans k3
  have v3 := v2.kept k3 (fun (h : w.heap.size = rr) => by omega)
  clear kk2 k3 v2 r2
  go_wp2_with (first | (refine wpList_store_blk rfl _ _ _ rfl rfl rfl v3 Up.aEnt rfl (Up.ent_all _ _ _) ?_; intro w7 hR7 k7) | fail)
  exact bodyPost_ret (v := entV ⟨N.toArray⟩ V K) (results_blk rfl _ rfl hR7 Up.aEnt) rfl ⟨rfl, kk3.then k7 (fun i hi (h : i = w.heap.size) => by omega), r3.kept k7 (fun k _ h (e : k = w.heap.size) => by omega) (fun (e : rr = w.heap.size) => by omega)⟩
end RUp
end Go.Proofs.Ytbebpnanhkcngaa
/- Package postmarkref5, Read: by contract, over the same plain functions as update.Read. -/
namespace Go.Proofs.Ytbebpnanhkcngaa
open Go.RowKit Go.Pm
namespace RUp

set_option maxRecDepth 100000 in
set_option maxHeartbeats 8000000 in
theorem read_long (v : Value) (lo hi : Nat) (l : List UInt8) (w : World) (hv : Bs w lo hi v l) (h : 512 < l.length) : Calls Try.prog 30 #[v] w fun e w' => e = .returned (.tuple #[(readQ l).V, .int .i64 (readE l)]) ∧ Kept None w w' := by
  rw [Up.readQ_none (Up.readE_long h) (by decide), Up.readE_long h]
  obtain ⟨a, cap, rfl, g1, g2, g3⟩ := hv.shape
  clear g3 hv
  have k0 : Kept None w (w.alloc (.cells #[.string ⟨#[]⟩, .int .i64 0, .int .u64 0, .int .i64 0, .int .u64 0, .int .u64 0] 43)) := (Kept.refl _ _).alloc _
  have u0 := Blk.new w #[.string ⟨#[]⟩, .int .i64 0, .int .u64 0, .int .i64 0, .int .u64 0, .int .u64 0] 43
  go_enter Try.func30, Try.ntmps30
  go_wp2_with (first | (refine wpList_store_blk rfl _ _ _ rfl rfl rfl u0 Up.aUpd rfl Up.zero_all ?_; intro w7 hR7 k7) | fail)
  exact bodyPost_ret (v := .tuple #[Req.none.V, .int .i64 22]) (results_blk2 rfl _ rfl rfl hR7 Up.aUpd) rfl ⟨rfl, k0.then k7 (fun i hi (h : i = w.heap.size) => by omega)⟩

theorem upd4_all (n : ByteArray) (v c : Int) (k : Nat) : (#[.string n, .int .i64 v, .int .u64 (k : Int), .int .i64 c, .int .u64 0, .int .u64 0] : Array Value).all (·.oneCell') = true := by simp [Value.oneCell']

theorem gives_store_blk {P : Program} {o : Oper} {a : Act} {w : World} {X : Value → World → Prop} (ty : TypeId) (x y : Operand) (ho : o.op = .store ty x y) {g : Nat} (hx : a.eval x = .pointer (some ⟨g, 0, none⟩)) {cs' : Array Value} (hy : a.eval y = .agg cs')
    {t : TypeId} {cs : Array Value} (hb : Blk w g cs t) (hT : AggTy P ty cs'.size) (hs : cs.size = cs'.size) (h1 : cs'.all (·.oneCell') = true) (h : ∀ w', Blk w' g cs' t → Kept (Just g) w w' → X undef w') : Gives P o a w X := by
  have hr := run_store_blk (P := P) (ty := ty) hb hT hs h1
  unfold Gives
  simp only [execOp, ho, hx, hy, Sem.run_bind, hr, Result.andThen_ok, Sem.run_pure]
  exact h _ (hb.setRow _) (Kept.row _ _ _)

set_option maxRecDepth 100000 in
set_option maxHeartbeats 16000000 in
theorem read_err (v : Value) (lo hi : Nat) (l : List UInt8) (w : World) (hv : Bs w lo hi v l) (h : ¬ 512 < l.length) (h2 : (rd6 l).e ≠ 0) : Calls Try.prog 30 #[v] w fun e w' => e = .returned (.tuple #[(readQ l).V, .int .i64 (readE l)]) ∧ Kept None w w' := by
  rw [Up.readQ_none (Up.readE_err h h2) h2, Up.readE_err h h2]
  have j0 := fun rr lo hi w hr hlo => of rr lo hi l w hr hlo
  have j1 := fun rr lo hi w hr hlo => Ref.rint rr lo hi (rd3 l) w hr hlo
  have j2 := fun rr lo hi w hr hlo => Ref.rnum rr lo hi (rd4 l) w hr hlo
  have j3 := fun rr lo hi w hr hlo => Ref.rnum rr lo hi (rd5 l) w hr hlo
  have j4 := fun w => right ⟨(rdN l).toArray⟩ (intI (rd1 l).num) (intI (rd3 l).num) (rd2 l).nat (rd4 l).nat (rd5 l).nat w
  rw [← St.nat_eq] at j2 j3
  rw [show (rd3 l).numS = rd4 l from rfl] at j1
  rw [show (rd4 l).numS = rd5 l from rfl] at j2
  rw [show (rd5 l).numS = rd6 l from rfl] at j3
  obtain ⟨N, hN⟩ : ∃ N, N = rdN l := ⟨_, rfl⟩
  obtain ⟨V, hV⟩ : ∃ V, V = intI (rd1 l).num := ⟨_, rfl⟩
  obtain ⟨K, hK⟩ : ∃ K, K = (rd2 l).nat := ⟨_, rfl⟩
  obtain ⟨C, hC⟩ : ∃ C, C = intI (rd3 l).num := ⟨_, rfl⟩
  obtain ⟨R, hR⟩ : ∃ R, R = (rd4 l).nat := ⟨_, rfl⟩
  obtain ⟨S, hS⟩ : ∃ S, S = (rd5 l).nat := ⟨_, rfl⟩
  rw [← hN, ← hV, ← hK] at j0
  rw [← hC] at j1
  rw [← hR] at j2
  rw [← hS] at j3
  rw [← hN, ← hV, ← hK, ← hC, ← hR, ← hS] at j4
  obtain ⟨S0, hS0⟩ : ∃ S0, S0 = (⟨l, 0⟩ : St) := ⟨_, rfl⟩
  obtain ⟨S3, hS3⟩ : ∃ S3, S3 = rd3 l := ⟨_, rfl⟩
  obtain ⟨S4, hS4⟩ : ∃ S4, S4 = rd4 l := ⟨_, rfl⟩
  obtain ⟨S5, hS5⟩ : ∃ S5, S5 = rd5 l := ⟨_, rfl⟩
  obtain ⟨S6, hS6⟩ : ∃ S6, S6 = rd6 l := ⟨_, rfl⟩
  rw [← hS0, ← hS3] at j0
  rw [← hS3, ← hS4] at j1
  rw [← hS4, ← hS5] at j2
  rw [← hS5, ← hS6] at j3
  rw [← hS6] at h2 ⊢
  have h2b : (S6.e != 0) = true := by simpa using h2
  clear h2 hS6
  have J := hid (And.intro j0 (And.intro j1 (And.intro j2 (And.intro j3 j4))))
  have HS0 := hid hS0
  clear j0 j1 j2 j3 j4 hN hV hK hC hR hS hS0 hS3 hS4 hS5
  have hv' := Vs.lt hv
  have hhi : min hi w.heap.size ≤ w.heap.size := Nat.min_le_right _ _
  generalize min hi w.heap.size = hi' at hv' hhi
  obtain ⟨a, cap, rfl, g1, g2, g3⟩ := hv.shape
  clear g3 hv
  have hv0 : Bs w lo hi' (.slice a l.length cap) l := hv'
  clear hv'
  have hv1 := (hv0.kept ((Kept.refl None w).alloc (.cells #[.string ⟨#[]⟩, .int .i64 0, .int .u64 0, .int .i64 0, .int .u64 0, .int .u64 0] 43)) (fun _ _ _ h => h)).kept ((Kept.refl None _).alloc (.cells #[.slice a l.length cap, .int .i64 0] 71)) (fun _ _ _ h => h)
  have r1 : Ref.Rd ((w.alloc (.cells #[.string ⟨#[]⟩, .int .i64 0, .int .u64 0, .int .i64 0, .int .u64 0, .int .u64 0] 43)).alloc (.cells #[.slice a l.length cap, .int .i64 0] 71)) lo hi' (w.heap.size + 1) S0 := by
    rw [HS0.out]
    exact ⟨fun h => absurd rfl h, _, Blk.new2 w _ _ _, hv1⟩
  have k0 : Kept None w ((w.alloc (.cells #[.string ⟨#[]⟩, .int .i64 0, .int .u64 0, .int .i64 0, .int .u64 0, .int .u64 0] 43)).alloc (.cells #[.slice a l.length cap, .int .i64 0] 71)) := ((Kept.refl _ _).alloc _).alloc _
  have v0 : Blk ((w.alloc (.cells #[.string ⟨#[]⟩, .int .i64 0, .int .u64 0, .int .i64 0, .int .u64 0, .int .u64 0] 43)).alloc (.cells #[.slice a l.length cap, .int .i64 0] 71)) w.heap.size #[.string ⟨#[]⟩, .int .i64 0, .int .u64 0, .int .i64 0, .int .u64 0, .int .u64 0] 43 := (Blk.new w _ _).alloc _
  clear hv0 hv1 HS0
  go_enter Try.func30, Try.ntmps30
  go_wp2_with fail
  refine (J.out.1 _ _ _ _ r1 (by omega)).mono ?_
  rintro e w1 ⟨rfl, k1, r2⟩
  have k01 := k0.then k1 (fun i hi (h : i = w.heap.size + 1) => by omega)
  have v1 := v0.kept k1 (fun (h : w.heap.size = w.heap.size + 1) => by omega)
  clear r1 k0 v0 k1
  go_wp2_with fail
  obtain ⟨wE, hwE⟩ : ∃ wE, wE = w1.alloc (.cells #[.string ⟨N.toArray⟩, .int .i64 V, .int .u64 (K : Int)] 94) := ⟨_, rfl⟩
  have r3 := r2.kept ((Kept.refl None w1).alloc (.cells #[.string ⟨N.toArray⟩, .int .i64 V, .int .u64 (K : Int)] 94)) (fun _ _ _ h => h) (fun h => h)
  have v2 := v1.alloc (.cells #[.string ⟨N.toArray⟩, .int .i64 V, .int .u64 (K : Int)] 94)
  have k02 := k01.alloc (.cells #[.string ⟨N.toArray⟩, .int .i64 V, .int .u64 (K : Int)] 94)
  have bE := Blk.new w1 #[.string ⟨N.toArray⟩, .int .i64 V, .int .u64 (K : Int)] 94
  have hrl := r2.lt
  rw [← hwE] at r3 v2 k02 bE ⊢
  clear hwE r2 v1 k01
  have hEl := bE.lt
  have hc0 : ∀ W, Kept (Just (w.heap.size + 1)) wE W → W.cell? ⟨w1.heap.size, 0, none⟩ = some (.string ⟨N.toArray⟩) := fun W hW => (bE.kept hW (fun (h : w1.heap.size = w.heap.size + 1) => by omega)).cell 0
  have hc1 : ∀ W, Kept (Just (w.heap.size + 1)) wE W → W.cell? ⟨w1.heap.size, 1, none⟩ = some (.int .i64 V) := fun W hW => (bE.kept hW (fun (h : w1.heap.size = w.heap.size + 1) => by omega)).cell 1
  have hc2 : ∀ W, Kept (Just (w.heap.size + 1)) wE W → W.cell? ⟨w1.heap.size, 2, none⟩ = some (.int .u64 (K : Int)) := fun W hW => (bE.kept hW (fun (h : w1.heap.size = w.heap.size + 1) => by omega)).cell 2
  refine wp_region_plan_tail 10 (Kept (Just (w.heap.size + 1)) wE) [{ k := 7, uses := [100], spends := [100], pure := fun u => u = .int .i64 C, fact := fun _ W => Ref.Rd W lo hi' (w.heap.size + 1) S4 },
    { k := 9, uses := [], pure := fun u => ∃ g, u = .pointer (some ⟨g, 0, none⟩), fact := fun u W => ∃ g, u = .pointer (some ⟨g, 0, none⟩) ∧ wE.heap.size ≤ g ∧ Blk W g #[.string ⟨#[]⟩, .int .i64 0, .int .u64 0, .int .i64 0, .int .u64 0, .int .u64 0] 43 },
    { k := 100, uses := [], fact := fun _ W => Ref.Rd W lo hi' (w.heap.size + 1) S3 }] [100] (by kernel_rfl) (by kernel_rfl) (by kernel_rfl) (by rfl) ?pures ((Kept.refl _ wE).drew) ?starts ?walk
  case pures =>
    intro f hf
    simp only [List.mem_cons, List.not_mem_nil, or_false] at hf
    rcases hf with rfl | rfl | rfl
    · exact ⟨_, rfl⟩
    · exact ⟨_, 0, rfl⟩
    · exact ⟨undef, trivial⟩
  case starts =>
    intro k hk
    obtain rfl : k = 100 := by simpa using hk
    exact r3.kept ((Kept.refl None wE).drew) (fun _ _ _ h => h) (fun h => h)
  simp only [List.take_succ_cons, List.take_zero, List.drop_succ_cons, List.drop_zero]
  iterate 7 (refine wpPar_pure rfl (by rfl) _ (fun W hW => by
      have c0 := hc0 W hW
      have c1 := hc1 W hW
      have c2 := hc2 W hW
      go_simp
      exact rfl) ?_; simp only [Act.put, List.setIfInBounds_toArray, List.set_cons_zero, List.set_cons_succ])
  refine wpPar_adds rfl (by rfl) (fun W hW hd => ?_) (fun v7 hv => ?_)
  · have rW : Ref.Rd W lo hi' (w.heap.size + 1) S3 := hd 100 (List.Mem.head _)
    unfold Gives
    go_simp
    refine gives_call (J.out.2.1 _ _ _ W rW (by omega)) ?_
    rintro e W' ⟨rfl, k, r4⟩
    refine ⟨_, rfl, hW.trans k, rfl, r4, keeps_of fun f hf hs _ hne u hfu => ?_⟩
    simp only [List.mem_cons, List.not_mem_nil, or_false] at hf
    rcases hf with rfl | rfl | rfl
    · exact absurd rfl hne
    · obtain ⟨g, e1, e2, e3⟩ := hfu
      exact ⟨g, e1, e2, e3.kept k (fun (h : g = w.heap.size + 1) => by omega)⟩
    · exact absurd (List.Mem.head _) hs
  obtain rfl : v7 = .int .i64 C := hv
  simp only [Act.put, List.setIfInBounds_toArray, List.set_cons_zero, List.set_cons_succ]
  iterate 1 (refine wpPar_pure rfl (by rfl) _ (fun W hW => by
      go_simp
      exact rfl) ?_; simp only [Act.put, List.setIfInBounds_toArray, List.set_cons_zero, List.set_cons_succ])
  refine wpPar_adds rfl (by rfl) (fun W hW hd => ?_) (fun v9 hv => ?_)
  · unfold Gives
    go_simp
    refine ⟨hW.alloc _, ⟨_, rfl⟩, ⟨_, rfl, hW.size, Blk.new _ _ _⟩, keeps_of fun f hf hs _ hne u hfu => ?_⟩
    simp only [List.mem_cons, List.not_mem_nil, or_false] at hf
    rcases hf with rfl | rfl | rfl
    · exact Ref.Rd.kept hfu ((Kept.refl None W).alloc _) (fun _ _ _ h => h) (fun h => h)
    · exact absurd rfl hne
    · exact Ref.Rd.kept hfu ((Kept.refl None W).alloc _) (fun _ _ _ h => h) (fun h => h)
  obtain ⟨ub, rfl⟩ : ∃ g, v9 = .pointer (some ⟨g, 0, none⟩) := hv
  simp only [Act.put, List.setIfInBounds_toArray, List.set_cons_zero, List.set_cons_succ]
  refine wpPar_nil (fun W hW hG => ?_)
  have r4 : Ref.Rd W lo hi' (w.heap.size + 1) S4 := hG 7
  obtain ⟨g, e1, e2, uZ⟩ : ∃ g, Value.pointer (some ⟨ub, 0, none⟩) = .pointer (some ⟨g, 0, none⟩) ∧ wE.heap.size ≤ g ∧ Blk W g #[.string ⟨#[]⟩, .int .i64 0, .int .u64 0, .int .i64 0, .int .u64 0, .int .u64 0] 43 := hG 9
  obtain rfl : ub = g := by injection e1 with e1; injection e1 with e1; injection e1
  have k03 := k02.then hW (fun i hi (h : i = w.heap.size + 1) => by omega)
  have v3 := v2.kept hW (fun (h : w.heap.size = w.heap.size + 1) => by omega)
  have hub : w.heap.size + 1 < ub := by omega
  clear hG e1 e2 hc0 hc1 hc2 bE hEl hrl r3 v2 k02 hW
  have NE : ∀ k, lo ≤ k → k < hi' → ¬ Just ub k := fun k _ h e => by unfold Just at e; omega
  have NR : ¬ Just ub (w.heap.size + 1) := fun e => by unfold Just at e; omega
  have NU : ¬ Just (w.heap.size + 1) ub := fun e => by unfold Just at e; omega
  have NV : ¬ Just (w.heap.size + 1) w.heap.size := fun e => by unfold Just at e; omega
  have NW : ¬ Just ub w.heap.size := fun e => by unfold Just at e; omega
  have NN := hid (And.intro NE (And.intro NR (And.intro NU (And.intro NV (And.intro NW hub)))))
  clear NE NR NU NV NW hub
  go_wp2_with (first | (refine wpList_store_blk rfl _ _ _ rfl rfl rfl uZ Up.aUpd rfl (upd4_all _ _ _ _) ?_; intro w4 u4 kk4) | fail)
  have r4' := r4.kept kk4 NN.out.1 NN.out.2.1
  have v4 := v3.kept kk4 NN.out.2.2.2.2.1
  have k04 := k03.then kk4 (fun i hi (h : i = ub) => by have := NN.out.2.2.2.2.2; omega)
  clear uZ r4 v3 k03 kk4
  refine (J.out.2.2.1 _ _ _ _ r4' (by omega)).mono ?_
  rintro e w5 ⟨rfl, k5, r5⟩
  have k05 := k04.then k5 (fun i hi (h : i = w.heap.size + 1) => by omega)
  have v5 := v4.kept k5 NN.out.2.2.2.1
  have u5 := u4.kept k5 NN.out.2.2.1
  have c4 : w5.cell? ⟨ub, 4, none⟩ = some (.int .u64 0) := u5.cell 4
  have f4 := u5.free 4
  have r5' := r5.kept (Kept.one w5 ub 4 (.int .u64 (R : Int))) NN.out.1 NN.out.2.1
  have u5' : Blk (w5.setCell ⟨ub, 4, none⟩ (.int .u64 (R : Int))) ub #[.string ⟨N.toArray⟩, .int .i64 V, .int .u64 (K : Int), .int .i64 C, .int .u64 (R : Int), .int .u64 0] 43 := u5.set 4 _
  have v5' := v5.kept (Kept.one w5 ub 4 (.int .u64 (R : Int))) NN.out.2.2.2.2.1
  have k05' := k05.setNew (b := ub) (by have := NN.out.2.2.2.2.2; omega) 4 (.int .u64 (R : Int))
  clear r4' k04 v4 u4 k5 r5 k05 v5 u5
  go_wp2_with fail
  refine (J.out.2.2.2.1 _ _ _ _ r5' (by omega)).mono ?_
  rintro e w6 ⟨rfl, k6, r6⟩
  have k06 := k05'.then k6 (fun i hi (h : i = w.heap.size + 1) => by omega)
  have v6 := v5'.kept k6 NN.out.2.2.2.1
  have u6 := u5'.kept k6 NN.out.2.2.1
  have c5 : w6.cell? ⟨ub, 5, none⟩ = some (.int .u64 0) := u6.cell 5
  have f5 := u6.free 5
  have r6' := r6.kept (Kept.one w6 ub 5 (.int .u64 (S : Int))) NN.out.1 NN.out.2.1
  have u6' : Blk (w6.setCell ⟨ub, 5, none⟩ (.int .u64 (S : Int))) ub #[.string ⟨N.toArray⟩, .int .i64 V, .int .u64 (K : Int), .int .i64 C, .int .u64 (R : Int), .int .u64 (S : Int)] 43 := u6.set 5 _
  have v6' := v6.kept (Kept.one w6 ub 5 (.int .u64 (S : Int))) NN.out.2.2.2.2.1
  have k06' := k06.setNew (b := ub) (by have := NN.out.2.2.2.2.2; omega) 5 (.int .u64 (S : Int))
  have d1 : w6.cell? ⟨w.heap.size + 1, 1, none⟩ = some (.int .i64 S6.e) := by obtain ⟨ok, v', hb', hv'⟩ := r6; exact hb'.cell 1
  obtain ⟨a6, cp6, d0⟩ : ∃ a c, w6.cell? ⟨w.heap.size + 1, 0, none⟩ = some (.slice a S6.l.length c) := by
    obtain ⟨ok, v', hb', hv'⟩ := r6
    obtain ⟨a', c', e', _⟩ := hv'.shape
    rw [e'] at hb'
    exact ⟨a', c', hb'.cell 0⟩
  have hne1 : ub ≠ w.heap.size + 1 := by have := NN.out.2.2.2.2.2; omega
  have hne2 : w.heap.size + 1 ≠ ub := Ne.symm hne1
  clear r5' k05' v5' u5' k6 r6 k06 v6 u6 c4 f4
  go_wp2_with fail
  obtain ⟨wX, hwX⟩ : ∃ wX, wX = w6.setCell ⟨ub, 5, none⟩ (.int .u64 (S : Int)) := ⟨_, rfl⟩
  rw [← hwX] at r6' v6' k06' ⊢
  clear hwX u6' c5 f5 d0 d1 hne1 hne2 NN
  have hdX : ∀ W, Kept (Just w.heap.size) wX W → W.cell? ⟨w.heap.size + 1, 1, none⟩ = some (.int .i64 S6.e) := fun W hW => by
    obtain ⟨ok, v', hb', hv'⟩ := r6'.kept hW (fun k _ h (e : k = w.heap.size) => by omega) (fun (e : w.heap.size + 1 = w.heap.size) => by omega)
    exact hb'.cell 1
  obtain ⟨E6, hE6⟩ : ∃ E6, E6 = S6.e := ⟨_, rfl⟩
  rw [← hE6] at hdX h2b ⊢
  have HE6 := hid hE6
  clear hE6 r6' J
  refine wp_region_plan (Kept (Just w.heap.size) wX) [{ k := 5, uses := [100], spends := [100], fact := fun _ W => Blk W w.heap.size #[.string ⟨#[]⟩, .int .i64 0, .int .u64 0, .int .i64 0, .int .u64 0, .int .u64 0] 43 }, { k := 100, uses := [], fact := fun _ W => Blk W w.heap.size #[.string ⟨#[]⟩, .int .i64 0, .int .u64 0, .int .i64 0, .int .u64 0, .int .u64 0] 43 }] [100] (by kernel_rfl) (by kernel_rfl) (by kernel_rfl) (by rfl) ?pures2 ((Kept.refl _ wX).drew) ?starts2 ?walk2
  case pures2 =>
    intro f hf
    exact ⟨undef, by simp only [List.mem_cons, List.not_mem_nil, or_false] at hf; rcases hf with rfl | rfl <;> trivial⟩
  case starts2 =>
    intro k hk
    obtain rfl : k = 100 := by simpa using hk
    exact v6'.drew
  iterate 5 (refine wpPar_pure rfl (by rfl) _ (fun W hW => by
      have d1 := hdX W hW
      go_simp
      exact rfl) ?_; simp only [Act.put, List.setIfInBounds_toArray, List.set_cons_zero, List.set_cons_succ])
  refine wpPar_adds rfl (by rfl) (fun W hW hd => ?_) (fun v5 hv => ?_)
  · have vW : Blk W w.heap.size #[.string ⟨#[]⟩, .int .i64 0, .int .u64 0, .int .i64 0, .int .u64 0, .int .u64 0] 43 := hd 100 (List.Mem.head _)
    refine gives_store_blk _ _ _ rfl rfl rfl vW Up.aUpd rfl Up.zero_all fun W' b' k' => ?_
    refine ⟨hW.trans k', trivial, b', keeps_of fun f hf hs _ hne u hfu => ?_⟩
    simp only [List.mem_cons, List.not_mem_nil, or_false] at hf
    rcases hf with rfl | rfl
    · exact absurd rfl hne
    · exact absurd (List.Mem.head _) hs
  simp only [Act.put]
  iterate 1 (refine wpPar_pure rfl (by rfl) _ (fun W hW => by
      go_simp
      exact rfl) ?_; simp only [Act.put, List.setIfInBounds_toArray, List.set_cons_zero, List.set_cons_succ])
  refine wpPar_nil (fun W hW hG => ?_)
  have hR7 : Blk W w.heap.size #[.string ⟨#[]⟩, .int .i64 0, .int .u64 0, .int .i64 0, .int .u64 0, .int .u64 0] 43 := hG 5
  have k7 := k06'.then hW (fun i hi (h : i = w.heap.size) => by omega)
  clear hG hdX v6' k06' hW
  go_wp2
  exact bodyPost_ret (v := .tuple #[Req.none.V, .int .i64 E6]) (results_blk2 rfl _ rfl rfl hR7 Up.aUpd) rfl ⟨by rw [HE6.out], k7⟩

set_option maxRecDepth 100000 in
set_option maxHeartbeats 16000000 in
theorem read_more (v : Value) (lo hi : Nat) (l : List UInt8) (w : World) (hv : Bs w lo hi v l) (h : ¬ 512 < l.length) (h2 : ¬ (rd6 l).e ≠ 0) (h3 : 0 < (rd6 l).l.length) : Calls Try.prog 30 #[v] w fun e w' => e = .returned (.tuple #[(readQ l).V, .int .i64 (readE l)]) ∧ Kept None w w' := by
  rw [Up.readQ_none (Up.readE_more h h2 h3) (by decide), Up.readE_more h h2 h3]
  have j0 := fun rr lo hi w hr hlo => of rr lo hi l w hr hlo
  have j1 := fun rr lo hi w hr hlo => Ref.rint rr lo hi (rd3 l) w hr hlo
  have j2 := fun rr lo hi w hr hlo => Ref.rnum rr lo hi (rd4 l) w hr hlo
  have j3 := fun rr lo hi w hr hlo => Ref.rnum rr lo hi (rd5 l) w hr hlo
  have j4 := fun w => right ⟨(rdN l).toArray⟩ (intI (rd1 l).num) (intI (rd3 l).num) (rd2 l).nat (rd4 l).nat (rd5 l).nat w
  rw [← St.nat_eq] at j2 j3
  rw [show (rd3 l).numS = rd4 l from rfl] at j1
  rw [show (rd4 l).numS = rd5 l from rfl] at j2
  rw [show (rd5 l).numS = rd6 l from rfl] at j3
  obtain ⟨N, hN⟩ : ∃ N, N = rdN l := ⟨_, rfl⟩
  obtain ⟨V, hV⟩ : ∃ V, V = intI (rd1 l).num := ⟨_, rfl⟩
  obtain ⟨K, hK⟩ : ∃ K, K = (rd2 l).nat := ⟨_, rfl⟩
  obtain ⟨C, hC⟩ : ∃ C, C = intI (rd3 l).num := ⟨_, rfl⟩
  obtain ⟨R, hR⟩ : ∃ R, R = (rd4 l).nat := ⟨_, rfl⟩
  obtain ⟨S, hS⟩ : ∃ S, S = (rd5 l).nat := ⟨_, rfl⟩
  rw [← hN, ← hV, ← hK] at j0
  rw [← hC] at j1
  rw [← hR] at j2
  rw [← hS] at j3
  rw [← hN, ← hV, ← hK, ← hC, ← hR, ← hS] at j4
  obtain ⟨S0, hS0⟩ : ∃ S0, S0 = (⟨l, 0⟩ : St) := ⟨_, rfl⟩
  obtain ⟨S3, hS3⟩ : ∃ S3, S3 = rd3 l := ⟨_, rfl⟩
  obtain ⟨S4, hS4⟩ : ∃ S4, S4 = rd4 l := ⟨_, rfl⟩
  obtain ⟨S5, hS5⟩ : ∃ S5, S5 = rd5 l := ⟨_, rfl⟩
  obtain ⟨S6, hS6⟩ : ∃ S6, S6 = rd6 l := ⟨_, rfl⟩
  rw [← hS0, ← hS3] at j0
  rw [← hS3, ← hS4] at j1
  rw [← hS4, ← hS5] at j2
  rw [← hS5, ← hS6] at j3
  have e6 : S6.e = 0 := by rw [hS6]; omega
  rw [← hS6] at h3
  clear hS6 h2
  have J := hid (And.intro j0 (And.intro j1 (And.intro j2 (And.intro j3 j4))))
  have HS0 := hid hS0
  clear j0 j1 j2 j3 j4 hN hV hK hC hR hS hS0 hS3 hS4 hS5
  have hv' := Vs.lt hv
  have hhi : min hi w.heap.size ≤ w.heap.size := Nat.min_le_right _ _
  generalize min hi w.heap.size = hi' at hv' hhi
  obtain ⟨a, cap, rfl, g1, g2, g3⟩ := hv.shape
  clear g3 hv
  have hv0 : Bs w lo hi' (.slice a l.length cap) l := hv'
  clear hv'
  have hv1 := (hv0.kept ((Kept.refl None w).alloc (.cells #[.string ⟨#[]⟩, .int .i64 0, .int .u64 0, .int .i64 0, .int .u64 0, .int .u64 0] 43)) (fun _ _ _ h => h)).kept ((Kept.refl None _).alloc (.cells #[.slice a l.length cap, .int .i64 0] 71)) (fun _ _ _ h => h)
  have r1 : Ref.Rd ((w.alloc (.cells #[.string ⟨#[]⟩, .int .i64 0, .int .u64 0, .int .i64 0, .int .u64 0, .int .u64 0] 43)).alloc (.cells #[.slice a l.length cap, .int .i64 0] 71)) lo hi' (w.heap.size + 1) S0 := by
    rw [HS0.out]
    exact ⟨fun h => absurd rfl h, _, Blk.new2 w _ _ _, hv1⟩
  have k0 : Kept None w ((w.alloc (.cells #[.string ⟨#[]⟩, .int .i64 0, .int .u64 0, .int .i64 0, .int .u64 0, .int .u64 0] 43)).alloc (.cells #[.slice a l.length cap, .int .i64 0] 71)) := ((Kept.refl _ _).alloc _).alloc _
  have v0 : Blk ((w.alloc (.cells #[.string ⟨#[]⟩, .int .i64 0, .int .u64 0, .int .i64 0, .int .u64 0, .int .u64 0] 43)).alloc (.cells #[.slice a l.length cap, .int .i64 0] 71)) w.heap.size #[.string ⟨#[]⟩, .int .i64 0, .int .u64 0, .int .i64 0, .int .u64 0, .int .u64 0] 43 := (Blk.new w _ _).alloc _
  clear hv0 hv1 HS0
  go_enter Try.func30, Try.ntmps30
  go_wp2_with fail
  refine (J.out.1 _ _ _ _ r1 (by omega)).mono ?_
  rintro e w1 ⟨rfl, k1, r2⟩
  have k01 := k0.then k1 (fun i hi (h : i = w.heap.size + 1) => by omega)
  have v1 := v0.kept k1 (fun (h : w.heap.size = w.heap.size + 1) => by omega)
  clear r1 k0 v0 k1
  go_wp2_with fail
  obtain ⟨wE, hwE⟩ : ∃ wE, wE = w1.alloc (.cells #[.string ⟨N.toArray⟩, .int .i64 V, .int .u64 (K : Int)] 94) := ⟨_, rfl⟩
  have r3 := r2.kept ((Kept.refl None w1).alloc (.cells #[.string ⟨N.toArray⟩, .int .i64 V, .int .u64 (K : Int)] 94)) (fun _ _ _ h => h) (fun h => h)
  have v2 := v1.alloc (.cells #[.string ⟨N.toArray⟩, .int .i64 V, .int .u64 (K : Int)] 94)
  have k02 := k01.alloc (.cells #[.string ⟨N.toArray⟩, .int .i64 V, .int .u64 (K : Int)] 94)
  have bE := Blk.new w1 #[.string ⟨N.toArray⟩, .int .i64 V, .int .u64 (K : Int)] 94
  have hrl := r2.lt
  rw [← hwE] at r3 v2 k02 bE ⊢
  clear hwE r2 v1 k01
  have hEl := bE.lt
  have hc0 : ∀ W, Kept (Just (w.heap.size + 1)) wE W → W.cell? ⟨w1.heap.size, 0, none⟩ = some (.string ⟨N.toArray⟩) := fun W hW => (bE.kept hW (fun (h : w1.heap.size = w.heap.size + 1) => by omega)).cell 0
  have hc1 : ∀ W, Kept (Just (w.heap.size + 1)) wE W → W.cell? ⟨w1.heap.size, 1, none⟩ = some (.int .i64 V) := fun W hW => (bE.kept hW (fun (h : w1.heap.size = w.heap.size + 1) => by omega)).cell 1
  have hc2 : ∀ W, Kept (Just (w.heap.size + 1)) wE W → W.cell? ⟨w1.heap.size, 2, none⟩ = some (.int .u64 (K : Int)) := fun W hW => (bE.kept hW (fun (h : w1.heap.size = w.heap.size + 1) => by omega)).cell 2
  refine wp_region_plan_tail 10 (Kept (Just (w.heap.size + 1)) wE) [{ k := 7, uses := [100], spends := [100], pure := fun u => u = .int .i64 C, fact := fun _ W => Ref.Rd W lo hi' (w.heap.size + 1) S4 },
    { k := 9, uses := [], pure := fun u => ∃ g, u = .pointer (some ⟨g, 0, none⟩), fact := fun u W => ∃ g, u = .pointer (some ⟨g, 0, none⟩) ∧ wE.heap.size ≤ g ∧ Blk W g #[.string ⟨#[]⟩, .int .i64 0, .int .u64 0, .int .i64 0, .int .u64 0, .int .u64 0] 43 },
    { k := 100, uses := [], fact := fun _ W => Ref.Rd W lo hi' (w.heap.size + 1) S3 }] [100] (by kernel_rfl) (by kernel_rfl) (by kernel_rfl) (by rfl) ?pures ((Kept.refl _ wE).drew) ?starts ?walk
  case pures =>
    intro f hf
    simp only [List.mem_cons, List.not_mem_nil, or_false] at hf
    rcases hf with rfl | rfl | rfl
    · exact ⟨_, rfl⟩
    · exact ⟨_, 0, rfl⟩
    · exact ⟨undef, trivial⟩
  case starts =>
    intro k hk
    obtain rfl : k = 100 := by simpa using hk
    exact r3.kept ((Kept.refl None wE).drew) (fun _ _ _ h => h) (fun h => h)
  simp only [List.take_succ_cons, List.take_zero, List.drop_succ_cons, List.drop_zero]
  iterate 7 (refine wpPar_pure rfl (by rfl) _ (fun W hW => by
      have c0 := hc0 W hW
      have c1 := hc1 W hW
      have c2 := hc2 W hW
      go_simp
      exact rfl) ?_; simp only [Act.put, List.setIfInBounds_toArray, List.set_cons_zero, List.set_cons_succ])
  refine wpPar_adds rfl (by rfl) (fun W hW hd => ?_) (fun v7 hv => ?_)
  · have rW : Ref.Rd W lo hi' (w.heap.size + 1) S3 := hd 100 (List.Mem.head _)
    unfold Gives
    go_simp
    refine gives_call (J.out.2.1 _ _ _ W rW (by omega)) ?_
    rintro e W' ⟨rfl, k, r4⟩
    refine ⟨_, rfl, hW.trans k, rfl, r4, keeps_of fun f hf hs _ hne u hfu => ?_⟩
    simp only [List.mem_cons, List.not_mem_nil, or_false] at hf
    rcases hf with rfl | rfl | rfl
    · exact absurd rfl hne
    · obtain ⟨g, e1, e2, e3⟩ := hfu
      exact ⟨g, e1, e2, e3.kept k (fun (h : g = w.heap.size + 1) => by omega)⟩
    · exact absurd (List.Mem.head _) hs
  obtain rfl : v7 = .int .i64 C := hv
  simp only [Act.put, List.setIfInBounds_toArray, List.set_cons_zero, List.set_cons_succ]
  iterate 1 (refine wpPar_pure rfl (by rfl) _ (fun W hW => by
      go_simp
      exact rfl) ?_; simp only [Act.put, List.setIfInBounds_toArray, List.set_cons_zero, List.set_cons_succ])
  refine wpPar_adds rfl (by rfl) (fun W hW hd => ?_) (fun v9 hv => ?_)
  · unfold Gives
    go_simp
    refine ⟨hW.alloc _, ⟨_, rfl⟩, ⟨_, rfl, hW.size, Blk.new _ _ _⟩, keeps_of fun f hf hs _ hne u hfu => ?_⟩
    simp only [List.mem_cons, List.not_mem_nil, or_false] at hf
    rcases hf with rfl | rfl | rfl
    · exact Ref.Rd.kept hfu ((Kept.refl None W).alloc _) (fun _ _ _ h => h) (fun h => h)
    · exact absurd rfl hne
    · exact Ref.Rd.kept hfu ((Kept.refl None W).alloc _) (fun _ _ _ h => h) (fun h => h)
  obtain ⟨ub, rfl⟩ : ∃ g, v9 = .pointer (some ⟨g, 0, none⟩) := hv
  simp only [Act.put, List.setIfInBounds_toArray, List.set_cons_zero, List.set_cons_succ]
  refine wpPar_nil (fun W hW hG => ?_)
  have r4 : Ref.Rd W lo hi' (w.heap.size + 1) S4 := hG 7
  obtain ⟨g, e1, e2, uZ⟩ : ∃ g, Value.pointer (some ⟨ub, 0, none⟩) = .pointer (some ⟨g, 0, none⟩) ∧ wE.heap.size ≤ g ∧ Blk W g #[.string ⟨#[]⟩, .int .i64 0, .int .u64 0, .int .i64 0, .int .u64 0, .int .u64 0] 43 := hG 9
  obtain rfl : ub = g := by injection e1 with e1; injection e1 with e1; injection e1
  have k03 := k02.then hW (fun i hi (h : i = w.heap.size + 1) => by omega)
  have v3 := v2.kept hW (fun (h : w.heap.size = w.heap.size + 1) => by omega)
  have hub : w.heap.size + 1 < ub := by omega
  clear hG e1 e2 hc0 hc1 hc2 bE hEl hrl r3 v2 k02 hW
  have NE : ∀ k, lo ≤ k → k < hi' → ¬ Just ub k := fun k _ h e => by unfold Just at e; omega
  have NR : ¬ Just ub (w.heap.size + 1) := fun e => by unfold Just at e; omega
  have NU : ¬ Just (w.heap.size + 1) ub := fun e => by unfold Just at e; omega
  have NV : ¬ Just (w.heap.size + 1) w.heap.size := fun e => by unfold Just at e; omega
  have NW : ¬ Just ub w.heap.size := fun e => by unfold Just at e; omega
  have NN := hid (And.intro NE (And.intro NR (And.intro NU (And.intro NV (And.intro NW hub)))))
  clear NE NR NU NV NW hub
  go_wp2_with (first | (refine wpList_store_blk rfl _ _ _ rfl rfl rfl uZ Up.aUpd rfl (upd4_all _ _ _ _) ?_; intro w4 u4 kk4) | fail)
  have r4' := r4.kept kk4 NN.out.1 NN.out.2.1
  have v4 := v3.kept kk4 NN.out.2.2.2.2.1
  have k04 := k03.then kk4 (fun i hi (h : i = ub) => by have := NN.out.2.2.2.2.2; omega)
  clear uZ r4 v3 k03 kk4
  refine (J.out.2.2.1 _ _ _ _ r4' (by omega)).mono ?_
  rintro e w5 ⟨rfl, k5, r5⟩
  have k05 := k04.then k5 (fun i hi (h : i = w.heap.size + 1) => by omega)
  have v5 := v4.kept k5 NN.out.2.2.2.1
  have u5 := u4.kept k5 NN.out.2.2.1
  have c4 : w5.cell? ⟨ub, 4, none⟩ = some (.int .u64 0) := u5.cell 4
  have f4 := u5.free 4
  have r5' := r5.kept (Kept.one w5 ub 4 (.int .u64 (R : Int))) NN.out.1 NN.out.2.1
  have u5' : Blk (w5.setCell ⟨ub, 4, none⟩ (.int .u64 (R : Int))) ub #[.string ⟨N.toArray⟩, .int .i64 V, .int .u64 (K : Int), .int .i64 C, .int .u64 (R : Int), .int .u64 0] 43 := u5.set 4 _
  have v5' := v5.kept (Kept.one w5 ub 4 (.int .u64 (R : Int))) NN.out.2.2.2.2.1
  have k05' := k05.setNew (b := ub) (by have := NN.out.2.2.2.2.2; omega) 4 (.int .u64 (R : Int))
  clear r4' k04 v4 u4 k5 r5 k05 v5 u5
  go_wp2_with fail
  refine (J.out.2.2.2.1 _ _ _ _ r5' (by omega)).mono ?_
  rintro e w6 ⟨rfl, k6, r6⟩
  have k06 := k05'.then k6 (fun i hi (h : i = w.heap.size + 1) => by omega)
  have v6 := v5'.kept k6 NN.out.2.2.2.1
  have u6 := u5'.kept k6 NN.out.2.2.1
  have c5 : w6.cell? ⟨ub, 5, none⟩ = some (.int .u64 0) := u6.cell 5
  have f5 := u6.free 5
  have r6' := r6.kept (Kept.one w6 ub 5 (.int .u64 (S : Int))) NN.out.1 NN.out.2.1
  have u6' : Blk (w6.setCell ⟨ub, 5, none⟩ (.int .u64 (S : Int))) ub #[.string ⟨N.toArray⟩, .int .i64 V, .int .u64 (K : Int), .int .i64 C, .int .u64 (R : Int), .int .u64 (S : Int)] 43 := u6.set 5 _
  have v6' := v6.kept (Kept.one w6 ub 5 (.int .u64 (S : Int))) NN.out.2.2.2.2.1
  have k06' := k06.setNew (b := ub) (by have := NN.out.2.2.2.2.2; omega) 5 (.int .u64 (S : Int))
  have d1 : w6.cell? ⟨w.heap.size + 1, 1, none⟩ = some (.int .i64 S6.e) := by obtain ⟨ok, v', hb', hv'⟩ := r6; exact hb'.cell 1
  obtain ⟨a6, cp6, d0⟩ : ∃ a c, w6.cell? ⟨w.heap.size + 1, 0, none⟩ = some (.slice a S6.l.length c) := by
    obtain ⟨ok, v', hb', hv'⟩ := r6
    obtain ⟨a', c', e', _⟩ := hv'.shape
    rw [e'] at hb'
    exact ⟨a', c', hb'.cell 0⟩
  have hne1 : ub ≠ w.heap.size + 1 := by have := NN.out.2.2.2.2.2; omega
  have hne2 : w.heap.size + 1 ≠ ub := Ne.symm hne1
  clear r5' k05' v5' u5' k6 r6 k06 v6 u6 c4 f4
  rw [e6] at d1
  clear e6
  go_wp2_with (first | (refine wpList_load_blk rfl _ _ rfl rfl u6' Up.aUpd ?_) | (refine wpList_store_blk rfl _ _ _ rfl rfl rfl v6' Up.aUpd rfl Up.zero_all ?_; intro w7 hR7 k7) | fail)
  exact bodyPost_ret (v := .tuple #[Req.none.V, .int .i64 20]) (results_blk2 rfl _ rfl rfl hR7 Up.aUpd) rfl ⟨rfl, k06'.then k7 (fun i hi (h : i = w.heap.size) => by omega)⟩

set_option maxRecDepth 100000 in
set_option maxHeartbeats 16000000 in
theorem read_form (v : Value) (lo hi : Nat) (l : List UInt8) (w : World) (hv : Bs w lo hi v l) (h : ¬ 512 < l.length) (h2 : ¬ (rd6 l).e ≠ 0) (h3 : ¬ 0 < (rd6 l).l.length) (h4 : (reqOf wholeI l).right = false) : Calls Try.prog 30 #[v] w fun e w' => e = .returned (.tuple #[(readQ l).V, .int .i64 (readE l)]) ∧ Kept None w w' := by
  rw [Up.readQ_none (Up.readE_form h h2 h3 h4) (by decide), Up.readE_form h h2 h3 h4]
  have j0 := fun rr lo hi w hr hlo => of rr lo hi l w hr hlo
  have j1 := fun rr lo hi w hr hlo => Ref.rint rr lo hi (rd3 l) w hr hlo
  have j2 := fun rr lo hi w hr hlo => Ref.rnum rr lo hi (rd4 l) w hr hlo
  have j3 := fun rr lo hi w hr hlo => Ref.rnum rr lo hi (rd5 l) w hr hlo
  have j4 := fun w => right ⟨(rdN l).toArray⟩ (intI (rd1 l).num) (intI (rd3 l).num) (rd2 l).nat (rd4 l).nat (rd5 l).nat w
  rw [← St.nat_eq] at j2 j3
  rw [show (rd3 l).numS = rd4 l from rfl] at j1
  rw [show (rd4 l).numS = rd5 l from rfl] at j2
  rw [show (rd5 l).numS = rd6 l from rfl] at j3
  obtain ⟨N, hN⟩ : ∃ N, N = rdN l := ⟨_, rfl⟩
  obtain ⟨V, hV⟩ : ∃ V, V = intI (rd1 l).num := ⟨_, rfl⟩
  obtain ⟨K, hK⟩ : ∃ K, K = (rd2 l).nat := ⟨_, rfl⟩
  obtain ⟨C, hC⟩ : ∃ C, C = intI (rd3 l).num := ⟨_, rfl⟩
  obtain ⟨R, hR⟩ : ∃ R, R = (rd4 l).nat := ⟨_, rfl⟩
  obtain ⟨S, hS⟩ : ∃ S, S = (rd5 l).nat := ⟨_, rfl⟩
  have h5 : rightB (⟨N.toArray⟩ : ByteArray).size V K C = false := by rw [hN, hV, hK, hC]; exact ((right_int l).trans (right_whole l).symm).trans h4
  rw [← hN, ← hV, ← hK] at j0
  rw [← hC] at j1
  rw [← hR] at j2
  rw [← hS] at j3
  rw [← hN, ← hV, ← hK, ← hC, ← hR, ← hS] at j4
  rw [h5] at j4
  clear h4 h5
  obtain ⟨S0, hS0⟩ : ∃ S0, S0 = (⟨l, 0⟩ : St) := ⟨_, rfl⟩
  obtain ⟨S3, hS3⟩ : ∃ S3, S3 = rd3 l := ⟨_, rfl⟩
  obtain ⟨S4, hS4⟩ : ∃ S4, S4 = rd4 l := ⟨_, rfl⟩
  obtain ⟨S5, hS5⟩ : ∃ S5, S5 = rd5 l := ⟨_, rfl⟩
  obtain ⟨S6, hS6⟩ : ∃ S6, S6 = rd6 l := ⟨_, rfl⟩
  rw [← hS0, ← hS3] at j0
  rw [← hS3, ← hS4] at j1
  rw [← hS4, ← hS5] at j2
  rw [← hS5, ← hS6] at j3
  have e6 : S6.e = 0 := by rw [hS6]; omega
  have l6 : S6.l.length = 0 := by rw [hS6]; omega
  clear hS6 h2 h3
  have J := hid (And.intro j0 (And.intro j1 (And.intro j2 (And.intro j3 j4))))
  have HS0 := hid hS0
  clear j0 j1 j2 j3 j4 hN hV hK hC hR hS hS0 hS3 hS4 hS5
  have hv' := Vs.lt hv
  have hhi : min hi w.heap.size ≤ w.heap.size := Nat.min_le_right _ _
  generalize min hi w.heap.size = hi' at hv' hhi
  obtain ⟨a, cap, rfl, g1, g2, g3⟩ := hv.shape
  clear g3 hv
  have hv0 : Bs w lo hi' (.slice a l.length cap) l := hv'
  clear hv'
  have hv1 := (hv0.kept ((Kept.refl None w).alloc (.cells #[.string ⟨#[]⟩, .int .i64 0, .int .u64 0, .int .i64 0, .int .u64 0, .int .u64 0] 43)) (fun _ _ _ h => h)).kept ((Kept.refl None _).alloc (.cells #[.slice a l.length cap, .int .i64 0] 71)) (fun _ _ _ h => h)
  have r1 : Ref.Rd ((w.alloc (.cells #[.string ⟨#[]⟩, .int .i64 0, .int .u64 0, .int .i64 0, .int .u64 0, .int .u64 0] 43)).alloc (.cells #[.slice a l.length cap, .int .i64 0] 71)) lo hi' (w.heap.size + 1) S0 := by
    rw [HS0.out]
    exact ⟨fun h => absurd rfl h, _, Blk.new2 w _ _ _, hv1⟩
  have k0 : Kept None w ((w.alloc (.cells #[.string ⟨#[]⟩, .int .i64 0, .int .u64 0, .int .i64 0, .int .u64 0, .int .u64 0] 43)).alloc (.cells #[.slice a l.length cap, .int .i64 0] 71)) := ((Kept.refl _ _).alloc _).alloc _
  have v0 : Blk ((w.alloc (.cells #[.string ⟨#[]⟩, .int .i64 0, .int .u64 0, .int .i64 0, .int .u64 0, .int .u64 0] 43)).alloc (.cells #[.slice a l.length cap, .int .i64 0] 71)) w.heap.size #[.string ⟨#[]⟩, .int .i64 0, .int .u64 0, .int .i64 0, .int .u64 0, .int .u64 0] 43 := (Blk.new w _ _).alloc _
  clear hv0 hv1 HS0
  go_enter Try.func30, Try.ntmps30
  go_wp2_with fail
  refine (J.out.1 _ _ _ _ r1 (by omega)).mono ?_
  rintro e w1 ⟨rfl, k1, r2⟩
  have k01 := k0.then k1 (fun i hi (h : i = w.heap.size + 1) => by omega)
  have v1 := v0.kept k1 (fun (h : w.heap.size = w.heap.size + 1) => by omega)
  clear r1 k0 v0 k1
  go_wp2_with fail
  obtain ⟨wE, hwE⟩ : ∃ wE, wE = w1.alloc (.cells #[.string ⟨N.toArray⟩, .int .i64 V, .int .u64 (K : Int)] 94) := ⟨_, rfl⟩
  have r3 := r2.kept ((Kept.refl None w1).alloc (.cells #[.string ⟨N.toArray⟩, .int .i64 V, .int .u64 (K : Int)] 94)) (fun _ _ _ h => h) (fun h => h)
  have v2 := v1.alloc (.cells #[.string ⟨N.toArray⟩, .int .i64 V, .int .u64 (K : Int)] 94)
  have k02 := k01.alloc (.cells #[.string ⟨N.toArray⟩, .int .i64 V, .int .u64 (K : Int)] 94)
  have bE := Blk.new w1 #[.string ⟨N.toArray⟩, .int .i64 V, .int .u64 (K : Int)] 94
  have hrl := r2.lt
  rw [← hwE] at r3 v2 k02 bE ⊢
  clear hwE r2 v1 k01
  have hEl := bE.lt
  have hc0 : ∀ W, Kept (Just (w.heap.size + 1)) wE W → W.cell? ⟨w1.heap.size, 0, none⟩ = some (.string ⟨N.toArray⟩) := fun W hW => (bE.kept hW (fun (h : w1.heap.size = w.heap.size + 1) => by omega)).cell 0
  have hc1 : ∀ W, Kept (Just (w.heap.size + 1)) wE W → W.cell? ⟨w1.heap.size, 1, none⟩ = some (.int .i64 V) := fun W hW => (bE.kept hW (fun (h : w1.heap.size = w.heap.size + 1) => by omega)).cell 1
  have hc2 : ∀ W, Kept (Just (w.heap.size + 1)) wE W → W.cell? ⟨w1.heap.size, 2, none⟩ = some (.int .u64 (K : Int)) := fun W hW => (bE.kept hW (fun (h : w1.heap.size = w.heap.size + 1) => by omega)).cell 2
  refine wp_region_plan_tail 10 (Kept (Just (w.heap.size + 1)) wE) [{ k := 7, uses := [100], spends := [100], pure := fun u => u = .int .i64 C, fact := fun _ W => Ref.Rd W lo hi' (w.heap.size + 1) S4 },
    { k := 9, uses := [], pure := fun u => ∃ g, u = .pointer (some ⟨g, 0, none⟩), fact := fun u W => ∃ g, u = .pointer (some ⟨g, 0, none⟩) ∧ wE.heap.size ≤ g ∧ Blk W g #[.string ⟨#[]⟩, .int .i64 0, .int .u64 0, .int .i64 0, .int .u64 0, .int .u64 0] 43 },
    { k := 100, uses := [], fact := fun _ W => Ref.Rd W lo hi' (w.heap.size + 1) S3 }] [100] (by kernel_rfl) (by kernel_rfl) (by kernel_rfl) (by rfl) ?pures ((Kept.refl _ wE).drew) ?starts ?walk
  case pures =>
    intro f hf
    simp only [List.mem_cons, List.not_mem_nil, or_false] at hf
    rcases hf with rfl | rfl | rfl
    · exact ⟨_, rfl⟩
    · exact ⟨_, 0, rfl⟩
    · exact ⟨undef, trivial⟩
  case starts =>
    intro k hk
    obtain rfl : k = 100 := by simpa using hk
    exact r3.kept ((Kept.refl None wE).drew) (fun _ _ _ h => h) (fun h => h)
  simp only [List.take_succ_cons, List.take_zero, List.drop_succ_cons, List.drop_zero]
  iterate 7 (refine wpPar_pure rfl (by rfl) _ (fun W hW => by
      have c0 := hc0 W hW
      have c1 := hc1 W hW
      have c2 := hc2 W hW
      go_simp
      exact rfl) ?_; simp only [Act.put, List.setIfInBounds_toArray, List.set_cons_zero, List.set_cons_succ])
  refine wpPar_adds rfl (by rfl) (fun W hW hd => ?_) (fun v7 hv => ?_)
  · have rW : Ref.Rd W lo hi' (w.heap.size + 1) S3 := hd 100 (List.Mem.head _)
    unfold Gives
    go_simp
    refine gives_call (J.out.2.1 _ _ _ W rW (by omega)) ?_
    rintro e W' ⟨rfl, k, r4⟩
    refine ⟨_, rfl, hW.trans k, rfl, r4, keeps_of fun f hf hs _ hne u hfu => ?_⟩
    simp only [List.mem_cons, List.not_mem_nil, or_false] at hf
    rcases hf with rfl | rfl | rfl
    · exact absurd rfl hne
    · obtain ⟨g, e1, e2, e3⟩ := hfu
      exact ⟨g, e1, e2, e3.kept k (fun (h : g = w.heap.size + 1) => by omega)⟩
    · exact absurd (List.Mem.head _) hs
  obtain rfl : v7 = .int .i64 C := hv
  simp only [Act.put, List.setIfInBounds_toArray, List.set_cons_zero, List.set_cons_succ]
  iterate 1 (refine wpPar_pure rfl (by rfl) _ (fun W hW => by
      go_simp
      exact rfl) ?_; simp only [Act.put, List.setIfInBounds_toArray, List.set_cons_zero, List.set_cons_succ])
  refine wpPar_adds rfl (by rfl) (fun W hW hd => ?_) (fun v9 hv => ?_)
  · unfold Gives
    go_simp
    refine ⟨hW.alloc _, ⟨_, rfl⟩, ⟨_, rfl, hW.size, Blk.new _ _ _⟩, keeps_of fun f hf hs _ hne u hfu => ?_⟩
    simp only [List.mem_cons, List.not_mem_nil, or_false] at hf
    rcases hf with rfl | rfl | rfl
    · exact Ref.Rd.kept hfu ((Kept.refl None W).alloc _) (fun _ _ _ h => h) (fun h => h)
    · exact absurd rfl hne
    · exact Ref.Rd.kept hfu ((Kept.refl None W).alloc _) (fun _ _ _ h => h) (fun h => h)
  obtain ⟨ub, rfl⟩ : ∃ g, v9 = .pointer (some ⟨g, 0, none⟩) := hv
  simp only [Act.put, List.setIfInBounds_toArray, List.set_cons_zero, List.set_cons_succ]
  refine wpPar_nil (fun W hW hG => ?_)
  have r4 : Ref.Rd W lo hi' (w.heap.size + 1) S4 := hG 7
  obtain ⟨g, e1, e2, uZ⟩ : ∃ g, Value.pointer (some ⟨ub, 0, none⟩) = .pointer (some ⟨g, 0, none⟩) ∧ wE.heap.size ≤ g ∧ Blk W g #[.string ⟨#[]⟩, .int .i64 0, .int .u64 0, .int .i64 0, .int .u64 0, .int .u64 0] 43 := hG 9
  obtain rfl : ub = g := by injection e1 with e1; injection e1 with e1; injection e1
  have k03 := k02.then hW (fun i hi (h : i = w.heap.size + 1) => by omega)
  have v3 := v2.kept hW (fun (h : w.heap.size = w.heap.size + 1) => by omega)
  have hub : w.heap.size + 1 < ub := by omega
  clear hG e1 e2 hc0 hc1 hc2 bE hEl hrl r3 v2 k02 hW
  have NE : ∀ k, lo ≤ k → k < hi' → ¬ Just ub k := fun k _ h e => by unfold Just at e; omega
  have NR : ¬ Just ub (w.heap.size + 1) := fun e => by unfold Just at e; omega
  have NU : ¬ Just (w.heap.size + 1) ub := fun e => by unfold Just at e; omega
  have NV : ¬ Just (w.heap.size + 1) w.heap.size := fun e => by unfold Just at e; omega
  have NW : ¬ Just ub w.heap.size := fun e => by unfold Just at e; omega
  have NN := hid (And.intro NE (And.intro NR (And.intro NU (And.intro NV (And.intro NW hub)))))
  clear NE NR NU NV NW hub
  go_wp2_with (first | (refine wpList_store_blk rfl _ _ _ rfl rfl rfl uZ Up.aUpd rfl (upd4_all _ _ _ _) ?_; intro w4 u4 kk4) | fail)
  have r4' := r4.kept kk4 NN.out.1 NN.out.2.1
  have v4 := v3.kept kk4 NN.out.2.2.2.2.1
  have k04 := k03.then kk4 (fun i hi (h : i = ub) => by have := NN.out.2.2.2.2.2; omega)
  clear uZ r4 v3 k03 kk4
  refine (J.out.2.2.1 _ _ _ _ r4' (by omega)).mono ?_
  rintro e w5 ⟨rfl, k5, r5⟩
  have k05 := k04.then k5 (fun i hi (h : i = w.heap.size + 1) => by omega)
  have v5 := v4.kept k5 NN.out.2.2.2.1
  have u5 := u4.kept k5 NN.out.2.2.1
  have c4 : w5.cell? ⟨ub, 4, none⟩ = some (.int .u64 0) := u5.cell 4
  have f4 := u5.free 4
  have r5' := r5.kept (Kept.one w5 ub 4 (.int .u64 (R : Int))) NN.out.1 NN.out.2.1
  have u5' : Blk (w5.setCell ⟨ub, 4, none⟩ (.int .u64 (R : Int))) ub #[.string ⟨N.toArray⟩, .int .i64 V, .int .u64 (K : Int), .int .i64 C, .int .u64 (R : Int), .int .u64 0] 43 := u5.set 4 _
  have v5' := v5.kept (Kept.one w5 ub 4 (.int .u64 (R : Int))) NN.out.2.2.2.2.1
  have k05' := k05.setNew (b := ub) (by have := NN.out.2.2.2.2.2; omega) 4 (.int .u64 (R : Int))
  clear r4' k04 v4 u4 k5 r5 k05 v5 u5
  go_wp2_with fail
  refine (J.out.2.2.2.1 _ _ _ _ r5' (by omega)).mono ?_
  rintro e w6 ⟨rfl, k6, r6⟩
  have k06 := k05'.then k6 (fun i hi (h : i = w.heap.size + 1) => by omega)
  have v6 := v5'.kept k6 NN.out.2.2.2.1
  have u6 := u5'.kept k6 NN.out.2.2.1
  have c5 : w6.cell? ⟨ub, 5, none⟩ = some (.int .u64 0) := u6.cell 5
  have f5 := u6.free 5
  have r6' := r6.kept (Kept.one w6 ub 5 (.int .u64 (S : Int))) NN.out.1 NN.out.2.1
  have u6' : Blk (w6.setCell ⟨ub, 5, none⟩ (.int .u64 (S : Int))) ub #[.string ⟨N.toArray⟩, .int .i64 V, .int .u64 (K : Int), .int .i64 C, .int .u64 (R : Int), .int .u64 (S : Int)] 43 := u6.set 5 _
  have v6' := v6.kept (Kept.one w6 ub 5 (.int .u64 (S : Int))) NN.out.2.2.2.2.1
  have k06' := k06.setNew (b := ub) (by have := NN.out.2.2.2.2.2; omega) 5 (.int .u64 (S : Int))
  have d1 : w6.cell? ⟨w.heap.size + 1, 1, none⟩ = some (.int .i64 S6.e) := by obtain ⟨ok, v', hb', hv'⟩ := r6; exact hb'.cell 1
  obtain ⟨a6, cp6, d0⟩ : ∃ a c, w6.cell? ⟨w.heap.size + 1, 0, none⟩ = some (.slice a S6.l.length c) := by
    obtain ⟨ok, v', hb', hv'⟩ := r6
    obtain ⟨a', c', e', _⟩ := hv'.shape
    rw [e'] at hb'
    exact ⟨a', c', hb'.cell 0⟩
  have hne1 : ub ≠ w.heap.size + 1 := by have := NN.out.2.2.2.2.2; omega
  have hne2 : w.heap.size + 1 ≠ ub := Ne.symm hne1
  clear r5' k05' v5' u5' k6 r6 k06 v6 u6 c4 f4
  rw [e6] at d1
  rw [l6] at d0
  clear e6 l6
  go_wp2_with (first | (refine wpList_load_blk rfl _ _ rfl rfl u6' Up.aUpd ?_) | fail)
  refine (J.out.2.2.2.2 _).mono ?_
  rintro e w8 ⟨rfl, k8⟩
  have k08 := k06'.trans k8
  have v8 := v6'.kept k8 (fun h => h)
  have u8 := u6'.kept k8 (fun h => h)
  clear k06' v6' u6' k8 d0 d1 r6' hne1 hne2 c5 f5 NN J
  go_wp2_with (first | (refine wpList_load_blk rfl _ _ rfl rfl u8 Up.aUpd ?_) | (refine wpList_store_blk rfl _ _ _ rfl rfl rfl v8 Up.aUpd rfl Up.zero_all ?_; intro w7 hR7 k7) | fail)
  exact bodyPost_ret (v := .tuple #[Req.none.V, .int .i64 23]) (results_blk2 rfl _ rfl rfl hR7 Up.aUpd) rfl ⟨rfl, k08.then k7 (fun i hi (h : i = w.heap.size) => by omega)⟩

set_option maxRecDepth 100000 in
set_option maxHeartbeats 16000000 in
theorem read_ok (v : Value) (lo hi : Nat) (l : List UInt8) (w : World) (hv : Bs w lo hi v l) (h : ¬ 512 < l.length) (h2 : ¬ (rd6 l).e ≠ 0) (h3 : ¬ 0 < (rd6 l).l.length) (h4 : (reqOf wholeI l).right = true) : Calls Try.prog 30 #[v] w fun e w' => e = .returned (.tuple #[(readQ l).V, .int .i64 (readE l)]) ∧ Kept None w w' := by
  have eQ : (readQ l).V = updV ⟨(rdN l).toArray⟩ (intI (rd1 l).num) (rd2 l).nat (intI (rd3 l).num) (rd4 l).nat (rd5 l).nat := by unfold readQ; rw [Up.readE_ok h h2 h3 h4, if_pos rfl, ← reqOf_right l h4]; rfl
  rw [eQ, Up.readE_ok h h2 h3 h4]
  clear eQ
  have j0 := fun rr lo hi w hr hlo => of rr lo hi l w hr hlo
  have j1 := fun rr lo hi w hr hlo => Ref.rint rr lo hi (rd3 l) w hr hlo
  have j2 := fun rr lo hi w hr hlo => Ref.rnum rr lo hi (rd4 l) w hr hlo
  have j3 := fun rr lo hi w hr hlo => Ref.rnum rr lo hi (rd5 l) w hr hlo
  have j4 := fun w => right ⟨(rdN l).toArray⟩ (intI (rd1 l).num) (intI (rd3 l).num) (rd2 l).nat (rd4 l).nat (rd5 l).nat w
  rw [← St.nat_eq] at j2 j3
  rw [show (rd3 l).numS = rd4 l from rfl] at j1
  rw [show (rd4 l).numS = rd5 l from rfl] at j2
  rw [show (rd5 l).numS = rd6 l from rfl] at j3
  obtain ⟨N, hN⟩ : ∃ N, N = rdN l := ⟨_, rfl⟩
  obtain ⟨V, hV⟩ : ∃ V, V = intI (rd1 l).num := ⟨_, rfl⟩
  obtain ⟨K, hK⟩ : ∃ K, K = (rd2 l).nat := ⟨_, rfl⟩
  obtain ⟨C, hC⟩ : ∃ C, C = intI (rd3 l).num := ⟨_, rfl⟩
  obtain ⟨R, hR⟩ : ∃ R, R = (rd4 l).nat := ⟨_, rfl⟩
  obtain ⟨S, hS⟩ : ∃ S, S = (rd5 l).nat := ⟨_, rfl⟩
  have h5 : rightB (⟨N.toArray⟩ : ByteArray).size V K C = true := by rw [hN, hV, hK, hC]; exact ((right_int l).trans (right_whole l).symm).trans h4
  rw [← hN, ← hV, ← hK, ← hC, ← hR, ← hS]
  rw [← hN, ← hV, ← hK] at j0
  rw [← hC] at j1
  rw [← hR] at j2
  rw [← hS] at j3
  rw [← hN, ← hV, ← hK, ← hC, ← hR, ← hS] at j4
  rw [h5] at j4
  clear h4 h5
  obtain ⟨S0, hS0⟩ : ∃ S0, S0 = (⟨l, 0⟩ : St) := ⟨_, rfl⟩
  obtain ⟨S3, hS3⟩ : ∃ S3, S3 = rd3 l := ⟨_, rfl⟩
  obtain ⟨S4, hS4⟩ : ∃ S4, S4 = rd4 l := ⟨_, rfl⟩
  obtain ⟨S5, hS5⟩ : ∃ S5, S5 = rd5 l := ⟨_, rfl⟩
  obtain ⟨S6, hS6⟩ : ∃ S6, S6 = rd6 l := ⟨_, rfl⟩
  rw [← hS0, ← hS3] at j0
  rw [← hS3, ← hS4] at j1
  rw [← hS4, ← hS5] at j2
  rw [← hS5, ← hS6] at j3
  have e6 : S6.e = 0 := by rw [hS6]; omega
  have l6 : S6.l.length = 0 := by rw [hS6]; omega
  clear hS6 h2 h3
  have J := hid (And.intro j0 (And.intro j1 (And.intro j2 (And.intro j3 j4))))
  have HS0 := hid hS0
  clear j0 j1 j2 j3 j4 hN hV hK hC hR hS hS0 hS3 hS4 hS5
  have hv' := Vs.lt hv
  have hhi : min hi w.heap.size ≤ w.heap.size := Nat.min_le_right _ _
  generalize min hi w.heap.size = hi' at hv' hhi
  obtain ⟨a, cap, rfl, g1, g2, g3⟩ := hv.shape
  clear g3 hv
  have hv0 : Bs w lo hi' (.slice a l.length cap) l := hv'
  clear hv'
  have hv1 := (hv0.kept ((Kept.refl None w).alloc (.cells #[.string ⟨#[]⟩, .int .i64 0, .int .u64 0, .int .i64 0, .int .u64 0, .int .u64 0] 43)) (fun _ _ _ h => h)).kept ((Kept.refl None _).alloc (.cells #[.slice a l.length cap, .int .i64 0] 71)) (fun _ _ _ h => h)
  have r1 : Ref.Rd ((w.alloc (.cells #[.string ⟨#[]⟩, .int .i64 0, .int .u64 0, .int .i64 0, .int .u64 0, .int .u64 0] 43)).alloc (.cells #[.slice a l.length cap, .int .i64 0] 71)) lo hi' (w.heap.size + 1) S0 := by
    rw [HS0.out]
    exact ⟨fun h => absurd rfl h, _, Blk.new2 w _ _ _, hv1⟩
  have k0 : Kept None w ((w.alloc (.cells #[.string ⟨#[]⟩, .int .i64 0, .int .u64 0, .int .i64 0, .int .u64 0, .int .u64 0] 43)).alloc (.cells #[.slice a l.length cap, .int .i64 0] 71)) := ((Kept.refl _ _).alloc _).alloc _
  have v0 : Blk ((w.alloc (.cells #[.string ⟨#[]⟩, .int .i64 0, .int .u64 0, .int .i64 0, .int .u64 0, .int .u64 0] 43)).alloc (.cells #[.slice a l.length cap, .int .i64 0] 71)) w.heap.size #[.string ⟨#[]⟩, .int .i64 0, .int .u64 0, .int .i64 0, .int .u64 0, .int .u64 0] 43 := (Blk.new w _ _).alloc _
  clear hv0 hv1 HS0
  go_enter Try.func30, Try.ntmps30
  go_wp2_with fail
  refine (J.out.1 _ _ _ _ r1 (by omega)).mono ?_
  rintro e w1 ⟨rfl, k1, r2⟩
  have k01 := k0.then k1 (fun i hi (h : i = w.heap.size + 1) => by omega)
  have v1 := v0.kept k1 (fun (h : w.heap.size = w.heap.size + 1) => by omega)
  clear r1 k0 v0 k1
  go_wp2_with fail
  obtain ⟨wE, hwE⟩ : ∃ wE, wE = w1.alloc (.cells #[.string ⟨N.toArray⟩, .int .i64 V, .int .u64 (K : Int)] 94) := ⟨_, rfl⟩
  have r3 := r2.kept ((Kept.refl None w1).alloc (.cells #[.string ⟨N.toArray⟩, .int .i64 V, .int .u64 (K : Int)] 94)) (fun _ _ _ h => h) (fun h => h)
  have v2 := v1.alloc (.cells #[.string ⟨N.toArray⟩, .int .i64 V, .int .u64 (K : Int)] 94)
  have k02 := k01.alloc (.cells #[.string ⟨N.toArray⟩, .int .i64 V, .int .u64 (K : Int)] 94)
  have bE := Blk.new w1 #[.string ⟨N.toArray⟩, .int .i64 V, .int .u64 (K : Int)] 94
  have hrl := r2.lt
  rw [← hwE] at r3 v2 k02 bE ⊢
  clear hwE r2 v1 k01
  have hEl := bE.lt
  have hc0 : ∀ W, Kept (Just (w.heap.size + 1)) wE W → W.cell? ⟨w1.heap.size, 0, none⟩ = some (.string ⟨N.toArray⟩) := fun W hW => (bE.kept hW (fun (h : w1.heap.size = w.heap.size + 1) => by omega)).cell 0
  have hc1 : ∀ W, Kept (Just (w.heap.size + 1)) wE W → W.cell? ⟨w1.heap.size, 1, none⟩ = some (.int .i64 V) := fun W hW => (bE.kept hW (fun (h : w1.heap.size = w.heap.size + 1) => by omega)).cell 1
  have hc2 : ∀ W, Kept (Just (w.heap.size + 1)) wE W → W.cell? ⟨w1.heap.size, 2, none⟩ = some (.int .u64 (K : Int)) := fun W hW => (bE.kept hW (fun (h : w1.heap.size = w.heap.size + 1) => by omega)).cell 2
  refine wp_region_plan_tail 10 (Kept (Just (w.heap.size + 1)) wE) [{ k := 7, uses := [100], spends := [100], pure := fun u => u = .int .i64 C, fact := fun _ W => Ref.Rd W lo hi' (w.heap.size + 1) S4 },
    { k := 9, uses := [], pure := fun u => ∃ g, u = .pointer (some ⟨g, 0, none⟩), fact := fun u W => ∃ g, u = .pointer (some ⟨g, 0, none⟩) ∧ wE.heap.size ≤ g ∧ Blk W g #[.string ⟨#[]⟩, .int .i64 0, .int .u64 0, .int .i64 0, .int .u64 0, .int .u64 0] 43 },
    { k := 100, uses := [], fact := fun _ W => Ref.Rd W lo hi' (w.heap.size + 1) S3 }] [100] (by kernel_rfl) (by kernel_rfl) (by kernel_rfl) (by rfl) ?pures ((Kept.refl _ wE).drew) ?starts ?walk
  case pures =>
    intro f hf
    simp only [List.mem_cons, List.not_mem_nil, or_false] at hf
    rcases hf with rfl | rfl | rfl
    · exact ⟨_, rfl⟩
    · exact ⟨_, 0, rfl⟩
    · exact ⟨undef, trivial⟩
  case starts =>
    intro k hk
    obtain rfl : k = 100 := by simpa using hk
    exact r3.kept ((Kept.refl None wE).drew) (fun _ _ _ h => h) (fun h => h)
  simp only [List.take_succ_cons, List.take_zero, List.drop_succ_cons, List.drop_zero]
  iterate 7 (refine wpPar_pure rfl (by rfl) _ (fun W hW => by
      have c0 := hc0 W hW
      have c1 := hc1 W hW
      have c2 := hc2 W hW
      go_simp
      exact rfl) ?_; simp only [Act.put, List.setIfInBounds_toArray, List.set_cons_zero, List.set_cons_succ])
  refine wpPar_adds rfl (by rfl) (fun W hW hd => ?_) (fun v7 hv => ?_)
  · have rW : Ref.Rd W lo hi' (w.heap.size + 1) S3 := hd 100 (List.Mem.head _)
    unfold Gives
    go_simp
    refine gives_call (J.out.2.1 _ _ _ W rW (by omega)) ?_
    rintro e W' ⟨rfl, k, r4⟩
    refine ⟨_, rfl, hW.trans k, rfl, r4, keeps_of fun f hf hs _ hne u hfu => ?_⟩
    simp only [List.mem_cons, List.not_mem_nil, or_false] at hf
    rcases hf with rfl | rfl | rfl
    · exact absurd rfl hne
    · obtain ⟨g, e1, e2, e3⟩ := hfu
      exact ⟨g, e1, e2, e3.kept k (fun (h : g = w.heap.size + 1) => by omega)⟩
    · exact absurd (List.Mem.head _) hs
  obtain rfl : v7 = .int .i64 C := hv
  simp only [Act.put, List.setIfInBounds_toArray, List.set_cons_zero, List.set_cons_succ]
  iterate 1 (refine wpPar_pure rfl (by rfl) _ (fun W hW => by
      go_simp
      exact rfl) ?_; simp only [Act.put, List.setIfInBounds_toArray, List.set_cons_zero, List.set_cons_succ])
  refine wpPar_adds rfl (by rfl) (fun W hW hd => ?_) (fun v9 hv => ?_)
  · unfold Gives
    go_simp
    refine ⟨hW.alloc _, ⟨_, rfl⟩, ⟨_, rfl, hW.size, Blk.new _ _ _⟩, keeps_of fun f hf hs _ hne u hfu => ?_⟩
    simp only [List.mem_cons, List.not_mem_nil, or_false] at hf
    rcases hf with rfl | rfl | rfl
    · exact Ref.Rd.kept hfu ((Kept.refl None W).alloc _) (fun _ _ _ h => h) (fun h => h)
    · exact absurd rfl hne
    · exact Ref.Rd.kept hfu ((Kept.refl None W).alloc _) (fun _ _ _ h => h) (fun h => h)
  obtain ⟨ub, rfl⟩ : ∃ g, v9 = .pointer (some ⟨g, 0, none⟩) := hv
  simp only [Act.put, List.setIfInBounds_toArray, List.set_cons_zero, List.set_cons_succ]
  refine wpPar_nil (fun W hW hG => ?_)
  have r4 : Ref.Rd W lo hi' (w.heap.size + 1) S4 := hG 7
  obtain ⟨g, e1, e2, uZ⟩ : ∃ g, Value.pointer (some ⟨ub, 0, none⟩) = .pointer (some ⟨g, 0, none⟩) ∧ wE.heap.size ≤ g ∧ Blk W g #[.string ⟨#[]⟩, .int .i64 0, .int .u64 0, .int .i64 0, .int .u64 0, .int .u64 0] 43 := hG 9
  obtain rfl : ub = g := by injection e1 with e1; injection e1 with e1; injection e1
  have k03 := k02.then hW (fun i hi (h : i = w.heap.size + 1) => by omega)
  have v3 := v2.kept hW (fun (h : w.heap.size = w.heap.size + 1) => by omega)
  have hub : w.heap.size + 1 < ub := by omega
  clear hG e1 e2 hc0 hc1 hc2 bE hEl hrl r3 v2 k02 hW
  have NE : ∀ k, lo ≤ k → k < hi' → ¬ Just ub k := fun k _ h e => by unfold Just at e; omega
  have NR : ¬ Just ub (w.heap.size + 1) := fun e => by unfold Just at e; omega
  have NU : ¬ Just (w.heap.size + 1) ub := fun e => by unfold Just at e; omega
  have NV : ¬ Just (w.heap.size + 1) w.heap.size := fun e => by unfold Just at e; omega
  have NW : ¬ Just ub w.heap.size := fun e => by unfold Just at e; omega
  have NN := hid (And.intro NE (And.intro NR (And.intro NU (And.intro NV (And.intro NW hub)))))
  clear NE NR NU NV NW hub
  go_wp2_with (first | (refine wpList_store_blk rfl _ _ _ rfl rfl rfl uZ Up.aUpd rfl (upd4_all _ _ _ _) ?_; intro w4 u4 kk4) | fail)
  have r4' := r4.kept kk4 NN.out.1 NN.out.2.1
  have v4 := v3.kept kk4 NN.out.2.2.2.2.1
  have k04 := k03.then kk4 (fun i hi (h : i = ub) => by have := NN.out.2.2.2.2.2; omega)
  clear uZ r4 v3 k03 kk4
  refine (J.out.2.2.1 _ _ _ _ r4' (by omega)).mono ?_
  rintro e w5 ⟨rfl, k5, r5⟩
  have k05 := k04.then k5 (fun i hi (h : i = w.heap.size + 1) => by omega)
  have v5 := v4.kept k5 NN.out.2.2.2.1
  have u5 := u4.kept k5 NN.out.2.2.1
  have c4 : w5.cell? ⟨ub, 4, none⟩ = some (.int .u64 0) := u5.cell 4
  have f4 := u5.free 4
  have r5' := r5.kept (Kept.one w5 ub 4 (.int .u64 (R : Int))) NN.out.1 NN.out.2.1
  have u5' : Blk (w5.setCell ⟨ub, 4, none⟩ (.int .u64 (R : Int))) ub #[.string ⟨N.toArray⟩, .int .i64 V, .int .u64 (K : Int), .int .i64 C, .int .u64 (R : Int), .int .u64 0] 43 := u5.set 4 _
  have v5' := v5.kept (Kept.one w5 ub 4 (.int .u64 (R : Int))) NN.out.2.2.2.2.1
  have k05' := k05.setNew (b := ub) (by have := NN.out.2.2.2.2.2; omega) 4 (.int .u64 (R : Int))
  clear r4' k04 v4 u4 k5 r5 k05 v5 u5
  go_wp2_with fail
  refine (J.out.2.2.2.1 _ _ _ _ r5' (by omega)).mono ?_
  rintro e w6 ⟨rfl, k6, r6⟩
  have k06 := k05'.then k6 (fun i hi (h : i = w.heap.size + 1) => by omega)
  have v6 := v5'.kept k6 NN.out.2.2.2.1
  have u6 := u5'.kept k6 NN.out.2.2.1
  have c5 : w6.cell? ⟨ub, 5, none⟩ = some (.int .u64 0) := u6.cell 5
  have f5 := u6.free 5
  have r6' := r6.kept (Kept.one w6 ub 5 (.int .u64 (S : Int))) NN.out.1 NN.out.2.1
  have u6' : Blk (w6.setCell ⟨ub, 5, none⟩ (.int .u64 (S : Int))) ub #[.string ⟨N.toArray⟩, .int .i64 V, .int .u64 (K : Int), .int .i64 C, .int .u64 (R : Int), .int .u64 (S : Int)] 43 := u6.set 5 _
  have v6' := v6.kept (Kept.one w6 ub 5 (.int .u64 (S : Int))) NN.out.2.2.2.2.1
  have k06' := k06.setNew (b := ub) (by have := NN.out.2.2.2.2.2; omega) 5 (.int .u64 (S : Int))
  have d1 : w6.cell? ⟨w.heap.size + 1, 1, none⟩ = some (.int .i64 S6.e) := by obtain ⟨ok, v', hb', hv'⟩ := r6; exact hb'.cell 1
  obtain ⟨a6, cp6, d0⟩ : ∃ a c, w6.cell? ⟨w.heap.size + 1, 0, none⟩ = some (.slice a S6.l.length c) := by
    obtain ⟨ok, v', hb', hv'⟩ := r6
    obtain ⟨a', c', e', _⟩ := hv'.shape
    rw [e'] at hb'
    exact ⟨a', c', hb'.cell 0⟩
  have hne1 : ub ≠ w.heap.size + 1 := by have := NN.out.2.2.2.2.2; omega
  have hne2 : w.heap.size + 1 ≠ ub := Ne.symm hne1
  clear r5' k05' v5' u5' k6 r6 k06 v6 u6 c4 f4
  rw [e6] at d1
  rw [l6] at d0
  clear e6 l6
  go_wp2_with (first | (refine wpList_load_blk rfl _ _ rfl rfl u6' Up.aUpd ?_) | fail)
  refine (J.out.2.2.2.2 _).mono ?_
  rintro e w8 ⟨rfl, k8⟩
  have k08 := k06'.trans k8
  have v8 := v6'.kept k8 (fun h => h)
  have u8 := u6'.kept k8 (fun h => h)
  clear k06' v6' u6' k8 d0 d1 r6' hne1 hne2 c5 f5 NN J
  go_wp2_with (first | (refine wpList_load_blk rfl _ _ rfl rfl u8 Up.aUpd ?_) | (refine wpList_store_blk rfl _ _ _ rfl rfl rfl v8 Up.aUpd rfl (Up.upd_all _ _ _ _ _ _) ?_; intro w7 hR7 k7) | fail)
  exact bodyPost_ret (v := .tuple #[updV ⟨N.toArray⟩ V K C R S, .int .i64 0]) (results_blk2 rfl _ rfl rfl hR7 Up.aUpd) rfl ⟨rfl, k08.then k7 (fun i hi (h : i = w.heap.size) => by omega)⟩

/-- postmarkref5.Read. -/
theorem read (v : Value) (lo hi : Nat) (l : List UInt8) (w : World) (hv : Bs w lo hi v l) : Calls Try.prog 30 #[v] w fun e w' => e = .returned (.tuple #[(readQ l).V, .int .i64 (readE l)]) ∧ Kept None w w' := by
  by_cases h : 512 < l.length
  · exact read_long v lo hi l w hv h
  by_cases h2 : (rd6 l).e ≠ 0
  · exact read_err v lo hi l w hv h h2
  by_cases h3 : 0 < (rd6 l).l.length
  · exact read_more v lo hi l w hv h h2 h3
  cases h4 : (reqOf wholeI l).right with
  | false => exact read_form v lo hi l w hv h h2 h3 h4
  | true => exact read_ok v lo hi l w hv h h2 h3 h4
end RUp
end Go.Proofs.Ytbebpnanhkcngaa
namespace Go.Pm
open Go Go.RowKit
theorem num_of {L : List UInt8} (h : 8 ≤ L.length) : (St.mk L 0).num = leV L := if_pos ⟨rfl, h⟩
theorem numS_of {L : List UInt8} (h : 8 ≤ L.length) : (St.mk L 0).numS = ⟨L.drop 8, 0⟩ := by
  unfold St.numS
  rw [if_pos rfl, if_pos h]
theorem intI_small {x : Int} (h : x ≤ 1152921504606846976) : intI x = x := intI_le' (by omega)
theorem one_ref {S : Int} {L : List UInt8} (h : okJ 1 S L = true) : (⟨1, S, intI (St.mk L 0).num, intI (St.mk L 0).numS.num, Req.none, 0, 0⟩ : Rec) = candJ 1 S L ∧ (St.mk L 0).numS.numS.e = 0 := by
  obtain ⟨hl, _, h1, _, h2⟩ := okJ_one h
  have e1 : (L.drop 8).length = 8 := by rw [List.length_drop]; omega
  rw [numS_of (by omega), numS_of (by omega), num_of (by omega), num_of (by omega), intI_small h1, intI_small (by omega)]
  exact ⟨rfl, rfl⟩
theorem two_ref {S : Int} {L : List UInt8} (h : okJ 2 S L = true) : (⟨2, S, 0, 0, readQ (St.mk L 0).numS.l, intI (St.mk L 0).num, 0⟩ : Rec) = candJ 2 S L ∧ (St.mk L 0).numS.e = 0 ∧ readE (St.mk L 0).numS.l = 0 := by
  obtain ⟨hl, _, h1, h2⟩ := okJ_two h
  rw [numS_of hl, num_of hl, intI_small h1]
  refine ⟨rfl, rfl, ?_⟩
  by_cases he : readE (L.drop 8) = 0
  · exact he
  · rw [readE_bad he] at h2
    cases h2
theorem three_ref {S : Int} {L : List UInt8} (h : okJ 3 S L = true) : (⟨3, S, 0, 0, Req.none, 0, intI (St.mk L 0).num⟩ : Rec) = candJ 3 S L ∧ (St.mk L 0).numS.e = 0 := by
  obtain ⟨hl, _, h1⟩ := okJ_three h
  rw [numS_of (by omega), num_of (by omega), intI_small (by omega)]
  exact ⟨rfl, rfl⟩
theorem readQ_fits (l : List UInt8) : (readQ l).r < 18446744073709551616 ∧ (readQ l).s < 18446744073709551616 := by
  unfold readQ
  split
  · exact ⟨St.nat_lt _, St.nat_lt _⟩
  · exact ⟨by decide, by decide⟩
/-- What stands behind the switch. -/
def MidJ (K S : Int) (L : List UInt8) (r : Rec) (E : Int) : Prop := r.kind = K ∧ r.seq = S ∧ (r.u.r < 18446744073709551616 ∧ r.u.s < 18446744073709551616) ∧ (okJ K S L = true → r = candJ K S L ∧ E = 0)
end Go.Pm
namespace Go.Proofs.Ytbebpnanhkcngaa
open Go.RowKit Go.Pm
namespace R12
theorem aRec : AggTy Try.prog 45 12 := Sg.AggTy.of (by kernel_rfl) (by kernel_rfl)
theorem zRec : (#[.int .i64 0, .int .i64 0, .int .i64 0, .int .i64 0, .string ⟨#[]⟩, .int .i64 0, .int .u64 0, .int .i64 0, .int .u64 0, .int .u64 0, .int .i64 0, .int .i64 0] : Array Value).all (·.oneCell') = true := Rec.C_one Rec.none
theorem iUpd : (Try.prog.info? 43).map (·.size) = some 6 := by kernel_rfl
set_option maxRecDepth 100000 in
set_option maxHeartbeats 8000000 in
theorem rread (v : Value) (lo hi : Nat) (b : List UInt8) (w : World) (hv0 : Bs w lo hi v b) (hl : b.length ≤ 1099511627000) :
    Calls Try.prog 18 #[v] w fun en w' => en = .returned (.tuple #[(readJ b).r.V, .int .i64 (readJ b).n, .int .i64 (readJ b).e]) ∧ Kept None w w' := by
  have hv := hv0.all
  clear hv0
  obtain ⟨av, cv, rfl, _⟩ := hv.shape
  have hR := fun W (h : Bs W 0 w.heap.size (.slice av b.length cv) b) => R12.read _ _ _ b W h hl
  obtain ⟨K, S, L, n, E, hF⟩ : ∃ K S L n E, readF b = ⟨K, S, L, n, E⟩ := ⟨_, _, _, _, _, rfl⟩
  simp only [hF] at hR
  have HR := hid hR
  have HV := hid hv
  have k0 : Kept None w (w.alloc (.cells #[.int .i64 0, .int .i64 0, .int .i64 0, .int .i64 0, .string ⟨#[]⟩, .int .i64 0, .int .u64 0, .int .i64 0, .int .u64 0, .int .u64 0, .int .i64 0, .int .i64 0] 45)) := (Kept.refl _ _).alloc _
  have HV0 := hid (hv.kept k0 (fun _ _ _ h => h))
  have hZ0 := hid (Blk.new w #[.int .i64 0, .int .i64 0, .int .i64 0, .int .i64 0, .string ⟨#[]⟩, .int .i64 0, .int .u64 0, .int .i64 0, .int .u64 0, .int .u64 0, .int .i64 0, .int .i64 0] 45)
  clear hR hv
  by_cases hE : E = 0
  · subst hE
    have ht := readF_take (b := b) (by rw [hF])
    rw [hF] at ht
    simp only at ht
    have HT := hid ht
    have HFF := hid hF
    clear hF ht
    go_enter Try.func18, Try.ntmps18
    go_wp2_with fail
    refine (HR.out _ HV0.out).mono ?_
    rintro e1 w1 ⟨u1, rfl, k1, b1⟩
    obtain ⟨a1, c1, rfl, _⟩ := b1.shape
    have BZ1 := hid (hZ0.out.kept k1 (fun h => h))
    have K1 := hid (k0.trans k1)
    have B1 := hid b1
    clear k1 b1 hZ0 HV0 HR
    go_upto_block 0 with fail
    have kA : Kept None w1 ((w1.alloc (.cells #[.int .i64 K, .int .i64 S, .int .i64 0, .int .i64 0, .string ⟨#[]⟩, .int .i64 0, .int .u64 0, .int .i64 0, .int .u64 0, .int .u64 0, .int .i64 0, .int .i64 0] 45)).alloc (.cells #[.slice a1 L.length c1, .int .i64 0] 71)) := ((Kept.refl _ _).alloc _).alloc _
    have bA : Blk ((w1.alloc (.cells #[.int .i64 K, .int .i64 S, .int .i64 0, .int .i64 0, .string ⟨#[]⟩, .int .i64 0, .int .u64 0, .int .i64 0, .int .u64 0, .int .u64 0, .int .i64 0, .int .i64 0] 45)).alloc (.cells #[.slice a1 L.length c1, .int .i64 0] 71)) w1.heap.size #[.int .i64 K, .int .i64 S, .int .i64 0, .int .i64 0, .string ⟨#[]⟩, .int .i64 0, .int .u64 0, .int .i64 0, .int .u64 0, .int .u64 0, .int .i64 0, .int .i64 0] 45 := (Blk.new w1 _ _).alloc _
    have rA : Blk ((w1.alloc (.cells #[.int .i64 K, .int .i64 S, .int .i64 0, .int .i64 0, .string ⟨#[]⟩, .int .i64 0, .int .u64 0, .int .i64 0, .int .u64 0, .int .u64 0, .int .i64 0, .int .i64 0] 45)).alloc (.cells #[.slice a1 L.length c1, .int .i64 0] 71)) (w1.heap.size + 1) #[.slice a1 L.length c1, .int .i64 0] 71 := Blk.new2 w1 _ _ _
    obtain ⟨wA, hwA⟩ : ∃ wA, wA = (w1.alloc (.cells #[.int .i64 K, .int .i64 S, .int .i64 0, .int .i64 0, .string ⟨#[]⟩, .int .i64 0, .int .u64 0, .int .i64 0, .int .u64 0, .int .u64 0, .int .i64 0, .int .i64 0] 45)).alloc (.cells #[.slice a1 L.length c1, .int .i64 0] 71) := ⟨_, rfl⟩
    rw [← hwA] at kA bA rA ⊢
    have RA := hid (show Ref.Rd wA 0 w.heap.size (w1.heap.size + 1) ⟨L, 0⟩ from ⟨fun h => absurd rfl h, _, rA, B1.out.kept kA (fun _ _ _ h => h)⟩)
    have BA := hid bA
    have KA := hid (K1.out.trans kA)
    have BZA := hid (BZ1.out.kept kA (fun h => h))
    have hz := hid (show w.heap.size < w1.heap.size from BZ1.out.lt)
    clear kA bA rA hwA B1 BZ1 K1 k0
    go_cut [13] (fun s13 wx => s13 = s13 ∧ ∃ (r : Rec) (Ex : Int) (vx : Value), Hid (MidJ K S L r Ex) ∧ Hid (Blk wx w1.heap.size r.C 45) ∧ Hid (Blk wx (w1.heap.size + 1) #[vx, .int .i64 Ex] 71) ∧ Hid (Blk wx w.heap.size #[.int .i64 0, .int .i64 0, .int .i64 0, .int .i64 0, .string ⟨#[]⟩, .int .i64 0, .int .u64 0, .int .i64 0, .int .u64 0, .int .u64 0, .int .i64 0, .int .i64 0] 45) ∧ Hid (Kept None w wx))
    case first =>
      by_cases hk1 : K = 1
      · subst hk1
        have R0 := RA
        go_wp2_with fail
        refine (Ref.rint (w1.heap.size + 1) 0 w.heap.size ⟨L, 0⟩ wA R0.out (by have := hz.out; omega)).mono ?_
        rintro e1 w2 ⟨rfl, k2, r2⟩
        obtain ⟨x1, hx1⟩ : ∃ x, x = intI (St.mk L 0).num := ⟨_, rfl⟩
        rw [← hx1]
        have HX1 := hid hx1
        have b2 := BA.out.kept k2 (fun (h : w1.heap.size = w1.heap.size + 1) => by omega)
        have z2 := BZA.out.kept k2 (fun (h : w.heap.size = w1.heap.size + 1) => by have := hz.out; omega)
        have q2 := hid (KA.out.then k2 (fun i hi (h : i = w1.heap.size + 1) => by have := hz.out; omega))
        have B2 := hid b2
        have Z2 := hid z2
        have RD2 := hid r2
        have cc := b2.cell 2
        have ff := b2.free 2
        clear k2 r2 b2 z2 hx1
        go_wp2_with fail
        clear cc ff
        have b3 := B2.out.set 2 (.int .i64 x1)
        have z3 := Z2.out.setOther (a := ⟨w1.heap.size, 2, none⟩) (by have := hz.out; simp only; omega) (.int .i64 x1)
        have k3 : Kept (Just w1.heap.size) w2 (w2.setCell ⟨w1.heap.size, 2, none⟩ (.int .i64 x1)) := Kept.one w2 w1.heap.size 2 _
        have r3 := RD2.out.kept k3 (fun k _ hk (h : k = w1.heap.size) => by have := hz.out; omega) (fun (h : w1.heap.size + 1 = w1.heap.size) => by omega)
        have q3 := q2.out.then k3 (fun i hi (h : i = w1.heap.size) => by have := hz.out; omega)
        obtain ⟨w3, hw3⟩ : ∃ w3, w3 = w2.setCell ⟨w1.heap.size, 2, none⟩ (.int .i64 x1) := ⟨_, rfl⟩
        rw [← hw3] at b3 z3 r3 q3 ⊢
        have B3 := hid b3
        have Z3 := hid z3
        have RD3 := hid r3
        have Q3 := hid q3
        clear b3 z3 k3 r3 q3 hw3 B2 Z2 RD2 q2
        go_wp2_with fail
        refine (Ref.rint (w1.heap.size + 1) 0 w.heap.size (St.mk L 0).numS w3 RD3.out (by have := hz.out; omega)).mono ?_
        rintro e2 w4 ⟨rfl, k4, r4⟩
        obtain ⟨x2, hx2⟩ : ∃ x, x = intI (St.mk L 0).numS.num := ⟨_, rfl⟩
        rw [← hx2]
        have HX2 := hid hx2
        have b4 := B3.out.kept k4 (fun (h : w1.heap.size = w1.heap.size + 1) => by omega)
        have z4 := hid (Z3.out.kept k4 (fun (h : w.heap.size = w1.heap.size + 1) => by have := hz.out; omega))
        have q4 := hid (Q3.out.then k4 (fun i hi (h : i = w1.heap.size + 1) => by have := hz.out; omega))
        have B4 := hid b4
        have RD4 := hid r4
        have cc := b4.cell 3
        have ff := b4.free 3
        simp at cc
        clear k4 r4 b4 hx2
        go_wp2_with fail
        clear cc ff
        have b5 := B4.out.set 3 (.int .i64 x2)
        have z5 := z4.out.setOther (a := ⟨w1.heap.size, 3, none⟩) (by have := hz.out; simp only; omega) (.int .i64 x2)
        have k5 : Kept (Just w1.heap.size) w4 (w4.setCell ⟨w1.heap.size, 3, none⟩ (.int .i64 x2)) := Kept.one w4 w1.heap.size 3 _
        have r5 := RD4.out.kept k5 (fun k _ hk (h : k = w1.heap.size) => by have := hz.out; omega) (fun (h : w1.heap.size + 1 = w1.heap.size) => by omega)
        have q5 := q4.out.then k5 (fun i hi (h : i = w1.heap.size) => by have := hz.out; omega)
        go_meet
        obtain ⟨_, vx, hbx, _⟩ := r5
        exact ⟨trivial, ⟨1, S, x1, x2, Req.none, 0, 0⟩, _, vx, hid ⟨rfl, rfl, (by show (0 : Nat) < 18446744073709551616 ∧ (0 : Nat) < 18446744073709551616; decide), fun h => by rw [HX1.out, HX2.out]; exact one_ref h⟩, hid b5, hid hbx, hid z5, hid q5⟩
      by_cases hk2 : K = 2
      · subst hk2
        have R0 := RA
        go_wp2_with fail
        refine (Ref.rint (w1.heap.size + 1) 0 w.heap.size ⟨L, 0⟩ wA R0.out (by have := hz.out; omega)).mono ?_
        rintro e1 w2 ⟨rfl, k2, r2⟩
        obtain ⟨x1, hx1⟩ : ∃ x, x = intI (St.mk L 0).num := ⟨_, rfl⟩
        rw [← hx1]
        have HX1 := hid hx1
        have b2 := BA.out.kept k2 (fun (h : w1.heap.size = w1.heap.size + 1) => by omega)
        have z2 := BZA.out.kept k2 (fun (h : w.heap.size = w1.heap.size + 1) => by have := hz.out; omega)
        have q2 := hid (KA.out.then k2 (fun i hi (h : i = w1.heap.size + 1) => by have := hz.out; omega))
        have B2 := hid b2
        have Z2 := hid z2
        have RD2 := hid r2
        have cc := b2.cell 10
        have ff := b2.free 10
        clear k2 r2 b2 z2 hx1
        go_upto_region 12 with fail
        clear cc ff
        have b3 := B2.out.set 10 (.int .i64 x1)
        have z3 := Z2.out.setOther (a := ⟨w1.heap.size, 10, none⟩) (by have := hz.out; simp only; omega) (.int .i64 x1)
        have k3 : Kept (Just w1.heap.size) w2 (w2.setCell ⟨w1.heap.size, 10, none⟩ (.int .i64 x1)) := Kept.one w2 w1.heap.size 10 _
        have r3 := RD2.out.kept k3 (fun k _ hk (h : k = w1.heap.size) => by have := hz.out; omega) (fun (h : w1.heap.size + 1 = w1.heap.size) => by omega)
        have q3 := q2.out.then k3 (fun i hi (h : i = w1.heap.size) => by have := hz.out; omega)
        obtain ⟨w3, hw3⟩ : ∃ w3, w3 = w2.setCell ⟨w1.heap.size, 10, none⟩ (.int .i64 x1) := ⟨_, rfl⟩
        rw [← hw3] at b3 z3 r3 q3 ⊢
        have B3 := hid b3
        have Z3 := hid z3
        have RD3 := hid r3
        have Q3 := hid q3
        clear b3 z3 k3 r3 q3 hw3 B2 Z2 RD2 q2
        obtain ⟨_, v3, hb3, hs3⟩ := RD3.out
        obtain ⟨av3, cv3, rfl, _⟩ := hs3.shape
        have cc := hb3.cell 0
        simp at cc
        have HS3 := hid hs3
        clear hb3 hs3
        go_wp2_with fail
        clear cc
        refine (RUp.read _ _ _ _ _ HS3.out).mono ?_
        rintro e2 w4 ⟨rfl, k4⟩
        obtain ⟨l3, hl3⟩ : ∃ l, l = (St.mk L 0).numS.l := ⟨_, rfl⟩
        obtain ⟨Q, hQ⟩ : ∃ Q, Q = readQ l3 := ⟨_, rfl⟩
        obtain ⟨E2, hE2⟩ : ∃ E2, E2 = readE l3 := ⟨_, rfl⟩
        rw [← hl3, ← hQ, ← hE2]
        have HQ := hid (And.intro hl3 (And.intro hQ hE2))
        have B4 := hid (B3.out.kept k4 (fun h => h))
        have Z4 := hid (Z3.out.kept k4 (fun h => h))
        have RD4 := hid (RD3.out.kept k4 (fun _ _ _ h => h) (fun h => h))
        have Q4 := hid (Q3.out.trans k4)
        clear k4 hl3 hQ hE2 HS3 B3 Z3 RD3 Q3
        by_cases h2 : E2 = 0
        · have d2 : (E2 == 0) = true := by simpa using h2
          have b5 := B4.out.alloc (.cells #[.string Q.n, .int .i64 Q.v, .int .u64 (Q.k : Int), .int .i64 Q.c, .int .u64 (Q.r : Int), .int .u64 (Q.s : Int)] 43)
          clear h2
          go_wp2_with (first | (refine wpList_store_agg rfl _ _ _ rfl (xs := [.string Q.n, .int .i64 Q.v, .int .u64 (Q.k : Int), .int .i64 Q.c, .int .u64 (Q.r : Int), .int .u64 (Q.s : Int)]) rfl rfl b5 iUpd (by simp [Value.oneCell']) (by simp) ?_; intro w6 b6 k6) | fail)
          have k56 := (Kept.refl None w4).alloc (.cells #[.string Q.n, .int .i64 Q.v, .int .u64 (Q.k : Int), .int .i64 Q.c, .int .u64 (Q.r : Int), .int .u64 (Q.s : Int)] 43)
          have z6 := (Z4.out.kept k56 (fun h => h)).kept k6 (fun (h : w.heap.size = w1.heap.size) => by have := hz.out; omega)
          have r6 := (RD4.out.kept k56 (fun _ _ _ h => h) (fun h => h)).kept k6 (fun k _ hk (h : k = w1.heap.size) => by have := hz.out; omega) (fun (h : w1.heap.size + 1 = w1.heap.size) => by omega)
          have q6 := (Q4.out.trans k56).then k6 (fun i hi (h : i = w1.heap.size) => by have := hz.out; omega)
          go_meet
          obtain ⟨_, vx, hbx, _⟩ := r6
          exact ⟨trivial, ⟨2, S, 0, 0, Q, x1, 0⟩, _, vx, hid ⟨rfl, rfl, by rw [HQ.out.2.1]; exact readQ_fits _, fun h => by rw [HX1.out, HQ.out.2.1, HQ.out.1]; exact ⟨(two_ref h).1, (two_ref h).2.1⟩⟩, hid b6, hid hbx, hid z6, hid q6⟩
        · have d2 : (E2 == 0) = false := by simpa using h2
          have hfin := hid (readJ_bad HFF.out (by
            cases ho : okJ 2 S L with
            | false => rfl
            | true => exact absurd (by rw [HQ.out.2.2, HQ.out.1]; exact (two_ref ho).2.2) h2))
          have z5 := Z4.out.alloc (.cells #[.string Q.n, .int .i64 Q.v, .int .u64 (Q.k : Int), .int .i64 Q.c, .int .u64 (Q.r : Int), .int .u64 (Q.s : Int)] 43)
          have k56 := (Kept.refl None w4).alloc (.cells #[.string Q.n, .int .i64 Q.v, .int .u64 (Q.k : Int), .int .i64 Q.c, .int .u64 (Q.r : Int), .int .u64 (Q.s : Int)] 43)
          clear h2
          go_wp2_with (first | (refine wpList_store_blk rfl _ _ _ rfl rfl rfl z5 aRec rfl zRec ?_; intro w9 hR9 k9) | fail)
          have kk : Kept None w w9 := (Q4.out.trans k56).then k9 (fun i hi (h : i = w.heap.size) => by omega)
          (try simp only [Exit.inBlock, Exit.then])
          refine bodyPost_ret (v := .tuple #[Rec.none.V, .int .i64 0, .int .i64 20]) (results_blk3 rfl _ rfl rfl rfl hR9 aRec) rfl ?_
          rw [hfin.out]
          exact ⟨rfl, kk⟩
      by_cases hk3 : K = 3
      · subst hk3
        have R0 := RA
        go_wp2_with fail
        refine (Ref.rint (w1.heap.size + 1) 0 w.heap.size ⟨L, 0⟩ wA R0.out (by have := hz.out; omega)).mono ?_
        rintro e1 w2 ⟨rfl, k2, r2⟩
        obtain ⟨x1, hx1⟩ : ∃ x, x = intI (St.mk L 0).num := ⟨_, rfl⟩
        rw [← hx1]
        have HX1 := hid hx1
        have b2 := BA.out.kept k2 (fun (h : w1.heap.size = w1.heap.size + 1) => by omega)
        have z2 := BZA.out.kept k2 (fun (h : w.heap.size = w1.heap.size + 1) => by have := hz.out; omega)
        have q2 := hid (KA.out.then k2 (fun i hi (h : i = w1.heap.size + 1) => by have := hz.out; omega))
        have B2 := hid b2
        have Z2 := hid z2
        have RD2 := hid r2
        have cc := b2.cell 11
        have ff := b2.free 11
        clear k2 r2 b2 z2 hx1
        go_wp2_with fail
        clear cc ff
        have b3 := B2.out.set 11 (.int .i64 x1)
        have z3 := Z2.out.setOther (a := ⟨w1.heap.size, 11, none⟩) (by have := hz.out; simp only; omega) (.int .i64 x1)
        have k3 : Kept (Just w1.heap.size) w2 (w2.setCell ⟨w1.heap.size, 11, none⟩ (.int .i64 x1)) := Kept.one w2 w1.heap.size 11 _
        have r3 := RD2.out.kept k3 (fun k _ hk (h : k = w1.heap.size) => by have := hz.out; omega) (fun (h : w1.heap.size + 1 = w1.heap.size) => by omega)
        have q3 := q2.out.then k3 (fun i hi (h : i = w1.heap.size) => by have := hz.out; omega)
        obtain ⟨w3, hw3⟩ : ∃ w3, w3 = w2.setCell ⟨w1.heap.size, 11, none⟩ (.int .i64 x1) := ⟨_, rfl⟩
        rw [← hw3] at b3 z3 r3 q3 ⊢
        have B3 := hid b3
        have Z3 := hid z3
        have RD3 := hid r3
        have Q3 := hid q3
        clear b3 z3 k3 r3 q3 hw3 B2 Z2 RD2 q2
        go_wp2_with fail
        go_meet
        obtain ⟨_, vx, hbx, _⟩ := RD3.out
        exact ⟨trivial, ⟨3, S, 0, 0, Req.none, 0, x1⟩, _, vx, hid ⟨rfl, rfl, (by show (0 : Nat) < 18446744073709551616 ∧ (0 : Nat) < 18446744073709551616; decide), fun h => by rw [HX1.out]; exact three_ref h⟩, B3, hid hbx, Z3, Q3⟩
      have e1 : (K == 1) = false := by simpa using hk1
      have e2 : (K == 2) = false := by simpa using hk2
      have e3 : (K == 3) = false := by simpa using hk3
      have HN := hid (And.intro hk1 (And.intro hk2 hk3))
      clear hk1 hk2 hk3
      go_wp2_with fail
      go_meet
      obtain ⟨_, vx, hbx, _⟩ := RA.out
      exact ⟨trivial, ⟨K, S, 0, 0, Req.none, 0, 0⟩, _, vx, hid ⟨rfl, rfl, (by show (0 : Nat) < 18446744073709551616 ∧ (0 : Nat) < 18446744073709551616; decide), fun h => by rcases okJ_kind h with h | h | h; exact absurd h HN.out.1; exact absurd h HN.out.2.1; exact absurd h HN.out.2.2⟩, BA, hid hbx, BZA, KA⟩
    case rest =>
      obtain ⟨_, r, Ex, vx, HM, HB, HX, HZ, HK⟩ := hcut
      obtain ⟨w5, rfl⟩ : ∃ w5 : World, w5 = wc := ⟨_, rfl⟩
      have hm := HM.out
      have hres := readJ_of HFF.out r hm.1 hm.2.1 hm.2.2.1 (fun h => (hm.2.2.2 h).1)
      have HP := hid (fun W => rput r W hm.2.2.1)
      have hbad : ¬ Ex = 0 → readJ b = ⟨Rec.none, 0, 20⟩ := fun h => readJ_bad HFF.out (by
        cases ho : okJ K S L with
        | false => rfl
        | true => exact absurd (hm.2.2.2 ho).2 h)
      have HRS := hid hres
      have HBD := hid hbad
      obtain ⟨A, hA⟩ : ∃ A, A = r.C := ⟨_, rfl⟩
      have hAr : AggTy Try.prog 45 A.size := by rw [hA]; exact aRec
      have HA := hid (And.intro hA (show A.all (·.oneCell') = true by rw [hA]; exact Rec.C_one r))
      have hAz : A.size = 12 := by rw [hA]; rfl
      rw [← hA] at HB
      have hPA : Hid (∀ W, Calls Try.prog 23 #[.agg A] W fun e w' => ∃ u, e = .returned (.tuple #[u, .int .i64 (putJE r)]) ∧ Kept None W w' ∧ Ob w' W.heap.size u (putJL r)) := hid (by rw [hA]; exact HP.out)
      have HAz := hid hAz
      have hb5 := HB.out
      clear hm hres hbad hA HP HM hAz
      go_wp2_with (first | (refine wpList_load_blk rfl _ _ rfl rfl hb5 hAr ?_) | fail)
      refine (hPA.out _).mono ?_
      rintro e1 w7 ⟨u7, rfl, k7, b7⟩
      obtain ⟨a7, c7, rfl⟩ := b7.form
      have KW := hid (HK.out.trans k7)
      have B7 := hid (HB.out.kept k7 (fun h => h))
      have Z7 := hid (HZ.out.kept k7 (fun h => h))
      have cX := (HX.out.kept k7 (fun h => h)).cell 1
      have hcx : w7.cell? ⟨w1.heap.size + 1, 1, none⟩ = some (.int .i64 Ex) := cX
      clear k7 cX hb5
      by_cases hEx : Ex = 0
      · subst hEx
        by_cases hr : rightJ r = true
        · have eP : putJE r = 0 := by unfold putJE; rw [if_pos hr]
          rw [eP]
          have cv1 := fun q => cvBytes ((b7.bs (Nat.le_refl _)).kept (Kept.toDrewN None w7 q) (fun _ _ _ h => h))
          obtain ⟨x8, sl8, p8⟩ := slice_to tBytes zBytes (HV.out.kept KW.out (fun _ _ _ h => h)) .i64 (n : Int) (Int.natCast_nonneg _) (by have := HT.out.2.2.2.1; omega)
          simp only [Int.toNat_natCast] at sl8 p8
          rw [← List.map_take] at p8
          obtain ⟨BN, hBN⟩ : ∃ BN, BN = b.take n := ⟨_, rfl⟩
          have lBN : n = BN.length := by rw [hBN, List.length_take]; have := HT.out.2.2.2.1; omega
          rw [← hBN] at p8
          obtain ⟨PJ, hPJ⟩ : ∃ PJ, PJ = putJL r := ⟨_, rfl⟩
          rw [← hPJ] at cv1 ⊢
          have cv2 := fun q => cvBytes (Bs.kept p8 (Kept.toDrewN None w7 q) (fun _ _ _ h => h))
          have HPB := hid (And.intro hPJ hBN)
          have HRT := hid hr
          by_cases hq : PJ = BN
          · have bq : (PJ == BN) = true := by simpa using hq
            have HQ := hid hq
            clear hq hr eP b7 p8 lBN hPJ hBN
            go_wp2_with fail
            go_quiet (fail)
            have b8 := (B7.out.drewN nq)
            have z8 := (Z7.out.drewN nq)
            go_wp2_with (first | (refine wpList_load_blk rfl _ _ rfl rfl b8 hAr ?_) | (refine wpList_store_blk rfl _ _ _ rfl rfl rfl z8 hAr HAz.out.symm HA.out.2 ?_; intro w9 hR9 k9) | fail)
            have kk : Kept None w w9 := (KW.out.trans (Kept.toDrewN None w7 nq)).then k9 (fun i hi (h : i = w.heap.size) => by omega)
            (try simp only [Exit.inBlock, Exit.then])
            refine bodyPost_ret (v := .tuple #[.agg A, .int .i64 n, .int .i64 0]) (results_blk3 rfl _ rfl rfl rfl hR9 hAr) rfl ?_
            have hfin := HRS.out
            rw [if_pos ⟨HRT.out, by rw [← HPB.out.1, ← HPB.out.2]; exact HQ.out⟩] at hfin
            rw [hfin, HA.out.1]
            exact ⟨rfl, kk⟩
          · have bq : (PJ == BN) = false := by simpa using hq
            have HQ := hid hq
            clear hq hr eP b7 p8 lBN hPJ hBN
            go_wp2_with fail
            go_quiet (fail)
            have z8 := (Z7.out.drewN nq)
            go_wp2_with (first | (refine wpList_store_blk rfl _ _ _ rfl rfl rfl z8 aRec rfl zRec ?_; intro w9 hR9 k9) | fail)
            have kk : Kept None w w9 := (KW.out.trans (Kept.toDrewN None w7 nq)).then k9 (fun i hi (h : i = w.heap.size) => by omega)
            (try simp only [Exit.inBlock, Exit.then])
            refine bodyPost_ret (v := .tuple #[Rec.none.V, .int .i64 0, .int .i64 20]) (results_blk3 rfl _ rfl rfl rfl hR9 aRec) rfl ?_
            have hfin := HRS.out
            rw [if_neg (fun h => HQ.out (by rw [HPB.out.1, HPB.out.2]; exact h.2))] at hfin
            rw [hfin]
            exact ⟨rfl, kk⟩
        · have eP : putJE r = 23 := by unfold putJE; rw [if_neg hr]
          rw [eP]
          have HRT := hid hr
          clear hr eP b7
          go_wp2_with fail
          go_quiet (fail)
          have z8 := (Z7.out.drewN nq)
          go_wp2_with (first | (refine wpList_store_blk rfl _ _ _ rfl rfl rfl z8 aRec rfl zRec ?_; intro w9 hR9 k9) | fail)
          have kk : Kept None w w9 := (KW.out.trans (Kept.toDrewN None w7 nq)).then k9 (fun i hi (h : i = w.heap.size) => by omega)
          (try simp only [Exit.inBlock, Exit.then])
          refine bodyPost_ret (v := .tuple #[Rec.none.V, .int .i64 0, .int .i64 20]) (results_blk3 rfl _ rfl rfl rfl hR9 aRec) rfl ?_
          have hfin := HRS.out
          rw [if_neg (fun h => HRT.out h.1)] at hfin
          rw [hfin]
          exact ⟨rfl, kk⟩
      · have dE : (Ex == 0) = false := by simpa using hEx
        have hfin := hid (HBD.out hEx)
        have dE2 : (Ex != 0) = true := by simpa using hEx
        have dE3 : (!decide (Ex = 0)) = true := by simpa using hEx
        have dE4 : decide (Ex = 0) = false := by simpa using hEx
        clear b7
        go_wp2_with fail
        go_quiet (fail)
        have z8 := (Z7.out.drewN nq)
        go_wp2_with (first | (refine wpList_store_blk rfl _ _ _ rfl rfl rfl z8 aRec rfl zRec ?_; intro w9 hR9 k9) | fail)
        have kk : Kept None w w9 := (KW.out.trans (Kept.toDrewN None w7 nq)).then k9 (fun i hi (h : i = w.heap.size) => by omega)
        (try simp only [Exit.inBlock, Exit.then])
        refine bodyPost_ret (v := .tuple #[Rec.none.V, .int .i64 0, .int .i64 20]) (results_blk3 rfl _ rfl rfl rfl hR9 aRec) rfl ?_
        rw [hfin.out]
        exact ⟨rfl, kk⟩
  · have e := hid (readJ_err hF hE)
    have dE : (E == 0) = false := by simpa using hE
    clear hE hF
    go_enter Try.func18, Try.ntmps18
    go_wp2_with fail
    refine (HR.out _ HV0.out).mono ?_
    rintro e1 w1 ⟨u1, rfl, k1, b1⟩
    obtain ⟨a1, c1, rfl, _⟩ := b1.shape
    have hZ := hZ0.out.kept k1 (fun h => h)
    have K1 := hid (k0.trans k1)
    clear k1 b1 hZ0 HV0 HR
    go_wp2_with (first | (refine wpList_store_blk rfl _ _ _ rfl rfl rfl hZ aRec rfl zRec ?_; intro w9 hR9 k9) | fail)
    have kk : Kept None w w9 := K1.out.then k9 (fun i hi (h : i = w.heap.size) => by omega)
    (try simp only [Exit.inBlock, Exit.then])
    refine bodyPost_ret (v := .tuple #[Rec.none.V, .int .i64 0, .int .i64 E]) (results_blk3 rfl _ rfl rfl rfl hR9 aRec) rfl ?_
    rw [e.out]
    exact ⟨rfl, kk⟩
end R12
end Go.Proofs.Ytbebpnanhkcngaa
namespace Go.Pm
open Go Go.RowKit
theorem rty15 {P : Program} {t e : TypeId} {z : Value} {k bytes : Nat} (h1 : P.underlying t = some (.slice e)) (h2 : (P.info? e).map (fun i => (i.zero, i.size, i.bytes)) = some (some z, k, bytes)) (h3 : z.cells.size = k) (h4 : 0 < k) : RowTyK P t e z k bytes := by
  refine ⟨h1, ?_, h3, h4⟩
  cases hi : P.info? e with
  | none => rw [hi] at h2; cases h2
  | some i =>
    rw [hi] at h2
    simp only [Option.map_some, Option.some.injEq, Prod.mk.injEq] at h2
    exact ⟨i, rfl, h2⟩
theorem ps_one15 {k : Nat} {w : World} {g : Nat} {t : TypeId} {x : List Value} (h : Blk w g x.toArray t) (hx : x.length = k) : Ps k w 0 w.heap.size (.slice (some ⟨g, 0, none⟩) 1 1) [x] := by
  refine ⟨Each.one hx, by simp [hx], some ⟨g, 0, none⟩, 1, rfl, Nat.le_refl _, by unfold maxLen; omega, (fun h => by cases h), ?_⟩
  intro ad had i c hc
  simp only [Option.some.injEq] at had
  subst had
  refine ⟨Nat.zero_le _, h.lt, ?_⟩
  rw [Addr.add_lit, Nat.zero_add, h.cell]
  simpa using hc
theorem recsC_one15 (l : List Rec) : ∀ x ∈ recsC l, ∀ c ∈ x, c.oneCell' = true := fun x hx => by
  obtain ⟨y, _, rfl⟩ := List.mem_map.1 hx
  exact recC_one y
theorem lim15 {l a m : Nat} (h1 : a ≤ m) (h2 : 21 * l ≤ a) (h3 : m ≤ 1099511627000) : l + 1 ≤ 1099511627776 := by omega
theorem wrap15 {a : Nat} (h : a ≤ 1099511627000) : wrap64 (a : Int) = (a : Int) ∧ IntKind.i64.wrap (a : Int) = (a : Int) := by
  rw [IntKind.wrap_i64]
  unfold wrap64
  omega
theorem sum15 {a n m M : Nat} (hM : M = a + n) (h1 : a ≤ m) (h2 : n ≤ m - a) (h3 : m ≤ 1099511627000) : (a : Int) + (n : Int) = (M : Int) ∧ wrap64 (M : Int) = (M : Int) := by
  unfold wrap64
  omega
theorem pred15 {l N a m : Nat} (hN : N = l - 1) (h0 : 0 < l) (h1 : a ≤ m) (h2 : 21 * l ≤ a) (h3 : m ≤ 1099511627000) : (l : Int) - 1 = (N : Int) ∧ N < l ∧ wrap64 (N : Int) = (N : Int) ∧ IntKind.i64.wrap (N : Int) = (N : Int) := by
  rw [IntKind.wrap_i64]
  unfold wrap64
  omega
theorem succ15 {q Q : Int} (hQ : Q = q + 1) (h0 : 0 ≤ q) (h1 : q ≤ 1152921504606846976) : wrap64 (q + 1) = Q ∧ IntKind.i64.wrap (q + 1) = Q := by
  rw [IntKind.wrap_i64]
  unfold wrap64
  omega
/-- The last one. -/
theorem last15 {l : List Rec} {p : Option Int} (h : 0 < l.length) : ∃ q, l[l.length - 1]? = some q ∧ q ∈ l ∧ lastS p l = some q.seq := by
  have h2 : l.length - 1 < l.length := by omega
  refine ⟨l[l.length - 1], List.getElem?_eq_getElem h2, List.getElem_mem _, ?_⟩
  unfold lastS
  rw [List.getLast?_eq_getElem?, List.getElem?_eq_getElem h2]
end Go.Pm
namespace Go.Proofs.Ytbebpnanhkcngaa
open Go.RowKit Go.Pm
namespace R12
theorem rtRec15 : RowTyK Try.prog 27 45 (.agg #[.int .i64 0, .int .i64 0, .int .i64 0, .int .i64 0, .string ⟨#[]⟩, .int .i64 0, .int .u64 0, .int .i64 0, .int .u64 0, .int .u64 0, .int .i64 0, .int .i64 0]) 12 104 := rty15 (by kernel_rfl) (by kernel_rfl) (by rfl) (by decide)
set_option maxRecDepth 100000 in
set_option maxHeartbeats 8000000 in
theorem records (v : Value) (lo hi : Nat) (b : List UInt8) (w : World) (hv : Bs w lo hi v b) (hl : b.length ≤ 1099511627000) :
    Calls Try.prog 11 #[v] w fun en w' => ∃ u, en = .returned (.tuple #[u, .int .i64 (scanC none b : Int)]) ∧ Kept None w w' ∧ Po 12 45 w' w.heap.size u (recsC (scanR none b)) := by
  obtain ⟨av, cv, rfl, _⟩ := hv.shape
  have HV := hid hv.all
  have HL := hid hl
  clear hv hl
  go_enter Try.func11, Try.ntmps11
  go_wp2_with fail
  go_loopg [4, 5] b.length (fun kx s4 s5 wr => ∃ (l : List Rec) (at_ : Nat) (a4 : Option Addr) (n4 c4 : Nat), s4 = .slice a4 n4 c4 ∧ s5 = .int .i64 (at_ : Int) ∧ b.length - at_ ≤ kx ∧ Hid (ScanAt b l at_) ∧ Hid (Kept None w wr) ∧ Hid (Po 12 45 wr w.heap.size (.slice a4 n4 c4) (recsC l)))
  case atStart => exact ⟨[], 0, none, 0, 0, rfl, rfl, by omega, hid (ScanAt.zero b), hid (Kept.refl _ _), hid (Po.nil _ _ _ _)⟩
  case round =>
  obtain ⟨l, at_, a4, n4, c4, rfl, rfl, hkx, HA, HS, HO⟩ := hrel
  have hle := HA.out.le
  obtain ⟨x5, sl5, p5⟩ := slice_from tBytes zBytes (HV.out.kept HS.out (fun _ _ _ h => h)) .i64 (at_ : Int) (Int.natCast_nonneg _) (by omega)
  simp only [Int.toNat_natCast] at sl5 p5
  rw [← List.map_drop] at p5
  have hBd : (b.drop at_).length ≤ 1099511627000 := by have := HL.out; rw [List.length_drop]; omega
  have hdl : (b.drop at_).length = b.length - at_ := List.length_drop
  have hrd := rread _ _ _ (b.drop at_) wr p5 hBd
  have hno : n4 = l.length := by
    obtain ⟨a, c, h⟩ := HO.out.form
    rw [recsC_len] at h
    injection h
  subst hno
  have hdone := HA.out.done
  have hnext := HA.out.next
  have hgn : goesJ (lastS none l) (b.drop at_) → 21 ≤ (readJ (b.drop at_)).n ∧ (readJ (b.drop at_)).n ≤ b.length - at_ := fun h => by
    have := readJ_n h.1
    rwa [hdl] at this
  have hmany := HA.out.many
  obtain ⟨⟨⟨x0, x1, x2, x3, ⟨xn, xv, xk, xc, xr, xs⟩, xt, xe⟩, n, E⟩, hJ⟩ : ∃ j, j = readJ (b.drop at_) := ⟨_, rfl⟩
  unfold goesJ at hdone hnext hgn
  rw [← hJ] at hrd hdone hnext hgn
  simp only at hrd hdone hnext hgn
  have HRD := hid hrd
  unfold Rec.V Rec.C at HRD
  have HDN := hid hdone
  have HNX := hid hnext
  have HGN := hid hgn
  have hdec : decide ((at_ : Int) ≤ (b.length : Int)) = true := by simp; omega
  have HLE := hid (And.intro hle hmany)
  clear hrd hdone hnext hgn hJ p5 hBd hdl hmany hle
  go_wp2_with fail
  refine HRD.out.mono ?_
  rintro e w2 ⟨rfl, k2⟩
  have BX := hid (Blk.new w2 #[.int .i64 x0, .int .i64 x1, .int .i64 x2, .int .i64 x3, .string xn, .int .i64 xv, .int .u64 (xk : Int), .int .i64 xc, .int .u64 (xr : Int), .int .u64 (xs : Int), .int .i64 xt, .int .i64 xe] 45)
  have K3 := hid ((HS.out.trans k2).alloc (.cells #[.int .i64 x0, .int .i64 x1, .int .i64 x2, .int .i64 x3, .string xn, .int .i64 xv, .int .u64 (xk : Int), .int .i64 xc, .int .u64 (xr : Int), .int .u64 (xs : Int), .int .i64 xt, .int .i64 xe] 45))
  have HO3 := hid ((HO.out.kept k2 (fun _ _ h => h)).alloc (.cells #[.int .i64 x0, .int .i64 x1, .int .i64 x2, .int .i64 x3, .string xn, .int .i64 xv, .int .u64 (xk : Int), .int .i64 xc, .int .u64 (xr : Int), .int .u64 (xs : Int), .int .i64 xt, .int .i64 xe] 45))
  clear k2 HRD sl5 hdec
  go_upto_region 4 with fail
  obtain ⟨w3, hw3⟩ : ∃ w3, w3 = w2.alloc (.cells #[.int .i64 x0, .int .i64 x1, .int .i64 x2, .int .i64 x3, .string xn, .int .i64 xv, .int .u64 (xk : Int), .int .i64 xc, .int .u64 (xr : Int), .int .u64 (xs : Int), .int .i64 xt, .int .i64 xe] 45) := ⟨_, rfl⟩
  rw [← hw3] at BX K3 HO3 ⊢
  clear hw3
  have cx : w3.cell? ⟨w2.heap.size, 1, none⟩ = some (.int .i64 x1) := BX.out.cell 1
  by_cases hE : E = 0
  · subst hE
    by_cases h0 : l.length = 0
    · have z1 : decide ((0 : Int) < (l.length : Int)) = false := by rw [h0]; rfl
      have z2 : decide (0 < l.length) = false := by rw [h0]; rfl
      have hg : (0 : Int) = 0 ∧ nextJ (lastS none l) x1 = true := ⟨rfl, by obtain rfl : l = [] := List.eq_nil_of_length_eq_zero h0; rfl⟩
      have HG := hid hg
      clear h0 hg
      go_quiet (fail)
      clear z1 z2 cx
      have BX4 := hid (BX.out.drewN nq)
      have KD := hid (Kept.toDrewN None w3 nq)
      have HO4 := hid (HO3.out.kept KD.out (fun _ _ h => h))
      have K4 := hid (K3.out.trans KD.out)
      obtain ⟨w4, hw4⟩ : ∃ w4, w4 = w3.drewN nq := ⟨_, rfl⟩
      rw [← hw4] at BX4 HO4 K4 ⊢
      clear hw4 KD
      have gn := HGN.out HG.out
      have HNXT := hid (HNX.out HG.out)
      have bx4 := BX4.out
      have HBN := hid (Blk.new w4 #[.int .i64 x0, .int .i64 x1, .int .i64 x2, .int .i64 x3, .string xn, .int .i64 xv, .int .u64 (xk : Int), .int .i64 xc, .int .u64 (xr : Int), .int .u64 (xs : Int), .int .i64 xt, .int .i64 xe] 45)
      have HON := hid (HO4.out.alloc (.cells #[.int .i64 x0, .int .i64 x1, .int .i64 x2, .int .i64 x3, .string xn, .int .i64 xv, .int .u64 (xk : Int), .int .i64 xc, .int .u64 (xr : Int), .int .u64 (xs : Int), .int .i64 xt, .int .i64 xe] 45))
      have KN := hid (K4.out.alloc (.cells #[.int .i64 x0, .int .i64 x1, .int .i64 x2, .int .i64 x3, .string xn, .int .i64 xv, .int .u64 (xk : Int), .int .i64 xc, .int .u64 (xr : Int), .int .u64 (xs : Int), .int .i64 xt, .int .i64 xe] 45))
      have HPN : Ps 12 (w4.alloc (.cells #[.int .i64 x0, .int .i64 x1, .int .i64 x2, .int .i64 x3, .string xn, .int .i64 xv, .int .u64 (xk : Int), .int .i64 xc, .int .u64 (xr : Int), .int .u64 (xs : Int), .int .i64 xt, .int .i64 xe] 45)) 0 (w4.alloc (.cells #[.int .i64 x0, .int .i64 x1, .int .i64 x2, .int .i64 x3, .string xn, .int .i64 xv, .int .u64 (xk : Int), .int .i64 xc, .int .u64 (xr : Int), .int .u64 (xs : Int), .int .i64 xt, .int .i64 xe] 45)).heap.size (.slice (some ⟨w4.heap.size, 0, none⟩) 1 1) (recsC [(⟨x0, x1, x2, x3, ⟨xn, xv, xk, xc, xr, xs⟩, xt, xe⟩ : Rec)]) := ps_one15 (x := recC (⟨x0, x1, x2, x3, ⟨xn, xv, xk, xc, xr, xs⟩, xt, xe⟩ : Rec)) HBN.out rfl
      have hon := HON.out
      have hlen : (recsC l).length + (recsC [(⟨x0, x1, x2, x3, ⟨xn, xv, xk, xc, xr, xs⟩, xt, xe⟩ : Rec)]).length ≤ 1099511627776 := by rw [recsC_len, recsC_len]; exact lim15 HLE.out.1 HLE.out.2 HL.out
      have hbase : w.heap.size ≤ (w4.alloc (.cells #[.int .i64 x0, .int .i64 x1, .int .i64 x2, .int .i64 x3, .string xn, .int .i64 xv, .int .u64 (xk : Int), .int .i64 xc, .int .u64 (xr : Int), .int .u64 (xs : Int), .int .i64 xt, .int .i64 xe] 45)).heap.size := KN.out.size
      obtain ⟨M, hM⟩ : ∃ m, m = at_ + n := ⟨_, rfl⟩
      obtain ⟨hMe, wM⟩ := sum15 hM HLE.out.1 gn.2 HL.out
      have HM := hid (show M = at_ + n ∧ 21 ≤ n ∧ n ≤ b.length - at_ from ⟨hM, gn⟩)
      clear gn hM
      go_wp2_with (first | (refine wpList_load_blk rfl _ _ rfl rfl bx4 aRec ?_) | (refine wpList_one_item rfl _ _ rfl rtRec15 (by decide) rfl rfl ?_) | (at_builtin; refine wpList_append_po rfl _ _ 27 rfl rtRec15 (by decide) rfl rfl hon HPN (recsC_one15 _) hlen hbase ?_; intro a9 n9 c9 w9 hP9 hK9 _) | fail)
      rw [← recsC_app] at hP9
      have K9 := hid (KN.out.then hK9 (fun q hq h => by have := (hon.own q h).1; omega))
      have HP9 := hid hP9
      clear hP9 hK9 HPN hon hlen hbase bx4
      go_roundg (b.length - M)
      case measure => have := HM.out; omega
      case rel => exact ⟨l ++ [(⟨x0, x1, x2, x3, ⟨xn, xv, xk, xc, xr, xs⟩, xt, xe⟩ : Rec)], M, a9, n9, c9, rfl, rfl, Nat.le_refl _, hid (by rw [HM.out.1]; exact HNXT.out), K9, HP9⟩
    · obtain ⟨q, hq1, hqm, hq2⟩ := last15 (p := none) (l := l) (by omega)
      have hqr := ((rightJ_iff q).1 (HA.out.fits q hqm).1).1
      obtain ⟨N1, hN1⟩ : ∃ m, m = l.length - 1 := ⟨_, rfl⟩
      obtain ⟨hN, hNl, wn, wn2⟩ := pred15 hN1 (Nat.pos_of_ne_zero h0) HLE.out.1 HLE.out.2 HL.out
      obtain ⟨g, o, rfl, _, hcell⟩ := (HO3.out.ps (Nat.le_refl _)).rec (by omega)
      have hc := hcell N1 hNl 1 (.int .i64 q.seq) (by rw [← hN1, List.getElem?_eq_getElem hNl] at hq1; injection hq1 with hq1; rw [hq1]; rfl)
      obtain ⟨QS, hQS⟩ : ∃ m : Int, m = q.seq + 1 := ⟨_, rfl⟩
      obtain ⟨wq, wq2⟩ := succ15 hQS hqr.1 hqr.2
      obtain ⟨qs, hqs⟩ : ∃ m : Int, m = q.seq := ⟨_, rfl⟩
      rw [← hqs] at hc wq wq2 hQS hq2
      have hNb : (N1 : Int) < (l.length : Int) := Int.ofNat_lt.mpr hNl
      have z1 : decide ((0 : Int) < (l.length : Int)) = true := by simp; omega
      have z2 : decide (0 < l.length) = true := by simp; omega
      have HGG := hid (show nextJ (lastS none l) x1 = decide (x1 = QS) from by rw [hq2, hQS]; rfl)
      clear hq1 hqm hq2 hqr hN1 hcell hQS hqs hNl
      by_cases hx : x1 = QS
      · have d1 : (x1 == QS) = true := by simpa using hx
        have d2 : (x1 != QS) = false := by simpa using hx
        have d3 : (!decide (x1 = QS)) = false := by simpa using hx
        have d4 : decide (x1 = QS) = true := by simpa using hx
        have hg : (0 : Int) = 0 ∧ nextJ (lastS none l) x1 = true := ⟨rfl, by rw [HGG.out, hx]; simp⟩
        have HG := hid hg
        clear hx hg h0
        go_quiet (fail)
        clear z1 z2 cx hN hc wq wq2 wn wn2 hNb d1 d2 d3 d4
        have BX4 := hid (BX.out.drewN nq)
        have KD := hid (Kept.toDrewN None w3 nq)
        have HO4 := hid (HO3.out.kept KD.out (fun _ _ h => h))
        have K4 := hid (K3.out.trans KD.out)
        obtain ⟨w4, hw4⟩ : ∃ w4, w4 = w3.drewN nq := ⟨_, rfl⟩
        rw [← hw4] at BX4 HO4 K4 ⊢
        clear hw4 KD
        have gn := HGN.out HG.out
        have HNXT := hid (HNX.out HG.out)
        have bx4 := BX4.out
        have HBN := hid (Blk.new w4 #[.int .i64 x0, .int .i64 x1, .int .i64 x2, .int .i64 x3, .string xn, .int .i64 xv, .int .u64 (xk : Int), .int .i64 xc, .int .u64 (xr : Int), .int .u64 (xs : Int), .int .i64 xt, .int .i64 xe] 45)
        have HON := hid (HO4.out.alloc (.cells #[.int .i64 x0, .int .i64 x1, .int .i64 x2, .int .i64 x3, .string xn, .int .i64 xv, .int .u64 (xk : Int), .int .i64 xc, .int .u64 (xr : Int), .int .u64 (xs : Int), .int .i64 xt, .int .i64 xe] 45))
        have KN := hid (K4.out.alloc (.cells #[.int .i64 x0, .int .i64 x1, .int .i64 x2, .int .i64 x3, .string xn, .int .i64 xv, .int .u64 (xk : Int), .int .i64 xc, .int .u64 (xr : Int), .int .u64 (xs : Int), .int .i64 xt, .int .i64 xe] 45))
        have HPN : Ps 12 (w4.alloc (.cells #[.int .i64 x0, .int .i64 x1, .int .i64 x2, .int .i64 x3, .string xn, .int .i64 xv, .int .u64 (xk : Int), .int .i64 xc, .int .u64 (xr : Int), .int .u64 (xs : Int), .int .i64 xt, .int .i64 xe] 45)) 0 (w4.alloc (.cells #[.int .i64 x0, .int .i64 x1, .int .i64 x2, .int .i64 x3, .string xn, .int .i64 xv, .int .u64 (xk : Int), .int .i64 xc, .int .u64 (xr : Int), .int .u64 (xs : Int), .int .i64 xt, .int .i64 xe] 45)).heap.size (.slice (some ⟨w4.heap.size, 0, none⟩) 1 1) (recsC [(⟨x0, x1, x2, x3, ⟨xn, xv, xk, xc, xr, xs⟩, xt, xe⟩ : Rec)]) := ps_one15 (x := recC (⟨x0, x1, x2, x3, ⟨xn, xv, xk, xc, xr, xs⟩, xt, xe⟩ : Rec)) HBN.out rfl
        have hon := HON.out
        have hlen : (recsC l).length + (recsC [(⟨x0, x1, x2, x3, ⟨xn, xv, xk, xc, xr, xs⟩, xt, xe⟩ : Rec)]).length ≤ 1099511627776 := by rw [recsC_len, recsC_len]; exact lim15 HLE.out.1 HLE.out.2 HL.out
        have hbase : w.heap.size ≤ (w4.alloc (.cells #[.int .i64 x0, .int .i64 x1, .int .i64 x2, .int .i64 x3, .string xn, .int .i64 xv, .int .u64 (xk : Int), .int .i64 xc, .int .u64 (xr : Int), .int .u64 (xs : Int), .int .i64 xt, .int .i64 xe] 45)).heap.size := KN.out.size
        obtain ⟨M, hM⟩ : ∃ m, m = at_ + n := ⟨_, rfl⟩
        obtain ⟨hMe, wM⟩ := sum15 hM HLE.out.1 gn.2 HL.out
        have HM := hid (show M = at_ + n ∧ 21 ≤ n ∧ n ≤ b.length - at_ from ⟨hM, gn⟩)
        clear gn hM
        go_wp2_with (first | (refine wpList_load_blk rfl _ _ rfl rfl bx4 aRec ?_) | (refine wpList_one_item rfl _ _ rfl rtRec15 (by decide) rfl rfl ?_) | (at_builtin; refine wpList_append_po rfl _ _ 27 rfl rtRec15 (by decide) rfl rfl hon HPN (recsC_one15 _) hlen hbase ?_; intro a9 n9 c9 w9 hP9 hK9 _) | fail)
        rw [← recsC_app] at hP9
        have K9 := hid (KN.out.then hK9 (fun q hq h => by have := (hon.own q h).1; omega))
        have HP9 := hid hP9
        clear hP9 hK9 HPN hon hlen hbase bx4
        go_roundg (b.length - M)
        case measure => have := HM.out; omega
        case rel => exact ⟨l ++ [(⟨x0, x1, x2, x3, ⟨xn, xv, xk, xc, xr, xs⟩, xt, xe⟩ : Rec)], M, a9, n9, c9, rfl, rfl, Nat.le_refl _, hid (by rw [HM.out.1]; exact HNXT.out), K9, HP9⟩
      · have d1 : (x1 == QS) = false := by simpa using hx
        have d2 : (x1 != QS) = true := by simpa using hx
        have d3 : (!decide (x1 = QS)) = true := by simpa using hx
        have d4 : decide (x1 = QS) = false := by simpa using hx
        have hnn : ¬ ((0 : Int) = 0 ∧ nextJ (lastS none l) x1 = true) := fun h => by rw [HGG.out, decide_eq_true_eq] at h; exact hx h.2
        have HD := hid (HDN.out hnn)
        clear hx hnn h0
        go_quiet (fail)
        have HOF := hid (HO3.out.kept (Kept.toDrewN None w3 nq) (fun _ _ h => h))
        have KF := hid (K3.out.trans (Kept.toDrewN None w3 nq))
        clear z1 z2 cx hN hc wq wq2 wn wn2 hNb d1 d2 d3 d4
        go_wp2
        go_ret2
        rw [← HD.out.2]
        exact ⟨_, rfl, KF.out, by rw [← HD.out.1]; exact HOF.out⟩
  · have e1 : (E == 0) = false := by simpa using hE
    have e2 : (E != 0) = true := by simpa using hE
    have e3 : (!decide (E = 0)) = true := by simpa using hE
    have e4 : decide (E = 0) = false := by simpa using hE
    have hnn : ¬ (E = 0 ∧ nextJ (lastS none l) x1 = true) := fun h => hE h.1
    have HD := hid (HDN.out hnn)
    clear hnn hE
    go_quiet (fail)
    have HOF := hid (HO3.out.kept (Kept.toDrewN None w3 nq) (fun _ _ h => h))
    have KF := hid (K3.out.trans (Kept.toDrewN None w3 nq))
    clear cx e1 e2 e3 e4
    go_wp2
    go_ret2
    rw [← HD.out.2]
    exact ⟨_, rfl, KF.out, by rw [← HD.out.1]; exact HOF.out⟩
end R12
end Go.Proofs.Ytbebpnanhkcngaa
