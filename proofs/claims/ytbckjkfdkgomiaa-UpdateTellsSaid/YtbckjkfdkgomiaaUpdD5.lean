/- update.Read, by contract: the whole. -/
import Derived.Test.YtbckjkfdkgomiaaUpdR5
namespace Go.Proofs.Ytbckjkfdkgomiaa
open Go.RowKit Go.Pm

theorem results_blk2 {P : Program} {fn : Func} {p q : Tmp} {ty : TypeId} (h : fn.results = #[.cell p ty, .tmp q]) (tmps : Array Value) {w : World} {g : Nat} {t : TypeId} {cs : Array Value} (hp : tmps.getD p undef = .pointer (some ⟨g, 0, none⟩)) {x : Value} (hq : tmps.getD q undef = x) (hb : Blk w g cs t)
    (hT : AggTy P ty cs.size) : (results fn tmps).run P w = .ok (.tuple #[.agg cs, x]) w := by
  obtain ⟨d, hu, hd⟩ := hT.ag
  have hp' : tmps[p]?.getD undef = .pointer (some ⟨g, 0, none⟩) := by simpa using hp
  have hq' : tmps[q]?.getD undef = x := by simpa using hq
  have hl := run_loadVar_row w g t ty cs (0, 0) d hb hu (by cases d <;> first | rfl | exact hd) hT.size
  simp [results, h, hp', hq', asAddr, hl]

namespace Up
theorem zero_all : (#[.string ⟨#[]⟩, .int .i64 0, .int .u64 0, .int .i64 0, .int .u64 0, .int .u64 0] : Array Value).all (·.oneCell') = true := by simp [Value.oneCell']
theorem readE_long {l : List UInt8} (h : 512 < l.length) : readE l = 22 := by unfold readE; rw [if_pos h]
theorem readE_err {l : List UInt8} (h : ¬ 512 < l.length) (h2 : (rd6 l).e ≠ 0) : readE l = (rd6 l).e := by unfold readE; rw [if_neg h, if_pos h2]
theorem readE_more {l : List UInt8} (h : ¬ 512 < l.length) (h2 : ¬ (rd6 l).e ≠ 0) (h3 : 0 < (rd6 l).l.length) : readE l = 20 := by unfold readE; rw [if_neg h, if_neg h2, if_pos h3]
theorem readE_form {l : List UInt8} (h : ¬ 512 < l.length) (h2 : ¬ (rd6 l).e ≠ 0) (h3 : ¬ 0 < (rd6 l).l.length) (h4 : (reqOf wholeI l).right = false) : readE l = 23 := by unfold readE; rw [if_neg h, if_neg h2, if_neg h3, h4]; rfl
theorem readE_ok {l : List UInt8} (h : ¬ 512 < l.length) (h2 : ¬ (rd6 l).e ≠ 0) (h3 : ¬ 0 < (rd6 l).l.length) (h4 : (reqOf wholeI l).right = true) : readE l = 0 := by unfold readE; rw [if_neg h, if_neg h2, if_neg h3, h4]; rfl
theorem readQ_none {l : List UInt8} {e : Int} (h : readE l = e) (h0 : e ≠ 0) : readQ l = Req.none := by unfold readQ; rw [h, if_neg h0]
theorem rd_len (l : List UInt8) (m : Nat) (h : l.length ≤ m) : (rd6 l).l.length ≤ m := by
  have h1 : (rd1 l).l.length ≤ l.length := St.lumpS_len ⟨l, 0⟩ 32
  have h2 := St.numS_len (rd1 l)
  have h3 := St.numS_len (rd2 l)
  have h4 := St.numS_len (rd3 l)
  have h5 := St.numS_len (rd4 l)
  have h6 := St.numS_len (rd5 l)
  unfold rd6 rd5 rd4 rd3 rd2 at *
  omega

set_option maxRecDepth 100000 in
set_option maxHeartbeats 8000000 in
theorem read_long (v : Value) (lo hi : Nat) (l : List UInt8) (w : World) (hv : Bs w lo hi v l) (h : 512 < l.length) : Calls Try.prog 24 #[v] w fun e w' => e = .returned (.tuple #[(readQ l).V, .int .i64 (readE l)]) ∧ Kept None w w' := by
  rw [readQ_none (readE_long h) (by decide), readE_long h]
  obtain ⟨a, cap, rfl, g1, g2, g3⟩ := hv.shape
  clear g3 hv
  have k0 : Kept None w (w.alloc (.cells #[.string ⟨#[]⟩, .int .i64 0, .int .u64 0, .int .i64 0, .int .u64 0, .int .u64 0] 26)) := (Kept.refl _ _).alloc _
  have u0 := Blk.new w #[.string ⟨#[]⟩, .int .i64 0, .int .u64 0, .int .i64 0, .int .u64 0, .int .u64 0] 26
  go_enter Try.func24, Try.ntmps24
  go_wp2_with (first | (refine wpList_store_blk rfl _ _ _ rfl rfl rfl u0 aUpd rfl zero_all ?_; intro w7 hR7 k7) | fail)
  exact bodyPost_ret (v := .tuple #[Req.none.V, .int .i64 22]) (results_blk2 rfl _ rfl rfl hR7 aUpd) rfl ⟨rfl, k0.then k7 (fun i hi (h : i = w.heap.size) => by omega)⟩

set_option maxRecDepth 100000 in
set_option maxHeartbeats 8000000 in
theorem read_err (v : Value) (lo hi : Nat) (l : List UInt8) (w : World) (hv : Bs w lo hi v l) (h : ¬ 512 < l.length) (h2 : (rd6 l).e ≠ 0) : Calls Try.prog 24 #[v] w fun e w' => e = .returned (.tuple #[(readQ l).V, .int .i64 (readE l)]) ∧ Kept None w w' := by
  rw [readQ_none (readE_err h h2) h2, readE_err h h2]
  have j0 : ∀ rr lo hi w, Bin.Rd w lo hi rr ⟨l, 0⟩ → hi ≤ rr → Calls Try.prog 42 #[.pointer (some ⟨rr, 0, none⟩)] w fun e w' => e = .returned (updV ⟨(rdN l).toArray⟩ (wholeI (rd1 l).num) (rd2 l).nat (wholeI (rd3 l).num) (rd4 l).nat (rd5 l).nat) ∧ Kept (Just rr) w w' ∧ Bin.Rd w' lo hi rr (rd6 l) := fun rr lo hi w hr hlo => fields rr lo hi l w hr hlo (by omega)
  have j1 := fun rr lo hi w h => Bin.rerr rr lo hi (rd6 l) w h
  have j2 := fun rr lo hi w h => Bin.rleft rr lo hi (rd6 l) w h (rd_len l _ (by omega))
  have j3 := fun w => right ⟨(rdN l).toArray⟩ (wholeI (rd1 l).num) (wholeI (rd3 l).num) (rd2 l).nat (rd4 l).nat (rd5 l).nat w
  obtain ⟨N, hN⟩ : ∃ N, N = rdN l := ⟨_, rfl⟩
  obtain ⟨V, hV⟩ : ∃ V, V = wholeI (rd1 l).num := ⟨_, rfl⟩
  obtain ⟨K, hK⟩ : ∃ K, K = (rd2 l).nat := ⟨_, rfl⟩
  obtain ⟨C, hC⟩ : ∃ C, C = wholeI (rd3 l).num := ⟨_, rfl⟩
  obtain ⟨R, hR⟩ : ∃ R, R = (rd4 l).nat := ⟨_, rfl⟩
  obtain ⟨S, hS⟩ : ∃ S, S = (rd5 l).nat := ⟨_, rfl⟩
  rw [← hN, ← hV, ← hK, ← hC, ← hR, ← hS] at j0 j3
  obtain ⟨S6, hS6⟩ : ∃ S6, S6 = rd6 l := ⟨_, rfl⟩
  rw [← hS6] at j0 j1 j2 h2 ⊢
  obtain ⟨E6, hE6⟩ : ∃ E6, E6 = S6.e := ⟨_, rfl⟩
  rw [← hE6] at j1 h2 ⊢
  have h2b : (E6 != 0) = true := by simpa using h2
  have H := hid (And.intro j0 (And.intro j1 (And.intro j2 j3)))
  clear j0 j1 j2 j3 hS6 hE6 h2
  clear hN hV hK hC hR hS
  obtain ⟨a, cap, rfl, g1, g2, g3⟩ := hv.shape
  clear g3
  have k0 : Kept None w (w.alloc (.cells #[.string ⟨#[]⟩, .int .i64 0, .int .u64 0, .int .i64 0, .int .u64 0, .int .u64 0] 26)) := (Kept.refl _ _).alloc _
  have v0 := Blk.new w #[.string ⟨#[]⟩, .int .i64 0, .int .u64 0, .int .i64 0, .int .u64 0, .int .u64 0] 26
  have hv0 := hv.kept ((Kept.refl None w).alloc (.cells #[.string ⟨#[]⟩, .int .i64 0, .int .u64 0, .int .i64 0, .int .u64 0, .int .u64 0] 26)) (fun _ _ _ h => h)
  clear hv
  go_enter Try.func24, Try.ntmps24
  go_wp2_with fail
  refine (Bin.new _ lo hi l _ hv0 (by omega)).mono ?_
  rintro e w1 ⟨rr, rfl, k1, hsz, r1⟩
  have hsz' : w.heap.size < rr := by simp at hsz; omega
  have k01 := k0.trans k1
  have v1 := v0.kept k1 (fun h => h)
  clear hv0 k0 k1 v0 hsz
  go_wp2_with fail
  refine (H.out.1 _ _ _ _ r1 (Nat.le_refl _)).mono ?_
  rintro e w2 ⟨rfl, k2, r2⟩
  have k02 := k01.then k2 (fun i hi (h : i = rr) => by omega)
  have v2 := v1.kept k2 (fun (h : w.heap.size = rr) => by omega)
  clear k01 k2 v1 r1
  have r3 := r2.kept ((Kept.refl None w2).alloc (.cells #[.string ⟨N.toArray⟩, .int .i64 V, .int .u64 (K : Int), .int .i64 C, .int .u64 (R : Int), .int .u64 (S : Int)] 26)) (fun _ _ _ h => h) (fun h => h)
  have v3 := v2.alloc (.cells #[.string ⟨N.toArray⟩, .int .i64 V, .int .u64 (K : Int), .int .i64 C, .int .u64 (R : Int), .int .u64 (S : Int)] 26)
  have u3 := Blk.new w2 #[.string ⟨N.toArray⟩, .int .i64 V, .int .u64 (K : Int), .int .i64 C, .int .u64 (R : Int), .int .u64 (S : Int)] 26
  have k03 := k02.alloc (.cells #[.string ⟨N.toArray⟩, .int .i64 V, .int .u64 (K : Int), .int .i64 C, .int .u64 (R : Int), .int .u64 (S : Int)] 26)
  clear k02 v2 r2
  go_wp2_with (first | (refine wpList_load_blk rfl _ _ rfl rfl u3 aUpd ?_) | fail)
  refine (H.out.2.1 _ _ _ _ r3).mono ?_
  rintro e w4 ⟨rfl, rfl⟩
  go_wp2_with fail
  refine (H.out.2.1 _ _ _ _ r3).mono ?_
  rintro e w4 ⟨rfl, rfl⟩
  clear r3 H
  go_wp2_with (first | (refine wpList_load_blk rfl _ _ rfl rfl u3 aUpd ?_) | (refine wpList_store_blk rfl _ _ _ rfl rfl rfl v3 aUpd rfl zero_all ?_; intro w7 hR7 k7) | fail)
  exact bodyPost_ret (v := .tuple #[Req.none.V, .int .i64 E6]) (results_blk2 rfl _ rfl rfl hR7 aUpd) rfl ⟨rfl, k03.then k7 (fun i hi (h : i = w.heap.size) => by omega)⟩

set_option maxRecDepth 100000 in
set_option maxHeartbeats 8000000 in
theorem read_more (v : Value) (lo hi : Nat) (l : List UInt8) (w : World) (hv : Bs w lo hi v l) (h : ¬ 512 < l.length) (h2 : ¬ (rd6 l).e ≠ 0) (h3 : 0 < (rd6 l).l.length) : Calls Try.prog 24 #[v] w fun e w' => e = .returned (.tuple #[(readQ l).V, .int .i64 (readE l)]) ∧ Kept None w w' := by
  rw [readQ_none (readE_more h h2 h3) (by decide), readE_more h h2 h3]
  have j0 : ∀ rr lo hi w, Bin.Rd w lo hi rr ⟨l, 0⟩ → hi ≤ rr → Calls Try.prog 42 #[.pointer (some ⟨rr, 0, none⟩)] w fun e w' => e = .returned (updV ⟨(rdN l).toArray⟩ (wholeI (rd1 l).num) (rd2 l).nat (wholeI (rd3 l).num) (rd4 l).nat (rd5 l).nat) ∧ Kept (Just rr) w w' ∧ Bin.Rd w' lo hi rr (rd6 l) := fun rr lo hi w hr hlo => fields rr lo hi l w hr hlo (by omega)
  have j1 := fun rr lo hi w h => Bin.rerr rr lo hi (rd6 l) w h
  have j2 := fun rr lo hi w h => Bin.rleft rr lo hi (rd6 l) w h (rd_len l _ (by omega))
  have j3 := fun w => right ⟨(rdN l).toArray⟩ (wholeI (rd1 l).num) (wholeI (rd3 l).num) (rd2 l).nat (rd4 l).nat (rd5 l).nat w
  obtain ⟨N, hN⟩ : ∃ N, N = rdN l := ⟨_, rfl⟩
  obtain ⟨V, hV⟩ : ∃ V, V = wholeI (rd1 l).num := ⟨_, rfl⟩
  obtain ⟨K, hK⟩ : ∃ K, K = (rd2 l).nat := ⟨_, rfl⟩
  obtain ⟨C, hC⟩ : ∃ C, C = wholeI (rd3 l).num := ⟨_, rfl⟩
  obtain ⟨R, hR⟩ : ∃ R, R = (rd4 l).nat := ⟨_, rfl⟩
  obtain ⟨S, hS⟩ : ∃ S, S = (rd5 l).nat := ⟨_, rfl⟩
  rw [← hN, ← hV, ← hK, ← hC, ← hR, ← hS] at j0 j3
  obtain ⟨S6, hS6⟩ : ∃ S6, S6 = rd6 l := ⟨_, rfl⟩
  have e6 : S6.e = 0 := by rw [hS6]; omega
  rw [← hS6] at j0 j1 j2 h3
  rw [e6] at j1
  have H := hid (And.intro j0 (And.intro j1 (And.intro j2 j3)))
  clear j0 j1 j2 j3 hS6 e6 h2
  clear hN hV hK hC hR hS
  obtain ⟨a, cap, rfl, g1, g2, g3⟩ := hv.shape
  clear g3
  have k0 : Kept None w (w.alloc (.cells #[.string ⟨#[]⟩, .int .i64 0, .int .u64 0, .int .i64 0, .int .u64 0, .int .u64 0] 26)) := (Kept.refl _ _).alloc _
  have v0 := Blk.new w #[.string ⟨#[]⟩, .int .i64 0, .int .u64 0, .int .i64 0, .int .u64 0, .int .u64 0] 26
  have hv0 := hv.kept ((Kept.refl None w).alloc (.cells #[.string ⟨#[]⟩, .int .i64 0, .int .u64 0, .int .i64 0, .int .u64 0, .int .u64 0] 26)) (fun _ _ _ h => h)
  clear hv
  go_enter Try.func24, Try.ntmps24
  go_wp2_with fail
  refine (Bin.new _ lo hi l _ hv0 (by omega)).mono ?_
  rintro e w1 ⟨rr, rfl, k1, hsz, r1⟩
  have hsz' : w.heap.size < rr := by simp at hsz; omega
  have k01 := k0.trans k1
  have v1 := v0.kept k1 (fun h => h)
  clear hv0 k0 k1 v0 hsz
  go_wp2_with fail
  refine (H.out.1 _ _ _ _ r1 (Nat.le_refl _)).mono ?_
  rintro e w2 ⟨rfl, k2, r2⟩
  have k02 := k01.then k2 (fun i hi (h : i = rr) => by omega)
  have v2 := v1.kept k2 (fun (h : w.heap.size = rr) => by omega)
  clear k01 k2 v1 r1
  have r3 := r2.kept ((Kept.refl None w2).alloc (.cells #[.string ⟨N.toArray⟩, .int .i64 V, .int .u64 (K : Int), .int .i64 C, .int .u64 (R : Int), .int .u64 (S : Int)] 26)) (fun _ _ _ h => h) (fun h => h)
  have v3 := v2.alloc (.cells #[.string ⟨N.toArray⟩, .int .i64 V, .int .u64 (K : Int), .int .i64 C, .int .u64 (R : Int), .int .u64 (S : Int)] 26)
  have u3 := Blk.new w2 #[.string ⟨N.toArray⟩, .int .i64 V, .int .u64 (K : Int), .int .i64 C, .int .u64 (R : Int), .int .u64 (S : Int)] 26
  have k03 := k02.alloc (.cells #[.string ⟨N.toArray⟩, .int .i64 V, .int .u64 (K : Int), .int .i64 C, .int .u64 (R : Int), .int .u64 (S : Int)] 26)
  clear k02 v2 r2
  go_wp2_with (first | (refine wpList_load_blk rfl _ _ rfl rfl u3 aUpd ?_) | fail)
  refine (H.out.2.1 _ _ _ _ r3).mono ?_
  rintro e w4 ⟨rfl, rfl⟩
  go_wp2_with fail
  refine (H.out.2.2.1 _ _ _ _ r3).mono ?_
  rintro e w4 ⟨rfl, rfl⟩
  clear r3 H
  go_wp2_with (first | (refine wpList_load_blk rfl _ _ rfl rfl u3 aUpd ?_) | (refine wpList_store_blk rfl _ _ _ rfl rfl rfl v3 aUpd rfl zero_all ?_; intro w7 hR7 k7) | fail)
  exact bodyPost_ret (v := .tuple #[Req.none.V, .int .i64 20]) (results_blk2 rfl _ rfl rfl hR7 aUpd) rfl ⟨rfl, k03.then k7 (fun i hi (h : i = w.heap.size) => by omega)⟩

set_option maxRecDepth 100000 in
set_option maxHeartbeats 8000000 in
theorem read_form (v : Value) (lo hi : Nat) (l : List UInt8) (w : World) (hv : Bs w lo hi v l) (h : ¬ 512 < l.length) (h2 : ¬ (rd6 l).e ≠ 0) (h3 : ¬ 0 < (rd6 l).l.length) (h4 : (reqOf wholeI l).right = false) : Calls Try.prog 24 #[v] w fun e w' => e = .returned (.tuple #[(readQ l).V, .int .i64 (readE l)]) ∧ Kept None w w' := by
  rw [readQ_none (readE_form h h2 h3 h4) (by decide), readE_form h h2 h3 h4]
  have j0 : ∀ rr lo hi w, Bin.Rd w lo hi rr ⟨l, 0⟩ → hi ≤ rr → Calls Try.prog 42 #[.pointer (some ⟨rr, 0, none⟩)] w fun e w' => e = .returned (updV ⟨(rdN l).toArray⟩ (wholeI (rd1 l).num) (rd2 l).nat (wholeI (rd3 l).num) (rd4 l).nat (rd5 l).nat) ∧ Kept (Just rr) w w' ∧ Bin.Rd w' lo hi rr (rd6 l) := fun rr lo hi w hr hlo => fields rr lo hi l w hr hlo (by omega)
  have j1 := fun rr lo hi w h => Bin.rerr rr lo hi (rd6 l) w h
  have j2 := fun rr lo hi w h => Bin.rleft rr lo hi (rd6 l) w h (rd_len l _ (by omega))
  have j3 := fun w => right ⟨(rdN l).toArray⟩ (wholeI (rd1 l).num) (wholeI (rd3 l).num) (rd2 l).nat (rd4 l).nat (rd5 l).nat w
  obtain ⟨N, hN⟩ : ∃ N, N = rdN l := ⟨_, rfl⟩
  obtain ⟨V, hV⟩ : ∃ V, V = wholeI (rd1 l).num := ⟨_, rfl⟩
  obtain ⟨K, hK⟩ : ∃ K, K = (rd2 l).nat := ⟨_, rfl⟩
  obtain ⟨C, hC⟩ : ∃ C, C = wholeI (rd3 l).num := ⟨_, rfl⟩
  obtain ⟨R, hR⟩ : ∃ R, R = (rd4 l).nat := ⟨_, rfl⟩
  obtain ⟨S, hS⟩ : ∃ S, S = (rd5 l).nat := ⟨_, rfl⟩
  rw [← hN, ← hV, ← hK, ← hC, ← hR, ← hS] at j0 j3
  obtain ⟨S6, hS6⟩ : ∃ S6, S6 = rd6 l := ⟨_, rfl⟩
  have e6 : S6.e = 0 := by rw [hS6]; omega
  have l6 : S6.l.length = 0 := by rw [hS6]; omega
  have h5 : rightB (⟨N.toArray⟩ : ByteArray).size V K C = false := by rw [hN, hV, hK, hC]; exact h4
  rw [h5] at j3
  rw [← hS6] at j0 j1 j2
  rw [e6] at j1
  rw [l6] at j2
  have H := hid (And.intro j0 (And.intro j1 (And.intro j2 j3)))
  clear j0 j1 j2 j3 hS6 e6 l6 h2 h3 h4 h5
  clear hN hV hK hC hR hS
  obtain ⟨a, cap, rfl, g1, g2, g3⟩ := hv.shape
  clear g3
  have k0 : Kept None w (w.alloc (.cells #[.string ⟨#[]⟩, .int .i64 0, .int .u64 0, .int .i64 0, .int .u64 0, .int .u64 0] 26)) := (Kept.refl _ _).alloc _
  have v0 := Blk.new w #[.string ⟨#[]⟩, .int .i64 0, .int .u64 0, .int .i64 0, .int .u64 0, .int .u64 0] 26
  have hv0 := hv.kept ((Kept.refl None w).alloc (.cells #[.string ⟨#[]⟩, .int .i64 0, .int .u64 0, .int .i64 0, .int .u64 0, .int .u64 0] 26)) (fun _ _ _ h => h)
  clear hv
  go_enter Try.func24, Try.ntmps24
  go_wp2_with fail
  refine (Bin.new _ lo hi l _ hv0 (by omega)).mono ?_
  rintro e w1 ⟨rr, rfl, k1, hsz, r1⟩
  have hsz' : w.heap.size < rr := by simp at hsz; omega
  have k01 := k0.trans k1
  have v1 := v0.kept k1 (fun h => h)
  clear hv0 k0 k1 v0 hsz
  go_wp2_with fail
  refine (H.out.1 _ _ _ _ r1 (Nat.le_refl _)).mono ?_
  rintro e w2 ⟨rfl, k2, r2⟩
  have k02 := k01.then k2 (fun i hi (h : i = rr) => by omega)
  have v2 := v1.kept k2 (fun (h : w.heap.size = rr) => by omega)
  clear k01 k2 v1 r1
  have r3 := r2.kept ((Kept.refl None w2).alloc (.cells #[.string ⟨N.toArray⟩, .int .i64 V, .int .u64 (K : Int), .int .i64 C, .int .u64 (R : Int), .int .u64 (S : Int)] 26)) (fun _ _ _ h => h) (fun h => h)
  have v3 := v2.alloc (.cells #[.string ⟨N.toArray⟩, .int .i64 V, .int .u64 (K : Int), .int .i64 C, .int .u64 (R : Int), .int .u64 (S : Int)] 26)
  have u3 := Blk.new w2 #[.string ⟨N.toArray⟩, .int .i64 V, .int .u64 (K : Int), .int .i64 C, .int .u64 (R : Int), .int .u64 (S : Int)] 26
  have k03 := k02.alloc (.cells #[.string ⟨N.toArray⟩, .int .i64 V, .int .u64 (K : Int), .int .i64 C, .int .u64 (R : Int), .int .u64 (S : Int)] 26)
  clear k02 v2 r2
  go_wp2_with (first | (refine wpList_load_blk rfl _ _ rfl rfl u3 aUpd ?_) | fail)
  refine (H.out.2.1 _ _ _ _ r3).mono ?_
  rintro e w4 ⟨rfl, rfl⟩
  go_wp2_with fail
  refine (H.out.2.2.1 _ _ _ _ r3).mono ?_
  rintro e w4 ⟨rfl, rfl⟩
  clear r3
  go_wp2_with (first | (refine wpList_load_blk rfl _ _ rfl rfl u3 aUpd ?_) | fail)
  refine (H.out.2.2.2 _).mono ?_
  rintro e w5 ⟨rfl, k5⟩
  have k05 := k03.trans k5
  have v5 := v3.kept k5 (fun h => h)
  have u5 := u3.kept k5 (fun h => h)
  clear k03 v3 u3 k5
  clear H
  go_wp2_with (first | (refine wpList_load_blk rfl _ _ rfl rfl u5 aUpd ?_) | (refine wpList_store_blk rfl _ _ _ rfl rfl rfl v5 aUpd rfl zero_all ?_; intro w7 hR7 k7) | fail)
  exact bodyPost_ret (v := .tuple #[Req.none.V, .int .i64 23]) (results_blk2 rfl _ rfl rfl hR7 aUpd) rfl ⟨rfl, k05.then k7 (fun i hi (h : i = w.heap.size) => by omega)⟩

set_option maxRecDepth 100000 in
set_option maxHeartbeats 8000000 in
theorem read_ok (v : Value) (lo hi : Nat) (l : List UInt8) (w : World) (hv : Bs w lo hi v l) (h : ¬ 512 < l.length) (h2 : ¬ (rd6 l).e ≠ 0) (h3 : ¬ 0 < (rd6 l).l.length) (h4 : (reqOf wholeI l).right = true) : Calls Try.prog 24 #[v] w fun e w' => e = .returned (.tuple #[(readQ l).V, .int .i64 (readE l)]) ∧ Kept None w w' := by
  have eQ : (readQ l).V = updV ⟨(rdN l).toArray⟩ (wholeI (rd1 l).num) (rd2 l).nat (wholeI (rd3 l).num) (rd4 l).nat (rd5 l).nat := by unfold readQ; rw [readE_ok h h2 h3 h4, if_pos rfl]; rfl
  rw [eQ, readE_ok h h2 h3 h4]
  clear eQ
  have j0 : ∀ rr lo hi w, Bin.Rd w lo hi rr ⟨l, 0⟩ → hi ≤ rr → Calls Try.prog 42 #[.pointer (some ⟨rr, 0, none⟩)] w fun e w' => e = .returned (updV ⟨(rdN l).toArray⟩ (wholeI (rd1 l).num) (rd2 l).nat (wholeI (rd3 l).num) (rd4 l).nat (rd5 l).nat) ∧ Kept (Just rr) w w' ∧ Bin.Rd w' lo hi rr (rd6 l) := fun rr lo hi w hr hlo => fields rr lo hi l w hr hlo (by omega)
  have j1 := fun rr lo hi w h => Bin.rerr rr lo hi (rd6 l) w h
  have j2 := fun rr lo hi w h => Bin.rleft rr lo hi (rd6 l) w h (rd_len l _ (by omega))
  have j3 := fun w => right ⟨(rdN l).toArray⟩ (wholeI (rd1 l).num) (wholeI (rd3 l).num) (rd2 l).nat (rd4 l).nat (rd5 l).nat w
  obtain ⟨N, hN⟩ : ∃ N, N = rdN l := ⟨_, rfl⟩
  obtain ⟨V, hV⟩ : ∃ V, V = wholeI (rd1 l).num := ⟨_, rfl⟩
  obtain ⟨K, hK⟩ : ∃ K, K = (rd2 l).nat := ⟨_, rfl⟩
  obtain ⟨C, hC⟩ : ∃ C, C = wholeI (rd3 l).num := ⟨_, rfl⟩
  obtain ⟨R, hR⟩ : ∃ R, R = (rd4 l).nat := ⟨_, rfl⟩
  obtain ⟨S, hS⟩ : ∃ S, S = (rd5 l).nat := ⟨_, rfl⟩
  rw [← hN, ← hV, ← hK, ← hC, ← hR, ← hS] at j0 j3 ⊢
  obtain ⟨S6, hS6⟩ : ∃ S6, S6 = rd6 l := ⟨_, rfl⟩
  have e6 : S6.e = 0 := by rw [hS6]; omega
  have l6 : S6.l.length = 0 := by rw [hS6]; omega
  have h5 : rightB (⟨N.toArray⟩ : ByteArray).size V K C = true := by rw [hN, hV, hK, hC]; exact h4
  rw [h5] at j3
  rw [← hS6] at j0 j1 j2
  rw [e6] at j1
  rw [l6] at j2
  have H := hid (And.intro j0 (And.intro j1 (And.intro j2 j3)))
  clear j0 j1 j2 j3 hS6 e6 l6 h2 h3 h4 h5
  clear hN hV hK hC hR hS
  obtain ⟨a, cap, rfl, g1, g2, g3⟩ := hv.shape
  clear g3
  have k0 : Kept None w (w.alloc (.cells #[.string ⟨#[]⟩, .int .i64 0, .int .u64 0, .int .i64 0, .int .u64 0, .int .u64 0] 26)) := (Kept.refl _ _).alloc _
  have v0 := Blk.new w #[.string ⟨#[]⟩, .int .i64 0, .int .u64 0, .int .i64 0, .int .u64 0, .int .u64 0] 26
  have hv0 := hv.kept ((Kept.refl None w).alloc (.cells #[.string ⟨#[]⟩, .int .i64 0, .int .u64 0, .int .i64 0, .int .u64 0, .int .u64 0] 26)) (fun _ _ _ h => h)
  clear hv
  go_enter Try.func24, Try.ntmps24
  go_wp2_with fail
  refine (Bin.new _ lo hi l _ hv0 (by omega)).mono ?_
  rintro e w1 ⟨rr, rfl, k1, hsz, r1⟩
  have hsz' : w.heap.size < rr := by simp at hsz; omega
  have k01 := k0.trans k1
  have v1 := v0.kept k1 (fun h => h)
  clear hv0 k0 k1 v0 hsz
  go_wp2_with fail
  refine (H.out.1 _ _ _ _ r1 (Nat.le_refl _)).mono ?_
  rintro e w2 ⟨rfl, k2, r2⟩
  have k02 := k01.then k2 (fun i hi (h : i = rr) => by omega)
  have v2 := v1.kept k2 (fun (h : w.heap.size = rr) => by omega)
  clear k01 k2 v1 r1
  have r3 := r2.kept ((Kept.refl None w2).alloc (.cells #[.string ⟨N.toArray⟩, .int .i64 V, .int .u64 (K : Int), .int .i64 C, .int .u64 (R : Int), .int .u64 (S : Int)] 26)) (fun _ _ _ h => h) (fun h => h)
  have v3 := v2.alloc (.cells #[.string ⟨N.toArray⟩, .int .i64 V, .int .u64 (K : Int), .int .i64 C, .int .u64 (R : Int), .int .u64 (S : Int)] 26)
  have u3 := Blk.new w2 #[.string ⟨N.toArray⟩, .int .i64 V, .int .u64 (K : Int), .int .i64 C, .int .u64 (R : Int), .int .u64 (S : Int)] 26
  have k03 := k02.alloc (.cells #[.string ⟨N.toArray⟩, .int .i64 V, .int .u64 (K : Int), .int .i64 C, .int .u64 (R : Int), .int .u64 (S : Int)] 26)
  clear k02 v2 r2
  go_wp2_with (first | (refine wpList_load_blk rfl _ _ rfl rfl u3 aUpd ?_) | fail)
  refine (H.out.2.1 _ _ _ _ r3).mono ?_
  rintro e w4 ⟨rfl, rfl⟩
  go_wp2_with fail
  refine (H.out.2.2.1 _ _ _ _ r3).mono ?_
  rintro e w4 ⟨rfl, rfl⟩
  clear r3
  go_wp2_with (first | (refine wpList_load_blk rfl _ _ rfl rfl u3 aUpd ?_) | fail)
  refine (H.out.2.2.2 _).mono ?_
  rintro e w5 ⟨rfl, k5⟩
  have k05 := k03.trans k5
  have v5 := v3.kept k5 (fun h => h)
  have u5 := u3.kept k5 (fun h => h)
  clear k03 v3 u3 k5
  clear H
  go_wp2_with (first | (refine wpList_load_blk rfl _ _ rfl rfl u5 aUpd ?_) | (refine wpList_store_blk rfl _ _ _ rfl rfl rfl v5 aUpd rfl (upd_all _ _ _ _ _ _) ?_; intro w7 hR7 k7) | fail)
  exact bodyPost_ret (v := .tuple #[updV ⟨N.toArray⟩ V K C R S, .int .i64 0]) (results_blk2 rfl _ rfl rfl hR7 aUpd) rfl ⟨rfl, k05.then k7 (fun i hi (h : i = w.heap.size) => by omega)⟩

/-- update.Read. -/
theorem read (v : Value) (lo hi : Nat) (l : List UInt8) (w : World) (hv : Bs w lo hi v l) : Calls Try.prog 24 #[v] w fun e w' => e = .returned (.tuple #[(readQ l).V, .int .i64 (readE l)]) ∧ Kept None w w' := by
  by_cases h : 512 < l.length
  · exact read_long v lo hi l w hv h
  by_cases h2 : (rd6 l).e ≠ 0
  · exact read_err v lo hi l w hv h h2
  by_cases h3 : 0 < (rd6 l).l.length
  · exact read_more v lo hi l w hv h h2 h3
  cases h4 : (reqOf wholeI l).right with
  | false => exact read_form v lo hi l w hv h h2 h3 h4
  | true => exact read_ok v lo hi l w hv h h2 h3 h4
end Up
end Go.Proofs.Ytbckjkfdkgomiaa
