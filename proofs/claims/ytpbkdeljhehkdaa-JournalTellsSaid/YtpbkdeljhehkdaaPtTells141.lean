/- Rows.JournalTellsSaid: which records may be, and their bytes, are the document's, they come back, and so is a journal laid anew, whatever the record, the numbers and what waits. No condition. -/
import Derived.Test.YtpbkdeljhehkdaaPk2
import Derived.Great.FillDense
import Derived.Test.YtpbkdeljhehkdaaPk5
import Derived.Deep.LoopGhost
import Derived.Test.YtpbkdeljhehkdaaPk4
import Derived.Test.YtpbkdeljhehkdaaPk6
import Derived.Deep.CutRange
import Derived.Test.YtpbkdeljhehkdaaRows
import Derived.Test.YtpbkdeljhehkdaaPk7
namespace Go.Pm
open Go Go.RowKit
/-- A record of numbers. -/
def someR (k a : Nat) (q : Int) (u : Req) : Rec := if k % 3 = 0 then ⟨1, q, (a : Int), ((a % 34 : Nat) : Int), Req.none, 0, 0⟩ else if k % 3 = 1 then ⟨2, q, 0, 0, u, (a : Int), 0⟩ else ⟨3, q, 0, 0, Req.none, 0, (a : Int)⟩
theorem some_nums {k a c K A : Nat} (_hk : k < 256) (ha : a < 256) (hc : c = k % 3) (hK : K = c + 1) (hA : A = a % 34) :
    (k : Int) % 3 = (c : Int) ∧ (c : Int) + 1 = (K : Int) ∧ (a : Int) % 34 = (A : Int) ∧ wrap64 (c : Int) = (c : Int) ∧ wrap64 (K : Int) = (K : Int) ∧ wrap64 (a : Int) = (a : Int) ∧ wrap64 (A : Int) = (A : Int) := by
  exact ⟨by omega, by omega, by omega, by unfold wrap64; omega, by unfold wrap64; omega, by unfold wrap64; omega, by unfold wrap64; omega⟩
end Go.Pm
namespace Go.Proofs.Ytpbkdeljhehkdaa
open Go.RowKit Go.Pm
namespace K14
set_option maxRecDepth 100000 in
set_option maxHeartbeats 4000000 in
theorem some (k a : Nat) (seq q : Int) (u : Req) (w : World) (hk : k < 256) (ha : a < 256) (hq : bits .and .i64 seq 65535 = q) :
    Calls Try.prog 7 #[.int .u8 (k : Int), .int .u8 (a : Int), .int .i64 seq, updV u.n u.v u.k u.c u.r u.s] w fun e w' => e = .returned (someR k a q u).V ∧ Kept None w w' := by
  obtain ⟨n, v, kk, cl, rr, ss⟩ := u
  obtain ⟨c, hc⟩ : ∃ c, c = k % 3 := ⟨_, rfl⟩
  obtain ⟨K, hK⟩ : ∃ K, K = c + 1 := ⟨_, rfl⟩
  obtain ⟨A, hA⟩ : ∃ A, A = a % 34 := ⟨_, rfl⟩
  have hc3 : c = 0 ∨ c = 1 ∨ c = 2 := by omega
  obtain ⟨r1, r2, r3, r4, r5, r6, r7⟩ := some_nums hk ha hc hK hA
  have hS : someR k a q ⟨n, v, kk, cl, rr, ss⟩ = if c = 0 then ⟨1, q, (a : Int), (A : Int), Req.none, 0, 0⟩ else if c = 1 then ⟨2, q, 0, 0, ⟨n, v, kk, cl, rr, ss⟩, (a : Int), 0⟩ else ⟨3, q, 0, 0, Req.none, 0, (a : Int)⟩ := by unfold someR; rw [hc, hA]
  rw [hS]
  have HK := hid hK
  clear hS hc hA hk ha hK
  rcases hc3 with rfl | rfl | rfl
  · obtain rfl : K = 1 := HK.out
    go_enter Try.func7, Try.ntmps7
    go_wp2
    exact bodyPost_ret (v := .agg #[.int .i64 1, .int .i64 q, .int .i64 (a : Int), .int .i64 (A : Int), .string ⟨#[]⟩, .int .i64 0, .int .u64 0, .int .i64 0, .int .u64 0, .int .u64 0, .int .i64 0, .int .i64 0]) (results_blk rfl _ rfl ((Blk.new2 w (.cells #[.string n, .int .i64 v, .int .u64 (kk : Int), .int .i64 cl, .int .u64 (rr : Int), .int .u64 (ss : Int)] 26) #[.int .i64 1, .int .i64 q, .int .i64 (a : Int), .int .i64 (A : Int), .string ⟨#[]⟩, .int .i64 0, .int .u64 0, .int .i64 0, .int .u64 0, .int .u64 0, .int .i64 0, .int .i64 0] 28).alloc _) aRec) rfl ⟨rfl, (((Kept.refl _ _).alloc _).alloc _).alloc _⟩
  · obtain rfl : K = 2 := HK.out
    go_enter Try.func7, Try.ntmps7
    go_wp2
    exact bodyPost_ret (v := .agg #[.int .i64 2, .int .i64 q, .int .i64 0, .int .i64 0, .string n, .int .i64 v, .int .u64 (kk : Int), .int .i64 cl, .int .u64 (rr : Int), .int .u64 (ss : Int), .int .i64 (a : Int), .int .i64 0]) (results_blk rfl _ rfl ((Blk.new2 w (.cells #[.string n, .int .i64 v, .int .u64 (kk : Int), .int .i64 cl, .int .u64 (rr : Int), .int .u64 (ss : Int)] 26) #[.int .i64 2, .int .i64 q, .int .i64 0, .int .i64 0, .string n, .int .i64 v, .int .u64 (kk : Int), .int .i64 cl, .int .u64 (rr : Int), .int .u64 (ss : Int), .int .i64 (a : Int), .int .i64 0] 28).alloc _) aRec) rfl ⟨rfl, (((Kept.refl _ _).alloc _).alloc _).alloc _⟩
  · obtain rfl : K = 3 := HK.out
    go_enter Try.func7, Try.ntmps7
    go_wp2
    exact bodyPost_ret (v := .agg #[.int .i64 3, .int .i64 q, .int .i64 0, .int .i64 0, .string ⟨#[]⟩, .int .i64 0, .int .u64 0, .int .i64 0, .int .u64 0, .int .u64 0, .int .i64 0, .int .i64 (a : Int)]) (results_blk rfl _ rfl ((Blk.new2 w (.cells #[.string n, .int .i64 v, .int .u64 (kk : Int), .int .i64 cl, .int .u64 (rr : Int), .int .u64 (ss : Int)] 26) #[.int .i64 3, .int .i64 q, .int .i64 0, .int .i64 0, .string ⟨#[]⟩, .int .i64 0, .int .u64 0, .int .i64 0, .int .u64 0, .int .u64 0, .int .i64 0, .int .i64 (a : Int)] 28).alloc _) aRec) rfl ⟨rfl, (((Kept.refl _ _).alloc _).alloc _).alloc _⟩
end K14
end Go.Proofs.Ytpbkdeljhehkdaa
namespace Go.Pm
open Go Go.RowKit
/-- Four records, one behind another, each within its bounds. -/
def Four14 (W : World) (g : Nat) : Prop := ∀ j, j < 4 → ∃ q : Rec, q.Fits ∧ W.rangeAt g (j * 12) q.C.toList
theorem range_kept14 {S : Nat → Prop} {w w' : World} {g o : Nat} {l : List Value} (h : w.rangeAt g o l) (hk : Kept S w w') (hs : ¬ S g) : w'.rangeAt g o l := fun j v hj => by
  have h1 := h j v hj
  rw [hk.cell (p := ⟨g, o + j, none⟩) (block_lt_of_cell h1) hs]
  exact h1
theorem Four14.kept {W W' : World} {g : Nat} (h : Four14 W g) (hk : Kept None W W') : Four14 W' g := fun j hj => by
  obtain ⟨q, h1, h2⟩ := h j hj
  exact ⟨q, h1, range_kept14 h2 hk (fun h => h)⟩
theorem range_of {w : World} {g k : Nat} {t : TypeId} {L M R X : Array Value} (hb : Blk w g X t) (hX : X = L ++ (M ++ R)) (hL : L.size = k) : w.rangeAt g k M.toList := fun j v hv => by
  have h := hb.cell (k + j)
  rw [h, hX, ← hL]
  have hj : j < M.size := by
    have := (List.getElem?_eq_some_iff.1 hv).1
    simpa using this
  rw [Array.getElem?_append_right (by omega), Nat.add_sub_cancel_left, Array.getElem?_append_left hj, ← Array.getElem?_toList]
  exact hv
theorem Four14.new {w : World} {g : Nat} {t : TypeId} {p q r s : Rec} (hp : p.Fits) (hq : q.Fits) (hr : r.Fits) (hs : s.Fits) (hb : Blk w g (p.C ++ (q.C ++ (r.C ++ s.C))) t) : Four14 w g := fun j hj => by
  have hc : j = 0 ∨ j = 1 ∨ j = 2 ∨ j = 3 := by omega
  rcases hc with rfl | rfl | rfl | rfl
  · exact ⟨p, hp, range_of (L := #[]) (R := q.C ++ (r.C ++ s.C)) hb (by simp) rfl⟩
  · exact ⟨q, hq, range_of (L := p.C) (R := r.C ++ s.C) hb rfl rfl⟩
  · exact ⟨r, hr, range_of (L := p.C ++ q.C) (R := s.C) hb (by simp) (by simp [Rec.C_size])⟩
  · exact ⟨s, hs, range_of (L := p.C ++ (q.C ++ r.C)) (R := #[]) hb (by simp) (by simp [Rec.C_size])⟩
theorem fill_four (k : Nat) (hk : 0 < k) (z A B C D : Array Value) (hz : z.size = 4 * k) (hA : A.size = k) (hB : B.size = k) (hC : C.size = k) (hD : D.size = k) : Instr.fill (fun i => some (i * k, k)) z [(0, .agg A), (1, .agg B), (2, .agg C), (3, .agg D)] = some (A ++ (B ++ (C ++ D))) := by
  have h := Go.Great.fill_whole (s := k) hk [.agg A, .agg B, .agg C, .agg D] z (by
    intro v hv
    simp only [List.mem_cons, List.not_mem_nil, or_false] at hv
    rcases hv with rfl | rfl | rfl | rfl
    · exact hA
    · exact hB
    · exact hC
    · exact hD) (by simp [hz])
  have e : (([Value.agg A, Value.agg B, Value.agg C, Value.agg D].zipIdx 0).map fun x => (x.2, x.1)) = [(0, Value.agg A), (1, Value.agg B), (2, Value.agg C), (3, Value.agg D)] := rfl
  rw [e] at h
  rw [h]
  congr 1
  apply Array.ext'
  simp [Value.cells]
theorem exec_four {P : Program} {o : Oper} {ev : Operand → Value} {w : World} (t : TypeId) (x y u v : Operand) (ho : o.op = .buildSlice t 4 #[(0, x), (1, y), (2, u), (3, v)])
    {e : TypeId} {z : Value} {k bytes : Nat} (hT : RowTyK P t e z k bytes) (hk : k ≤ 1000) {A B C D : Array Value} (hx : ev x = .agg A) (hy : ev y = .agg B) (hu : ev u = .agg C) (hv : ev v = .agg D) (hA : A.size = k) (hB : B.size = k) (hC : C.size = k) (hD : D.size = k) :
    (execOp ev o).run P w = .ok (.value (.slice (some ⟨w.heap.size, 0, none⟩) 4 4)) (w.alloc (.cells (A ++ (B ++ (C ++ D))) e)) := by
  obtain ⟨i, hi, hz, hs, hb⟩ := hT.info
  have hp := hT.pos
  have hr := run_buildSlice (P := P) w t e 4 #[(0, .agg A), (1, .agg B), (2, .agg C), (3, .agg D)] (A ++ (B ++ (C ++ D))) i z hT.sl hi hz (by omega) (by omega) (by rw [hs]; exact fill_four k hp _ A B C D (by simp) hA hB hC hD)
  unfold execOp
  simp only [ho, Sem.run_bind]
  rw [show (#[(0, x), (1, y), (2, u), (3, v)] : Array (Nat × Operand)).map (fun (i, x) => (i, ev x)) = #[(0, .agg A), (1, .agg B), (2, .agg C), (3, .agg D)] by simp [hx, hy, hu, hv]]
  rw [hr]
  rfl
/-- Requests of which one has another version. -/
def setVer : List Pn → Nat → Int → List Pn
  | [], _, _ => []
  | x :: l, 0, z => ⟨⟨x.u.n, z, x.u.k, x.u.c, x.u.r, x.u.s⟩, x.tick, x.seq, x.sync⟩ :: l
  | x :: l, i + 1, z => x :: setVer l i z
theorem setVer_len (z : Int) : ∀ (l : List Pn) (i : Nat), (setVer l i z).length = l.length
  | [], _ => rfl
  | _ :: _, 0 => rfl
  | x :: l, i + 1 => by rw [setVer, List.length_cons, List.length_cons, setVer_len z l i]
theorem setVer_cells (z : Int) : ∀ (l : List Pn) (i : Nat), i < l.length → (pensC (setVer l i z)).flatten = (pensC l).flatten.set (i * 9 + 1) (.int .i64 z)
  | [], _, h => absurd h (Nat.not_lt_zero _)
  | _ :: _, 0, _ => rfl
  | x :: l, i + 1, h => by
    have e : ∀ y m, (pensC (y :: m)).flatten = penC y ++ (pensC m).flatten := fun _ _ => rfl
    rw [setVer, e, e, List.set_append_right _ _ (by show 9 ≤ _; omega), setVer_cells z l i (by simpa using h)]
    congr 2
    show i * 9 + 1 = (i + 1) * 9 + 1 - 9
    omega
theorem setVer_fits {z : Int} (hz : inI z) : ∀ (l : List Pn) (i : Nat), (∀ x ∈ l, x.u.Fits ∧ inI x.tick) → ∀ x ∈ setVer l i z, x.u.Fits ∧ inI x.tick
  | [], _, _, _, hx => by cases hx
  | y :: l, 0, h, x, hx => by
    have h0 := h y (List.mem_cons_self ..)
    rcases List.mem_cons.1 hx with rfl | hx
    · exact ⟨⟨hz, h0.1.2⟩, h0.2⟩
    · exact h x (List.mem_cons_of_mem _ hx)
  | y :: l, i + 1, h, x, hx => by
    rcases List.mem_cons.1 hx with rfl | hx
    · exact h _ (List.mem_cons_self ..)
    · exact setVer_fits hz l i (fun a ha => h a (List.mem_cons_of_mem _ ha)) x hx
theorem Po.setVer {e : TypeId} {w : World} {base g n cap : Nat} {l : List Pn} (h : Po 9 e w base (.slice (some ⟨g, 0, none⟩) n cap) (pensC l)) (i : Nat) (hi : i < l.length) (z : Int) :
    Po 9 e (w.setCell ⟨g, i * 9 + 1, none⟩ (.int .i64 z)) base (.slice (some ⟨g, 0, none⟩) n cap) (pensC (setVer l i z)) ∧ Kept (Just g) w (w.setCell ⟨g, i * 9 + 1, none⟩ (.int .i64 z)) := by
  refine ⟨?_, Kept.one w g _ _⟩
  refine ⟨pensC_each _, ?_⟩
  rcases h.2.2 with ⟨hn, _⟩ | ⟨g', cap', cur, hv, hbg, hg, hnc, hcm, hcs, htake⟩
  · cases hn
  · injection hv with e1 e2 e3
    injection e1 with e1
    injection e1 with e1
    subst e1 e3
    have hB : Blk w g cur e := hg
    have h1 := h.2.1
    rw [pensC_len] at h1 hnc htake
    rw [pensC_len, setVer_len]
    refine ⟨?_, .inr ⟨g, cap, _, by rw [e2, pensC_len], hbg, hB.set (i * 9 + 1) _, hnc, hcm, by simpa using hcs, ?_⟩⟩
    · rw [setVer_cells z l i hi, List.length_set]
      exact h1
    · rw [Array.toList_setIfInBounds, List.take_set, htake, setVer_cells z l i hi]
/-- Where an own row of requests lies. -/
theorem Po.pen {e : TypeId} {w : World} {base n cap : Nat} {a : Option Addr} {l : List Pn} (h : Po 9 e w base (.slice a n cap) (pensC l)) (hn : 0 < l.length) : ∃ g, a = some ⟨g, 0, none⟩ ∧ base ≤ g ∧ (∀ I, w.frozen? ⟨g, I, none⟩ = false) ∧ ∀ I, I < l.length → ∃ x, w.cell? ⟨g, I * 9 + 1, none⟩ = some x := by
  have hps := h.ps (Nat.le_refl _)
  obtain ⟨b, o, rfl, _, hr⟩ := hps.pen hn
  rcases h.2.2 with ⟨hn', _⟩ | ⟨g', cap', cur, hv, hbg, hg, _⟩
  · cases hn'
  · injection hv with e1 e2 e3
    injection e1 with e1
    injection e1 with e1 e4
    subst e1 e4
    have hB : Blk w b cur e := hg
    exact ⟨b, rfl, hbg, fun I => hB.free I, fun I hI => ⟨_, by have := (hr I hI).1 1 _ rfl; rwa [Nat.zero_add] at this⟩⟩
end Go.Pm
namespace Go.Proofs.Ytpbkdeljhehkdaa
open Go.RowKit Go.Pm
namespace K14
set_option maxRecDepth 100000 in
set_option maxHeartbeats 4000000 in
theorem bent0 (kd s g c : Int) (n : ByteArray) (v cl t e : Int) (k rr ss what : Nat) (x : Int) (w : World) (hi : (what : Int) % 8 = 0) :
    Calls Try.prog 10 #[(⟨kd, s, g, c, ⟨n, v, k, cl, rr, ss⟩, t, e⟩ : Rec).V, .int .u8 (what : Int), .int .i64 x] w fun e' w' => e' = .returned (⟨x, s, g, c, ⟨n, v, k, cl, rr, ss⟩, t, e⟩ : Rec).V ∧ Kept None w w' := by
  unfold Rec.V Rec.C
  go_enter Try.func10, Try.ntmps10
  go_wp2
  exact bodyPost_ret (v := .agg #[.int .i64 x, .int .i64 s, .int .i64 g, .int .i64 c, .string n, .int .i64 v, .int .u64 (k : Int), .int .i64 cl, .int .u64 (rr : Int), .int .u64 (ss : Int), .int .i64 t, .int .i64 e]) (results_blk rfl _ rfl (Blk.new2 w _ _ _) aRec) rfl ⟨rfl, ((Kept.refl _ _).alloc _).alloc _⟩
set_option maxRecDepth 100000 in
set_option maxHeartbeats 4000000 in
theorem bent1 (kd s g c : Int) (n : ByteArray) (v cl t e : Int) (k rr ss what : Nat) (x : Int) (w : World) (hi : (what : Int) % 8 = 1) :
    Calls Try.prog 10 #[(⟨kd, s, g, c, ⟨n, v, k, cl, rr, ss⟩, t, e⟩ : Rec).V, .int .u8 (what : Int), .int .i64 x] w fun e' w' => e' = .returned (⟨kd, x, g, c, ⟨n, v, k, cl, rr, ss⟩, t, e⟩ : Rec).V ∧ Kept None w w' := by
  unfold Rec.V Rec.C
  go_enter Try.func10, Try.ntmps10
  go_wp2
  exact bodyPost_ret (v := .agg #[.int .i64 kd, .int .i64 x, .int .i64 g, .int .i64 c, .string n, .int .i64 v, .int .u64 (k : Int), .int .i64 cl, .int .u64 (rr : Int), .int .u64 (ss : Int), .int .i64 t, .int .i64 e]) (results_blk rfl _ rfl (Blk.new2 w _ _ _) aRec) rfl ⟨rfl, ((Kept.refl _ _).alloc _).alloc _⟩
set_option maxRecDepth 100000 in
set_option maxHeartbeats 4000000 in
theorem bent2 (kd s g c : Int) (n : ByteArray) (v cl t e : Int) (k rr ss what : Nat) (x : Int) (w : World) (hi : (what : Int) % 8 = 2) :
    Calls Try.prog 10 #[(⟨kd, s, g, c, ⟨n, v, k, cl, rr, ss⟩, t, e⟩ : Rec).V, .int .u8 (what : Int), .int .i64 x] w fun e' w' => e' = .returned (⟨kd, s, x, c, ⟨n, v, k, cl, rr, ss⟩, t, e⟩ : Rec).V ∧ Kept None w w' := by
  unfold Rec.V Rec.C
  go_enter Try.func10, Try.ntmps10
  go_wp2
  exact bodyPost_ret (v := .agg #[.int .i64 kd, .int .i64 s, .int .i64 x, .int .i64 c, .string n, .int .i64 v, .int .u64 (k : Int), .int .i64 cl, .int .u64 (rr : Int), .int .u64 (ss : Int), .int .i64 t, .int .i64 e]) (results_blk rfl _ rfl (Blk.new2 w _ _ _) aRec) rfl ⟨rfl, ((Kept.refl _ _).alloc _).alloc _⟩
set_option maxRecDepth 100000 in
set_option maxHeartbeats 4000000 in
theorem bent3 (kd s g c : Int) (n : ByteArray) (v cl t e : Int) (k rr ss what : Nat) (x : Int) (w : World) (hi : (what : Int) % 8 = 3) :
    Calls Try.prog 10 #[(⟨kd, s, g, c, ⟨n, v, k, cl, rr, ss⟩, t, e⟩ : Rec).V, .int .u8 (what : Int), .int .i64 x] w fun e' w' => e' = .returned (⟨kd, s, g, x, ⟨n, v, k, cl, rr, ss⟩, t, e⟩ : Rec).V ∧ Kept None w w' := by
  unfold Rec.V Rec.C
  go_enter Try.func10, Try.ntmps10
  go_wp2
  exact bodyPost_ret (v := .agg #[.int .i64 kd, .int .i64 s, .int .i64 g, .int .i64 x, .string n, .int .i64 v, .int .u64 (k : Int), .int .i64 cl, .int .u64 (rr : Int), .int .u64 (ss : Int), .int .i64 t, .int .i64 e]) (results_blk rfl _ rfl (Blk.new2 w _ _ _) aRec) rfl ⟨rfl, ((Kept.refl _ _).alloc _).alloc _⟩
set_option maxRecDepth 100000 in
set_option maxHeartbeats 4000000 in
theorem bent4 (kd s g c : Int) (n : ByteArray) (v cl t e : Int) (k rr ss what : Nat) (x : Int) (w : World) (hi : (what : Int) % 8 = 4) :
    Calls Try.prog 10 #[(⟨kd, s, g, c, ⟨n, v, k, cl, rr, ss⟩, t, e⟩ : Rec).V, .int .u8 (what : Int), .int .i64 x] w fun e' w' => e' = .returned (⟨kd, s, g, c, ⟨n, v, k, cl, rr, ss⟩, x, e⟩ : Rec).V ∧ Kept None w w' := by
  unfold Rec.V Rec.C
  go_enter Try.func10, Try.ntmps10
  go_wp2
  exact bodyPost_ret (v := .agg #[.int .i64 kd, .int .i64 s, .int .i64 g, .int .i64 c, .string n, .int .i64 v, .int .u64 (k : Int), .int .i64 cl, .int .u64 (rr : Int), .int .u64 (ss : Int), .int .i64 x, .int .i64 e]) (results_blk rfl _ rfl (Blk.new2 w _ _ _) aRec) rfl ⟨rfl, ((Kept.refl _ _).alloc _).alloc _⟩
set_option maxRecDepth 100000 in
set_option maxHeartbeats 4000000 in
theorem bent5 (kd s g c : Int) (n : ByteArray) (v cl t e : Int) (k rr ss what : Nat) (x : Int) (w : World) (hi : (what : Int) % 8 = 5) :
    Calls Try.prog 10 #[(⟨kd, s, g, c, ⟨n, v, k, cl, rr, ss⟩, t, e⟩ : Rec).V, .int .u8 (what : Int), .int .i64 x] w fun e' w' => e' = .returned (⟨kd, s, g, c, ⟨n, v, k, cl, rr, ss⟩, t, x⟩ : Rec).V ∧ Kept None w w' := by
  unfold Rec.V Rec.C
  go_enter Try.func10, Try.ntmps10
  go_wp2
  exact bodyPost_ret (v := .agg #[.int .i64 kd, .int .i64 s, .int .i64 g, .int .i64 c, .string n, .int .i64 v, .int .u64 (k : Int), .int .i64 cl, .int .u64 (rr : Int), .int .u64 (ss : Int), .int .i64 t, .int .i64 x]) (results_blk rfl _ rfl (Blk.new2 w _ _ _) aRec) rfl ⟨rfl, ((Kept.refl _ _).alloc _).alloc _⟩
set_option maxRecDepth 100000 in
set_option maxHeartbeats 4000000 in
theorem bent6 (kd s g c : Int) (n : ByteArray) (v cl t e : Int) (k rr ss what : Nat) (x : Int) (w : World) (hi : (what : Int) % 8 = 6) :
    Calls Try.prog 10 #[(⟨kd, s, g, c, ⟨n, v, k, cl, rr, ss⟩, t, e⟩ : Rec).V, .int .u8 (what : Int), .int .i64 x] w fun e' w' => e' = .returned (⟨kd, s, g, c, ⟨n, x, k, cl, rr, ss⟩, t, e⟩ : Rec).V ∧ Kept None w w' := by
  unfold Rec.V Rec.C
  go_enter Try.func10, Try.ntmps10
  go_wp2
  exact bodyPost_ret (v := .agg #[.int .i64 kd, .int .i64 s, .int .i64 g, .int .i64 c, .string n, .int .i64 x, .int .u64 (k : Int), .int .i64 cl, .int .u64 (rr : Int), .int .u64 (ss : Int), .int .i64 t, .int .i64 e]) (results_blk rfl _ rfl (Blk.new2 w _ _ _) aRec) rfl ⟨rfl, ((Kept.refl _ _).alloc _).alloc _⟩
set_option maxRecDepth 100000 in
set_option maxHeartbeats 4000000 in
theorem bent7 (kd s g c : Int) (n : ByteArray) (v cl t e : Int) (k rr ss what : Nat) (x : Int) (w : World) (hi : (what : Int) % 8 = 7) :
    Calls Try.prog 10 #[(⟨kd, s, g, c, ⟨n, v, k, cl, rr, ss⟩, t, e⟩ : Rec).V, .int .u8 (what : Int), .int .i64 x] w fun e' w' => e' = .returned (⟨kd, s, g, c, ⟨⟨#[98]⟩, v, k, cl, rr, ss⟩, t, e⟩ : Rec).V ∧ Kept None w w' := by
  unfold Rec.V Rec.C
  go_enter Try.func10, Try.ntmps10
  go_wp2
  exact bodyPost_ret (v := .agg #[.int .i64 kd, .int .i64 s, .int .i64 g, .int .i64 c, .string ⟨#[98]⟩, .int .i64 v, .int .u64 (k : Int), .int .i64 cl, .int .u64 (rr : Int), .int .u64 (ss : Int), .int .i64 t, .int .i64 e]) (results_blk rfl _ rfl (Blk.new2 w _ _ _) aRec) rfl ⟨rfl, ((Kept.refl _ _).alloc _).alloc _⟩
theorem bent (r : Rec) (what : Nat) (x : Int) (w : World) (hr : r.Fits) (hx : inI x) :
    Calls Try.prog 10 #[r.V, .int .u8 (what : Int), .int .i64 x] w fun e' w' => ∃ q : Rec, q.Fits ∧ e' = .returned q.V ∧ Kept None w w' := by
  obtain ⟨kd, s, g, c, ⟨n, v, k, cl, rr, ss⟩, t, e⟩ := r
  obtain ⟨f0, f1, f2, f3, f4, f5, f6⟩ := hr
  have hc : (what : Int) % 8 = 0 ∨ (what : Int) % 8 = 1 ∨ (what : Int) % 8 = 2 ∨ (what : Int) % 8 = 3 ∨ (what : Int) % 8 = 4 ∨ (what : Int) % 8 = 5 ∨ (what : Int) % 8 = 6 ∨ (what : Int) % 8 = 7 := by omega
  rcases hc with h | h | h | h | h | h | h | h
  · refine (bent0 kd s g c n v cl t e k rr ss what x w h).mono ?_
    rintro e' w' ⟨rfl, hk⟩
    exact ⟨⟨x, s, g, c, ⟨n, v, k, cl, rr, ss⟩, t, e⟩, ⟨hx, f1, f2, f3, f4, f5, f6⟩, rfl, hk⟩
  · refine (bent1 kd s g c n v cl t e k rr ss what x w h).mono ?_
    rintro e' w' ⟨rfl, hk⟩
    exact ⟨⟨kd, x, g, c, ⟨n, v, k, cl, rr, ss⟩, t, e⟩, ⟨f0, hx, f2, f3, f4, f5, f6⟩, rfl, hk⟩
  · refine (bent2 kd s g c n v cl t e k rr ss what x w h).mono ?_
    rintro e' w' ⟨rfl, hk⟩
    exact ⟨⟨kd, s, x, c, ⟨n, v, k, cl, rr, ss⟩, t, e⟩, ⟨f0, f1, hx, f3, f4, f5, f6⟩, rfl, hk⟩
  · refine (bent3 kd s g c n v cl t e k rr ss what x w h).mono ?_
    rintro e' w' ⟨rfl, hk⟩
    exact ⟨⟨kd, s, g, x, ⟨n, v, k, cl, rr, ss⟩, t, e⟩, ⟨f0, f1, f2, hx, f4, f5, f6⟩, rfl, hk⟩
  · refine (bent4 kd s g c n v cl t e k rr ss what x w h).mono ?_
    rintro e' w' ⟨rfl, hk⟩
    exact ⟨⟨kd, s, g, c, ⟨n, v, k, cl, rr, ss⟩, x, e⟩, ⟨f0, f1, f2, f3, f4, hx, f6⟩, rfl, hk⟩
  · refine (bent5 kd s g c n v cl t e k rr ss what x w h).mono ?_
    rintro e' w' ⟨rfl, hk⟩
    exact ⟨⟨kd, s, g, c, ⟨n, v, k, cl, rr, ss⟩, t, x⟩, ⟨f0, f1, f2, f3, f4, f5, hx⟩, rfl, hk⟩
  · refine (bent6 kd s g c n v cl t e k rr ss what x w h).mono ?_
    rintro e' w' ⟨rfl, hk⟩
    exact ⟨⟨kd, s, g, c, ⟨n, x, k, cl, rr, ss⟩, t, e⟩, ⟨f0, f1, f2, f3, ⟨hx, f4.2⟩, f5, f6⟩, rfl, hk⟩
  · refine (bent7 kd s g c n v cl t e k rr ss what x w h).mono ?_
    rintro e' w' ⟨rfl, hk⟩
    exact ⟨⟨kd, s, g, c, ⟨⟨#[98]⟩, v, k, cl, rr, ss⟩, t, e⟩, ⟨f0, f1, f2, f3, f4, f5, f6⟩, rfl, hk⟩
end K14
end Go.Proofs.Ytpbkdeljhehkdaa
namespace Go.Pm
open Go Go.RowKit
/-- What a Put tells: a row and a number. -/
abbrev Fct.putE (k : Nat) (l : List UInt8) (E : Int) (uses : List Nat := []) : Fct := { k := k, uses := uses, pure := fun u => ∃ a c, u = .tuple #[.slice a l.length c, .int .i64 E], fact := fun u W => ∃ a c, u = .tuple #[.slice a l.length c, .int .i64 E] ∧ ∃ lo hi, Bs W lo hi (.slice a l.length c) l }
theorem Steady.putE {l : List Fct} {k : Nat} {us : List Nat} {m : List UInt8} {E : Int} (h : Steady l) : Steady (.putE k m E us :: l) := .cons ⟨_, none, 0, rfl⟩ (fun _ _ _ hk ⟨a, c, h1, lo, hi, h2⟩ => ⟨a, c, h1, lo, hi, h2.kept hk (fun _ _ _ h => h)⟩) h
theorem wrapS {s : Int} {i : Nat} (h0 : 0 ≤ s) (h1 : s ≤ 1152921504606846976) (hi : i ≤ 1000) : IntKind.i64.wrap (s + 1) = s + 1 ∧ IntKind.i64.wrap (s + 1 + (i : Int)) = s + 1 + (i : Int) := by
  rw [IntKind.wrap_i64, IntKind.wrap_i64]
  omega
end Go.Pm
namespace Go.Proofs.Ytpbkdeljhehkdaa
open Go.RowKit Go.Pm
namespace R12
set_option maxRecDepth 100000 in
set_option maxHeartbeats 8000000 in
theorem base (gen s : Int) (v : Value) (lo hi : Nat) (l : List Pn) (w : World) (hv : Ps 9 w lo hi v (pensC l)) (hf : PnFits l) :
    Calls Try.prog 18 #[.int .i64 gen, .int .i64 s, v] w fun en w' => ∃ u, en = .returned u ∧ Kept None w w' ∧ Ob w' w.heap.size u (baseF gen s l) := by
  obtain ⟨av, nv, cv, rfl, hnv⟩ : ∃ a n c, v = .slice a n c ∧ n = l.length := by
    obtain ⟨a, c, h, _⟩ := hv.form
    rw [pensC_len] at h
    exact ⟨a, _, c, h, rfl⟩
  subst hnv
  have HP0 := hid (fun W => rput (recB gen s l.length) W (by show (0 : Nat) < 18446744073709551616 ∧ (0 : Nat) < 18446744073709551616; decide))
  have HV := hid hv
  clear hv
  by_cases hr : rightJ (recB gen s l.length) = true
  · have hb := recB_right hr
    have e0 : putJE (recB gen s l.length) = 0 := by unfold putJE; rw [if_pos hr]
    have hl0 := putJL_len (recB gen s l.length)
    rw [e0] at HP0
    obtain ⟨T0, hT0⟩ : ∃ T0, T0 = putJL (recB gen s l.length) := ⟨_, rfl⟩
    rw [← hT0] at HP0 hl0
    have HB := hid hb
    have HR := hid (And.intro hr hT0)
    have HL0 := hid hl0
    unfold recB Rec.V Rec.C at HP0
    clear hr hb e0 hl0 hT0
    go_enter Try.func18, Try.ntmps18
    go_wp2_with fail
    refine (HP0.out _).mono ?_
    rintro e1 w1 ⟨u1, rfl, k1, b1⟩
    obtain ⟨a1, c1, rfl⟩ := b1.form
    have K1 := hid k1
    have B1 := hid b1
    clear k1 b1 HP0
    go_wp2_with fail
    go_loopg [7, 9] l.length (fun kx s7 s9 wr => ∃ (i : Nat) (a7 : Option Addr) (n7 c7 : Nat), s7 = .slice a7 n7 c7 ∧ s9 = .int .i64 (i : Int) ∧ i ≤ l.length ∧ l.length - i ≤ kx ∧ Hid (allR (recsP s 0 (l.take i)) = true) ∧ Hid (Kept None w wr) ∧ Hid (Ob wr w.heap.size (.slice a7 n7 c7) (T0 ++ joinR (recsP s 0 (l.take i)))))
    case atStart => exact ⟨0, a1, _, c1, rfl, rfl, Nat.zero_le _, Nat.le_refl _, hid rfl, K1, hid (by simpa [recsP, joinR] using B1.out)⟩
    case round =>
    obtain ⟨i, a7, n7, c7, rfl, rfl, hi, hix, HAl, HS, HO⟩ := hrel
    by_cases hlt : i < l.length
    · have hlt' : decide ((i : Int) < (l.length : Int)) = true := by simpa using hlt
      obtain ⟨b, o, rfl, hbs, hcell⟩ := (HV.out.kept HS.out (fun _ _ _ h => h)).pen (by omega)
      obtain ⟨_, h1, h2, _, _⟩ := hcell i hlt
      have hlb : (i : Int) < (l.length : Int) := Int.ofNat_lt.mpr hlt
      obtain ⟨x, hx⟩ : ∃ x, x = l[i] := ⟨_, rfl⟩
      rw [← hx] at h1 h2
      have HC1 := hid (fun W (hW : Kept None wr W) => rangeAt_kept h1 hW)
      have HC2 := hid (fun W (hW : Kept None wr W) => show W.cell? ⟨b, o + i * 9 + 6, none⟩ = some (.int .i64 x.tick) from (hW.cell (p := ⟨b, o + i * 9 + 6, none⟩) hbs (fun h => h)).trans h2)
      have HQ := hid (wrapS (s := s) (i := i) HB.out.1 HB.out.2.1 (by have := HB.out.2.2; omega))
      have hfx := hf x (by rw [hx]; exact List.getElem_mem _)
      have HP := hid (fun W => rput (recP s i x) W hfx)
      obtain ⟨T, hT⟩ : ∃ T, T = putJL (recP s i x) := ⟨_, rfl⟩
      obtain ⟨E, hE⟩ : ∃ E, E = putJE (recP s i x) := ⟨_, rfl⟩
      have hTl := putJL_len (recP s i x)
      rw [← hT] at HP hTl
      rw [← hE] at HP
      have HT := hid (And.intro hT hTl)
      have HX := hid hx
      have HE := hid hE
      clear hcell h1 h2 hx hT hTl hfx hE hbs
      go_wp2_with fail
      have hs : Steady [.putE 15 T E] := Go.Pm.Steady.putE (Go.Pm.Steady.nil)
      refine wp_region_kn wr _ hs (Kept.refl _ _) (by kernel_rfl) (by kernel_rfl) (by kernel_rfl) ?_
      iterate 15 (refine wpPar_pure rfl (by rfl) _ (fun W hW => by
          have ct := HC2.out W hW
          have q1 := HQ.out.1
          have q2 := HQ.out.2
          first | exact exec_load_at rfl rfl (HC1.out W hW) Up.aUpd | (go_simp; exact rfl)) ?_; simp only [Act.put, List.setIfInBounds_toArray, List.set_cons_zero, List.set_cons_succ])
      refine wpKn_adds hs rfl (by rfl) (fun W hW hd => ?_) (fun v15 hv => ?_)
      · unfold Gives
        go_simp
        refine gives_call (HP.out W) ?_
        rintro e w3 ⟨u, rfl, k3, b3⟩
        obtain ⟨a, c, rfl⟩ := b3.form
        exact ⟨_, rfl, k3, ⟨a, c, rfl⟩, a, c, rfl, _, _, b3.bs (Nat.le_refl _)⟩
      obtain ⟨a9, c9, rfl⟩ : ∃ a c, v15 = .tuple #[.slice a T.length c, .int .i64 E] := hv
      simp only [Act.put, List.setIfInBounds_toArray, List.set_cons_zero, List.set_cons_succ]
      iterate 5 (refine wpPar_pure rfl (by rfl) _ (fun W hW => by
          have ct := HC2.out W hW
          have q1 := HQ.out.1
          have q2 := HQ.out.2
          first | exact exec_load_at rfl rfl (HC1.out W hW) Up.aUpd | (go_simp; exact rfl)) ?_; simp only [Act.put, List.setIfInBounds_toArray, List.set_cons_zero, List.set_cons_succ])
      refine wpPar_nil (fun W2 hW2 hGG => ?_)
      obtain ⟨a, c, he, lu, hu', hu⟩ : ∃ a c, Value.tuple #[.slice a9 T.length c9, .int .i64 E] = .tuple #[.slice a T.length c, .int .i64 E] ∧ ∃ lo hi, Bs W2 lo hi (.slice a T.length c) T := hGG 15
      obtain ⟨rfl, rfl⟩ : a9 = a ∧ c9 = c := by simpa using he
      have hW2' : Kept None wr W2 := hW2
      have K2 := hid (HS.out.trans hW2')
      have HU := hid hu.all
      have HO2 := hid (HO.out.kept hW2' (fun _ _ h => h))
      clear hGG he hs hW2 hW2' hu
      by_cases hrx : rightJ (recP s i x) = true
      · have eE : E = 0 := by rw [HE.out]; unfold putJE; rw [if_pos hrx]
        subst eE
        have HRX := hid hrx
        have hb := HO2.out
        have hu := HU.out
        have hln : (T0 ++ joinR (recsP s 0 (l.take i))).length + T.length ≤ 140737488355328 := by
          have h1 := joinR_len (recsP s 0 (l.take i))
          rw [recsP_len, List.length_take] at h1
          have h2 := HL0.out
          have h3 := HT.out.2
          have h4 := HB.out.2.2
          rw [List.length_append]
          omega
        have hsz := K2.out.size
        clear hrx
        go_wp2_with (first | (refine wpList_append_bo rfl _ _ 29 rfl rtBytes rfl rfl hb hu hln hsz ?_; intro a8 n8 c8 w8 hB8 hK8) | fail)
        have HK8 := hid (K2.out.then hK8 (fun q hq h => Nat.lt_irrefl _ (Nat.lt_of_lt_of_le hq (hb.own q h).1)))
        have hB9 : Ob w8 w.heap.size (.slice a8 n8 c8) (T0 ++ joinR (recsP s 0 (l.take (i + 1)))) := by
          rw [recsP_take s l i hlt, joinR_app, ← List.append_assoc, ← HX.out]
          have e : joinR [recP s i x] = T := by rw [HT.out.1]; simp [joinR]
          rw [e]
          exact hB8
        have HB9 := hid hB9
        have HA9 : Hid (allR (recsP s 0 (l.take (i + 1))) = true) := hid (by
          rw [recsP_take s l i hlt, allR_app, HAl.out, ← HX.out]
          simp [allR, HRX.out])
        clear hb hu hln hsz hB8 hK8 hB9
        go_wp2
        go_roundg (l.length - (i + 1))
        case measure => omega
        case rel => exact ⟨i + 1, a8, n8, c8, rfl, by rw [show wrap64 ((i : Int) + 1) = ((i + 1 : Nat) : Int) by have := HB.out.2.2; unfold wrap64; omega], hlt, Nat.le_refl _, HA9, HK8, HB9⟩
      · have eE : E = 23 := by rw [HE.out]; unfold putJE; rw [if_neg hrx]
        subst eE
        have hfin : baseF gen s l = [] := by
          unfold baseF
          rw [allR_take hlt (by rw [← HX.out]; simpa using hrx), Bool.and_false]
          rfl
        have HFin := hid hfin
        clear hrx hfin
        go_wp2
        go_ret
        rw [HFin.out]
        exact ⟨_, rfl, K2.out, Bo.nil _ _ _⟩
    · have hlt' : decide ((i : Int) < (l.length : Int)) = false := by simpa using hlt
      obtain rfl : i = l.length := by omega
      have hfin : baseF gen s l = T0 ++ joinR (recsP s 0 l) := by
        have h := HAl.out
        rw [List.take_length] at h
        unfold baseF
        rw [HR.out.1, h, HR.out.2]
        rfl
      have ho := HO.out
      rw [List.take_length, ← hfin] at ho
      have HO2 := hid ho
      clear hlt hi hix hfin ho HO
      go_wp2
      go_ret
      exact ⟨_, rfl, HS.out, HO2.out⟩
  · have e0 : putJE (recB gen s l.length) = 23 := by unfold putJE; rw [if_neg hr]
    have e1 : baseF gen s l = [] := by
      unfold baseF
      rw [show rightJ (recB gen s l.length) = false by simpa using hr]
      rfl
    rw [e0] at HP0
    rw [e1]
    unfold recB Rec.V Rec.C at HP0
    clear hr e0 e1
    go_enter Try.func18, Try.ntmps18
    go_wp2_with fail
    refine (HP0.out _).mono ?_
    rintro e1 w1 ⟨u1, rfl, k1, b1⟩
    obtain ⟨a1, c1, rfl⟩ := b1.form
    clear b1 HP0
    go_wp2
    go_ret
    exact ⟨_, rfl, k1, Bo.nil _ _ _⟩
end R12
end Go.Proofs.Ytpbkdeljhehkdaa
namespace Go.Pm
open Go Go.RowKit
theorem wrap64_nat' {n : Nat} (h : n < 65536) : wrap64 (n : Int) = (n : Int) := by unfold wrap64; omega
theorem and_in14 (x y : Int) : inI (bits .and .i64 x y) := by
  show -9223372036854775808 ≤ IntKind.i64.wrap _ ∧ IntKind.i64.wrap _ < 9223372036854775808
  rw [IntKind.wrap_i64]
  omega
theorem wrapK (n : Nat) (h : n < 256) : IntKind.i64.wrap (n : Int) = (n : Int) := by rw [IntKind.wrap_i64]; omega
theorem nat_in (n : Nat) (h : n < 256) : inI (n : Int) := ⟨by omega, by omega⟩
theorem someR_fits {k a : Nat} {q : Int} {u : Req} (ha : a < 256) (hq : inI q) (hu : u.Fits) : (someR k a q u).Fits := by
  have h0 : inI 0 := ⟨by decide, by decide⟩
  have h1 : inI 1 := ⟨by decide, by decide⟩
  have h2 : inI 2 := ⟨by decide, by decide⟩
  have h3 : inI 3 := ⟨by decide, by decide⟩
  have ha1 : inI (a : Int) := ⟨by omega, by omega⟩
  have ha2 : inI ((a % 34 : Nat) : Int) := ⟨by omega, by omega⟩
  have hn : Req.none.Fits := ⟨h0, by decide, h0, by decide, by decide⟩
  unfold someR
  split
  · exact ⟨h1, hq, ha1, ha2, hn, h0, h0⟩
  · split
    · exact ⟨h2, hq, h0, h0, hu, ha1, h0⟩
    · exact ⟨h3, hq, h0, h0, hn, h0, ha1⟩
end Go.Pm
namespace Go.Proofs.Ytpbkdeljhehkdaa
open Go.RowKit Go.Pm
namespace K14
open Jr
theorem req_fits (n : ByteArray) (v : Int) (cl how : Nat) (hv : inI v) : (Seat.req n v cl how).Fits := by
  refine ⟨hv, Seat.keyN_lt _ _ _, ?_, Nat.lt_trans (sigR_lt _ _) (by decide), Nat.lt_trans (sigS_lt _ _) (by decide)⟩
  have h1 : inI ((cl % 2 : Nat) : Int) := by
    have := Nat.mod_lt cl (show 0 < 2 by decide)
    exact ⟨by omega, by omega⟩
  have hb : ∀ b : Bool, inI (if b = true then (5 : Int) else ((cl % 2 : Nat) : Int)) := fun b => by
    cases b with
    | false => exact h1
    | true => exact (show inI 5 from ⟨by decide, by decide⟩)
  exact hb _
theorem fits_none : Rec.none.Fits := ⟨⟨by decide, by decide⟩, ⟨by decide, by decide⟩, ⟨by decide, by decide⟩, ⟨by decide, by decide⟩, ⟨⟨by decide, by decide⟩, by decide, ⟨by decide, by decide⟩, by decide, by decide⟩, ⟨by decide, by decide⟩, ⟨by decide, by decide⟩⟩
theorem rtRec14 : RowTyK Try.prog 35 28 (.agg #[.int .i64 0, .int .i64 0, .int .i64 0, .int .i64 0, .string ⟨#[]⟩, .int .i64 0, .int .u64 0, .int .i64 0, .int .u64 0, .int .u64 0, .int .i64 0, .int .i64 0]) 12 104 := rty_of (by kernel_rfl) (by kernel_rfl) (by rfl) (by decide)
set_option maxRecDepth 100000 in
set_option maxHeartbeats 16000000 in
theorem tells (hT : RightC) (hP : PutC) (hR : ReadC) (hB : BaseC) (raw : Rec) (k a what : Nat) (seq v gen : Int) (vl : Value) (lo hi : Nat) (l : List UInt8) (w : World) (hraw : raw.Fits) (hk : k < 256) (ha : a < 256) (hwh : what < 256) (hsq : inI seq) (hvi : inI v) (hgen : inI gen) (hv : Bs w lo hi vl l) :
    Calls Try.prog 3 #[raw.V, .int .u8 (k : Int), .int .u8 (a : Int), .int .i64 seq, .int .i64 v, .int .u8 (what : Int), vl, .int .i64 gen] w fun e w' => e = .returned (.bool true) ∧ Kept None w w' := by
  obtain ⟨av, cv, rfl, _⟩ := hv.shape
  have HK := hid (fun W => known hT hP hR hB W)
  obtain ⟨d0, d1, d2, d3, ⟨dn, dv, dk, dc, dr, ds⟩, dt, de⟩ := raw
  by_cases hl : ¬ 60 < dn.size ∧ ¬ 34 < l.length
  · have xdl : decide ((60 : Int) < (dn.size : Int)) = false := by simp; omega
    have xdl2 : decide (60 < dn.size) = false := by simp; omega
    have xdr : decide ((34 : Int) < (l.length : Int)) = false := by simp; omega
    have xdr2 : decide (34 < l.length) = false := by simp; omega
    obtain ⟨q3, hq3⟩ : ∃ q, q = bits .and .i64 seq 65535 := ⟨_, rfl⟩
    obtain ⟨q4, hq4⟩ : ∃ q, q = bits .and .i64 v 31 := ⟨_, rfl⟩
    have i3 : inI q3 := by rw [hq3]; exact and_in14 _ _
    have i4 : inI q4 := by rw [hq4]; exact and_in14 _ _
    have r3 := hq3.symm
    have r4 := hq4.symm
    obtain ⟨U, hU⟩ : ∃ u, u = Seat.req (Seat.nameS a) 1 a what := ⟨_, rfl⟩
    have hUf : U.Fits := by rw [hU]; exact req_fits _ _ _ _ ⟨by decide, by decide⟩
    have hup := fun W => Seat.update (Seat.nameS a) 1 a what W (Seat.nameS_size a).2 (by decide) (by decide)
    have hname := fun W => Seat.name a W
    obtain ⟨NM, hNM⟩ : ∃ n, n = Seat.nameS a := ⟨_, rfl⟩
    rw [← hU, ← hNM] at hup
    rw [← hNM] at hname
    have hsome := fun W => some k a seq q3 U W hk ha r3
    have hSf := someR_fits (k := k) ha i3 hUf
    obtain ⟨⟨f0, f1, f2, f3, ⟨fn, fv, fk, fc, fr, fs⟩, ft, fe⟩, hS⟩ : ∃ r, r = someR k a q3 U := ⟨_, rfl⟩
    rw [← hS] at hsome hSf
    have HBT := hid (And.intro (fun W => bent (⟨f0, f1, f2, f3, ⟨fn, fv, fk, fc, fr, fs⟩, ft, fe⟩ : Rec) what v W hSf hvi) (fun W => bent (⟨f0, f1, f2, f3, ⟨fn, fv, fk, fc, fr, fs⟩, ft, fe⟩ : Rec) what q4 W hSf i4))
    unfold Rec.V Rec.C at hsome HBT
    have HFT := hid (And.intro hraw hSf)
    have HUP := hid hup
    have HNA := hid hname
    have HSO := hid hsome
    have HL := hid (show l.length ≤ 34 by omega)
    have HV := hid hv.all
    have HN := hid (And.intro hk (And.intro ha hwh))
    have HI := hid (And.intro hsq hgen)
    have HT := hid hT
    have HP := hid hP
    have HR := hid hR
    have HB := hid hB
    clear hl hq3 hq4 i3 i4 hU hUf hup hname hNM hsome hSf hS hraw hk ha hwh hsq hvi hgen hv hT hP hR hB r3
    unfold Rec.V Rec.C
    have bR0 := hid (Blk.new w #[.int .i64 d0, .int .i64 d1, .int .i64 d2, .int .i64 d3, .string dn, .int .i64 dv, .int .u64 (dk : Int), .int .i64 dc, .int .u64 (dr : Int), .int .u64 (ds : Int), .int .i64 dt, .int .i64 de] 28)
    go_enter Try.func3, Try.ntmps3
    go_wp2_with fail
    refine (HK.out _).mono ?_
    rintro e w1 ⟨rfl, k1⟩
    have K1 := hid (show Kept None w w1 from ((Kept.refl _ _).alloc _).trans k1)
    have BR1 := hid (bR0.out.kept k1 (fun h => h))
    have cc : w1.cell? ⟨w.heap.size, 4, none⟩ = Option.some (.string dn) := BR1.out.cell 4
    clear k1 HK bR0
    go_wp2_with (first | go_skip | fail)
    clear cc xdl xdl2 xdr xdr2
    refine (HNA.out w1).mono ?_
    rintro e w2 ⟨rfl, k2⟩
    have K2 := hid (K1.out.trans k2)
    have BR2 := hid (BR1.out.kept k2 (fun h => h))
    clear k2 K1 BR1 HNA
    go_wp2_with fail
    refine (HUP.out w2).mono ?_
    rintro e w3 ⟨rfl, k3⟩
    have K3 := hid (K2.out.trans k3)
    have BR3 := hid (BR2.out.kept k3 (fun h => h))
    clear k3 K2 BR2 HUP
    go_wp2_with fail
    refine (HSO.out w3).mono ?_
    rintro e w4 ⟨rfl, k4⟩
    have BR4 := hid ((BR3.out.kept k4 (fun h => h)).alloc (.cells #[.int .i64 f0, .int .i64 f1, .int .i64 f2, .int .i64 f3, .string fn, .int .i64 fv, .int .u64 (fk : Int), .int .i64 fc, .int .u64 (fr : Int), .int .u64 (fs : Int), .int .i64 ft, .int .i64 fe] 28))
    have BF4 := hid (Blk.new w4 #[.int .i64 f0, .int .i64 f1, .int .i64 f2, .int .i64 f3, .string fn, .int .i64 fv, .int .u64 (fk : Int), .int .i64 fc, .int .u64 (fr : Int), .int .u64 (fs : Int), .int .i64 ft, .int .i64 fe] 28)
    have K4 := hid ((K3.out.trans k4).alloc (.cells #[.int .i64 f0, .int .i64 f1, .int .i64 f2, .int .i64 f3, .string fn, .int .i64 fv, .int .u64 (fk : Int), .int .i64 fc, .int .u64 (fr : Int), .int .u64 (fs : Int), .int .i64 ft, .int .i64 fe] 28))
    clear k4 K3 BR3 HSO
    go_wp2_with fail
    obtain ⟨w5, hw5⟩ : ∃ w5, w5 = w4.alloc (.cells #[.int .i64 f0, .int .i64 f1, .int .i64 f2, .int .i64 f3, .string fn, .int .i64 fv, .int .u64 (fk : Int), .int .i64 fc, .int .u64 (fr : Int), .int .u64 (fs : Int), .int .i64 ft, .int .i64 fe] 28) := ⟨_, rfl⟩
    rw [← hw5] at BR4 BF4 K4 ⊢
    clear hw5
    have HBR := hid (fun W (hW : Kept None w5 W) => BR4.out.kept hW (fun h => h))
    have HBF := hid (fun W (hW : Kept None w5 W) => BF4.out.kept hW (fun h => h))
    clear BR4 BF4
    have hs : Steady [{ k := 5, uses := [], pure := fun u => ∃ q : Rec, q.Fits ∧ u = q.V }, { k := 10, uses := [], pure := fun u => ∃ q : Rec, q.Fits ∧ u = q.V }, { k := 11, uses := [5, 10], pure := fun u => ∃ g, u = .slice (Option.some ⟨g, 0, none⟩) 4 4, fact := fun u W => ∃ g, u = .slice (Option.some ⟨g, 0, none⟩) 4 4 ∧ Four14 W g }] := Steady.cons ⟨_, Rec.none, fits_none, rfl⟩ (fun _ _ _ _ h => h) (Steady.cons ⟨_, Rec.none, fits_none, rfl⟩ (fun _ _ _ _ h => h) (Steady.cons ⟨_, 0, rfl⟩ (fun _ _ _ hk ⟨g, h1, h2⟩ => ⟨g, h1, h2.kept hk⟩) Steady.nil))
    refine wp_region_kn w5 _ hs (Kept.refl _ _) (by kernel_rfl) (by kernel_rfl) (by kernel_rfl) ?_
    refine wpPar_pure rfl (by rfl) _ (fun W hW => by first | exact exec_load_blk _ _ rfl rfl (HBR.out W hW) aRec | exact exec_load_blk _ _ rfl rfl (HBF.out W hW) aRec | (go_simp; exact rfl)) ?_; simp only [Act.put, List.setIfInBounds_toArray, List.set_cons_zero, List.set_cons_succ]
    refine wpPar_pure rfl (by rfl) _ (fun W hW => by first | exact exec_load_blk _ _ rfl rfl (HBR.out W hW) aRec | exact exec_load_blk _ _ rfl rfl (HBF.out W hW) aRec | (go_simp; exact rfl)) ?_; simp only [Act.put, List.setIfInBounds_toArray, List.set_cons_zero, List.set_cons_succ]
    refine wpPar_pure rfl (by rfl) _ (fun W hW => by first | exact exec_load_blk _ _ rfl rfl (HBR.out W hW) aRec | exact exec_load_blk _ _ rfl rfl (HBF.out W hW) aRec | (go_simp; exact rfl)) ?_; simp only [Act.put, List.setIfInBounds_toArray, List.set_cons_zero, List.set_cons_succ]
    iterate 2 (refine wpPar_pure rfl (by rfl) _ (fun W hW => by
        go_simp
        exact rfl) ?_; simp only [Act.put, List.setIfInBounds_toArray, List.set_cons_zero, List.set_cons_succ])
    refine wpKn_adds hs rfl (by rfl) (fun W hW hd => ?_) (fun v5 hv => ?_)
    · unfold Gives
      go_simp
      refine gives_call (HBT.out.1 W) ?_
      rintro e w3 ⟨q, hq, rfl, k3⟩
      exact ⟨_, rfl, k3, ⟨q, hq, rfl⟩, trivial⟩
      
    obtain ⟨qA, hqA, rfl⟩ : ∃ q : Rec, q.Fits ∧ v5 = q.V := hv
    simp only [Act.put, List.setIfInBounds_toArray, List.set_cons_zero, List.set_cons_succ]
    refine wpPar_pure rfl (by rfl) _ (fun W hW => by first | exact exec_load_blk _ _ rfl rfl (HBR.out W hW) aRec | exact exec_load_blk _ _ rfl rfl (HBF.out W hW) aRec | (go_simp; exact rfl)) ?_; simp only [Act.put, List.setIfInBounds_toArray, List.set_cons_zero, List.set_cons_succ]
    iterate 3 (refine wpPar_pure rfl (by rfl) _ (fun W hW => by
        go_simp
        exact rfl) ?_; simp only [Act.put, List.setIfInBounds_toArray, List.set_cons_zero, List.set_cons_succ])
    refine wpKn_adds hs rfl (by rfl) (fun W hW hd => ?_) (fun v10 hv => ?_)
    · unfold Gives
      go_simp
      refine gives_call (HBT.out.2 W) ?_
      rintro e w3 ⟨q, hq, rfl, k3⟩
      exact ⟨_, rfl, k3, ⟨q, hq, rfl⟩, trivial⟩
      
    obtain ⟨qB, hqB, rfl⟩ : ∃ q : Rec, q.Fits ∧ v10 = q.V := hv
    simp only [Act.put, List.setIfInBounds_toArray, List.set_cons_zero, List.set_cons_succ]
    refine wpKn_adds hs rfl (by rfl) (fun W hW hd => ?_) (fun v11 hv => ?_)
    · unfold Gives
      rw [exec_four 35 (.tmp 49) (.tmp 50) (.tmp 54) (.tmp 59) rfl rtRec14 (by decide) rfl rfl rfl rfl (A := #[.int .i64 d0, .int .i64 d1, .int .i64 d2, .int .i64 d3, .string dn, .int .i64 dv, .int .u64 (dk : Int), .int .i64 dc, .int .u64 (dr : Int), .int .u64 (ds : Int), .int .i64 dt, .int .i64 de]) (B := #[.int .i64 f0, .int .i64 f1, .int .i64 f2, .int .i64 f3, .string fn, .int .i64 fv, .int .u64 (fk : Int), .int .i64 fc, .int .u64 (fr : Int), .int .u64 (fs : Int), .int .i64 ft, .int .i64 fe]) (C := qA.C) (D := qB.C) rfl rfl rfl rfl]
      exact ⟨(Kept.refl None W).alloc _, ⟨_, rfl⟩, ⟨_, rfl, Four14.new HFT.out.1 HFT.out.2 hqA hqB (Blk.new W _ _)⟩⟩
      
    obtain ⟨g, rfl⟩ : ∃ g, v11 = .slice (Option.some ⟨g, 0, none⟩) 4 4 := hv
    simp only [Act.put, List.setIfInBounds_toArray, List.set_cons_zero, List.set_cons_succ]
    iterate 2 (refine wpPar_pure rfl (by rfl) _ (fun W hW => by
        go_simp
        exact rfl) ?_; simp only [Act.put, List.setIfInBounds_toArray, List.set_cons_zero, List.set_cons_succ])
    refine wpPar_nil (fun W hW hG => ?_)
    obtain ⟨g', e1, hF⟩ : ∃ g', Value.slice (Option.some ⟨g, 0, none⟩) 4 4 = .slice (Option.some ⟨g', 0, none⟩) 4 4 ∧ Four14 W g' := hG 11
    obtain rfl : g = g' := by injection e1 with e1; injection e1 with e1; injection e1
    obtain ⟨wO, hwO⟩ : ∃ wO, wO = W := ⟨_, rfl⟩
    rw [← hwO] at hF hW ⊢
    have FO := hid hF
    have KO := hid (K4.out.trans hW)
    have HVO := hid (HV.out.kept KO.out (fun _ _ _ h => h))
    clear hwO hG e1 hs hW hF hqA hqB K4 HBR HBF HBT HFT r4
    go_wp2_with fail
    go_loopg [62] 4 (fun kx s62 wr => ∃ j : Nat, s62 = .int .i64 (j : Int) ∧ j ≤ 4 ∧ 4 - j ≤ kx ∧ Hid (Kept None wO wr))
    case atStart => exact ⟨0, rfl, by omega, by omega, hid (Kept.refl _ _)⟩
    case round =>
    obtain ⟨j, rfl, hj, hjx, HS⟩ := hrel
    by_cases hlt : j < 4
    · have hjb : (j : Int) < 4 := by omega
      obtain ⟨q, hq, rx⟩ := (FO.out.kept HS.out) j hlt
      have hw := hq.2.2.2.2.1.2.2.2
      have p1 := fun W => HP.out q W hq
      have p2 := fun W => R12.rput q W hw
      have t1 := fun W => HT.out q W hq
      have t2 := fun W => R12.right q W
      have hTl := putJL_len q
      have hE0 : putJE q = if rightJ q = true then 0 else 23 := rfl
      have hrd : rightJ q = true → readJ (putJL q ++ [Go.Pm.byteOf 7]) = ⟨q, (putJL q).length, 0⟩ := fun h => by rw [read_putJ _ h hw, putJ_len h]
      have hnq := fun W => Jq.neqRec q q W
      rw [recEq_self] at hnq
      obtain ⟨E, hE⟩ : ∃ E, E = putJE q := ⟨_, rfl⟩
      obtain ⟨TT, hTT⟩ : ∃ t, t = putJL q := ⟨_, rfl⟩
      obtain ⟨X, hX⟩ : ∃ X, X = rightJ q := ⟨_, rfl⟩
      rw [← hE, ← hTT] at p1 p2
      rw [← hX] at t1 t2 hrd hE0
      rw [← hE] at hE0
      rw [← hTT] at hrd hTl
      have hr1 : X = true → ∀ W v lo hi, Bs W lo hi v (TT ++ [Go.Pm.byteOf 7]) → Calls Try.prog 15 #[v] W fun e w' => e = .returned (.tuple #[q.V, .int .i64 (TT.length : Int), .int .i64 0]) ∧ Kept None W w' := fun h W v lo hi hb => by
        have h1 := HR.out v lo hi _ W hb (by rw [List.length_append]; simp; omega)
        rw [hrd h] at h1
        exact h1
      obtain ⟨x0, x1, x2, x3, ⟨xn, xv, xk, xc, xr, xs⟩, xt, xe⟩ := q
      have HRD := hid (show X = true → ∀ W v lo hi, Bs W lo hi v (TT ++ [Go.Pm.byteOf 7]) → Calls Try.prog 15 #[v] W fun e w' => e = .returned (.tuple #[.agg #[.int .i64 x0, .int .i64 x1, .int .i64 x2, .int .i64 x3, .string xn, .int .i64 xv, .int .u64 (xk : Int), .int .i64 xc, .int .u64 (xr : Int), .int .u64 (xs : Int), .int .i64 xt, .int .i64 xe], .int .i64 (TT.length : Int), .int .i64 0]) ∧ Kept None W w' from hr1)
      have HPC := hid (And.intro p1 p2)
      have HTC := hid (And.intro t1 t2)
      have HNQ := hid (show ∀ W, (binOp .neq 28 (.agg #[.int .i64 x0, .int .i64 x1, .int .i64 x2, .int .i64 x3, .string xn, .int .i64 xv, .int .u64 (xk : Int), .int .i64 xc, .int .u64 (xr : Int), .int .u64 (xs : Int), .int .i64 xt, .int .i64 xe]) (.agg #[.int .i64 x0, .int .i64 x1, .int .i64 x2, .int .i64 x3, .string xn, .int .i64 xv, .int .u64 (xk : Int), .int .i64 xc, .int .u64 (xr : Int), .int .u64 (xs : Int), .int .i64 xt, .int .i64 xe])).run Try.prog W = .ok (.bool false) W from hnq)
      have HTL := hid (show TT.length ≤ 109 from hTl)
      have HE := hid (show E = if X = true then 0 else 23 from hE0)
      have rx : wr.rangeAt g (j * 12) [.int .i64 x0, .int .i64 x1, .int .i64 x2, .int .i64 x3, .string xn, .int .i64 xv, .int .u64 (xk : Int), .int .i64 xc, .int .u64 (xr : Int), .int .u64 (xs : Int), .int .i64 xt, .int .i64 xe] := rx
      unfold Rec.V Rec.C at HPC HTC
      clear hq hw p1 p2 t1 t2 hTl hE0 hrd hnq hE hTT hX hr1
      obtain ⟨wp, rfl⟩ : ∃ wp : World, wp = wr := ⟨_, rfl⟩
      go_wp2_with (first | (refine wpList_load_at (.refl _) _ _ rfl rfl rx aRec ?_) | fail)
      have BX := hid (Blk.new wp #[.int .i64 x0, .int .i64 x1, .int .i64 x2, .int .i64 x3, .string xn, .int .i64 xv, .int .u64 (xk : Int), .int .i64 xc, .int .u64 (xr : Int), .int .u64 (xs : Int), .int .i64 xt, .int .i64 xe] 28)
      have KX := hid (HS.out.alloc (.cells #[.int .i64 x0, .int .i64 x1, .int .i64 x2, .int .i64 x3, .string xn, .int .i64 xv, .int .u64 (xk : Int), .int .i64 xc, .int .u64 (xr : Int), .int .u64 (xs : Int), .int .i64 xt, .int .i64 xe] 28))
      clear rx
      refine (HPC.out.1 _).mono ?_
      rintro e w6 ⟨u6, rfl, k6, b6⟩
      obtain ⟨a6, c6, rfl⟩ := b6.form
      have B6 := hid (b6.bs (Nat.le_refl _)).all
      have BX6 := hid (BX.out.kept k6 (fun h => h))
      have K6 := hid (KX.out.trans k6)
      have bx6 := BX6.out
      clear k6 b6 BX KX
      go_wp2_with (first | (refine wpList_load_blk rfl _ _ rfl rfl bx6 aRec ?_) | fail)
      refine (HPC.out.2 _).mono ?_
      rintro e w7 ⟨u7, rfl, k7, b7⟩
      obtain ⟨a7, c7, rfl⟩ := b7.form
      have B7 := hid (b7.bs (Nat.le_refl _)).all
      have B67 := hid (B6.out.kept k7 (fun _ _ _ h => h))
      have BX7 := hid (BX6.out.kept k7 (fun h => h))
      have K7 := hid (K6.out.trans k7)
      clear k7 b7 bx6 BX6 B6 K6 HPC
      have HBX := hid (fun W (hW : Kept None w7 W) => BX7.out.kept hW (fun h => h))
      obtain ⟨ST, hST⟩ : ∃ s : ByteArray, s = ⟨TT.toArray⟩ := ⟨_, rfl⟩
      have HCV := hid (fun W (hW : Kept None w7 W) => show (convert 29 9 (.slice a6 TT.length c6)).run Try.prog W = .ok (.string ST) W ∧ (convert 29 9 (.slice a7 TT.length c7)).run Try.prog W = .ok (.string ST) W from by
        rw [hST]
        exact ⟨cvBytes (B67.out.kept hW (fun _ _ _ h => h)), cvBytes (B7.out.kept hW (fun _ _ _ h => h))⟩)
      clear hST B67
      go_wp2_with fail
      have hs : Steady [.val 12 (.bool X), .val 14 (.bool X)] := Go.Pm.Steady.val (Go.Pm.Steady.val (Go.Pm.Steady.nil))
      refine wp_region_kn w7 _ hs (Kept.refl _ _) (by kernel_rfl) (by kernel_rfl) (by kernel_rfl) ?_
      iterate 4 (refine wpPar_pure rfl (by rfl) _ (fun W hW => by
          go_simp
          exact rfl) ?_; simp only [Act.put, List.setIfInBounds_toArray, List.set_cons_zero, List.set_cons_succ])
      refine wpPar_pure rfl (by kernel_rfl) _ (fun W hW => by
          go_simp
          exact rfl) ?_; simp only [Act.put, List.setIfInBounds_toArray, List.set_cons_zero, List.set_cons_succ]
      refine wpPar_pure rfl (by kernel_rfl) (.string ST) (fun W hW => by have q := (HCV.out W hW).1; go_simp) ?_; simp only [Act.put, List.setIfInBounds_toArray, List.set_cons_zero, List.set_cons_succ]
      refine wpPar_pure rfl (by kernel_rfl) _ (fun W hW => by
          go_simp
          exact rfl) ?_; simp only [Act.put, List.setIfInBounds_toArray, List.set_cons_zero, List.set_cons_succ]
      refine wpPar_pure rfl (by kernel_rfl) (.string ST) (fun W hW => by have q := (HCV.out W hW).2; go_simp) ?_; simp only [Act.put, List.setIfInBounds_toArray, List.set_cons_zero, List.set_cons_succ]
      refine wpPar_pure rfl (by kernel_rfl) (.bool false) (fun W hW => by go_simp) ?_; simp only [Act.put, List.setIfInBounds_toArray, List.set_cons_zero, List.set_cons_succ]
      iterate 2 (refine wpPar_pure rfl (by rfl) _ (fun W hW => by
          go_simp
          exact rfl) ?_; simp only [Act.put, List.setIfInBounds_toArray, List.set_cons_zero, List.set_cons_succ])
      refine wpPar_pure rfl (by kernel_rfl) _ (fun W hW => by first | exact exec_load_blk _ _ rfl rfl (HBX.out W hW) aRec | (go_simp; exact rfl)) ?_; simp only [Act.put, List.setIfInBounds_toArray, List.set_cons_zero, List.set_cons_succ]
      refine wpKn_adds hs rfl (by kernel_rfl) (fun W hW hd => ?_) (fun v12 hv => ?_)
      · unfold Gives
        go_simp
        refine gives_call (HTC.out.1 W) ?_
        rintro e w3 ⟨rfl, k3⟩
        exact ⟨_, rfl, k3, rfl, trivial⟩
      obtain rfl : v12 = .bool X := hv
      simp only [Act.put, List.setIfInBounds_toArray, List.set_cons_zero, List.set_cons_succ]
      refine wpPar_pure rfl (by kernel_rfl) _ (fun W hW => by first | exact exec_load_blk _ _ rfl rfl (HBX.out W hW) aRec | (go_simp; exact rfl)) ?_; simp only [Act.put, List.setIfInBounds_toArray, List.set_cons_zero, List.set_cons_succ]
      refine wpKn_adds hs rfl (by kernel_rfl) (fun W hW hd => ?_) (fun v14 hv => ?_)
      · unfold Gives
        go_simp
        refine gives_call (HTC.out.2 W) ?_
        rintro e w3 ⟨rfl, k3⟩
        exact ⟨_, rfl, k3, rfl, trivial⟩
      obtain rfl : v14 = .bool X := hv
      simp only [Act.put, List.setIfInBounds_toArray, List.set_cons_zero, List.set_cons_succ]
      refine wpPar_pure rfl (by kernel_rfl) _ (fun W hW => by
          go_simp
          exact rfl) ?_; simp only [Act.put, List.setIfInBounds_toArray, List.set_cons_zero, List.set_cons_succ]
      iterate 1 (refine wpPar_pure rfl (by rfl) _ (fun W hW => by
          go_simp
          exact rfl) ?_; simp only [Act.put, List.setIfInBounds_toArray, List.set_cons_zero, List.set_cons_succ])
      refine wpPar_nil (fun w8 hW hG => ?_)
      have hW' : Kept None w7 w8 := hW
      have K8 := hid (K7.out.trans hW')
      have B8 := hid (B7.out.kept hW' (fun _ _ _ h => h))
      have BX8 := hid (BX7.out.kept hW' (fun h => h))
      clear hG hs hW hW' K7 B7 BX7 HBX HCV HTC
      cases X with
      | false =>
        obtain rfl : E = 23 := HE.out
        go_wp2_with fail
        go_roundg (4 - (j + 1))
        case measure => omega
        case rel => exact ⟨j + 1, by simp, hlt, Nat.le_refl _, K8⟩
      | true =>
        obtain rfl : E = 0 := HE.out
        have hn : Ob w8 w8.heap.size (.slice none 0 0) [] := Bo.nil _ _ _
        have hu : Bs w8 0 w8.heap.size (.slice a7 TT.length c7) TT := B8.out.all
        have hln : ([] : List UInt8).length + TT.length ≤ 140737488355328 := by have := HTL.out; simp; omega
        go_wp2_with (first | (refine wpList_append_byte rfl (.tmp 97) (.tmp 98) 29 rfl rtBytes (b := 7) rfl rfl hB4 (by decide) (by decide) hl4 hz4 ?_; intro a5 n5 c5 wB hB5 hK5) | (refine wpList_append_bo rfl _ _ 29 rfl rtBytes rfl rfl hn hu hln (Nat.le_refl _) ?_; intro a4 n4 c4 wA hB4 hK4; have hl4 : (([] : List UInt8) ++ TT).length + 1 ≤ 140737488355328 := (by have := HTL.out; simp only [List.nil_append]; omega); have hz4 := hK4.size) | fail)
        have hKB : Kept None w8 wB := (hK4.mono (fun k _ h => by cases h)).then hK5 (fun k hk h => by have := (hB4.own k h).1; omega)
        rw [List.nil_append] at hB5
        have hbs := hB5.bs (Nat.le_refl _)
        have KB := hid (K8.out.trans hKB)
        have BXB := hid (BX8.out.kept hKB (fun h => h))
        have hcall := HRD.out trivial wB _ _ _ hbs
        clear hn hu hln hB4 hK4 hl4 hz4 hB5 hK5 hKB hbs BX8 B8 K8
        refine hcall.mono ?_
        rintro e w9 ⟨rfl, k9⟩
        have BY10 := hid (Blk.new w9 #[.int .i64 x0, .int .i64 x1, .int .i64 x2, .int .i64 x3, .string xn, .int .i64 xv, .int .u64 (xk : Int), .int .i64 xc, .int .u64 (xr : Int), .int .u64 (xs : Int), .int .i64 xt, .int .i64 xe] 28)
        have BX10 := hid ((BXB.out.kept k9 (fun h => h)).alloc (.cells #[.int .i64 x0, .int .i64 x1, .int .i64 x2, .int .i64 x3, .string xn, .int .i64 xv, .int .u64 (xk : Int), .int .i64 xc, .int .u64 (xr : Int), .int .u64 (xs : Int), .int .i64 xt, .int .i64 xe] 28))
        have K10 := hid ((KB.out.trans k9).alloc (.cells #[.int .i64 x0, .int .i64 x1, .int .i64 x2, .int .i64 x3, .string xn, .int .i64 xv, .int .u64 (xk : Int), .int .i64 xc, .int .u64 (xr : Int), .int .u64 (xs : Int), .int .i64 xt, .int .i64 xe] 28))
        clear k9 hcall BXB KB
        go_upto_region 15 with fail
        obtain ⟨wC, hwC⟩ : ∃ wC, wC = w9.alloc (.cells #[.int .i64 x0, .int .i64 x1, .int .i64 x2, .int .i64 x3, .string xn, .int .i64 xv, .int .u64 (xk : Int), .int .i64 xc, .int .u64 (xr : Int), .int .u64 (xs : Int), .int .i64 xt, .int .i64 xe] 28) := ⟨_, rfl⟩
        rw [← hwC] at BY10 BX10 K10 ⊢
        have by10 := BY10.out
        have bx10 := BX10.out
        have hnq := HNQ.out
        clear hwC
        go_wp2_with (first | go_skip | (refine wpList_load_bw (by kernel_rfl) rfl rfl by10 aRec ?_) | (refine wpList_load_bw (by kernel_rfl) rfl rfl bx10 aRec ?_) | fail)
        go_roundg (4 - (j + 1))
        case measure => omega
        case rel => exact ⟨j + 1, by simp, hlt, Nat.le_refl _, K10⟩
    · obtain rfl : j = 4 := by omega
      have KE := hid (KO.out.trans HS.out)
      have HPD := hid (fun W (h : Bs W 0 w.heap.size (.slice av l.length cv) l) => Seat.pending _ 0 w.heap.size l W h (Nat.le_trans HL.out (by decide)))
      have hin := Seat.pendN_in l l.length (Nat.le_trans HL.out (by decide))
      have hpl0 : (Seat.pendF l).length = l.length := Seat.pendN_len l _
      have hin2 : ∀ x ∈ Seat.pendF l, ((1 ≤ x.u.v ∧ x.u.v ≤ (l.length : Int)) ∧ x.u.right = true ∧ (0 ≤ x.tick ∧ x.tick ≤ 1003) ∧ x.u.r = 0 ∧ x.u.s = 0) := hin
      obtain ⟨ps, hps⟩ : ∃ ps, ps = Seat.pendF l := ⟨_, rfl⟩
      rw [← hps] at HPD hpl0 hin2
      have hfit : ∀ x ∈ ps, x.u.Fits ∧ inI x.tick := fun x hx => by
        have h := hin2 x hx
        have hr := (rightB_iff _ _ _ _).1 h.2.1
        have h61 : prime61 = 2305843009213693951 := rfl
        have hll := HL.out
        refine ⟨⟨⟨by omega, by omega⟩, by omega, ⟨by omega, by omega⟩, by omega, by omega⟩, ⟨by omega, by omega⟩⟩
      have HFX := hid hfit
      have HPL := hid (show ps.length ≤ 34 by have := HL.out; omega)
      have HVE := hid (HV.out.kept KE.out (fun _ _ _ h => h))
      clear hin hpl0 hin2 hps hfit HS KO FO HVO hlt hj hjx
      obtain ⟨we, rfl⟩ : ∃ we : World, we = wr := ⟨_, rfl⟩
      go_wp2_with fail
      refine (HPD.out we HVE.out).mono ?_
      rintro e w2 ⟨u2, rfl, k2, p2⟩
      obtain ⟨ap, cp, hu⟩ := p2.form
      rw [pensC_len] at hu
      subst hu
      have K2 := hid (KE.out.trans k2)
      have P2 := hid p2
      have hbase := hid (show w.heap.size ≤ we.heap.size from KE.out.size)
      clear k2 p2 HPD HVE
      by_cases h0 : ps.length = 0
      · have z1 : decide ((0 : Int) < (ps.length : Int)) = false := by rw [h0]; rfl
        have z2 : decide (0 < ps.length) = false := by rw [h0]; rfl
        have HPS := hid (P2.out.ps (Nat.le_refl _))
        clear h0
        go_wp2_with (first | go_skip | fail)
        clear z1 z2
        have HSL := hid (wrapK k HN.out.1)
        have HAL := hid (wrapK a HN.out.2.1)
        have hi1 := HI.out.1
        have hi2 := HI.out.2
        have hka : inI (k : Int) ∧ inI (a : Int) := ⟨nat_in k HN.out.1, nat_in a HN.out.2.1⟩
        have hlen : (ps).length ≤ 1000 := by have := HPL.out; (try rw [setVer_len]); omega
        have hfx := HFX.out
        have hpf : PnFits (ps) := fun x hx => (hfx x hx).1.2.2.2
        have HC1 := hid (fun W (hW : Kept None w2 W) => HB.out gen seq _ _ _ (ps) W (HPS.out.kept hW (fun _ _ _ h => h)) hfx hi2 hi1 hlen)
        have HC2 := hid (fun W (hW : Kept None w2 W) => R12.base gen seq _ _ _ (ps) W (HPS.out.kept hW (fun _ _ _ h => h)) hpf)
        have HC3 := hid (fun W (hW : Kept None w2 W) => HB.out (k : Int) (a : Int) _ _ _ (ps) W (HPS.out.kept hW (fun _ _ _ h => h)) hfx hka.1 hka.2 hlen)
        have HC4 := hid (fun W (hW : Kept None w2 W) => R12.base (k : Int) (a : Int) _ _ _ (ps) W (HPS.out.kept hW (fun _ _ _ h => h)) hpf)
        obtain ⟨BA, hBA⟩ : ∃ b, b = baseF gen seq (ps) := ⟨_, rfl⟩
        obtain ⟨BB, hBB⟩ : ∃ b, b = baseF (k : Int) (a : Int) (ps) := ⟨_, rfl⟩
        obtain ⟨SA, hSA⟩ : ∃ s : ByteArray, s = ⟨BA.toArray⟩ := ⟨_, rfl⟩
        obtain ⟨SB, hSB⟩ : ∃ s : ByteArray, s = ⟨BB.toArray⟩ := ⟨_, rfl⟩
        have HSTBA := hid hSA
        have HSTBB := hid hSB
        rw [← hBA] at HC1 HC2
        rw [← hBB] at HC3 HC4
        clear hi1 hi2 hka hlen hfx hpf hBA hBB hSA hSB
        have hs : Steady [.bytes 3 (BA), .val 4 (.string SA) [3], .bytes 8 (BA), .val 9 (.string SA) [8], .bytes 17 (BB), .val 18 (.string SB) [17], .bytes 24 (BB), .val 25 (.string SB) [24]] := Go.Pm.Steady.bytes (Go.Pm.Steady.val (Go.Pm.Steady.bytes (Go.Pm.Steady.val (Go.Pm.Steady.bytes (Go.Pm.Steady.val (Go.Pm.Steady.bytes (Go.Pm.Steady.val (Go.Pm.Steady.nil))))))))
        refine wp_region_kn w2 _ hs (Kept.refl _ _) (by kernel_rfl) (by kernel_rfl) (by kernel_rfl) ?_
        iterate 3 (refine wpPar_pure rfl (by rfl) _ (fun W hW => by
            have q1 := HSL.out
            have q2 := HAL.out
            go_simp
            exact rfl) ?_; simp only [Act.put, List.setIfInBounds_toArray, List.set_cons_zero, List.set_cons_succ])
        refine wpKn_adds hs rfl (by rfl) (fun W hW hd => ?_) (fun v3 hv => ?_)
        · unfold Gives
          go_simp
          refine gives_call (HC1.out W hW) ?_
          rintro e w3 ⟨u, rfl, k3, b3⟩
          exact ⟨_, rfl, k3, b3.form, _, _, b3.bs (Nat.le_refl _)⟩
          
        obtain ⟨a3, c3, rfl⟩ : ∃ a c, v3 = .slice a (BA).length c := hv
        simp only [Act.put, List.setIfInBounds_toArray, List.set_cons_zero, List.set_cons_succ]
        refine wpKn_adds hs rfl (by rfl) (fun W hW hd => ?_) (fun v4 hv => ?_)
        · unfold Gives
          obtain ⟨lo1, hi1, h1⟩ : ∃ lo hi, Bs W lo hi (.slice a3 (BA).length c3) (BA) := hd 3 (List.Mem.head _)
          have hcv := cvBytes h1
          rw [← HSTBA.out] at hcv
          go_simp
          exact ⟨Kept.refl _ _, rfl, trivial⟩
          
        obtain rfl : v4 = .string SA := hv
        simp only [Act.put, List.setIfInBounds_toArray, List.set_cons_zero, List.set_cons_succ]
        iterate 3 (refine wpPar_pure rfl (by rfl) _ (fun W hW => by
            have q1 := HSL.out
            have q2 := HAL.out
            go_simp
            exact rfl) ?_; simp only [Act.put, List.setIfInBounds_toArray, List.set_cons_zero, List.set_cons_succ])
        refine wpKn_adds hs rfl (by rfl) (fun W hW hd => ?_) (fun v8 hv => ?_)
        · unfold Gives
          go_simp
          refine gives_call (HC2.out W hW) ?_
          rintro e w3 ⟨u, rfl, k3, b3⟩
          exact ⟨_, rfl, k3, b3.form, _, _, b3.bs (Nat.le_refl _)⟩
          
        obtain ⟨a8, c8, rfl⟩ : ∃ a c, v8 = .slice a (BA).length c := hv
        simp only [Act.put, List.setIfInBounds_toArray, List.set_cons_zero, List.set_cons_succ]
        refine wpKn_adds hs rfl (by rfl) (fun W hW hd => ?_) (fun v9 hv => ?_)
        · unfold Gives
          obtain ⟨lo1, hi1, h1⟩ : ∃ lo hi, Bs W lo hi (.slice a8 (BA).length c8) (BA) := hd 8 (List.Mem.head _)
          have hcv := cvBytes h1
          rw [← HSTBA.out] at hcv
          go_simp
          exact ⟨Kept.refl _ _, rfl, trivial⟩
          
        obtain rfl : v9 = .string SA := hv
        simp only [Act.put, List.setIfInBounds_toArray, List.set_cons_zero, List.set_cons_succ]
        refine wpPar_pure rfl (by rfl) (.bool true) (fun W hW => by go_simp) ?_; simp only [Act.put, List.setIfInBounds_toArray, List.set_cons_zero, List.set_cons_succ]
        iterate 1 (refine wpPar_pure rfl (by rfl) _ (fun W hW => by
            have q1 := HSL.out
            have q2 := HAL.out
            go_simp
            exact rfl) ?_; simp only [Act.put, List.setIfInBounds_toArray, List.set_cons_zero, List.set_cons_succ])
        refine wpPar_pure rfl (by kernel_rfl) _ (fun W hW => by
            have q1 := HSL.out
            have q2 := HAL.out
            go_simp
            exact rfl) ?_; simp only [Act.put, List.setIfInBounds_toArray, List.set_cons_zero, List.set_cons_succ]
        refine wpPar_pure rfl (by kernel_rfl) _ (fun W hW => by
            have q1 := HSL.out
            have q2 := HAL.out
            go_simp
            exact rfl) ?_; simp only [Act.put, List.setIfInBounds_toArray, List.set_cons_zero, List.set_cons_succ]
        refine wpPar_pure rfl (by kernel_rfl) _ (fun W hW => by
            have q1 := HSL.out
            have q2 := HAL.out
            go_simp
            exact rfl) ?_; simp only [Act.put, List.setIfInBounds_toArray, List.set_cons_zero, List.set_cons_succ]
        refine wpPar_pure rfl (by kernel_rfl) _ (fun W hW => by
            have q1 := HSL.out
            have q2 := HAL.out
            go_simp
            exact rfl) ?_; simp only [Act.put, List.setIfInBounds_toArray, List.set_cons_zero, List.set_cons_succ]
        refine wpPar_pure rfl (by kernel_rfl) _ (fun W hW => by
            have q1 := HSL.out
            have q2 := HAL.out
            go_simp
            exact rfl) ?_; simp only [Act.put, List.setIfInBounds_toArray, List.set_cons_zero, List.set_cons_succ]
        refine wpKn_adds hs rfl (by kernel_rfl) (fun W hW hd => ?_) (fun v17 hv => ?_)
        · unfold Gives
          go_simp
          refine gives_call (HC3.out W hW) ?_
          rintro e w3 ⟨u, rfl, k3, b3⟩
          exact ⟨_, rfl, k3, b3.form, _, _, b3.bs (Nat.le_refl _)⟩
          
        obtain ⟨a17, c17, rfl⟩ : ∃ a c, v17 = .slice a (BB).length c := hv
        simp only [Act.put, List.setIfInBounds_toArray, List.set_cons_zero, List.set_cons_succ]
        refine wpKn_adds hs rfl (by kernel_rfl) (fun W hW hd => ?_) (fun v18 hv => ?_)
        · unfold Gives
          obtain ⟨lo1, hi1, h1⟩ : ∃ lo hi, Bs W lo hi (.slice a17 (BB).length c17) (BB) := hd 17 (List.Mem.head _)
          have hcv := cvBytes h1
          rw [← HSTBB.out] at hcv
          go_simp
          exact ⟨Kept.refl _ _, rfl, trivial⟩
          
        obtain rfl : v18 = .string SB := hv
        simp only [Act.put, List.setIfInBounds_toArray, List.set_cons_zero, List.set_cons_succ]
        refine wpPar_pure rfl (by kernel_rfl) _ (fun W hW => by
            have q1 := HSL.out
            have q2 := HAL.out
            go_simp
            exact rfl) ?_; simp only [Act.put, List.setIfInBounds_toArray, List.set_cons_zero, List.set_cons_succ]
        refine wpPar_pure rfl (by kernel_rfl) _ (fun W hW => by
            have q1 := HSL.out
            have q2 := HAL.out
            go_simp
            exact rfl) ?_; simp only [Act.put, List.setIfInBounds_toArray, List.set_cons_zero, List.set_cons_succ]
        refine wpPar_pure rfl (by kernel_rfl) _ (fun W hW => by
            have q1 := HSL.out
            have q2 := HAL.out
            go_simp
            exact rfl) ?_; simp only [Act.put, List.setIfInBounds_toArray, List.set_cons_zero, List.set_cons_succ]
        refine wpPar_pure rfl (by kernel_rfl) _ (fun W hW => by
            have q1 := HSL.out
            have q2 := HAL.out
            go_simp
            exact rfl) ?_; simp only [Act.put, List.setIfInBounds_toArray, List.set_cons_zero, List.set_cons_succ]
        refine wpPar_pure rfl (by kernel_rfl) _ (fun W hW => by
            have q1 := HSL.out
            have q2 := HAL.out
            go_simp
            exact rfl) ?_; simp only [Act.put, List.setIfInBounds_toArray, List.set_cons_zero, List.set_cons_succ]
        refine wpKn_adds hs rfl (by kernel_rfl) (fun W hW hd => ?_) (fun v24 hv => ?_)
        · unfold Gives
          go_simp
          refine gives_call (HC4.out W hW) ?_
          rintro e w3 ⟨u, rfl, k3, b3⟩
          exact ⟨_, rfl, k3, b3.form, _, _, b3.bs (Nat.le_refl _)⟩
          
        obtain ⟨a24, c24, rfl⟩ : ∃ a c, v24 = .slice a (BB).length c := hv
        simp only [Act.put, List.setIfInBounds_toArray, List.set_cons_zero, List.set_cons_succ]
        refine wpKn_adds hs rfl (by kernel_rfl) (fun W hW hd => ?_) (fun v25 hv => ?_)
        · unfold Gives
          obtain ⟨lo1, hi1, h1⟩ : ∃ lo hi, Bs W lo hi (.slice a24 (BB).length c24) (BB) := hd 24 (List.Mem.head _)
          have hcv := cvBytes h1
          rw [← HSTBB.out] at hcv
          go_simp
          exact ⟨Kept.refl _ _, rfl, trivial⟩
          
        obtain rfl : v25 = .string SB := hv
        simp only [Act.put, List.setIfInBounds_toArray, List.set_cons_zero, List.set_cons_succ]
        refine wpPar_pure rfl (by kernel_rfl) (.bool true) (fun W hW => by go_simp) ?_; simp only [Act.put, List.setIfInBounds_toArray, List.set_cons_zero, List.set_cons_succ]
        iterate 2 (refine wpPar_pure rfl (by rfl) _ (fun W hW => by
            have q1 := HSL.out
            have q2 := HAL.out
            go_simp
            exact rfl) ?_; simp only [Act.put, List.setIfInBounds_toArray, List.set_cons_zero, List.set_cons_succ])
        refine wpPar_nil (fun wz hW hG => ?_)
        have kk := K2.out.trans (show Kept None w2 wz from hW)
        clear hG hs hW
        go_wp2
        go_ret
        exact ⟨rfl, kk⟩
      · have h0' : 0 < ps.length := by omega
        have z1 : decide ((0 : Int) < (ps.length : Int)) = true := by simp; omega
        have z2 : decide (0 < ps.length) = true := by simp; omega
        obtain ⟨M5, hM5⟩ : ∃ m, m = what % 5 := ⟨_, rfl⟩
        have rM : (what : Int) % 5 = (M5 : Int) := by rw [hM5]; simp
        by_cases h5 : M5 = 0
        · subst h5
          obtain ⟨J, hJ⟩ : ∃ J, J = a % ps.length := ⟨_, rfl⟩
          have hJn : J < ps.length := by rw [hJ]; exact Nat.mod_lt _ h0'
          have r5 : (a : Int) % (ps.length : Int) = (J : Int) := by rw [hJ]; simp
          have hI0 : (J : Int) < (ps.length : Int) := Int.ofNat_lt.mpr hJn
          obtain ⟨gp, rfl, hbg, hfr, hcl⟩ := P2.out.pen h0'
          obtain ⟨xc, hcell⟩ := hcl J hJn
          have hfree := hfr (J * 9 + 1)
          have hset := P2.out.setVer J hJn 0
          have HBG := hid hbg
          have HJN := hid hJn
          have HSET := hid hset
          have hD1 : ((ps.length : Int) == 0) = false := by simpa using h0
          have hD2 : ¬ (ps.length : Int) = 0 := by omega
          have q0 := wrap64_nat' (n := a) (by have := HN.out.2.1; omega)
          have qn : wrap64 (ps.length : Int) = (ps.length : Int) := wrap64_nat' (by have := HPL.out; omega)
          clear hM5 hJ hJn hbg hfr hcl hset h0 h0'
          go_wp2_with (first | go_skip | fail)
          clear z1 z2 rM r5 hI0 hcell hfree hD1 hD2 q0 qn
          obtain ⟨wm, hwm⟩ : ∃ wm, wm = w2.setCell ⟨gp, J * 9 + 1, none⟩ (.int .i64 0) := ⟨_, rfl⟩
          have hst := HSET.out
          rw [← hwm] at hst ⊢
          clear hwm
          have KM := hid (K2.out.then hst.2 (fun i hi (h : i = gp) => by have := HBG.out; have := hbase.out; omega))
          obtain ⟨L2, hL2⟩ : ∃ l2, l2 = setVer ps J 0 := ⟨_, rfl⟩
          have hln2 : L2.length = ps.length := by rw [hL2, setVer_len]
          have hfx2 : ∀ x ∈ L2, x.u.Fits ∧ inI x.tick := by rw [hL2]; exact setVer_fits ⟨by decide, by decide⟩ ps J HFX.out
          rw [← hL2] at hst
          have HPM := hid (hst.1.ps (Nat.le_refl _))
          have HFM := hid hfx2
          have HPL2 := hid (show L2.length ≤ 34 by have := HPL.out; omega)
          clear hL2 hln2 hfx2 hst HSET HPL HFX P2
          have HSL := hid (wrapK k HN.out.1)
          have HAL := hid (wrapK a HN.out.2.1)
          have hi1 := HI.out.1
          have hi2 := HI.out.2
          have hka : inI (k : Int) ∧ inI (a : Int) := ⟨nat_in k HN.out.1, nat_in a HN.out.2.1⟩
          have hlen : (L2).length ≤ 1000 := by have := HPL2.out; (try rw [setVer_len]); omega
          have hfx := HFM.out
          have hpf : PnFits (L2) := fun x hx => (hfx x hx).1.2.2.2
          have HC1 := hid (fun W (hW : Kept None wm W) => HB.out gen seq _ _ _ (L2) W (HPM.out.kept hW (fun _ _ _ h => h)) hfx hi2 hi1 hlen)
          have HC2 := hid (fun W (hW : Kept None wm W) => R12.base gen seq _ _ _ (L2) W (HPM.out.kept hW (fun _ _ _ h => h)) hpf)
          have HC3 := hid (fun W (hW : Kept None wm W) => HB.out (k : Int) (a : Int) _ _ _ (L2) W (HPM.out.kept hW (fun _ _ _ h => h)) hfx hka.1 hka.2 hlen)
          have HC4 := hid (fun W (hW : Kept None wm W) => R12.base (k : Int) (a : Int) _ _ _ (L2) W (HPM.out.kept hW (fun _ _ _ h => h)) hpf)
          obtain ⟨BA, hBA⟩ : ∃ b, b = baseF gen seq (L2) := ⟨_, rfl⟩
          obtain ⟨BB, hBB⟩ : ∃ b, b = baseF (k : Int) (a : Int) (L2) := ⟨_, rfl⟩
          obtain ⟨SA, hSA⟩ : ∃ s : ByteArray, s = ⟨BA.toArray⟩ := ⟨_, rfl⟩
          obtain ⟨SB, hSB⟩ : ∃ s : ByteArray, s = ⟨BB.toArray⟩ := ⟨_, rfl⟩
          have HSTBA := hid hSA
          have HSTBB := hid hSB
          rw [← hBA] at HC1 HC2
          rw [← hBB] at HC3 HC4
          clear hi1 hi2 hka hlen hfx hpf hBA hBB hSA hSB
          have hs : Steady [.bytes 3 (BA), .val 4 (.string SA) [3], .bytes 8 (BA), .val 9 (.string SA) [8], .bytes 17 (BB), .val 18 (.string SB) [17], .bytes 24 (BB), .val 25 (.string SB) [24]] := Go.Pm.Steady.bytes (Go.Pm.Steady.val (Go.Pm.Steady.bytes (Go.Pm.Steady.val (Go.Pm.Steady.bytes (Go.Pm.Steady.val (Go.Pm.Steady.bytes (Go.Pm.Steady.val (Go.Pm.Steady.nil))))))))
          refine wp_region_kn wm _ hs (Kept.refl _ _) (by kernel_rfl) (by kernel_rfl) (by kernel_rfl) ?_
          iterate 3 (refine wpPar_pure rfl (by rfl) _ (fun W hW => by
              have q1 := HSL.out
              have q2 := HAL.out
              go_simp
              exact rfl) ?_; simp only [Act.put, List.setIfInBounds_toArray, List.set_cons_zero, List.set_cons_succ])
          refine wpKn_adds hs rfl (by rfl) (fun W hW hd => ?_) (fun v3 hv => ?_)
          · unfold Gives
            go_simp
            refine gives_call (HC1.out W hW) ?_
            rintro e w3 ⟨u, rfl, k3, b3⟩
            exact ⟨_, rfl, k3, b3.form, _, _, b3.bs (Nat.le_refl _)⟩
            
          obtain ⟨a3, c3, rfl⟩ : ∃ a c, v3 = .slice a (BA).length c := hv
          simp only [Act.put, List.setIfInBounds_toArray, List.set_cons_zero, List.set_cons_succ]
          refine wpKn_adds hs rfl (by rfl) (fun W hW hd => ?_) (fun v4 hv => ?_)
          · unfold Gives
            obtain ⟨lo1, hi1, h1⟩ : ∃ lo hi, Bs W lo hi (.slice a3 (BA).length c3) (BA) := hd 3 (List.Mem.head _)
            have hcv := cvBytes h1
            rw [← HSTBA.out] at hcv
            go_simp
            exact ⟨Kept.refl _ _, rfl, trivial⟩
            
          obtain rfl : v4 = .string SA := hv
          simp only [Act.put, List.setIfInBounds_toArray, List.set_cons_zero, List.set_cons_succ]
          iterate 3 (refine wpPar_pure rfl (by rfl) _ (fun W hW => by
              have q1 := HSL.out
              have q2 := HAL.out
              go_simp
              exact rfl) ?_; simp only [Act.put, List.setIfInBounds_toArray, List.set_cons_zero, List.set_cons_succ])
          refine wpKn_adds hs rfl (by rfl) (fun W hW hd => ?_) (fun v8 hv => ?_)
          · unfold Gives
            go_simp
            refine gives_call (HC2.out W hW) ?_
            rintro e w3 ⟨u, rfl, k3, b3⟩
            exact ⟨_, rfl, k3, b3.form, _, _, b3.bs (Nat.le_refl _)⟩
            
          obtain ⟨a8, c8, rfl⟩ : ∃ a c, v8 = .slice a (BA).length c := hv
          simp only [Act.put, List.setIfInBounds_toArray, List.set_cons_zero, List.set_cons_succ]
          refine wpKn_adds hs rfl (by rfl) (fun W hW hd => ?_) (fun v9 hv => ?_)
          · unfold Gives
            obtain ⟨lo1, hi1, h1⟩ : ∃ lo hi, Bs W lo hi (.slice a8 (BA).length c8) (BA) := hd 8 (List.Mem.head _)
            have hcv := cvBytes h1
            rw [← HSTBA.out] at hcv
            go_simp
            exact ⟨Kept.refl _ _, rfl, trivial⟩
            
          obtain rfl : v9 = .string SA := hv
          simp only [Act.put, List.setIfInBounds_toArray, List.set_cons_zero, List.set_cons_succ]
          refine wpPar_pure rfl (by rfl) (.bool true) (fun W hW => by go_simp) ?_; simp only [Act.put, List.setIfInBounds_toArray, List.set_cons_zero, List.set_cons_succ]
          iterate 1 (refine wpPar_pure rfl (by rfl) _ (fun W hW => by
              have q1 := HSL.out
              have q2 := HAL.out
              go_simp
              exact rfl) ?_; simp only [Act.put, List.setIfInBounds_toArray, List.set_cons_zero, List.set_cons_succ])
          refine wpPar_pure rfl (by kernel_rfl) _ (fun W hW => by
              have q1 := HSL.out
              have q2 := HAL.out
              go_simp
              exact rfl) ?_; simp only [Act.put, List.setIfInBounds_toArray, List.set_cons_zero, List.set_cons_succ]
          refine wpPar_pure rfl (by kernel_rfl) _ (fun W hW => by
              have q1 := HSL.out
              have q2 := HAL.out
              go_simp
              exact rfl) ?_; simp only [Act.put, List.setIfInBounds_toArray, List.set_cons_zero, List.set_cons_succ]
          refine wpPar_pure rfl (by kernel_rfl) _ (fun W hW => by
              have q1 := HSL.out
              have q2 := HAL.out
              go_simp
              exact rfl) ?_; simp only [Act.put, List.setIfInBounds_toArray, List.set_cons_zero, List.set_cons_succ]
          refine wpPar_pure rfl (by kernel_rfl) _ (fun W hW => by
              have q1 := HSL.out
              have q2 := HAL.out
              go_simp
              exact rfl) ?_; simp only [Act.put, List.setIfInBounds_toArray, List.set_cons_zero, List.set_cons_succ]
          refine wpPar_pure rfl (by kernel_rfl) _ (fun W hW => by
              have q1 := HSL.out
              have q2 := HAL.out
              go_simp
              exact rfl) ?_; simp only [Act.put, List.setIfInBounds_toArray, List.set_cons_zero, List.set_cons_succ]
          refine wpKn_adds hs rfl (by kernel_rfl) (fun W hW hd => ?_) (fun v17 hv => ?_)
          · unfold Gives
            go_simp
            refine gives_call (HC3.out W hW) ?_
            rintro e w3 ⟨u, rfl, k3, b3⟩
            exact ⟨_, rfl, k3, b3.form, _, _, b3.bs (Nat.le_refl _)⟩
            
          obtain ⟨a17, c17, rfl⟩ : ∃ a c, v17 = .slice a (BB).length c := hv
          simp only [Act.put, List.setIfInBounds_toArray, List.set_cons_zero, List.set_cons_succ]
          refine wpKn_adds hs rfl (by kernel_rfl) (fun W hW hd => ?_) (fun v18 hv => ?_)
          · unfold Gives
            obtain ⟨lo1, hi1, h1⟩ : ∃ lo hi, Bs W lo hi (.slice a17 (BB).length c17) (BB) := hd 17 (List.Mem.head _)
            have hcv := cvBytes h1
            rw [← HSTBB.out] at hcv
            go_simp
            exact ⟨Kept.refl _ _, rfl, trivial⟩
            
          obtain rfl : v18 = .string SB := hv
          simp only [Act.put, List.setIfInBounds_toArray, List.set_cons_zero, List.set_cons_succ]
          refine wpPar_pure rfl (by kernel_rfl) _ (fun W hW => by
              have q1 := HSL.out
              have q2 := HAL.out
              go_simp
              exact rfl) ?_; simp only [Act.put, List.setIfInBounds_toArray, List.set_cons_zero, List.set_cons_succ]
          refine wpPar_pure rfl (by kernel_rfl) _ (fun W hW => by
              have q1 := HSL.out
              have q2 := HAL.out
              go_simp
              exact rfl) ?_; simp only [Act.put, List.setIfInBounds_toArray, List.set_cons_zero, List.set_cons_succ]
          refine wpPar_pure rfl (by kernel_rfl) _ (fun W hW => by
              have q1 := HSL.out
              have q2 := HAL.out
              go_simp
              exact rfl) ?_; simp only [Act.put, List.setIfInBounds_toArray, List.set_cons_zero, List.set_cons_succ]
          refine wpPar_pure rfl (by kernel_rfl) _ (fun W hW => by
              have q1 := HSL.out
              have q2 := HAL.out
              go_simp
              exact rfl) ?_; simp only [Act.put, List.setIfInBounds_toArray, List.set_cons_zero, List.set_cons_succ]
          refine wpPar_pure rfl (by kernel_rfl) _ (fun W hW => by
              have q1 := HSL.out
              have q2 := HAL.out
              go_simp
              exact rfl) ?_; simp only [Act.put, List.setIfInBounds_toArray, List.set_cons_zero, List.set_cons_succ]
          refine wpKn_adds hs rfl (by kernel_rfl) (fun W hW hd => ?_) (fun v24 hv => ?_)
          · unfold Gives
            go_simp
            refine gives_call (HC4.out W hW) ?_
            rintro e w3 ⟨u, rfl, k3, b3⟩
            exact ⟨_, rfl, k3, b3.form, _, _, b3.bs (Nat.le_refl _)⟩
            
          obtain ⟨a24, c24, rfl⟩ : ∃ a c, v24 = .slice a (BB).length c := hv
          simp only [Act.put, List.setIfInBounds_toArray, List.set_cons_zero, List.set_cons_succ]
          refine wpKn_adds hs rfl (by kernel_rfl) (fun W hW hd => ?_) (fun v25 hv => ?_)
          · unfold Gives
            obtain ⟨lo1, hi1, h1⟩ : ∃ lo hi, Bs W lo hi (.slice a24 (BB).length c24) (BB) := hd 24 (List.Mem.head _)
            have hcv := cvBytes h1
            rw [← HSTBB.out] at hcv
            go_simp
            exact ⟨Kept.refl _ _, rfl, trivial⟩
            
          obtain rfl : v25 = .string SB := hv
          simp only [Act.put, List.setIfInBounds_toArray, List.set_cons_zero, List.set_cons_succ]
          refine wpPar_pure rfl (by kernel_rfl) (.bool true) (fun W hW => by go_simp) ?_; simp only [Act.put, List.setIfInBounds_toArray, List.set_cons_zero, List.set_cons_succ]
          iterate 2 (refine wpPar_pure rfl (by rfl) _ (fun W hW => by
              have q1 := HSL.out
              have q2 := HAL.out
              go_simp
              exact rfl) ?_; simp only [Act.put, List.setIfInBounds_toArray, List.set_cons_zero, List.set_cons_succ])
          refine wpPar_nil (fun wz hW hG => ?_)
          have kk := KM.out.trans (show Kept None wm wz from hW)
          clear hG hs hW
          go_wp2
          go_ret
          exact ⟨rfl, kk⟩
        · have e5 : ((M5 : Int) == 0) = false := by simp; omega
          have HPS := hid (P2.out.ps (Nat.le_refl _))
          clear h0 h0' h5 hM5
          go_wp2_with (first | go_skip | fail)
          clear z1 z2 rM e5
          have HSL := hid (wrapK k HN.out.1)
          have HAL := hid (wrapK a HN.out.2.1)
          have hi1 := HI.out.1
          have hi2 := HI.out.2
          have hka : inI (k : Int) ∧ inI (a : Int) := ⟨nat_in k HN.out.1, nat_in a HN.out.2.1⟩
          have hlen : (ps).length ≤ 1000 := by have := HPL.out; (try rw [setVer_len]); omega
          have hfx := HFX.out
          have hpf : PnFits (ps) := fun x hx => (hfx x hx).1.2.2.2
          have HC1 := hid (fun W (hW : Kept None w2 W) => HB.out gen seq _ _ _ (ps) W (HPS.out.kept hW (fun _ _ _ h => h)) hfx hi2 hi1 hlen)
          have HC2 := hid (fun W (hW : Kept None w2 W) => R12.base gen seq _ _ _ (ps) W (HPS.out.kept hW (fun _ _ _ h => h)) hpf)
          have HC3 := hid (fun W (hW : Kept None w2 W) => HB.out (k : Int) (a : Int) _ _ _ (ps) W (HPS.out.kept hW (fun _ _ _ h => h)) hfx hka.1 hka.2 hlen)
          have HC4 := hid (fun W (hW : Kept None w2 W) => R12.base (k : Int) (a : Int) _ _ _ (ps) W (HPS.out.kept hW (fun _ _ _ h => h)) hpf)
          obtain ⟨BA, hBA⟩ : ∃ b, b = baseF gen seq (ps) := ⟨_, rfl⟩
          obtain ⟨BB, hBB⟩ : ∃ b, b = baseF (k : Int) (a : Int) (ps) := ⟨_, rfl⟩
          obtain ⟨SA, hSA⟩ : ∃ s : ByteArray, s = ⟨BA.toArray⟩ := ⟨_, rfl⟩
          obtain ⟨SB, hSB⟩ : ∃ s : ByteArray, s = ⟨BB.toArray⟩ := ⟨_, rfl⟩
          have HSTBA := hid hSA
          have HSTBB := hid hSB
          rw [← hBA] at HC1 HC2
          rw [← hBB] at HC3 HC4
          clear hi1 hi2 hka hlen hfx hpf hBA hBB hSA hSB
          have hs : Steady [.bytes 3 (BA), .val 4 (.string SA) [3], .bytes 8 (BA), .val 9 (.string SA) [8], .bytes 17 (BB), .val 18 (.string SB) [17], .bytes 24 (BB), .val 25 (.string SB) [24]] := Go.Pm.Steady.bytes (Go.Pm.Steady.val (Go.Pm.Steady.bytes (Go.Pm.Steady.val (Go.Pm.Steady.bytes (Go.Pm.Steady.val (Go.Pm.Steady.bytes (Go.Pm.Steady.val (Go.Pm.Steady.nil))))))))
          refine wp_region_kn w2 _ hs (Kept.refl _ _) (by kernel_rfl) (by kernel_rfl) (by kernel_rfl) ?_
          iterate 3 (refine wpPar_pure rfl (by rfl) _ (fun W hW => by
              have q1 := HSL.out
              have q2 := HAL.out
              go_simp
              exact rfl) ?_; simp only [Act.put, List.setIfInBounds_toArray, List.set_cons_zero, List.set_cons_succ])
          refine wpKn_adds hs rfl (by rfl) (fun W hW hd => ?_) (fun v3 hv => ?_)
          · unfold Gives
            go_simp
            refine gives_call (HC1.out W hW) ?_
            rintro e w3 ⟨u, rfl, k3, b3⟩
            exact ⟨_, rfl, k3, b3.form, _, _, b3.bs (Nat.le_refl _)⟩
            
          obtain ⟨a3, c3, rfl⟩ : ∃ a c, v3 = .slice a (BA).length c := hv
          simp only [Act.put, List.setIfInBounds_toArray, List.set_cons_zero, List.set_cons_succ]
          refine wpKn_adds hs rfl (by rfl) (fun W hW hd => ?_) (fun v4 hv => ?_)
          · unfold Gives
            obtain ⟨lo1, hi1, h1⟩ : ∃ lo hi, Bs W lo hi (.slice a3 (BA).length c3) (BA) := hd 3 (List.Mem.head _)
            have hcv := cvBytes h1
            rw [← HSTBA.out] at hcv
            go_simp
            exact ⟨Kept.refl _ _, rfl, trivial⟩
            
          obtain rfl : v4 = .string SA := hv
          simp only [Act.put, List.setIfInBounds_toArray, List.set_cons_zero, List.set_cons_succ]
          iterate 3 (refine wpPar_pure rfl (by rfl) _ (fun W hW => by
              have q1 := HSL.out
              have q2 := HAL.out
              go_simp
              exact rfl) ?_; simp only [Act.put, List.setIfInBounds_toArray, List.set_cons_zero, List.set_cons_succ])
          refine wpKn_adds hs rfl (by rfl) (fun W hW hd => ?_) (fun v8 hv => ?_)
          · unfold Gives
            go_simp
            refine gives_call (HC2.out W hW) ?_
            rintro e w3 ⟨u, rfl, k3, b3⟩
            exact ⟨_, rfl, k3, b3.form, _, _, b3.bs (Nat.le_refl _)⟩
            
          obtain ⟨a8, c8, rfl⟩ : ∃ a c, v8 = .slice a (BA).length c := hv
          simp only [Act.put, List.setIfInBounds_toArray, List.set_cons_zero, List.set_cons_succ]
          refine wpKn_adds hs rfl (by rfl) (fun W hW hd => ?_) (fun v9 hv => ?_)
          · unfold Gives
            obtain ⟨lo1, hi1, h1⟩ : ∃ lo hi, Bs W lo hi (.slice a8 (BA).length c8) (BA) := hd 8 (List.Mem.head _)
            have hcv := cvBytes h1
            rw [← HSTBA.out] at hcv
            go_simp
            exact ⟨Kept.refl _ _, rfl, trivial⟩
            
          obtain rfl : v9 = .string SA := hv
          simp only [Act.put, List.setIfInBounds_toArray, List.set_cons_zero, List.set_cons_succ]
          refine wpPar_pure rfl (by rfl) (.bool true) (fun W hW => by go_simp) ?_; simp only [Act.put, List.setIfInBounds_toArray, List.set_cons_zero, List.set_cons_succ]
          iterate 1 (refine wpPar_pure rfl (by rfl) _ (fun W hW => by
              have q1 := HSL.out
              have q2 := HAL.out
              go_simp
              exact rfl) ?_; simp only [Act.put, List.setIfInBounds_toArray, List.set_cons_zero, List.set_cons_succ])
          refine wpPar_pure rfl (by kernel_rfl) _ (fun W hW => by
              have q1 := HSL.out
              have q2 := HAL.out
              go_simp
              exact rfl) ?_; simp only [Act.put, List.setIfInBounds_toArray, List.set_cons_zero, List.set_cons_succ]
          refine wpPar_pure rfl (by kernel_rfl) _ (fun W hW => by
              have q1 := HSL.out
              have q2 := HAL.out
              go_simp
              exact rfl) ?_; simp only [Act.put, List.setIfInBounds_toArray, List.set_cons_zero, List.set_cons_succ]
          refine wpPar_pure rfl (by kernel_rfl) _ (fun W hW => by
              have q1 := HSL.out
              have q2 := HAL.out
              go_simp
              exact rfl) ?_; simp only [Act.put, List.setIfInBounds_toArray, List.set_cons_zero, List.set_cons_succ]
          refine wpPar_pure rfl (by kernel_rfl) _ (fun W hW => by
              have q1 := HSL.out
              have q2 := HAL.out
              go_simp
              exact rfl) ?_; simp only [Act.put, List.setIfInBounds_toArray, List.set_cons_zero, List.set_cons_succ]
          refine wpPar_pure rfl (by kernel_rfl) _ (fun W hW => by
              have q1 := HSL.out
              have q2 := HAL.out
              go_simp
              exact rfl) ?_; simp only [Act.put, List.setIfInBounds_toArray, List.set_cons_zero, List.set_cons_succ]
          refine wpKn_adds hs rfl (by kernel_rfl) (fun W hW hd => ?_) (fun v17 hv => ?_)
          · unfold Gives
            go_simp
            refine gives_call (HC3.out W hW) ?_
            rintro e w3 ⟨u, rfl, k3, b3⟩
            exact ⟨_, rfl, k3, b3.form, _, _, b3.bs (Nat.le_refl _)⟩
            
          obtain ⟨a17, c17, rfl⟩ : ∃ a c, v17 = .slice a (BB).length c := hv
          simp only [Act.put, List.setIfInBounds_toArray, List.set_cons_zero, List.set_cons_succ]
          refine wpKn_adds hs rfl (by kernel_rfl) (fun W hW hd => ?_) (fun v18 hv => ?_)
          · unfold Gives
            obtain ⟨lo1, hi1, h1⟩ : ∃ lo hi, Bs W lo hi (.slice a17 (BB).length c17) (BB) := hd 17 (List.Mem.head _)
            have hcv := cvBytes h1
            rw [← HSTBB.out] at hcv
            go_simp
            exact ⟨Kept.refl _ _, rfl, trivial⟩
            
          obtain rfl : v18 = .string SB := hv
          simp only [Act.put, List.setIfInBounds_toArray, List.set_cons_zero, List.set_cons_succ]
          refine wpPar_pure rfl (by kernel_rfl) _ (fun W hW => by
              have q1 := HSL.out
              have q2 := HAL.out
              go_simp
              exact rfl) ?_; simp only [Act.put, List.setIfInBounds_toArray, List.set_cons_zero, List.set_cons_succ]
          refine wpPar_pure rfl (by kernel_rfl) _ (fun W hW => by
              have q1 := HSL.out
              have q2 := HAL.out
              go_simp
              exact rfl) ?_; simp only [Act.put, List.setIfInBounds_toArray, List.set_cons_zero, List.set_cons_succ]
          refine wpPar_pure rfl (by kernel_rfl) _ (fun W hW => by
              have q1 := HSL.out
              have q2 := HAL.out
              go_simp
              exact rfl) ?_; simp only [Act.put, List.setIfInBounds_toArray, List.set_cons_zero, List.set_cons_succ]
          refine wpPar_pure rfl (by kernel_rfl) _ (fun W hW => by
              have q1 := HSL.out
              have q2 := HAL.out
              go_simp
              exact rfl) ?_; simp only [Act.put, List.setIfInBounds_toArray, List.set_cons_zero, List.set_cons_succ]
          refine wpPar_pure rfl (by kernel_rfl) _ (fun W hW => by
              have q1 := HSL.out
              have q2 := HAL.out
              go_simp
              exact rfl) ?_; simp only [Act.put, List.setIfInBounds_toArray, List.set_cons_zero, List.set_cons_succ]
          refine wpKn_adds hs rfl (by kernel_rfl) (fun W hW hd => ?_) (fun v24 hv => ?_)
          · unfold Gives
            go_simp
            refine gives_call (HC4.out W hW) ?_
            rintro e w3 ⟨u, rfl, k3, b3⟩
            exact ⟨_, rfl, k3, b3.form, _, _, b3.bs (Nat.le_refl _)⟩
            
          obtain ⟨a24, c24, rfl⟩ : ∃ a c, v24 = .slice a (BB).length c := hv
          simp only [Act.put, List.setIfInBounds_toArray, List.set_cons_zero, List.set_cons_succ]
          refine wpKn_adds hs rfl (by kernel_rfl) (fun W hW hd => ?_) (fun v25 hv => ?_)
          · unfold Gives
            obtain ⟨lo1, hi1, h1⟩ : ∃ lo hi, Bs W lo hi (.slice a24 (BB).length c24) (BB) := hd 24 (List.Mem.head _)
            have hcv := cvBytes h1
            rw [← HSTBB.out] at hcv
            go_simp
            exact ⟨Kept.refl _ _, rfl, trivial⟩
            
          obtain rfl : v25 = .string SB := hv
          simp only [Act.put, List.setIfInBounds_toArray, List.set_cons_zero, List.set_cons_succ]
          refine wpPar_pure rfl (by kernel_rfl) (.bool true) (fun W hW => by go_simp) ?_; simp only [Act.put, List.setIfInBounds_toArray, List.set_cons_zero, List.set_cons_succ]
          iterate 2 (refine wpPar_pure rfl (by rfl) _ (fun W hW => by
              have q1 := HSL.out
              have q2 := HAL.out
              go_simp
              exact rfl) ?_; simp only [Act.put, List.setIfInBounds_toArray, List.set_cons_zero, List.set_cons_succ])
          refine wpPar_nil (fun wz hW hG => ?_)
          have kk := K2.out.trans (show Kept None w2 wz from hW)
          clear hG hs hW
          go_wp2
          go_ret
          exact ⟨rfl, kk⟩
  · have hout : 60 < dn.size ∨ 34 < l.length := by omega
    unfold Rec.V Rec.C
    have bR0 := hid (Blk.new w #[.int .i64 d0, .int .i64 d1, .int .i64 d2, .int .i64 d3, .string dn, .int .i64 dv, .int .u64 (dk : Int), .int .i64 dc, .int .u64 (dr : Int), .int .u64 (ds : Int), .int .i64 dt, .int .i64 de] 28)
    by_cases h60 : 60 < dn.size
    · have x1 : decide ((60 : Int) < (dn.size : Int)) = true := by simp; omega
      have x2 : decide (60 < dn.size) = true := by simpa using h60
      clear hl hout h60 hv hraw hk ha hwh hsq hvi hgen
      go_enter Try.func3, Try.ntmps3
      go_wp2_with fail
      refine (HK.out _).mono ?_
      rintro e w1 ⟨rfl, k1⟩
      have K1 : Kept None w w1 := ((Kept.refl _ _).alloc _).trans k1
      have cc : w1.cell? ⟨w.heap.size, 4, none⟩ = Option.some (.string dn) := (bR0.out.kept k1 (fun h => h)).cell 4
      clear k1 HK bR0
      go_wp2_with (first | go_skip | fail)
      go_ret
      exact ⟨rfl, K1⟩
    · have x1 : decide ((60 : Int) < (dn.size : Int)) = false := by simp; omega
      have x2 : decide (60 < dn.size) = false := by simpa using h60
      have x3 : decide ((34 : Int) < (l.length : Int)) = true := by simp; omega
      have x4 : decide (34 < l.length) = true := by simp; omega
      clear hl hout h60 hv hraw hk ha hwh hsq hvi hgen
      go_enter Try.func3, Try.ntmps3
      go_wp2_with fail
      refine (HK.out _).mono ?_
      rintro e w1 ⟨rfl, k1⟩
      have K1 : Kept None w w1 := ((Kept.refl _ _).alloc _).trans k1
      have cc : w1.cell? ⟨w.heap.size, 4, none⟩ = Option.some (.string dn) := (bR0.out.kept k1 (fun h => h)).cell 4
      clear k1 HK bR0
      go_wp2_with (first | go_skip | fail)
      go_ret
      exact ⟨rfl, K1⟩

end K14
end Go.Proofs.Ytpbkdeljhehkdaa
namespace Go.Pm
open Go Go.RowKit Go.ChangeShapes Go.WideShapes Go.ChangeAt
section
variable {H : Type} {enc : TypeId × Value → H} {P : Program}
theorem inI_wf {x : Int} (h : (Lit.int .i64 x).wf = true) : inI x := by
  simp [Lit.wf, IntKind.min, IntKind.max, IntKind.signed, IntKind.bits] at h
  exact ⟨by omega, by omega⟩
/-- A request's cells. -/
theorem trodReq {w : World} {base : Nat} {spare : Nat → Bool} {held : Bool} {n : Nat} {t : TypeId} {f0 f1 f2 f3 f4 g0 g1 : Field} {l : List Value} {y : DataW H × List MemPlace} (ht : P.underlying t = some (.struct #[f0, f1, f2, f3, f4])) (hl6 : l.length = 6)
    (o0 : f0.offset = 0) (o1 : f1.offset = 1) (o2 : f2.offset = 2) (o3 : f3.offset = 3) (o4 : f4.offset = 4) (hu0 : P.underlying f0.type = some .string) (hu1 : P.underlying f1.type = some (.int .i64)) (hu2 : P.underlying f2.type = some (.int .u64)) (hu3 : P.underlying f3.type = some (.int .i64))
    (hu4 : P.underlying f4.type = some (.struct #[g0, g1])) (q0 : g0.offset = 0) (q1 : g1.offset = 1) (hg0 : P.underlying g0.type = some (.int .u64)) (hg1 : P.underlying g1.type = some (.int .u64))
    (hc0 : P.cellsOf f0.type = 1) (hc1 : P.cellsOf f1.type = 1) (hc2 : P.cellsOf f2.type = 1) (hc3 : P.cellsOf f3.type = 1) (hc4 : P.cellsOf f4.type = 2) (hd0 : P.cellsOf g0.type = 1) (hd1 : P.cellsOf g1.type = 1)
    (h : DataW.trod enc P w base spare held n t l = some y) : ∃ u : Req, l = reqC u ∧ u.Fits := by
  obtain ⟨xs, n', _, _, _, hlen, hx⟩ := DataW.trod_struct ht h
  match l, hl6 with
  | [c0, c1, c2, c3, c4, c5], _ =>
    match xs, hlen with
    | [y0, y1, y2, y3, y4], _ =>
      have e0 := hx 0 f0 rfl
      have e1 := hx 1 f1 rfl
      have e2 := hx 2 f2 rfl
      have e3 := hx 3 f3 rfl
      have e4 := hx 4 f4 rfl
      rw [o0, hc0] at e0
      rw [o1, hc1] at e1
      rw [o2, hc2] at e2
      rw [o3, hc3] at e3
      rw [o4, hc4] at e4
      obtain ⟨s0, r0, _, _⟩ := DataW.trod_string hu0 e0
      obtain ⟨k1, r1, _, w1⟩ := DataW.trod_int hu1 e1
      obtain ⟨k2, r2, _, w2⟩ := DataW.trod_int hu2 e2
      obtain ⟨k3, r3, _, w3⟩ := DataW.trod_int hu3 e3
      obtain ⟨z0, z1, n4, _, _, m0, m1⟩ := trod_struct2 hu4 e4
      rw [q0, hd0] at m0
      rw [q1, hd1] at m1
      obtain ⟨k4, r4, _, w4⟩ := DataW.trod_int hg0 m0
      obtain ⟨k5, r5, _, w5⟩ := DataW.trod_int hg1 m1
      have i1 := inI_wf w1
      have i3 := inI_wf w3
      simp at r0 r1 r2 r3 r4 r5
      simp [Lit.wf, IntKind.min, IntKind.max, IntKind.signed, IntKind.bits] at w2 w4 w5
      subst r0 r1 r2 r3 r4 r5
      refine ⟨⟨s0, k1, k2.toNat, k3, k4.toNat, k5.toNat⟩, ?_, i1, by show k2.toNat < _; omega, i3, by show k4.toNat < _; omega, by show k5.toNat < _; omega⟩
      show _ = [_, _, Value.int .u64 ((k2.toNat : Nat) : Int), _, Value.int .u64 ((k4.toNat : Nat) : Int), Value.int .u64 ((k5.toNat : Nat) : Int)]
      rw [Int.toNat_of_nonneg (by omega), Int.toNat_of_nonneg (by omega), Int.toNat_of_nonneg (by omega)]
/-- An api.Record argument. -/
theorem openRec {W : World} {t : TypeId} {f0 f1 f2 f3 f4 g0 g1 e0 e1 e2 e3 e4 e5 e6 : Field} {v : Value} {d : DataW H} {p : List MemPlace} {base : Nat} (htr : P.underlying t = some (.struct #[e0, e1, e2, e3, e4, e5, e6])) (hC : P.cellsOf t = 12)
    (a0 : e0.offset = 0) (a1 : e1.offset = 1) (a2 : e2.offset = 2) (a3 : e3.offset = 3) (a4 : e4.offset = 4) (a5 : e5.offset = 10) (a6 : e6.offset = 11)
    (b0 : P.underlying e0.type = some (.int .i64)) (b1 : P.underlying e1.type = some (.int .i64)) (b2 : P.underlying e2.type = some (.int .i64)) (b3 : P.underlying e3.type = some (.int .i64)) (b5 : P.underlying e5.type = some (.int .i64)) (b6 : P.underlying e6.type = some (.int .i64))
    (k0 : P.cellsOf e0.type = 1) (k1 : P.cellsOf e1.type = 1) (k2 : P.cellsOf e2.type = 1) (k3 : P.cellsOf e3.type = 1) (k4 : P.cellsOf e4.type = 6) (k5 : P.cellsOf e5.type = 1) (k6 : P.cellsOf e6.type = 1)
    (ht : P.underlying e4.type = some (.struct #[f0, f1, f2, f3, f4]))
    (o0 : f0.offset = 0) (o1 : f1.offset = 1) (o2 : f2.offset = 2) (o3 : f3.offset = 3) (o4 : f4.offset = 4) (hu0 : P.underlying f0.type = some .string) (hu1 : P.underlying f1.type = some (.int .i64)) (hu2 : P.underlying f2.type = some (.int .u64)) (hu3 : P.underlying f3.type = some (.int .i64))
    (hu4 : P.underlying f4.type = some (.struct #[g0, g1])) (q0 : g0.offset = 0) (q1 : g1.offset = 1) (hg0 : P.underlying g0.type = some (.int .u64)) (hg1 : P.underlying g1.type = some (.int .u64))
    (hc0 : P.cellsOf f0.type = 1) (hc1 : P.cellsOf f1.type = 1) (hc2 : P.cellsOf f2.type = 1) (hc3 : P.cellsOf f3.type = 1) (hc4 : P.cellsOf f4.type = 2) (hd0 : P.cellsOf g0.type = 1) (hd1 : P.cellsOf g1.type = 1)
    (hok : Value.okWide P W .any base t v) (h : DataW.Trod enc P W 0 (fun _ => true) true t v d p) : ∃ r : Rec, v = r.V ∧ r.Fits := by
  simp only [Value.okWide, htr] at hok
  obtain ⟨cs, rfl, h2, _⟩ := hok
  rw [hC] at h2
  obtain ⟨fuel, hf⟩ := h
  obtain ⟨xs, n', _, _, _, hlen, hx⟩ := DataW.trod_struct htr hf
  obtain ⟨l⟩ := cs
  match l, h2 with
  | [c0, c1, c2, c3, c4, c5, c6, c7, c8, c9, c10, c11], _ =>
    match xs, hlen with
    | [y0, y1, y2, y3, y4, y5, y6], _ =>
      have m0 := hx 0 e0 rfl
      have m1 := hx 1 e1 rfl
      have m2 := hx 2 e2 rfl
      have m3 := hx 3 e3 rfl
      have m4 := hx 4 e4 rfl
      have m5 := hx 5 e5 rfl
      have m6 := hx 6 e6 rfl
      rw [a0, k0] at m0
      rw [a1, k1] at m1
      rw [a2, k2] at m2
      rw [a3, k3] at m3
      rw [a4, k4] at m4
      rw [a5, k5] at m5
      rw [a6, k6] at m6
      obtain ⟨x0, r0, _, w0⟩ := DataW.trod_int b0 m0
      obtain ⟨x1, r1, _, w1⟩ := DataW.trod_int b1 m1
      obtain ⟨x2, r2, _, w2⟩ := DataW.trod_int b2 m2
      obtain ⟨x3, r3, _, w3⟩ := DataW.trod_int b3 m3
      obtain ⟨x5, r5, _, w5⟩ := DataW.trod_int b5 m5
      obtain ⟨x6, r6, _, w6⟩ := DataW.trod_int b6 m6
      obtain ⟨u, hu, hfu⟩ := trodReq (l := [c4, c5, c6, c7, c8, c9]) ht rfl o0 o1 o2 o3 o4 hu0 hu1 hu2 hu3 hu4 q0 q1 hg0 hg1 hc0 hc1 hc2 hc3 hc4 hd0 hd1 m4
      simp [Value.cells] at r0 r1 r2 r3 r5 r6
      simp only [reqC, List.cons.injEq, and_true] at hu
      obtain ⟨u0, u1, u2, u3, u4, u5⟩ := hu
      subst r0 r1 r2 r3 r5 r6 u0 u1 u2 u3 u4 u5
      exact ⟨⟨x0, x1, x2, x3, u, x5, x6⟩, rfl, inI_wf w0, inI_wf w1, inI_wf w2, inI_wf w3, hfu, inI_wf w5, inI_wf w6⟩
theorem trodAll_8 {w : World} {base : Nat} {spare : Nat → Bool} {held : Bool} {t0 t1 t2 t3 t4 t5 t6 t7 : TypeId} {args : Array Value} {ds : List (DataW H)} {ps : List MemPlace} (h : DataW.TrodAll enc P w base spare held [t0, t1, t2, t3, t4, t5, t6, t7] args.toList ds ps) :
    ∃ v0 v1 v2 v3 v4 v5 v6 v7 d0 d1 d2 d3 d4 d5 d6 d7 p0 p1 p2 p3 p4 p5 p6 p7, args = #[v0, v1, v2, v3, v4, v5, v6, v7] ∧ ds = [d0, d1, d2, d3, d4, d5, d6, d7] ∧ ps = p0 ++ (p1 ++ (p2 ++ (p3 ++ (p4 ++ (p5 ++ (p6 ++ p7)))))) ∧
      DataW.Trod enc P w base spare held t0 v0 d0 p0 ∧ DataW.Trod enc P w base spare held t1 v1 d1 p1 ∧ DataW.Trod enc P w base spare held t2 v2 d2 p2 ∧ DataW.Trod enc P w base spare held t3 v3 d3 p3 ∧ DataW.Trod enc P w base spare held t4 v4 d4 p4 ∧ DataW.Trod enc P w base spare held t5 v5 d5 p5 ∧ DataW.Trod enc P w base spare held t6 v6 d6 p6 ∧ DataW.Trod enc P w base spare held t7 v7 d7 p7 := by
  obtain ⟨v0, l0, d0, e0, p0, q0, ha, rfl, rfl, h0, h⟩ := trodAll_cons h
  obtain ⟨v1, v2, v3, v4, v5, v6, v7, d1, d2, d3, d4, d5, d6, d7, p1, p2, p3, p4, p5, p6, p7, hb, rfl, rfl, h1, h2, h3, h4, h5, h6, h7⟩ := trodAll_seven (args := l0.toArray) (by simpa using h)
  refine ⟨v0, v1, v2, v3, v4, v5, v6, v7, d0, d1, d2, d3, d4, d5, d6, d7, p0, p1, p2, p3, p4, p5, p6, p7, ?_, rfl, by simp, h0, h1, h2, h3, h4, h5, h6, h7⟩
  apply Array.ext'
  rw [ha]
  have := congrArg Array.toList hb
  simp at this
  simp [this]
end
end Go.Pm
namespace Go.Proofs.Ytpbkdeljhehkdaa
open Go.ChangeShapes Go.WideShapes Go.ChangeAt Go.RowKit Go.Pm

theorem laidOut : laidOutB Try.prog = true := by kernel_rfl
theorem ownKnobs : ownKnob Try.prog.godebug = none := by kernel_rfl
theorem rI64t : Try.prog.underlying 2 = some (.int .i64) := by kernel_rfl
theorem rI64 : Try.prog.underlying 3 = some (.int .i64) := by kernel_rfl
theorem rU64 : Try.prog.underlying 22 = some (.int .u64) := by kernel_rfl
theorem rStr : Try.prog.underlying 9 = some .string := by kernel_rfl
def fSigR : Field := { name := "R", type := 22, offset := 0, embedded := false, tag := "", pkgPath := "", byteOffset := 0 }
def fSigS : Field := { name := "S", type := 22, offset := 1, embedded := false, tag := "", pkgPath := "", byteOffset := 8 }
def fName : Field := { name := "Name", type := 9, offset := 0, embedded := false, tag := "", pkgPath := "", byteOffset := 0 }
def fVersion : Field := { name := "Version", type := 3, offset := 1, embedded := false, tag := "", pkgPath := "", byteOffset := 16 }
def fKey : Field := { name := "Key", type := 22, offset := 2, embedded := false, tag := "", pkgPath := "", byteOffset := 24 }
def fClass : Field := { name := "Class", type := 3, offset := 3, embedded := false, tag := "", pkgPath := "", byteOffset := 32 }
def fSig : Field := { name := "Sig", type := 24, offset := 4, embedded := false, tag := "", pkgPath := "", byteOffset := 40 }
def gKind : Field := { name := "Kind", type := 3, offset := 0, embedded := false, tag := "", pkgPath := "", byteOffset := 0 }
def gSeq : Field := { name := "Seq", type := 2, offset := 1, embedded := false, tag := "", pkgPath := "", byteOffset := 8 }
def gGen : Field := { name := "Gen", type := 2, offset := 2, embedded := false, tag := "", pkgPath := "", byteOffset := 16 }
def gCount : Field := { name := "Count", type := 3, offset := 3, embedded := false, tag := "", pkgPath := "", byteOffset := 24 }
def gUpdate : Field := { name := "Update", type := 26, offset := 4, embedded := false, tag := "", pkgPath := "", byteOffset := 32 }
def gTick : Field := { name := "Tick", type := 2, offset := 10, embedded := false, tag := "", pkgPath := "", byteOffset := 88 }
def gEpoch : Field := { name := "Epoch", type := 3, offset := 11, embedded := false, tag := "", pkgPath := "", byteOffset := 96 }
theorem rSig : Try.prog.underlying 24 = some (.struct #[fSigR, fSigS]) := by kernel_rfl
theorem rUpd : Try.prog.underlying 26 = some (.struct #[fName, fVersion, fKey, fClass, fSig]) := by kernel_rfl
theorem rRec : Try.prog.underlying 28 = some (.struct #[gKind, gSeq, gGen, gCount, gUpdate, gTick, gEpoch]) := by kernel_rfl
theorem rBool : Try.prog.underlying 4 = some .bool := by kernel_rfl
theorem rU8 : Try.prog.underlying 5 = some (.int .u8) := by kernel_rfl
theorem cByte : Try.prog.cellsOf 5 = 1 := by kernel_rfl

set_option maxRecDepth 100000 in
theorem journalTells_lifted (os : Os) (started : os.Started) (H : Type) (enc : TypeId × Value → H) :
    ReturnsInHanded {} Try.checked os 3 .any (Rows.journalTellsSpec.pre6 enc Try.prog Try.f3 Rows.journalTellsRow.domain false) (Rows.journalTellsSpec.post enc Try.prog Try.f3 false true false false) := by
  refine returnsInHanded_of_change (C := Try.checked) ownKnobs started (by kernel_rfl) Try.func3
    (ChangeSpec.witness6 (enc := enc) (C := Try.checked) false ⟨#[], #[.agg #[.int .i64 0, .int .i64 0, .int .i64 0, .int .i64 0, .string ⟨#[]⟩, .int .i64 0, .int .u64 0, .int .i64 0, .int .u64 0, .int .u64 0, .int .i64 0, .int .i64 0], .int .u8 0, .int .u8 0, .int .i64 0, .int .i64 0, .int .u8 0, .slice none 0 0, .int .i64 0], []⟩ 8 (by kernel_rfl) (by kernel_rfl) (by kernel_rfl) (by kernel_rfl)) ?_
  intro W base args ds gs before hval0 hW _ _
  have hval : ∀ (j : Nat) t v, Try.f3.params[j]? = some t → args[j]? = some v → Value.okWide Try.prog W .any base t v := hval0
  have hlt : ∀ x ∈ before, x.block < W.heap.size := fun x hx => by simpa using hW.lt x hx
  have hW' := hW
  obtain ⟨p, q, hA0, hV, rfl, hfz, hnd⟩ := hW
  obtain ⟨rfl, rfl⟩ := trodVars_none hV
  have hA : DataW.TrodAll enc Try.prog W 0 (fun _ => true) true Try.f3.params.toList args.toList ds p := hA0
  rw [Try.params3] at hA hval
  obtain ⟨v0, v1, v2, v3, v4, v5, v6, v7, d0, d1, d2, d3, d4, d5, d6, d7, p0, p1, p2, p3, p4, p5, p6, p7, rfl, rfl, rfl, h0, h1, h2, h3, h4, h5, h6, h7⟩ := trodAll_8 hA
  obtain ⟨raw, rfl, b0⟩ := openRec rRec (by kernel_rfl) rfl rfl rfl rfl rfl rfl rfl rI64 rI64t rI64t rI64 rI64t rI64 (by kernel_rfl) (by kernel_rfl) (by kernel_rfl) (by kernel_rfl) (by kernel_rfl) (by kernel_rfl) (by kernel_rfl) rUpd rfl rfl rfl rfl rfl rStr rI64 rU64 rI64 rSig rfl rfl rU64 rU64 (by kernel_rfl) (by kernel_rfl) (by kernel_rfl) (by kernel_rfl) (by kernel_rfl) (by kernel_rfl) (by kernel_rfl) (hval 0 28 v0 rfl rfl) h0
  obtain ⟨k, rfl, b1⟩ := openNat_u8 rU8 (hval 1 5 v1 rfl rfl) h1
  obtain ⟨a, rfl, b2⟩ := openNat_u8 rU8 (hval 2 5 v2 rfl rfl) h2
  obtain ⟨seq, rfl, _, _, b3⟩ := open_int rI64t (hval 3 2 v3 rfl rfl) h3
  obtain ⟨v, rfl, _, _, b4⟩ := open_int rI64t (hval 4 2 v4 rfl rfl) h4
  obtain ⟨what, rfl, b5⟩ := openNat_u8 rU8 (hval 5 5 v5 rfl rfl) h5
  obtain ⟨l, hl⟩ := openBs tBytes' tByte cByte (hval 6 29 v6 rfl rfl) h6 (fun x hx => hlt x (by simp [hx]))
  obtain ⟨gen, rfl, _, _, b7⟩ := open_int rI64t (hval 7 2 v7 rfl rfl) h7
  refine (K14.tells Jr.rightC Jr.put Jr.read Jr.base raw k a what seq v gen v6 _ _ l W b0 b1 b2 b5 (inI_wf b3) (inI_wf b4) (inI_wf b7) hl).mono fun e W' ⟨he, hk⟩ => ?_
  subst he
  exact ⟨_, rfl, law_post (P := Try.prog) (f := Try.f3) rfl rfl rBool laidOut (by kernel_rfl) hW' rfl rfl rfl (hk.below (fun _ _ h => h))⟩

theorem journalTells_holds : Rows.JournalTellsSaid :=
  OpenClaim.holds_of_wide 3 Try.f3 rfl rfl rfl rfl rfl rfl rfl ⟨rfl, rfl, rfl, rfl, rfl⟩ rfl rfl rfl rfl rfl (by kernel_rfl) Try.func3 (by kernel_rfl)
    (of_decide_eq_true (by kernel_rfl)) (by unfold Func.isWrapper; first | (rw [if_pos (by decide +kernel)]; kernel_rfl) | (rw [if_neg (by decide +kernel)]; exact ⟨rfl, rfl⟩))
    (fun os started H enc _ => journalTells_lifted os started H enc)
end Go.Proofs.Ytpbkdeljhehkdaa
