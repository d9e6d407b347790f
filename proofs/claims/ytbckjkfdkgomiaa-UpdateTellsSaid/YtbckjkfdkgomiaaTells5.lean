/- postmarklaw5.UpdateTells: true. -/
import Derived.Test.YtbckjkfdkgomiaaKnown5
import Derived.Test.YtbckjkfdkgomiaaBent5
import Derived.Test.YtbckjkfdkgomiaaRRead5
import Derived.Test.YtbckjkfdkgomiaaConv
namespace Go.Proofs.Ytbckjkfdkgomiaa
open Go.RowKit Go.Pm

/-- The cells of requests, one behind another. -/
def reqCells (l : List Req) : List Value := l.flatMap fun q => [.string q.n, .int .i64 q.v, .int .u64 (q.k : Int), .int .i64 q.c, .int .u64 (q.r : Int), .int .u64 (q.s : Int)]
/-- A block of four requests, each within its bounds. -/
def Four (W : World) (g : Nat) : Prop := ∃ q0 q1 q2 q3 : Req, Seat.Fine q0 ∧ Seat.Fine q1 ∧ Seat.Fine q2 ∧ Seat.Fine q3 ∧ Blk W g (reqCells [q0, q1, q2, q3]).toArray 26
theorem Four.kept {W W' : World} {g : Nat} (h : Four W g) (hk : Kept None W W') : Four W' g := by
  obtain ⟨q0, q1, q2, q3, h0, h1, h2, h3, hb⟩ := h
  exact ⟨q0, q1, q2, q3, h0, h1, h2, h3, hb.kept hk (fun h => h)⟩
theorem Four.at {W : World} {g : Nat} (h : Four W g) (j : Nat) (hj : j < 4) : ∃ (n : ByteArray) (a : Int) (k : Nat) (c : Int) (r s : Nat), Seat.Fine ⟨n, a, k, c, r, s⟩ ∧ W.cell? ⟨g, j * 6, none⟩ = some (.string n) ∧ W.cell? ⟨g, j * 6 + 1, none⟩ = some (.int .i64 a) ∧ W.cell? ⟨g, j * 6 + 2, none⟩ = some (.int .u64 (k : Int)) ∧
    W.cell? ⟨g, j * 6 + 3, none⟩ = some (.int .i64 c) ∧ W.cell? ⟨g, j * 6 + 4, none⟩ = some (.int .u64 (r : Int)) ∧ W.cell? ⟨g, j * 6 + 5, none⟩ = some (.int .u64 (s : Int)) := by
  obtain ⟨q0, q1, q2, q3, h0, h1, h2, h3, hb⟩ := h
  have hc : j = 0 ∨ j = 1 ∨ j = 2 ∨ j = 3 := by omega
  rcases hc with rfl | rfl | rfl | rfl
  · exact ⟨q0.n, q0.v, q0.k, q0.c, q0.r, q0.s, h0, hb.cell 0, hb.cell 1, hb.cell 2, hb.cell 3, hb.cell 4, hb.cell 5⟩
  · exact ⟨q1.n, q1.v, q1.k, q1.c, q1.r, q1.s, h1, hb.cell 6, hb.cell 7, hb.cell 8, hb.cell 9, hb.cell 10, hb.cell 11⟩
  · exact ⟨q2.n, q2.v, q2.k, q2.c, q2.r, q2.s, h2, hb.cell 12, hb.cell 13, hb.cell 14, hb.cell 15, hb.cell 16, hb.cell 17⟩
  · exact ⟨q3.n, q3.v, q3.k, q3.c, q3.r, q3.s, h3, hb.cell 18, hb.cell 19, hb.cell 20, hb.cell 21, hb.cell 22, hb.cell 23⟩
theorem three_at {W : World} {g a b c : Nat} {t : TypeId} (h : Blk W g #[.int .u64 (a : Int), .int .u64 (b : Int), .int .u64 (c : Int)] t) (j : Nat) (hj : j < 3) : ∃ z : Nat, W.cell? ⟨g, j, none⟩ = some (.int .u64 (z : Int)) := by
  have hc : j = 0 ∨ j = 1 ∨ j = 2 := by omega
  rcases hc with rfl | rfl | rfl
  · exact ⟨a, h.cell 0⟩
  · exact ⟨b, h.cell 1⟩
  · exact ⟨c, h.cell 2⟩

theorem tells_calls (n : ByteArray) (a : Int) (k : Nat) (c : Int) (r s : Nat) (hq : Seat.Fine ⟨n, a, k, c, r, s⟩) (x : Nat) : ∃ (E : Int) (L M : List UInt8) (b : Bool) (R S : Nat),
    (∀ w, Calls Try.prog 11 #[updV n a k c r s] w fun e w' => ∃ u, e = .returned (.tuple #[u, .int .i64 E]) ∧ Kept None w w' ∧ Ob w' w.heap.size u L) ∧
    (∀ w, Calls Try.prog 12 #[updV n a k c r s] w fun e w' => ∃ u, e = .returned (.tuple #[u, .int .i64 E]) ∧ Kept None w w' ∧ Ob w' w.heap.size u L) ∧
    (∀ w, Calls Try.prog 13 #[updV n a k c r s] w fun e w' => e = .returned (entV n a k) ∧ Kept None w w') ∧
    (∀ w, Calls Try.prog 14 #[updV n a k c r s] w fun e w' => e = .returned (.bool b) ∧ Kept None w w') ∧
    (∀ w, Calls Try.prog 15 #[updV n a k c r s] w fun e w' => e = .returned (.bool b) ∧ Kept None w w') ∧
    (∀ w, Calls Try.prog 16 #[updV n a k c r s] w fun e w' => e = .returned (entV n a k) ∧ Kept None w w') ∧
    (∀ w, Calls Try.prog 17 #[entV n a k] w fun e w' => ∃ u, e = .returned u ∧ Kept None w w' ∧ Ob w' w.heap.size u M) ∧
    (∀ w, Calls Try.prog 18 #[entV n a k] w fun e w' => ∃ u, e = .returned u ∧ Kept None w w' ∧ Ob w' w.heap.size u M) ∧
    (∀ w, Calls Try.prog 19 #[.int .u64 x, updV n a k c r s] w fun e w' => e = .returned (updV n a k c R S) ∧ Kept None w w') ∧
    (∀ w, Calls Try.prog 20 #[.int .u64 x, updV n a k c r s] w fun e w' => e = .returned (updV n a k c R S) ∧ Kept None w w') ∧
    (E = 23 ∨ E = 0 ∧ ∀ v lo hi w, Bs w lo hi v L → Calls Try.prog 24 #[v] w fun e w' => e = .returned (.tuple #[updV n a k c r s, .int .i64 0]) ∧ Kept None w w') := by
  obtain ⟨hn, hk, hr, hs⟩ := hq
  have hn : n.size ≤ 60 := hn
  have hn' : n.size ≤ 274877906944 := by omega
  refine ⟨putE n.size a k c, putL n a k c r s, msgB n a k, rightB n.size a k c, sigR x (msgB n a k), sigS x (msgB n a k), fun w => Up.put n a c k r s w hr hs, fun w => RUp.put n a c k r s w hr hs, fun w => RUp.entry n a c k r s w, fun w => Up.right n a c k r s w, fun w => RUp.right n a c k r s w,
    fun w => Up.entry n a c k r s w, fun w => Up.message n a k w hn' hk, fun w => RUp.message n a k w hn' hk, fun w => Up.sign x n a c k r s w hn' hk, fun w => RUp.sign x n a c k r s w hn' hk, ?_⟩
  cases hb : rightB n.size a k c with
  | false => left; unfold putE; rw [hb]; rfl
  | true =>
    right
    refine ⟨by unfold putE; rw [hb]; rfl, fun v lo hi w h => ?_⟩
    have g := read_put n a k c r s hb hr hs
    rw [show putL n a k c r s = putB n a k c r s by unfold putL; rw [hb]; rfl] at h
    have h2 := Up.read v lo hi _ w h
    rw [g.1, g.2] at h2
    exact h2
theorem tells_check (n : ByteArray) (a : Int) (k : Nat) (c : Int) (r s : Nat) (hq : Seat.Fine ⟨n, a, k, c, r, s⟩) (z : Nat) : ∃ p : Bool,
    (∀ w, Calls Try.prog 22 #[updV n a k c r s, .int .u64 z] w fun e w' => e = .returned (.bool p) ∧ Kept None w w') ∧
    (∀ w, Calls Try.prog 23 #[updV n a k c r s, .int .u64 z] w fun e w' => e = .returned (.bool p) ∧ Kept None w w') := by
  obtain ⟨hn, hk, _, _⟩ := hq
  have hn : n.size ≤ 60 := hn
  exact ⟨checkN z (msgB n a k) r s, fun w => Up.check n a c k r s z w (by omega) hk, fun w => RUp.check n a c k r s z w (by omega) hk⟩

set_option maxRecDepth 100000 in
set_option maxHeartbeats 8000000 in
theorem tells_main (rn : ByteArray) (ra rc : Int) (rk rr rs : Nat) (k cl how what : Nat) (ver v : Int) (s : ByteArray) (secret key : Nat) (w : World) (hraw : Seat.Fine ⟨rn, ra, rk, rc, rr, rs⟩) (hs60 : s.size ≤ 60) :
    Calls Try.prog 3 #[updV rn ra rk rc rr rs, .int .u8 k, .int .i64 ver, .int .u8 cl, .int .u8 how, .int .u8 what, .int .i64 v, .string s, .int .u64 secret, .int .u64 key] w fun e w' => e = .returned (.bool true) ∧ Kept None w w' := by
  have hN := Seat.nameS_size k
  have hver : 0 ≤ bits .and .i64 ver 7 ∧ bits .and .i64 ver 7 ≤ 7 := Seat.i64_and ver 7 (by decide)
  obtain ⟨bv, hbv⟩ : ∃ bv, bv = bits .and .i64 ver 7 := ⟨_, rfl⟩
  rw [← hbv] at hver
  have hbv' := hbv.symm
  clear hbv
  obtain ⟨b3, hb3⟩ : ∃ b3, b3 = bits .and .i64 v 3 := ⟨_, rfl⟩
  have hb3' := hb3.symm
  clear hb3
  have j0 := fun w => Seat.name k w
  have j1 := fun w => Seat.update (Seat.nameS k) (bv + 1) cl how w hN.2 (by omega) (by omega)
  have j2 := fun w => Seat.key (Seat.nameS k) bv false w (by omega)
  obtain ⟨Q, hQ⟩ : ∃ Q, Q = Seat.req (Seat.nameS k) (bv + 1) cl how := ⟨_, rfl⟩
  have hfine : Seat.Fine Q := by
    rw [hQ]
    exact ⟨by show (Seat.nameS k).size ≤ 60; omega, Seat.keyN_lt _ _ _, Nat.lt_trans (sigR_lt _ _) (by decide), Nat.lt_trans (sigS_lt _ _) (by decide)⟩
  rw [← hQ] at j1
  obtain ⟨un, ua, uk, uc, ur, us⟩ := Q
  have jb1 := fun w => Seat.bent ⟨un, ua, uk, uc, ur, us⟩ what v s w hfine hs60
  have jb2 := fun w => Seat.bent ⟨un, ua, uk, uc, ur, us⟩ what b3 ⟨#[97]⟩ w hfine (by decide)
  obtain ⟨N, hNN⟩ : ∃ N, N = Seat.nameS k := ⟨_, rfl⟩
  obtain ⟨Y, hY⟩ : ∃ Y, Y = Seat.keyN (Seat.nameS k) bv false := ⟨_, rfl⟩
  rw [← hY] at j2
  rw [← hNN] at j0 j1 j2
  have J := hid (And.intro j0 (And.intro j1 j2))
  have JB := hid (And.intro jb1 jb2)
  have HF := hid (And.intro hraw hfine)
  have h60 : ¬ 60 < rn.size := Nat.not_lt.2 hraw.1
  have h61 : ¬ 60 < s.size := Nat.not_lt.2 hs60
  clear j0 j1 j2 jb1 jb2 hQ hNN hY hN hfine hraw
  have k0 : Kept None w (w.alloc (.cells #[.string rn, .int .i64 ra, .int .u64 (rk : Int), .int .i64 rc, .int .u64 (rr : Int), .int .u64 (rs : Int)] 26)) := (Kept.refl _ _).alloc _
  have bR := Blk.new w #[.string rn, .int .i64 ra, .int .u64 (rk : Int), .int .i64 rc, .int .u64 (rr : Int), .int .u64 (rs : Int)] 26
  go_enter Try.func3, Try.ntmps3
  go_wp2_with fail
  refine (known5 _).mono ?_
  rintro e w0 ⟨rfl, kk0⟩
  have k01 := k0.trans kk0
  have bR1 := bR.kept kk0 (fun h => h)
  have c0 : w0.cell? ⟨w.heap.size, 0, none⟩ = some (.string rn) := bR1.cell 0
  clear k0 bR kk0
  go_wp2_with fail
  clear h60 h61 c0
  refine (J.out.1 _).mono ?_
  rintro e w1 ⟨rfl, k1⟩
  have k02 := k01.trans k1
  have bR2 := bR1.kept k1 (fun h => h)
  clear k01 bR1 k1
  go_wp2_with fail
  refine (J.out.2.1 _).mono ?_
  rintro e w3 ⟨rfl, k3⟩
  have bU := Blk.new w3 #[.string un, .int .i64 ua, .int .u64 (uk : Int), .int .i64 uc, .int .u64 (ur : Int), .int .u64 (us : Int)] 26
  have bR3 := (bR2.kept k3 (fun h => h)).alloc (.cells #[.string un, .int .i64 ua, .int .u64 (uk : Int), .int .i64 uc, .int .u64 (ur : Int), .int .u64 (us : Int)] 26)
  have k03 := (k02.trans k3).alloc (.cells #[.string un, .int .i64 ua, .int .u64 (uk : Int), .int .i64 uc, .int .u64 (ur : Int), .int .u64 (us : Int)] 26)
  clear bR2 k02 k3
  go_wp2_with fail
  obtain ⟨wU, hwU⟩ : ∃ wU, wU = w3.alloc (.cells #[.string un, .int .i64 ua, .int .u64 (uk : Int), .int .i64 uc, .int .u64 (ur : Int), .int .u64 (us : Int)] 26) := ⟨_, rfl⟩
  rw [← hwU] at bU bR3 k03 ⊢
  clear hwU
  have hc0 : ∀ W, Kept None wU W → W.cell? ⟨w.heap.size, 0, none⟩ = some (.string rn) := fun W hW => (bR3.kept hW (fun h => h)).cell 0
  have hd0 : ∀ W, Kept None wU W → W.cell? ⟨w3.heap.size, 0, none⟩ = some (.string un) := fun W hW => (bU.kept hW (fun h => h)).cell 0
  have hc1 : ∀ W, Kept None wU W → W.cell? ⟨w.heap.size, 1, none⟩ = some (.int .i64 ra) := fun W hW => (bR3.kept hW (fun h => h)).cell 1
  have hd1 : ∀ W, Kept None wU W → W.cell? ⟨w3.heap.size, 1, none⟩ = some (.int .i64 ua) := fun W hW => (bU.kept hW (fun h => h)).cell 1
  have hc2 : ∀ W, Kept None wU W → W.cell? ⟨w.heap.size, 2, none⟩ = some (.int .u64 (rk : Int)) := fun W hW => (bR3.kept hW (fun h => h)).cell 2
  have hd2 : ∀ W, Kept None wU W → W.cell? ⟨w3.heap.size, 2, none⟩ = some (.int .u64 (uk : Int)) := fun W hW => (bU.kept hW (fun h => h)).cell 2
  have hc3 : ∀ W, Kept None wU W → W.cell? ⟨w.heap.size, 3, none⟩ = some (.int .i64 rc) := fun W hW => (bR3.kept hW (fun h => h)).cell 3
  have hd3 : ∀ W, Kept None wU W → W.cell? ⟨w3.heap.size, 3, none⟩ = some (.int .i64 uc) := fun W hW => (bU.kept hW (fun h => h)).cell 3
  have hc4 : ∀ W, Kept None wU W → W.cell? ⟨w.heap.size, 4, none⟩ = some (.int .u64 (rr : Int)) := fun W hW => (bR3.kept hW (fun h => h)).cell 4
  have hd4 : ∀ W, Kept None wU W → W.cell? ⟨w3.heap.size, 4, none⟩ = some (.int .u64 (ur : Int)) := fun W hW => (bU.kept hW (fun h => h)).cell 4
  have hc5 : ∀ W, Kept None wU W → W.cell? ⟨w.heap.size, 5, none⟩ = some (.int .u64 (rs : Int)) := fun W hW => (bR3.kept hW (fun h => h)).cell 5
  have hd5 : ∀ W, Kept None wU W → W.cell? ⟨w3.heap.size, 5, none⟩ = some (.int .u64 (us : Int)) := fun W hW => (bU.kept hW (fun h => h)).cell 5
  clear bR3 bU
  have hs : Steady [{ k := 6, uses := [], pure := fun u => ∃ (n : ByteArray) (a : Int) (k : Nat) (c : Int) (r s : Nat), Seat.Fine ⟨n, a, k, c, r, s⟩ ∧ u = .agg #[.string n, .int .i64 a, .int .u64 (k : Int), .int .i64 c, .int .u64 (r : Int), .int .u64 (s : Int)] }, { k := 11, uses := [], pure := fun u => ∃ (n : ByteArray) (a : Int) (k : Nat) (c : Int) (r s : Nat), Seat.Fine ⟨n, a, k, c, r, s⟩ ∧ u = .agg #[.string n, .int .i64 a, .int .u64 (k : Int), .int .i64 c, .int .u64 (r : Int), .int .u64 (s : Int)] },
    { k := 12, uses := [6, 11], pure := fun u => ∃ g, u = .slice (some ⟨g, 0, none⟩) 4 4, fact := fun u W => ∃ g, u = .slice (some ⟨g, 0, none⟩) 4 4 ∧ Four W g }] := Steady.cons ⟨_, ⟨#[]⟩, 0, 0, 0, 0, 0, ⟨by decide, by decide, by decide, by decide⟩, rfl⟩ (fun _ _ _ _ h => h) (Steady.cons ⟨_, ⟨#[]⟩, 0, 0, 0, 0, 0, ⟨by decide, by decide, by decide, by decide⟩, rfl⟩ (fun _ _ _ _ h => h) (Steady.cons ⟨_, 0, rfl⟩ (fun _ _ _ hk ⟨g, h1, h2⟩ => ⟨g, h1, h2.kept hk⟩) Steady.nil))
  refine wp_region_kn wU _ hs (Kept.refl _ _) (by kernel_rfl) (by kernel_rfl) (by kernel_rfl) ?_
  iterate 6 (refine wpPar_pure rfl (by rfl) _ (fun W hW => by
      have c0 := hc0 W hW
      have c1 := hc1 W hW
      have c2 := hc2 W hW
      have c3 := hc3 W hW
      have c4 := hc4 W hW
      have c5 := hc5 W hW
      have d0 := hd0 W hW
      have d1 := hd1 W hW
      have d2 := hd2 W hW
      have d3 := hd3 W hW
      have d4 := hd4 W hW
      have d5 := hd5 W hW
      go_simp
      exact rfl) ?_; simp only [Act.put, List.setIfInBounds_toArray, List.set_cons_zero, List.set_cons_succ])
  refine wpKn_adds hs rfl (by rfl) (fun W hW hd => ?_) (fun v6 hv => ?_)
  · unfold Gives
    go_simp
    refine gives_call (JB.out.1 W) ?_
    rintro e w3 ⟨⟨n, a, k, c, r, s⟩, hq, rfl, k3⟩
    exact ⟨_, rfl, k3, ⟨n, a, k, c, r, s, hq, rfl⟩, trivial⟩
  obtain ⟨pn, pa, pk, pc, pr, ps, hp, rfl⟩ : ∃ (n : ByteArray) (a : Int) (k : Nat) (c : Int) (r s : Nat), Seat.Fine ⟨n, a, k, c, r, s⟩ ∧ v6 = .agg #[.string n, .int .i64 a, .int .u64 (k : Int), .int .i64 c, .int .u64 (r : Int), .int .u64 (s : Int)] := hv
  simp only [Act.put, List.setIfInBounds_toArray, List.set_cons_zero, List.set_cons_succ]
  iterate 4 (refine wpPar_pure rfl (by rfl) _ (fun W hW => by
      have c0 := hc0 W hW
      have c1 := hc1 W hW
      have c2 := hc2 W hW
      have c3 := hc3 W hW
      have c4 := hc4 W hW
      have c5 := hc5 W hW
      have d0 := hd0 W hW
      have d1 := hd1 W hW
      have d2 := hd2 W hW
      have d3 := hd3 W hW
      have d4 := hd4 W hW
      have d5 := hd5 W hW
      go_simp
      exact rfl) ?_; simp only [Act.put, List.setIfInBounds_toArray, List.set_cons_zero, List.set_cons_succ])
  refine wpKn_adds hs rfl (by rfl) (fun W hW hd => ?_) (fun v11 hv => ?_)
  · unfold Gives
    go_simp
    refine gives_call (JB.out.2 W) ?_
    rintro e w3 ⟨⟨n, a, k, c, r, s⟩, hq, rfl, k3⟩
    exact ⟨_, rfl, k3, ⟨n, a, k, c, r, s, hq, rfl⟩, trivial⟩
  obtain ⟨qn, qa, qk, qc, qr, qs, hq, rfl⟩ : ∃ (n : ByteArray) (a : Int) (k : Nat) (c : Int) (r s : Nat), Seat.Fine ⟨n, a, k, c, r, s⟩ ∧ v11 = .agg #[.string n, .int .i64 a, .int .u64 (k : Int), .int .i64 c, .int .u64 (r : Int), .int .u64 (s : Int)] := hv
  simp only [Act.put, List.setIfInBounds_toArray, List.set_cons_zero, List.set_cons_succ]
  refine wpKn_adds hs rfl (by rfl) (fun W hW hd => ?_) (fun v12 hv => ?_)
  · unfold Gives
    go_simp
    exact ⟨(Kept.refl None W).alloc _, ⟨_, rfl⟩, ⟨_, rfl, ⟨rn, ra, rk, rc, rr, rs⟩, ⟨un, ua, uk, uc, ur, us⟩, ⟨pn, pa, pk, pc, pr, ps⟩, ⟨qn, qa, qk, qc, qr, qs⟩, HF.out.1, HF.out.2, hp, hq, Blk.new W _ _⟩⟩
  obtain ⟨g, rfl⟩ : ∃ g, v12 = .slice (some ⟨g, 0, none⟩) 4 4 := hv
  simp only [Act.put, List.setIfInBounds_toArray, List.set_cons_zero, List.set_cons_succ]
  iterate 2 (refine wpPar_pure rfl (by rfl) _ (fun W hW => by
      go_simp
      exact rfl) ?_; simp only [Act.put, List.setIfInBounds_toArray, List.set_cons_zero, List.set_cons_succ])
  refine wpPar_nil (fun W hW hG => ?_)
  obtain ⟨g', e1, hFour⟩ : ∃ g', Value.slice (some ⟨g, 0, none⟩) 4 4 = .slice (some ⟨g', 0, none⟩) 4 4 ∧ Four W g' := hG 12
  obtain rfl : g = g' := by injection e1 with e1; injection e1 with e1; injection e1
  have k04 := k03.trans hW
  clear hG e1 hs hW k03 hp hq HF JB hc0 hc1 hc2 hc3 hc4 hc5 hd0 hd1 hd2 hd3 hd4 hd5
  obtain ⟨wO, hwO⟩ : ∃ wO, wO = W := ⟨_, rfl⟩
  rw [← hwO] at hFour k04 ⊢
  clear hwO
  go_wp2
  go_loopw [66] (fun i wr => ∃ j : Nat, j ≤ 4 ∧ i = .int .i64 j ∧ Kept None wO wr) (fun i _ => 4 - (intOf i).toNat)
  case atStart => exact ⟨0, by omega, rfl, Kept.refl _ _⟩
  case round =>
    obtain ⟨j, hj, rfl, hkk⟩ := hrel
    obtain ⟨wx, hwx⟩ : ∃ wx, wx = wr := ⟨_, rfl⟩
    rw [← hwx] at hkk ⊢
    clear hwx
    by_cases hlt : j < 4
    · obtain ⟨xn, xa, xk, xc, xr, xs, hq, x0, x1, x2, x3, x4, x5⟩ := Four.at (hFour.kept hkk) j hlt
      obtain ⟨E, L, M, b, R, S, i0, i1, i2, i3, i4, i5, i6, i7, i8, i9, iE⟩ := tells_calls xn xa xk xc xr xs hq secret
      have C := hid (And.intro i0 (And.intro i1 (And.intro i2 (And.intro i3 (And.intro i4 (And.intro i5 (And.intro i6 (And.intro i7 (And.intro i8 (And.intro i9 iE))))))))))
      have HQ := hid hq
      clear i0 i1 i2 i3 i4 i5 i6 i7 i8 i9 iE hq
      have bX := Blk.new wx #[.string xn, .int .i64 xa, .int .u64 (xk : Int), .int .i64 xc, .int .u64 (xr : Int), .int .u64 (xs : Int)] 26
      have kX := hkk.alloc (.cells #[.string xn, .int .i64 xa, .int .u64 (xk : Int), .int .i64 xc, .int .u64 (xr : Int), .int .u64 (xs : Int)] 26)
      go_wp2_with fail
      clear x0 x1 x2 x3 x4 x5
      refine (C.out.1 _).mono ?_
      rintro e w1 ⟨uB, rfl, k1, b1⟩
      have k01 := kX.trans k1
      have bX1 := bX.kept k1 (fun h => h)
      have d1 := b1.bs (Nat.le_refl _)
      obtain ⟨aB, cB, rfl⟩ := b1.form
      clear kX bX k1 b1 hkk
      go_wp2_with (first | (refine wpList_load_blk rfl _ _ rfl rfl bX1 Up.aUpd ?_) | fail)
      refine (C.out.2.1 _).mono ?_
      rintro e w2 ⟨uC, rfl, k2, b2⟩
      have k02 := k01.trans k2
      have bX2 := bX1.kept k2 (fun h => h)
      have d1' := d1.kept k2 (fun _ _ _ h => h)
      have d2 := b2.bs (Nat.le_refl _)
      obtain ⟨aC, cC, rfl⟩ := b2.form
      clear k01 bX1 k2 b2 d1
      go_wp2_with (first | (refine wpList_load_blk rfl _ _ rfl rfl bX2 Up.aUpd ?_) | fail)
      refine (C.out.2.2.1 _).mono ?_
      rintro e w3 ⟨rfl, k3⟩
      have kk3 := k3.alloc (.cells #[.string xn, .int .i64 xa, .int .u64 (xk : Int)] 39)
      have k03 := k02.trans kk3
      have bX3 := bX2.kept kk3 (fun h => h)
      have bE3 := Blk.new w3 #[.string xn, .int .i64 xa, .int .u64 (xk : Int)] 39
      have dB := d1'.kept kk3 (fun _ _ _ h => h)
      have dC := d2.kept kk3 (fun _ _ _ h => h)
      clear k02 bX2 k3 kk3 d1' d2
      go_wp2_with fail
      obtain ⟨wy, hwy⟩ : ∃ wy, wy = w3.alloc (.cells #[.string xn, .int .i64 xa, .int .u64 (xk : Int)] 39) := ⟨_, rfl⟩
      rw [← hwy] at k03 bX3 bE3 dB dC ⊢
      clear hwy
      have hc0 : ∀ W, Kept None wy W → W.cell? ⟨wx.heap.size, 0, none⟩ = some (.string xn) := fun W hW => (bX3.kept hW (fun h => h)).cell 0
      have hc1 : ∀ W, Kept None wy W → W.cell? ⟨wx.heap.size, 1, none⟩ = some (.int .i64 xa) := fun W hW => (bX3.kept hW (fun h => h)).cell 1
      have hc2 : ∀ W, Kept None wy W → W.cell? ⟨wx.heap.size, 2, none⟩ = some (.int .u64 (xk : Int)) := fun W hW => (bX3.kept hW (fun h => h)).cell 2
      have hc3 : ∀ W, Kept None wy W → W.cell? ⟨wx.heap.size, 3, none⟩ = some (.int .i64 xc) := fun W hW => (bX3.kept hW (fun h => h)).cell 3
      have hc4 : ∀ W, Kept None wy W → W.cell? ⟨wx.heap.size, 4, none⟩ = some (.int .u64 (xr : Int)) := fun W hW => (bX3.kept hW (fun h => h)).cell 4
      have hc5 : ∀ W, Kept None wy W → W.cell? ⟨wx.heap.size, 5, none⟩ = some (.int .u64 (xs : Int)) := fun W hW => (bX3.kept hW (fun h => h)).cell 5
      have hd0 : ∀ W, Kept None wy W → W.cell? ⟨w3.heap.size, 0, none⟩ = some (.string xn) := fun W hW => (bE3.kept hW (fun h => h)).cell 0
      have hd1 : ∀ W, Kept None wy W → W.cell? ⟨w3.heap.size, 1, none⟩ = some (.int .i64 xa) := fun W hW => (bE3.kept hW (fun h => h)).cell 1
      have hd2 : ∀ W, Kept None wy W → W.cell? ⟨w3.heap.size, 2, none⟩ = some (.int .u64 (xk : Int)) := fun W hW => (bE3.kept hW (fun h => h)).cell 2
      clear bE3
      have hs : Steady [.val 5 (.string ⟨L.toArray⟩), .val 7 (.string ⟨L.toArray⟩), .val 12 (.bool b), .val 14 (.bool b), .val 19 (entV xn xa xk), .bytes 25 (M), .val 26 (.string ⟨M.toArray⟩) [25], .bytes 28 (M), .val 29 (.string ⟨M.toArray⟩) [28], .val 35 (updV xn xa xk xc R S), .val 38 (updV xn xa xk xc R S)] := Steady.val (Steady.val (Steady.val (Steady.val (Steady.val (Steady.bytes (Steady.val (Steady.bytes (Steady.val (Steady.val (Steady.val (Steady.nil)))))))))))
      refine wp_region_kn wy _ hs (Kept.refl _ _) (by kernel_rfl) (by kernel_rfl) (by kernel_rfl) ?_
      iterate 5 (refine wpPar_pure rfl (by rfl) _ (fun W hW => by
          go_simp
          exact rfl) ?_; simp only [Act.put, List.setIfInBounds_toArray, List.set_cons_zero, List.set_cons_succ])
      refine wpKn_adds hs rfl (by rfl) (fun W hW hd => ?_) (fun v5 hv => ?_)
      · unfold Gives
        have hb := dB.kept hW (fun _ _ _ h => h)
        have hcv := cvBytes hb
        go_simp
        exact ⟨Kept.refl _ _, rfl, trivial⟩
      obtain rfl : v5 = .string ⟨L.toArray⟩ := hv
      simp only [Act.put, List.setIfInBounds_toArray, List.set_cons_zero, List.set_cons_succ]
      iterate 1 (refine wpPar_pure rfl (by rfl) _ (fun W hW => by
          go_simp
          exact rfl) ?_; simp only [Act.put, List.setIfInBounds_toArray, List.set_cons_zero, List.set_cons_succ])
      refine wpKn_adds hs rfl (by rfl) (fun W hW hd => ?_) (fun v7 hv => ?_)
      · unfold Gives
        have hb := dC.kept hW (fun _ _ _ h => h)
        have hcv := cvBytes hb
        go_simp
        exact ⟨Kept.refl _ _, rfl, trivial⟩
      obtain rfl : v7 = .string ⟨L.toArray⟩ := hv
      simp only [Act.put, List.setIfInBounds_toArray, List.set_cons_zero, List.set_cons_succ]
      iterate 4 (refine wpPar_pure rfl (by rfl) _ (fun W hW => by
          have c0 := hc0 W hW
          have c1 := hc1 W hW
          have c2 := hc2 W hW
          have c3 := hc3 W hW
          have c4 := hc4 W hW
          have c5 := hc5 W hW
          have d0 := hd0 W hW
          have d1 := hd1 W hW
          have d2 := hd2 W hW
          go_simp
          exact rfl) ?_; simp only [Act.put, List.setIfInBounds_toArray, List.set_cons_zero, List.set_cons_succ])
      refine wpKn_adds hs rfl (by rfl) (fun W hW hd => ?_) (fun v12 hv => ?_)
      · unfold Gives
        go_simp
        refine gives_call (C.out.2.2.2.1 W) ?_
        rintro e w3 ⟨rfl, k3⟩
        exact ⟨_, rfl, k3, rfl, trivial⟩
      obtain rfl : v12 = .bool b := hv
      simp only [Act.put, List.setIfInBounds_toArray, List.set_cons_zero, List.set_cons_succ]
      iterate 1 (refine wpPar_pure rfl (by rfl) _ (fun W hW => by
          have c0 := hc0 W hW
          have c1 := hc1 W hW
          have c2 := hc2 W hW
          have c3 := hc3 W hW
          have c4 := hc4 W hW
          have c5 := hc5 W hW
          have d0 := hd0 W hW
          have d1 := hd1 W hW
          have d2 := hd2 W hW
          go_simp
          exact rfl) ?_; simp only [Act.put, List.setIfInBounds_toArray, List.set_cons_zero, List.set_cons_succ])
      refine wpKn_adds hs rfl (by rfl) (fun W hW hd => ?_) (fun v14 hv => ?_)
      · unfold Gives
        go_simp
        refine gives_call (C.out.2.2.2.2.1 W) ?_
        rintro e w3 ⟨rfl, k3⟩
        exact ⟨_, rfl, k3, rfl, trivial⟩
      obtain rfl : v14 = .bool b := hv
      simp only [Act.put, List.setIfInBounds_toArray, List.set_cons_zero, List.set_cons_succ]
      iterate 4 (refine wpPar_pure rfl (by rfl) _ (fun W hW => by
          have c0 := hc0 W hW
          have c1 := hc1 W hW
          have c2 := hc2 W hW
          have c3 := hc3 W hW
          have c4 := hc4 W hW
          have c5 := hc5 W hW
          have d0 := hd0 W hW
          have d1 := hd1 W hW
          have d2 := hd2 W hW
          go_simp
          exact rfl) ?_; simp only [Act.put, List.setIfInBounds_toArray, List.set_cons_zero, List.set_cons_succ])
      refine wpKn_adds hs rfl (by rfl) (fun W hW hd => ?_) (fun v19 hv => ?_)
      · unfold Gives
        go_simp
        refine gives_call (C.out.2.2.2.2.2.1 W) ?_
        rintro e w3 ⟨rfl, k3⟩
        exact ⟨_, rfl, k3, rfl, trivial⟩
      obtain rfl : v19 = entV xn xa xk := hv
      simp only [Act.put, List.setIfInBounds_toArray, List.set_cons_zero, List.set_cons_succ]
      iterate 5 (refine wpPar_pure rfl (by rfl) _ (fun W hW => by
          have c0 := hc0 W hW
          have c1 := hc1 W hW
          have c2 := hc2 W hW
          have c3 := hc3 W hW
          have c4 := hc4 W hW
          have c5 := hc5 W hW
          have d0 := hd0 W hW
          have d1 := hd1 W hW
          have d2 := hd2 W hW
          go_simp
          exact rfl) ?_; simp only [Act.put, List.setIfInBounds_toArray, List.set_cons_zero, List.set_cons_succ])
      refine wpKn_adds hs rfl (by rfl) (fun W hW hd => ?_) (fun v25 hv => ?_)
      · unfold Gives
        go_simp
        refine gives_call (C.out.2.2.2.2.2.2.1 W) ?_
        rintro e w3 ⟨u, rfl, k3, b3⟩
        exact ⟨_, rfl, k3, b3.form, _, _, b3.bs (Nat.le_refl _)⟩
      obtain ⟨a25, c25, rfl⟩ : ∃ a c, v25 = .slice a M.length c := hv
      simp only [Act.put, List.setIfInBounds_toArray, List.set_cons_zero, List.set_cons_succ]
      refine wpKn_adds hs rfl (by rfl) (fun W hW hd => ?_) (fun v26 hv => ?_)
      · unfold Gives
        obtain ⟨lo1, hi1, h1⟩ : ∃ lo hi, Bs W lo hi (.slice a25 M.length c25) M := hd 25 (List.Mem.head _)
        have hcv := cvBytes h1
        go_simp
        exact ⟨Kept.refl _ _, rfl, trivial⟩
      obtain rfl : v26 = .string ⟨M.toArray⟩ := hv
      simp only [Act.put, List.setIfInBounds_toArray, List.set_cons_zero, List.set_cons_succ]
      iterate 1 (refine wpPar_pure rfl (by rfl) _ (fun W hW => by
          have c0 := hc0 W hW
          have c1 := hc1 W hW
          have c2 := hc2 W hW
          have c3 := hc3 W hW
          have c4 := hc4 W hW
          have c5 := hc5 W hW
          have d0 := hd0 W hW
          have d1 := hd1 W hW
          have d2 := hd2 W hW
          go_simp
          exact rfl) ?_; simp only [Act.put, List.setIfInBounds_toArray, List.set_cons_zero, List.set_cons_succ])
      refine wpKn_adds hs rfl (by rfl) (fun W hW hd => ?_) (fun v28 hv => ?_)
      · unfold Gives
        go_simp
        refine gives_call (C.out.2.2.2.2.2.2.2.1 W) ?_
        rintro e w3 ⟨u, rfl, k3, b3⟩
        exact ⟨_, rfl, k3, b3.form, _, _, b3.bs (Nat.le_refl _)⟩
      obtain ⟨a28, c28, rfl⟩ : ∃ a c, v28 = .slice a M.length c := hv
      simp only [Act.put, List.setIfInBounds_toArray, List.set_cons_zero, List.set_cons_succ]
      refine wpKn_adds hs rfl (by rfl) (fun W hW hd => ?_) (fun v29 hv => ?_)
      · unfold Gives
        obtain ⟨lo1, hi1, h1⟩ : ∃ lo hi, Bs W lo hi (.slice a28 M.length c28) M := hd 28 (List.Mem.head _)
        have hcv := cvBytes h1
        go_simp
        exact ⟨Kept.refl _ _, rfl, trivial⟩
      obtain rfl : v29 = .string ⟨M.toArray⟩ := hv
      simp only [Act.put, List.setIfInBounds_toArray, List.set_cons_zero, List.set_cons_succ]
      iterate 5 (refine wpPar_pure rfl (by rfl) _ (fun W hW => by
          have c0 := hc0 W hW
          have c1 := hc1 W hW
          have c2 := hc2 W hW
          have c3 := hc3 W hW
          have c4 := hc4 W hW
          have c5 := hc5 W hW
          have d0 := hd0 W hW
          have d1 := hd1 W hW
          have d2 := hd2 W hW
          go_simp
          exact rfl) ?_; simp only [Act.put, List.setIfInBounds_toArray, List.set_cons_zero, List.set_cons_succ])
      refine wpKn_adds hs rfl (by rfl) (fun W hW hd => ?_) (fun v35 hv => ?_)
      · unfold Gives
        go_simp
        refine gives_call (C.out.2.2.2.2.2.2.2.2.1 W) ?_
        rintro e w3 ⟨rfl, k3⟩
        exact ⟨_, rfl, k3, rfl, trivial⟩
      obtain rfl : v35 = updV xn xa xk xc R S := hv
      simp only [Act.put, List.setIfInBounds_toArray, List.set_cons_zero, List.set_cons_succ]
      iterate 2 (refine wpPar_pure rfl (by rfl) _ (fun W hW => by
          have c0 := hc0 W hW
          have c1 := hc1 W hW
          have c2 := hc2 W hW
          have c3 := hc3 W hW
          have c4 := hc4 W hW
          have c5 := hc5 W hW
          have d0 := hd0 W hW
          have d1 := hd1 W hW
          have d2 := hd2 W hW
          go_simp
          exact rfl) ?_; simp only [Act.put, List.setIfInBounds_toArray, List.set_cons_zero, List.set_cons_succ])
      refine wpKn_adds hs rfl (by rfl) (fun W hW hd => ?_) (fun v38 hv => ?_)
      · unfold Gives
        go_simp
        refine gives_call (C.out.2.2.2.2.2.2.2.2.2.1 W) ?_
        rintro e w3 ⟨rfl, k3⟩
        exact ⟨_, rfl, k3, rfl, trivial⟩
      obtain rfl : v38 = updV xn xa xk xc R S := hv
      simp only [Act.put, List.setIfInBounds_toArray, List.set_cons_zero, List.set_cons_succ]
      iterate 2 (refine wpPar_pure rfl (by rfl) _ (fun W hW => by
          go_simp
          exact rfl) ?_; simp only [Act.put, List.setIfInBounds_toArray, List.set_cons_zero, List.set_cons_succ])
      refine wpPar_nil (fun wW hW _ => ?_)
      have k04' := k03.trans hW
      have bX4 := bX3.kept hW (fun h => h)
      have dC4 := dC.kept hW (fun _ _ _ h => h)
      clear hc0 hc1 hc2 hc3 hc4 hc5 hd0 hd1 hd2 hs hW k03 bX3 dB dC
      go_wp2_with fail
      have hc0 : ∀ W, Kept None wW W → W.cell? ⟨wx.heap.size, 0, none⟩ = some (.string xn) := fun W hW => (bX4.kept hW (fun h => h)).cell 0
      have hc1 : ∀ W, Kept None wW W → W.cell? ⟨wx.heap.size, 1, none⟩ = some (.int .i64 xa) := fun W hW => (bX4.kept hW (fun h => h)).cell 1
      have hc2 : ∀ W, Kept None wW W → W.cell? ⟨wx.heap.size, 2, none⟩ = some (.int .u64 (xk : Int)) := fun W hW => (bX4.kept hW (fun h => h)).cell 2
      have hc3 : ∀ W, Kept None wW W → W.cell? ⟨wx.heap.size, 3, none⟩ = some (.int .i64 xc) := fun W hW => (bX4.kept hW (fun h => h)).cell 3
      have hc4 : ∀ W, Kept None wW W → W.cell? ⟨wx.heap.size, 4, none⟩ = some (.int .u64 (xr : Int)) := fun W hW => (bX4.kept hW (fun h => h)).cell 4
      have hc5 : ∀ W, Kept None wW W → W.cell? ⟨wx.heap.size, 5, none⟩ = some (.int .u64 (xs : Int)) := fun W hW => (bX4.kept hW (fun h => h)).cell 5
      have hs : Steady [.val 2 (.string N), .val 5 (.int .u64 (Y : Int)), { k := 8, uses := [], pure := fun u => ∃ g, u = .slice (some ⟨g, 0, none⟩) 3 3, fact := fun u W => ∃ g, u = .slice (some ⟨g, 0, none⟩) 3 3 ∧ Blk W g #[.int .u64 (key : Int), .int .u64 (Y : Int), .int .u64 (xk : Int)] 22 }] := Steady.val (Steady.val (Steady.cons ⟨_, 0, rfl⟩ (fun _ _ _ hk ⟨g, h1, h2⟩ => ⟨g, h1, h2.kept hk (fun h => h)⟩) Steady.nil))
      refine wp_region_kn wW _ hs (Kept.refl _ _) (by kernel_rfl) (by kernel_rfl) (by kernel_rfl) ?_
      iterate 2 (refine wpPar_pure rfl (by rfl) _ (fun W hW => by
          go_simp
          exact rfl) ?_; simp only [Act.put, List.setIfInBounds_toArray, List.set_cons_zero, List.set_cons_succ])
      refine wpKn_adds hs rfl (by rfl) (fun W hW hd => ?_) (fun v2 hv => ?_)
      · unfold Gives
        go_simp
        refine gives_call (J.out.1 W) ?_
        rintro e w3 ⟨rfl, k3⟩
        exact ⟨_, rfl, k3, rfl, trivial⟩
      obtain rfl : v2 = .string N := hv
      simp only [Act.put, List.setIfInBounds_toArray, List.set_cons_zero, List.set_cons_succ]
      iterate 2 (refine wpPar_pure rfl (by rfl) _ (fun W hW => by
          go_simp
          exact rfl) ?_; simp only [Act.put, List.setIfInBounds_toArray, List.set_cons_zero, List.set_cons_succ])
      refine wpKn_adds hs rfl (by rfl) (fun W hW hd => ?_) (fun v5 hv => ?_)
      · unfold Gives
        go_simp
        refine gives_call (J.out.2.2 W) ?_
        rintro e w3 ⟨rfl, k3⟩
        exact ⟨_, rfl, k3, rfl, trivial⟩
      obtain rfl : v5 = .int .u64 (Y : Int) := hv
      simp only [Act.put, List.setIfInBounds_toArray, List.set_cons_zero, List.set_cons_succ]
      iterate 2 (refine wpPar_pure rfl (by rfl) _ (fun W hW => by
          have c2 := hc2 W hW
          go_simp
          exact rfl) ?_; simp only [Act.put, List.setIfInBounds_toArray, List.set_cons_zero, List.set_cons_succ])
      refine wpKn_adds hs rfl (by rfl) (fun W hW hd => ?_) (fun v8 hv => ?_)
      · unfold Gives
        go_simp
        exact ⟨(Kept.refl None W).alloc _, ⟨_, rfl⟩, ⟨_, rfl, Blk.new W _ _⟩⟩
      obtain ⟨g2, rfl⟩ : ∃ g, v8 = .slice (some ⟨g, 0, none⟩) 3 3 := hv
      simp only [Act.put, List.setIfInBounds_toArray, List.set_cons_zero, List.set_cons_succ]
      iterate 2 (refine wpPar_pure rfl (by rfl) _ (fun W hW => by
          go_simp
          exact rfl) ?_; simp only [Act.put, List.setIfInBounds_toArray, List.set_cons_zero, List.set_cons_succ])
      refine wpPar_nil (fun W2 hW2 hG => ?_)
      obtain ⟨g', e1, bK⟩ : ∃ g', Value.slice (some ⟨g2, 0, none⟩) 3 3 = .slice (some ⟨g', 0, none⟩) 3 3 ∧ Blk W2 g' #[.int .u64 (key : Int), .int .u64 (Y : Int), .int .u64 (xk : Int)] 22 := hG 8
      obtain rfl : g2 = g' := by injection e1 with e1; injection e1 with e1; injection e1
      have k05 := k04'.trans hW2
      have bX5 := bX4.kept hW2 (fun h => h)
      have dC5 := dC4.kept hW2 (fun _ _ _ h => h)
      clear hc0 hc1 hc2 hc3 hc4 hc5 hs hW2 hG e1 k04' bX4 dC4
      obtain ⟨wI, hwI⟩ : ∃ wI, wI = W2 := ⟨_, rfl⟩
      rw [← hwI] at k05 bX5 dC5 bK ⊢
      clear hwI
      go_wp2
      go_loopw [133] (fun i wr => ∃ t : Nat, t ≤ 3 ∧ i = .int .i64 t ∧ Kept None wI wr) (fun i _ => 3 - (intOf i).toNat)
      case atStart => exact ⟨0, by omega, rfl, Kept.refl _ _⟩
      case round =>
        obtain ⟨t, ht, rfl, hkt⟩ := hrel
        obtain ⟨wz, hwz⟩ : ∃ wz, wz = wr := ⟨_, rfl⟩
        rw [← hwz] at hkt ⊢
        clear hwz
        by_cases hlt3 : t < 3
        · obtain ⟨z, cz⟩ := three_at (bK.kept hkt (fun h => h)) t hlt3
          obtain ⟨p, D0, D1⟩ := tells_check xn xa xk xc xr xs HQ.out z
          have D := hid (And.intro D0 D1)
          have bX6 := bX5.kept hkt (fun h => h)
          clear D0 D1
          go_wp2_with fail
          clear cz
          have hc0 : ∀ W, Kept None wz W → W.cell? ⟨wx.heap.size, 0, none⟩ = some (.string xn) := fun W hW => (bX6.kept hW (fun h => h)).cell 0
          have hc1 : ∀ W, Kept None wz W → W.cell? ⟨wx.heap.size, 1, none⟩ = some (.int .i64 xa) := fun W hW => (bX6.kept hW (fun h => h)).cell 1
          have hc2 : ∀ W, Kept None wz W → W.cell? ⟨wx.heap.size, 2, none⟩ = some (.int .u64 (xk : Int)) := fun W hW => (bX6.kept hW (fun h => h)).cell 2
          have hc3 : ∀ W, Kept None wz W → W.cell? ⟨wx.heap.size, 3, none⟩ = some (.int .i64 xc) := fun W hW => (bX6.kept hW (fun h => h)).cell 3
          have hc4 : ∀ W, Kept None wz W → W.cell? ⟨wx.heap.size, 4, none⟩ = some (.int .u64 (xr : Int)) := fun W hW => (bX6.kept hW (fun h => h)).cell 4
          have hc5 : ∀ W, Kept None wz W → W.cell? ⟨wx.heap.size, 5, none⟩ = some (.int .u64 (xs : Int)) := fun W hW => (bX6.kept hW (fun h => h)).cell 5
          have hs : Steady [.val 2 (.bool p), .val 5 (.bool p)] := Steady.val (Steady.val (Steady.nil))
          refine wp_region_kn wz _ hs (Kept.refl _ _) (by kernel_rfl) (by kernel_rfl) (by kernel_rfl) ?_
          iterate 2 (refine wpPar_pure rfl (by rfl) _ (fun W hW => by
              have c0 := hc0 W hW
              have c1 := hc1 W hW
              have c2 := hc2 W hW
              have c3 := hc3 W hW
              have c4 := hc4 W hW
              have c5 := hc5 W hW
              go_simp
              exact rfl) ?_; simp only [Act.put, List.setIfInBounds_toArray, List.set_cons_zero, List.set_cons_succ])
          refine wpKn_adds hs rfl (by rfl) (fun W hW hd => ?_) (fun v2 hv => ?_)
          · unfold Gives
            go_simp
            refine gives_call (D.out.1 W) ?_
            rintro e w3 ⟨rfl, k3⟩
            exact ⟨_, rfl, k3, rfl, trivial⟩
          obtain rfl : v2 = .bool p := hv
          simp only [Act.put, List.setIfInBounds_toArray, List.set_cons_zero, List.set_cons_succ]
          iterate 2 (refine wpPar_pure rfl (by rfl) _ (fun W hW => by
              have c0 := hc0 W hW
              have c1 := hc1 W hW
              have c2 := hc2 W hW
              have c3 := hc3 W hW
              have c4 := hc4 W hW
              have c5 := hc5 W hW
              go_simp
              exact rfl) ?_; simp only [Act.put, List.setIfInBounds_toArray, List.set_cons_zero, List.set_cons_succ])
          refine wpKn_adds hs rfl (by rfl) (fun W hW hd => ?_) (fun v5 hv => ?_)
          · unfold Gives
            go_simp
            refine gives_call (D.out.2 W) ?_
            rintro e w3 ⟨rfl, k3⟩
            exact ⟨_, rfl, k3, rfl, trivial⟩
          obtain rfl : v5 = .bool p := hv
          simp only [Act.put, List.setIfInBounds_toArray, List.set_cons_zero, List.set_cons_succ]
          iterate 1 (refine wpPar_pure rfl (by rfl) _ (fun W hW => by
              go_simp
              exact rfl) ?_; simp only [Act.put, List.setIfInBounds_toArray, List.set_cons_zero, List.set_cons_succ])
          refine wpPar_nil (fun W3 hW3 _ => ?_)
          have k06 := hkt.trans hW3
          clear hc0 hc1 hc2 hc3 hc4 hc5 hs hW3 bX6 D hkt
          go_wp2
          go_roundw
          case rel => exact ⟨t + 1, by omega, by go_num, k06⟩
          case measure => simp [intOf]; omega
        · have k06 := k05.trans hkt
          have bX6 := bX5.kept hkt (fun h => h)
          have dC6 := dC5.kept hkt (fun _ _ _ h => h)
          have hE := C.out.2.2.2.2.2.2.2.2.2.2
          rcases hE with rfl | ⟨rfl, hRead⟩
          · clear bX6 dC6
            go_wp2
            go_roundw
            case rel => exact ⟨j + 1, by omega, by go_num, k06⟩
            case measure => simp [intOf]; omega
          · have HR := hid hRead
            clear hRead
            go_wp2_with fail
            refine (HR.out _ _ _ _ dC6).mono ?_
            rintro e w7 ⟨rfl, k7⟩
            have k07 := (k06.trans k7).alloc (.cells #[.string xn, .int .i64 xa, .int .u64 (xk : Int), .int .i64 xc, .int .u64 (xr : Int), .int .u64 (xs : Int)] 26)
            have bX7 := bX6.kept k7 (fun h => h)
            have hl7 := bX7.lt
            have c0 : w7.cell? ⟨wx.heap.size, 0, none⟩ = some (.string xn) := bX7.cell 0
            have c1 : w7.cell? ⟨wx.heap.size, 1, none⟩ = some (.int .i64 xa) := bX7.cell 1
            have c2 : w7.cell? ⟨wx.heap.size, 2, none⟩ = some (.int .u64 (xk : Int)) := bX7.cell 2
            have c3 : w7.cell? ⟨wx.heap.size, 3, none⟩ = some (.int .i64 xc) := bX7.cell 3
            have c4 : w7.cell? ⟨wx.heap.size, 4, none⟩ = some (.int .u64 (xr : Int)) := bX7.cell 4
            have c5 : w7.cell? ⟨wx.heap.size, 5, none⟩ = some (.int .u64 (xs : Int)) := bX7.cell 5
            clear bX6 dC6 k06 k7 bX7
            go_wp2
            go_roundw
            case rel => exact ⟨j + 1, by omega, by go_num, k07⟩
            case measure => simp [intOf]; omega
    · have k05 := k04.trans hkk
      go_wp2
      go_ret
      exact ⟨rfl, k05⟩

set_option maxRecDepth 100000 in
set_option maxHeartbeats 1000000 in
theorem updateTells (rn : ByteArray) (ra rc : Int) (rk rr rs : Nat) (k cl how what : Nat) (ver v : Int) (s : ByteArray) (secret key : Nat) (w : World) (h1 : rk < 18446744073709551616) (h2 : rr < 18446744073709551616) (h3 : rs < 18446744073709551616) :
    Calls Try.prog 3 #[updV rn ra rk rc rr rs, .int .u8 k, .int .i64 ver, .int .u8 cl, .int .u8 how, .int .u8 what, .int .i64 v, .string s, .int .u64 secret, .int .u64 key] w fun e w' => e = .returned (.bool true) ∧ Kept None w w' := by
  have k0 : Kept None w (w.alloc (.cells #[.string rn, .int .i64 ra, .int .u64 (rk : Int), .int .i64 rc, .int .u64 (rr : Int), .int .u64 (rs : Int)] 26)) := (Kept.refl _ _).alloc _
  have bR := Blk.new w #[.string rn, .int .i64 ra, .int .u64 (rk : Int), .int .i64 rc, .int .u64 (rr : Int), .int .u64 (rs : Int)] 26
  by_cases hr60 : 60 < rn.size
  · clear h1 h2 h3
    go_enter Try.func3, Try.ntmps3
    go_wp2_with fail
    refine (known5 _).mono ?_
    rintro e w0 ⟨rfl, kk0⟩
    have k01 := k0.trans kk0
    have bR1 := bR.kept kk0 (fun h => h)
    have c0 : w0.cell? ⟨w.heap.size, 0, none⟩ = some (.string rn) := bR1.cell 0
    clear k0 bR kk0
    go_wp2
    go_ret
    exact ⟨rfl, k01⟩
  by_cases hs60 : 60 < s.size
  · clear h1 h2 h3
    go_enter Try.func3, Try.ntmps3
    go_wp2_with fail
    refine (known5 _).mono ?_
    rintro e w0 ⟨rfl, kk0⟩
    have k01 := k0.trans kk0
    have bR1 := bR.kept kk0 (fun h => h)
    have c0 : w0.cell? ⟨w.heap.size, 0, none⟩ = some (.string rn) := bR1.cell 0
    clear k0 bR kk0
    go_wp2
    go_ret
    exact ⟨rfl, k01⟩
  exact tells_main rn ra rc rk rr rs k cl how what ver v s secret key w ⟨Nat.not_lt.1 hr60, h1, h2, h3⟩ (Nat.not_lt.1 hs60)
end Go.Proofs.Ytbckjkfdkgomiaa
