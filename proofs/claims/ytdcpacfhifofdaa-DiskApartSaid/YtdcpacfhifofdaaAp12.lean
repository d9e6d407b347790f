/- What DiskApart knows: a disk of three files, and beside it what each of them has, and how much of it is sure. -/
import Derived.Test.YtdcpacfhifofdaaKnown12
import Derived.Test.YtdcpacfhifofdaaPre12
namespace Go.Proofs.Ytdcpacfhifofdaa
open Go.RowKit Go.Pm
namespace K12
open Dk
abbrev ApB (p q : Nat) (V : Nat → Value) : Nat → Prop := fun k => k = p ∨ k = q ∨ ∃ j, j < 3 ∧ (V j).ownBlock = some k
structure Ap (w wr : World) (p q d : Nat) (V : Nat → Value) (A : Nat → List UInt8) (s : Nat → Nat) (i : Nat) (D : Dsk) : Prop where
  sx : Sx w wr (ApB p q V) d D
  bp : Blk wr p #[V 0, V 1, V 2] 39
  bq : Blk wr q #[.int .i64 (s 0), .int .i64 (s 1), .int .i64 (s 2)] 40
  lp : w.heap.size ≤ p
  lq : w.heap.size ≤ q
  o : ∀ j, j < 3 → Ob wr w.heap.size (V j) (A j)
  room : D.room = 1048576
  ahead : D.ahead = -1
  f : ∀ j, j < 3 → (D.f j).t = A j ∧ (D.f j).sure = s j ∧ (D.f j).Ok ∧ (D.f j).b.length ≤ i ∧ (A j).length ≤ 20 * i
theorem Ap.keptN {w wr wj : World} {p q d : Nat} {V : Nat → Value} {A : Nat → List UInt8} {s : Nat → Nat} {i : Nat} {D : Dsk} (h : Ap w wr p q d V A s i D) (k : Kept None wr wj) : Ap w wj p q d V A s i D :=
  ⟨h.sx.keptN k, h.bp.kept k (fun h => h), h.bq.kept k (fun h => h), h.lp, h.lq, fun j hj => (h.o j hj).kept k (fun _ _ h => h), h.room, h.ahead, h.f⟩
theorem Ap.ok {w wr : World} {p q d : Nat} {V : Nat → Value} {A : Nat → List UInt8} {s : Nat → Nat} {i : Nat} {D : Dsk} (h : Ap w wr p q d V A s i D) (hi : i ≤ 21) : D.Ok :=
  ⟨fun j hj => ⟨(h.f j hj).2.2.1, by rw [(h.f j hj).1]; have := (h.f j hj).2.2.2.2; omega, by have := (h.f j hj).2.2.2.1; omega⟩, by rw [h.room]; decide, by rw [h.ahead]; decide⟩
theorem Ap.cells {w wr : World} {p q d : Nat} {V : Nat → Value} {A : Nat → List UInt8} {s : Nat → Nat} {i : Nat} {D : Dsk} (h : Ap w wr p q d V A s i D) {j : Nat} (hj : j < 3) :
    wr.cell? ⟨p, j, none⟩ = some (V j) ∧ wr.cell? ⟨q, j, none⟩ = some (.int .i64 (s j : Int)) ∧ wr.frozen? ⟨p, j, none⟩ = false ∧ wr.frozen? ⟨q, j, none⟩ = false := by
  refine ⟨?_, ?_, h.bp.free j, h.bq.free j⟩
  · rw [h.bp.cell]
    match j, hj with
    | 0, _ => rfl
    | 1, _ => rfl
    | 2, _ => rfl
  · rw [h.bq.cell]
    match j, hj with
    | 0, _ => rfl
    | 1, _ => rfl
    | 2, _ => rfl
theorem Ap.pq {w wr : World} {p q d : Nat} {V : Nat → Value} {A : Nat → List UInt8} {s : Nat → Nat} {i : Nat} {D : Dsk} (h : Ap w wr p q d V A s i D) : p ≠ q := fun e => by
  have h1 := h.bp
  have h2 := h.bq
  subst e
  unfold Blk at h1 h2
  rw [h1] at h2
  injection h2 with h2
  injection h2 with _ e
  exact absurd e (by decide)
/-- Behind a call on the disk: what lies beside it is as it was. -/
theorem Ap.side {w wr wk : World} {p q d : Nat} {V : Nat → Value} {A : Nat → List UInt8} {s : Nat → Nat} {i : Nat} {D : Dsk} (h : Ap w wr p q d V A s i D) (k : Kept (Free w (ApB p q V)) wr wk) :
    Blk wk p #[V 0, V 1, V 2] 39 ∧ Blk wk q #[.int .i64 (s 0), .int .i64 (s 1), .int .i64 (s 2)] 40 ∧ ∀ j, j < 3 → Ob wk w.heap.size (V j) (A j) :=
  ⟨h.bp.kept k (fun h' => h'.2 (.inl rfl)), h.bq.kept k (fun h' => h'.2 (.inr (.inl rfl))), fun j hj => (h.o j hj).kept k (fun _g hg h' => h'.2 (.inr (.inr ⟨j, hj, hg⟩)))⟩
theorem three_set {α : Type} (v : Nat → α) (x : α) (f : Nat → Value) {j : Nat} (hj : j < 3) (g : α → Value) (hf : ∀ k, f k = g (v k)) : (#[f 0, f 1, f 2] : Array Value).setIfInBounds j (g x) = #[g (if 0 = j then x else v 0), g (if 1 = j then x else v 1), g (if 2 = j then x else v 2)] := by
  match j, hj with
  | 0, _ => simp [hf]
  | 1, _ => simp [hf]
  | 2, _ => simp [hf]
/-- Behind a sync, and the store of how much is sure. -/
theorem Ap.synced {w wr wk : World} {p q d : Nat} {V : Nat → Value} {A : Nat → List UInt8} {s : Nat → Nat} {i : Nat} {D : Dsk} (h : Ap w wr p q d V A s i D) {j : Nat} (hj : j < 3) (hs : Sx w wk (ApB p q V) d (D.set j ((D.f j).settle))) (k : Kept (Free w (ApB p q V)) wr wk) :
    Ap w (wk.setCell ⟨q, j, none⟩ (.int .i64 ((A j).length : Int))) p q d V A (fun x => if x = j then (A j).length else s x) (i + 1) (D.set j ((D.f j).settle)) := by
  obtain ⟨bp, bq, ho⟩ := h.side k
  have kq := Kept.one wk q j (.int .i64 ((A j).length : Int))
  have hb := bq.set j (.int .i64 ((A j).length : Int))
  rw [three_set s (A j).length (fun x => .int .i64 (s x : Int)) hj (fun n : Nat => .int .i64 (n : Int)) (fun _ => rfl)] at hb
  refine ⟨hs.rows (kq.mono (fun g _ e => .inr (.inl e))) (hs.kept.then kq (fun g hg e => by have := h.lq; have e : g = q := e; omega)) (fun g hg => ⟨.inl hg, ?_⟩), bp.kept kq (fun e => h.pq e), hb, h.lp, h.lq, fun x hx => (ho x hx).kept kq (fun g hg e => by obtain rfl : g = q := e; exact row_blk (ho x hx) bq (by decide) hg), h.room, h.ahead, fun x hx => ?_⟩
  · exact Nat.lt_of_lt_of_le (hs.bl g hg) kq.size
  · have hf := h.f x hx
    simp only [Dsk.set]
    by_cases e : x = j
    · subst e
      rw [if_pos rfl, if_pos rfl]
      exact ⟨hf.1, by rw [← hf.1]; rfl, Fl.ok_nil _, by simp [Fl.settle], by omega⟩
    · rw [if_neg e, if_neg e]
      exact ⟨hf.1, hf.2.1, hf.2.2.1, by omega, by omega⟩
/-- Behind an append, and the store of what there is now. -/
theorem Ap.added {w wr wk W : World} {p q d : Nat} {V : Nat → Value} {A : Nat → List UInt8} {s : Nat → Nat} {i : Nat} {D : Dsk} (h : Ap w wr p q d V A s i D) {j : Nat} (hj : j < 3) (x : List UInt8) (hx : x.length ≤ 20) (hs : Sx w wk (ApB p q V) d (D.set j ((D.f j).add x))) (k : Kept (Free w (ApB p q V)) wr wk)
    (k2 : Kept None wk W) {u : Value} (hu : Ob W wk.heap.size u (A j ++ x)) :
    Ap w (W.setCell ⟨p, j, none⟩ u) p q d (fun y => if y = j then u else V y) (fun y => if y = j then A j ++ x else A y) s (i + 1) (D.set j ((D.f j).add x)) := by
  obtain ⟨bp, bq, ho⟩ := h.side k
  have kp := Kept.one W p j u
  have hb := (bp.kept k2 (fun h => h)).set j u
  rw [three_set V u V hj (fun v : Value => v) (fun _ => rfl)] at hb
  have hsz := hs.kept.size
  have hup : ∀ g, u.ownBlock = some g → wk.heap.size ≤ g ∧ g < W.heap.size := fun g hg => hu.own g hg
  have kB : Kept (ApB p q V) wk (W.setCell ⟨p, j, none⟩ u) := (k2.mono (fun _ _ h => h.elim)).then kp (fun g _ e => .inl e)
  refine ⟨hs.rows kB ((hs.kept.trans k2).then kp (fun g hg e => by have := h.lp; have e : g = p := e; omega)) (fun g hg => ?_), hb, (bq.kept k2 (fun h => h)).kept kp (fun e => h.pq e.symm), h.lp, h.lq, fun y hy => ?_, h.room, h.ahead, fun y hy => ?_⟩
  · have old : ∀ g, ApB p q V g → (ApB p q V g ∨ wk.heap.size ≤ g) ∧ g < (W.setCell ⟨p, j, none⟩ u).heap.size := fun g hg => ⟨.inl hg, Nat.lt_of_lt_of_le (hs.bl g hg) kB.size⟩
    rcases hg with e | e | ⟨y, hy, e⟩
    · exact old g (.inl e)
    · exact old g (.inr (.inl e))
    · by_cases ey : y = j
      · simp only [if_pos ey] at e
        have := hup g e
        exact ⟨.inr this.1, by simpa using this.2⟩
      · simp only [if_neg ey] at e
        exact old g (.inr (.inr ⟨y, hy, e⟩))
  · by_cases e : y = j
    · subst e
      simp only [if_true]
      exact (hu.kept kp (fun g hg e => by obtain rfl : g = p := e; exact row_blk hu (bp.kept k2 (fun h => h)) (by decide) hg)).base (Nat.le_trans hsz (Nat.le_refl _))
    · simp only [if_neg e]
      have hy2 := (ho y hy).kept k2 (fun _ _ h => h)
      exact hy2.kept kp (fun g hg e => by obtain rfl : g = p := e; exact row_blk hy2 (bp.kept k2 (fun h => h)) (by decide) hg)
  · have hf := h.f y hy
    simp only [Dsk.set]
    by_cases e : y = j
    · subst e
      rw [if_pos rfl, if_pos rfl]
      exact ⟨by rw [← hf.1]; rfl, by rw [Fl.sure_add]; exact hf.2.1, Fl.ok_add hf.2.2.1 x, by have := hf.2.2.2.1; simp [Fl.add]; omega, by simp; omega⟩
    · rw [if_neg e, if_neg e]
      exact ⟨hf.1, hf.2.1, hf.2.2.1, by omega, by omega⟩
theorem Ap.start {w w2 : World} {d : Nat} (h : Sx w w2 None d (d1 0 ⟨[], []⟩ 1048576 (-1))) :
    Ap w ((w2.alloc (.cells #[.slice none 0 0, .slice none 0 0, .slice none 0 0] 39)).alloc (.cells #[.int .i64 0, .int .i64 0, .int .i64 0] 40)) w2.heap.size (w2.heap.size + 1) d (fun _ => .slice none 0 0) (fun _ => []) (fun _ => 0) 0 (d1 0 ⟨[], []⟩ 1048576 (-1)) := by
  have k : Kept None w2 ((w2.alloc (.cells #[.slice none 0 0, .slice none 0 0, .slice none 0 0] 39)).alloc (.cells #[.int .i64 0, .int .i64 0, .int .i64 0] 40)) := ((Kept.refl _ _).alloc _).alloc _
  have hz := h.kept.size
  refine ⟨h.rows k (h.kept.trans k) (fun g hg => ?_), (Blk.new w2 _ _).alloc _, Blk.new2 w2 _ _ _, hz, by omega, fun j _ => Bo.nil _ _ _, rfl, rfl, fun j hj => ?_⟩
  · rcases hg with e | e | ⟨j, _, e⟩
    · exact ⟨.inr (by omega), by simp; omega⟩
    · exact ⟨.inr (by omega), by simp; omega⟩
    · cases e
  · have e : (d1 0 ⟨[], []⟩ 1048576 (-1)).f j = ⟨[], []⟩ := by simp [d1]
    rw [e]
    exact ⟨rfl, rfl, Fl.ok_nil _, by simp, by simp⟩
theorem Ap.doSync {w wr : World} {p q d : Nat} {V : Nat → Value} {A : Nat → List UInt8} {s : Nat → Nat} {i : Nat} {D : Dsk} (h : Ap w wr p q d V A s i D) {j : Nat} (hj : j < 3) (hi : i ≤ 21) :
    Calls Try.prog 11 #[.pointer (some ⟨d, 0, none⟩), .int .i64 (j : Int)] wr fun e wk => e = .returned (.int .i64 0) ∧ Sx w wk (ApB p q V) d (D.set j ((D.f j).settle)) ∧ Kept (Free w (ApB p q V)) wr wk := by
  have hf : D.fl = false := by simp [Dsk.fl, h.ahead]
  have hw : D.wr = D := by unfold Dsk.wr; rw [if_pos h.ahead, ← h.ahead]
  refine (sx_sync h.sx (h.ok hi) hj).mono ?_
  rintro e wk ⟨rfl, s1, k⟩
  rw [show Dsk.syncE D = 0 by simp [Dsk.syncE, hf]]
  rw [show Dsk.syncD D j = D.set j ((D.f j).settle) by simp [Dsk.syncD, hf, hw]] at s1
  exact ⟨rfl, s1, k⟩
theorem Ap.doAppend {w wr : World} {p q d lo hi' : Nat} {V : Nat → Value} {A : Nat → List UInt8} {s : Nat → Nat} {i : Nat} {D : Dsk} (h : Ap w wr p q d V A s i D) {j : Nat} (hj : j < 3) (hi : i ≤ 21) {u : Value} {x : List UInt8} (hu : Bs wr lo hi' u x) (hh : hi' ≤ w.heap.size) (hx : x.length ≤ 20) :
    Calls Try.prog 10 #[.pointer (some ⟨d, 0, none⟩), .int .i64 (j : Int), u] wr fun e wk => e = .returned (.int .i64 0) ∧ Sx w wk (ApB p q V) d (D.set j ((D.f j).add x)) ∧ Kept (Free w (ApB p q V)) wr wk := by
  have hf : D.fl = false := by simp [Dsk.fl, h.ahead]
  have hw : D.wr = D := by unfold Dsk.wr; rw [if_pos h.ahead, ← h.ahead]
  have hr : ¬ D.room < D.used + x.length := by
    have h0 := h.f 0 (by decide)
    have h1 := h.f 1 (by decide)
    have h2 := h.f 2 (by decide)
    rw [h.room]
    unfold Dsk.used
    rw [h0.1, h1.1, h2.1]
    omega
  refine (sx_app_old h.sx (h.ok hi) hj hu hh (by omega)).mono ?_
  rintro e wk ⟨rfl, s1, k⟩
  rw [show Dsk.appE D x.length = 0 by simp only [Dsk.appE, hf, if_neg hr]; rfl]
  rw [show Dsk.appD D j x = D.set j ((D.f j).add x) by simp only [Dsk.appD, hf, if_neg hr, hw]; rfl] at s1
  exact ⟨rfl, s1, k⟩
end K12
end Go.Proofs.Ytdcpacfhifofdaa
