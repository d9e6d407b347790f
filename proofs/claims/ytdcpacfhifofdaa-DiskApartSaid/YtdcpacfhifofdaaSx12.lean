/- A disk that a law has made: apart from what was there, and from rows of its own. -/
import Derived.Test.YtdcpacfhifofdaaDskD12
namespace Go.Proofs.Ytdcpacfhifofdaa
open Go.RowKit Go.Pm
namespace Dk
/-- Since w nothing that was there has turned; the disk's blocks are new, and none of them is one of B. -/
structure Sx (w wi : World) (B : Nat → Prop) (d : Nat) (D : Dsk) : Prop where
  ex : ∃ X, DAt wi X d D ∧ ∀ k, X k → w.heap.size ≤ k ∧ ¬ B k
  kept : Kept None w wi
  bl : ∀ k, B k → k < wi.heap.size
/-- What a call on the disk may turn. -/
abbrev Free (w : World) (B : Nat → Prop) : Nat → Prop := fun k => w.heap.size ≤ k ∧ ¬ B k
theorem Sx.of {w wi : World} {B : Nat → Prop} {d : Nat} {D D' : Dsk} (h : Sx w wi B d D) {P : Program} {f : FuncId} {args : Array Value} {Q : Ending → Prop} (hc : ∀ X, DAt wi X d D → (∀ k, X k → w.heap.size ≤ k ∧ ¬ B k) → Calls P f args wi fun e wj => Q e ∧ Next wi wj X d D') :
    Calls P f args wi fun e wj => Q e ∧ Sx w wj B d D' ∧ Kept (Free w B) wi wj := by
  obtain ⟨X, hX, hx⟩ := h.ex
  refine (hc X hX hx).mono ?_
  rintro e wj ⟨hq, hk, X', hx', hD⟩
  refine ⟨hq, ⟨⟨X', hD, fun k hk' => ?_⟩, h.kept.then hk (fun i hi h' => by have := (hx i h').1; omega), fun k hb => Nat.lt_of_lt_of_le (h.bl k hb) hk.size⟩, hk.mono (fun k _ h' => hx k h')⟩
  rcases hx' k hk' with h1 | h1
  · exact hx k h1
  · exact ⟨Nat.le_trans h.kept.size h1, fun hb => by have := h.bl k hb; omega⟩
theorem Sx.keptN {w wi wj : World} {B : Nat → Prop} {d : Nat} {D : Dsk} (h : Sx w wi B d D) (k : Kept None wi wj) : Sx w wj B d D := by
  obtain ⟨X, hX, hx⟩ := h.ex
  exact ⟨⟨X, hX.keptN k, hx⟩, h.kept.trans k, fun q hb => Nat.lt_of_lt_of_le (h.bl q hb) k.size⟩
/-- Other rows in the place of B: such as lie in B, or are new. -/
theorem Sx.rows {w wi : World} {B B' : Nat → Prop} {d : Nat} {D : Dsk} (h : Sx w wi B d D) {wj : World} (k : Kept B wi wj) (hk : Kept None w wj) (hb : ∀ q, B' q → (B q ∨ wi.heap.size ≤ q) ∧ q < wj.heap.size) : Sx w wj B' d D := by
  obtain ⟨X, hX, hx⟩ := h.ex
  refine ⟨⟨X, hX.kept k (fun q hq hb' => (hx q hq).2 hb'), fun q hq => ⟨(hx q hq).1, fun hb' => ?_⟩⟩, hk, fun q hq => (hb q hq).2⟩
  rcases (hb q hb').1 with h1 | h1
  · exact (hx q hq).2 h1
  · obtain ⟨Y, cs, hY⟩ := hX
    have := hY.lt q hq
    omega
theorem Sx.congr {w wi : World} {B : Nat → Prop} {d : Nat} {D D' : Dsk} (h : Sx w wi B d D) (hf : ∀ i, i < 3 → D.f i = D'.f i) (hr : D.room = D'.room) (ha : D.ahead = D'.ahead) : Sx w wi B d D' := by
  obtain ⟨X, hX, hx⟩ := h.ex
  exact ⟨⟨X, hX.congr hf hr ha, hx⟩, h.kept, h.bl⟩
/-- A disk of three files. -/
def dk (a b c : Fl) (r n : Int) : Dsk := ⟨fun i => if i = 0 then a else if i = 1 then b else c, r, n⟩
theorem dk_ok {a b c : Fl} {r n : Int} (ha : a.Ok ∧ a.t.length ≤ 1099511627776 ∧ a.b.length ≤ 1048576) (hb : b.Ok ∧ b.t.length ≤ 1099511627776 ∧ b.b.length ≤ 1048576) (hc : c.Ok ∧ c.t.length ≤ 1099511627776 ∧ c.b.length ≤ 1048576) (hr : 0 ≤ r ∧ r ≤ 9223372036854775807) (hn : -1 ≤ n ∧ n ≤ 9223372036854775807) : (dk a b c r n).Ok :=
  ⟨fun i hi => match i, hi with
    | 0, _ => ha
    | 1, _ => hb
    | 2, _ => hc, hr, hn⟩
/-- A disk of which file j alone has anything. -/
def d1 (j : Nat) (F : Fl) (r n : Int) : Dsk := ⟨fun i => if i = j then F else ⟨[], []⟩, r, n⟩
theorem d1_ok {j : Nat} {F : Fl} {r n : Int} (hF : F.Ok) (h1 : F.t.length ≤ 1099511627776) (h2 : F.b.length ≤ 1048576) (hr : 0 ≤ r ∧ r ≤ 9223372036854775807) (hn : -1 ≤ n ∧ n ≤ 9223372036854775807) : (d1 j F r n).Ok :=
  ⟨fun i _ => by
    simp only [d1]
    split
    · exact ⟨hF, h1, h2⟩
    · exact ⟨Fl.ok_nil _, by decide, by decide⟩, hr, hn⟩
theorem d1_used {j : Nat} (hj : j < 3) (F : Fl) (r n : Int) : (d1 j F r n).used = F.t.length := by
  match j, hj with
  | 0, _ => rfl
  | 1, _ => simp [Dsk.used, d1]
  | 2, _ => simp [Dsk.used, d1]
theorem d1_app {j : Nat} (hj : j < 3) {F : Fl} {r : Int} {x : List UInt8} (h : F.t.length + x.length ≤ r) : Dsk.appE (d1 j F r (-1)) x.length = 0 ∧ Dsk.appD (d1 j F r (-1)) j x = d1 j (F.add x) r (-1) := by
  have hu := d1_used hj F r (-1)
  have h1 : ¬ (d1 j F r (-1)).room < (d1 j F r (-1)).used + x.length := by rw [hu]; simp only [d1]; omega
  have h2 : (d1 j F r (-1)).fl = false := rfl
  refine ⟨by simp only [Dsk.appE, h2, if_neg h1]; rfl, ?_⟩
  simp only [Dsk.appD, h2, if_neg h1, Bool.false_eq_true, if_false]
  simp only [Dsk.set, Dsk.wr, d1, if_true]
  congr 1
  funext i
  split <;> rfl
theorem d1_sync {j : Nat} {F : Fl} {r : Int} : Dsk.syncE (d1 j F r (-1)) = 0 ∧ Dsk.syncD (d1 j F r (-1)) j = d1 j F.settle r (-1) := by
  refine ⟨rfl, ?_⟩
  simp only [Dsk.syncD, show (d1 j F r (-1)).fl = false from rfl, Bool.false_eq_true, if_false]
  simp only [Dsk.set, Dsk.wr, d1, if_true]
  congr 1
  funext i
  split <;> rfl
theorem d1_crash {j : Nat} {F : Fl} {r n : Int} (m : Nat) (torn : Int) : Dsk.crashD (d1 j F r n) m torn = d1 j (F.crash m torn) r (-1) := by
  simp only [Dsk.crashD, d1]
  congr 1
  funext i
  split
  · rfl
  · exact Fl.crash_settled _ _ _
theorem d1_f (j : Nat) (F : Fl) (r n : Int) : (d1 j F r n).f j = F := by simp [d1]
/-- New. -/
theorem sx_new (r : Int) (w wi : World) (B : Nat → Prop) (hk : Kept None w wi) (hb : ∀ k, B k → k < wi.heap.size) (h0 : 0 ≤ r) (j : Nat) :
    Calls Try.prog 9 #[.int .i64 r] wi fun e w' => ∃ d, e = .returned (.pointer (some ⟨d, 0, none⟩)) ∧ Sx w w' B d (d1 j ⟨[], []⟩ r (-1)) ∧ Kept None wi w' := by
  refine (new r wi).mono ?_
  rintro e w' ⟨d, rfl, k1, hD, hd⟩
  refine ⟨d, rfl, ⟨⟨_, hD.congr (fun i _ => ?_) (by show max r 0 = r; omega) rfl, fun k e => ?_⟩, hk.trans k1, fun k h => Nat.lt_of_lt_of_le (hb k h) k1.size⟩, k1⟩
  · simp only [d1]
    split <;> rfl
  · obtain rfl : k = d := e
    exact ⟨Nat.le_trans hk.size hd, fun h => by have := hb k h; omega⟩
theorem DAt.lt {w : World} {X : Nat → Prop} {d : Nat} {D : Dsk} (h : DAt w X d D) : ∀ k, X k → k < w.heap.size := by
  obtain ⟨Y, cs, h⟩ := h
  exact h.lt
/-- Append of bytes that lie in new blocks. -/
theorem sx_app_new {w wi wj : World} {d i lo hi' : Nat} {u : Value} {x : List UInt8} {D : Dsk} (h : Sx w wi None d D) (hok : D.Ok) (hi : i < 3) (k : Kept None wi wj) (hu : Bs wj lo hi' u x) (hlo : wi.heap.size ≤ lo) (hx : x.length ≤ 1099511627776) :
    Calls Try.prog 10 #[.pointer (some ⟨d, 0, none⟩), .int .i64 (i : Int), u] wj fun e wk => e = .returned (.int .i64 (Dsk.appE D x.length)) ∧ Sx w wk None d (Dsk.appD D i x) := by
  have h2 : Sx w wj (fun q => wi.heap.size ≤ q ∧ q < wj.heap.size) d D := h.rows k (h.kept.trans k) (fun q hq => ⟨.inr hq.1, hq.2⟩)
  refine (h2.of (fun X hX hx' => append X d i lo hi' u x D wj hi hX hok hu hx (fun q q1 q2 hq => (hx' q hq).2 ⟨Nat.le_trans hlo q1, hX.lt q hq⟩))).mono ?_
  rintro e wk ⟨rfl, h3, _⟩
  exact ⟨rfl, h3.rows (wj := wk) (Kept.refl _ _) h3.kept (fun q hq => hq.elim)⟩
/-- Append of bytes that were there ahead. -/
theorem sx_app_old {w wi : World} {B : Nat → Prop} {d i lo hi' : Nat} {u : Value} {x : List UInt8} {D : Dsk} (h : Sx w wi B d D) (hok : D.Ok) (hi : i < 3) (hu : Bs wi lo hi' u x) (hh : hi' ≤ w.heap.size) (hx : x.length ≤ 1099511627776) :
    Calls Try.prog 10 #[.pointer (some ⟨d, 0, none⟩), .int .i64 (i : Int), u] wi fun e wk => e = .returned (.int .i64 (Dsk.appE D x.length)) ∧ Sx w wk B d (Dsk.appD D i x) ∧ Kept (Free w B) wi wk :=
  h.of (fun X hX hx' => append X d i lo hi' u x D wi hi hX hok hu hx (fun q _ q2 hq => by have := (hx' q hq).1; omega))
theorem sx_sync {w wi : World} {B : Nat → Prop} {d i : Nat} {D : Dsk} (h : Sx w wi B d D) (hok : D.Ok) (hi : i < 3) :
    Calls Try.prog 11 #[.pointer (some ⟨d, 0, none⟩), .int .i64 (i : Int)] wi fun e wk => e = .returned (.int .i64 (Dsk.syncE D)) ∧ Sx w wk B d (Dsk.syncD D i) ∧ Kept (Free w B) wi wk :=
  h.of (fun X hX _ => sync X d i D wi hi hX hok)
theorem sx_cut {w wi : World} {B : Nat → Prop} {d i : Nat} {n : Int} {D : Dsk} (h : Sx w wi B d D) (hok : D.Ok) (hi : i < 3) :
    Calls Try.prog 16 #[.pointer (some ⟨d, 0, none⟩), .int .i64 (i : Int), .int .i64 n] wi fun e wk => e = .returned (.int .i64 (Dsk.cutE D i n)) ∧ Sx w wk B d (Dsk.cutD D i n) ∧ Kept (Free w B) wi wk :=
  h.of (fun X hX _ => dcutx X d i n D wi hi hX hok)
theorem sx_crash {w wi : World} {B : Nat → Prop} {d m : Nat} {torn : Int} {D : Dsk} (h : Sx w wi B d D) (hok : D.Ok) (hm : m < 18446744073709551616) (ht0 : -9223372036854775808 ≤ torn) (ht1 : torn ≤ 9223372036854775807) :
    Calls Try.prog 14 #[.pointer (some ⟨d, 0, none⟩), .int .u64 (m : Int), .int .i64 torn] wi fun e wk => e = .returned (.tuple #[]) ∧ Sx w wk B d (Dsk.crashD D m torn) ∧ Kept (Free w B) wi wk :=
  h.of (fun X hX _ => dcrashx X d m torn D wi hX (fun i hi => (hok.f i hi).1) hm ht0 ht1)
theorem sx_fail {w wi : World} {B : Nat → Prop} {d : Nat} {n : Int} {D : Dsk} (h : Sx w wi B d D) :
    Calls Try.prog 15 #[.pointer (some ⟨d, 0, none⟩), .int .i64 n] wi fun e wk => e = .returned (.tuple #[]) ∧ Sx w wk B d (Dsk.failD D n) ∧ Kept (Free w B) wi wk :=
  h.of (fun X hX _ => (dfail X d n D wi hX).mono (fun _ _ ⟨h1, h2, h3⟩ => ⟨h1, Next.one h2 h3⟩))
theorem sx_read {w wi : World} {B : Nat → Prop} {d i : Nat} {D : Dsk} (h : Sx w wi B d D) (hok : D.Ok) (hi : i < 3) {l : List UInt8} (hl : (D.f i).t = l) :
    Calls Try.prog 12 #[.pointer (some ⟨d, 0, none⟩), .int .i64 (i : Int)] wi fun e wk => ∃ v, e = .returned v ∧ Kept None wi wk ∧ Ob wk wi.heap.size v l := by
  obtain ⟨X, hX, _⟩ := h.ex
  subst hl
  exact read X d i D wi hi hX hok
theorem sx_sure {w wi : World} {B : Nat → Prop} {d i : Nat} {D : Dsk} (h : Sx w wi B d D) (hi : i < 3) {n : Nat} (hn : (D.f i).sure = n) :
    Calls Try.prog 13 #[.pointer (some ⟨d, 0, none⟩), .int .i64 (i : Int)] wi fun e wk => e = .returned (.int .i64 (n : Int)) ∧ wi = wk := by
  obtain ⟨X, hX, _⟩ := h.ex
  subst hn
  exact sure X d i D wi hi hX
/-- Append of a constant's bytes. -/
theorem app_lit {w wi : World} {d : Nat} {D D' : Dsk} {E : Int} (h : Sx w wi None d D) (hok : D.Ok) (i : Nat) (hi : i < 3) (C : Array Value) (l : List UInt8) (hC : C.toList = l.map u8v) (n : Nat) (hn : C.size = n) (hx : n ≤ 1099511627776) (fr : Nat × Nat) (hE : Dsk.appE D l.length = E) (hD : Dsk.appD D i l = D') :
    Calls Try.prog 10 #[.pointer (some ⟨d, 0, none⟩), .int .i64 (i : Int), .slice (some ⟨wi.heap.size, 0, none⟩) n n] (wi.alloc (.cells C 5 fr)) fun e wk => e = .returned (.int .i64 E) ∧ Sx w wk None d D' := by
  subst hE hD
  have hl : l.length = n := by
    have := congrArg List.length hC
    simpa [hn] using this.symm
  exact sx_app_new h hok hi ((Kept.refl _ _).alloc _) (Bs.newMark wi C 5 fr n hn (by omega) l hC) (Nat.le_refl _) (by omega)
theorem drop_kept {w wi wk : World} {B : Nat → Prop} {d : Nat} {D D' : Dsk} {E E' : Int} {e : Ending} (hD : D = D') (hE : E = E') (h : e = .returned (.int .i64 E) ∧ Sx w wk B d D ∧ Kept (Free w B) wi wk) : e = .returned (.int .i64 E') ∧ Sx w wk B d D' := by
  subst hD hE
  exact ⟨h.1, h.2.1⟩
/-! ### Where one write may fail. -/
def nx (n : Int) : Int := if n = -1 then -1 else n - 1
theorem d1_set {j : Nat} {F G : Fl} {r n : Int} : (Dsk.wr (d1 j F r n)).set j G = d1 j G r (nx n) := by
  simp only [Dsk.set, Dsk.wr, d1, nx]
  congr 1
  funext i
  split <;> rfl
theorem d1_wr {j : Nat} {F : Fl} {r n : Int} : Dsk.wr (d1 j F r n) = d1 j F r (nx n) := rfl
theorem d1_fl {j : Nat} {F : Fl} {r n : Int} (h : n ≠ 0) : (d1 j F r n).fl = false := decide_eq_false h
theorem d1_app' {j : Nat} (hj : j < 3) {F : Fl} {r n : Int} {x : List UInt8} (h : F.t.length + x.length ≤ r) (hn : n ≠ 0) : Dsk.appE (d1 j F r n) x.length = 0 ∧ Dsk.appD (d1 j F r n) j x = d1 j (F.add x) r (nx n) := by
  have hu := d1_used hj F r n
  have h1 : ¬ (d1 j F r n).room < (d1 j F r n).used + x.length := by rw [hu]; simp only [d1]; omega
  have h2 := d1_fl (j := j) (F := F) (r := r) hn
  refine ⟨by simp only [Dsk.appE, h2, if_neg h1]; rfl, ?_⟩
  simp only [Dsk.appD, h2, if_neg h1, Bool.false_eq_true, if_false]
  rw [d1_f, d1_set]
theorem d1_sync' {j : Nat} {F : Fl} {r n : Int} (hn : n ≠ 0) : Dsk.syncE (d1 j F r n) = 0 ∧ Dsk.syncD (d1 j F r n) j = d1 j F.settle r (nx n) := by
  have h2 := d1_fl (j := j) (F := F) (r := r) hn
  refine ⟨by simp [Dsk.syncE, h2], ?_⟩
  simp only [Dsk.syncD, h2, Bool.false_eq_true, if_false]
  rw [d1_f, d1_set]
theorem d1_cut' {j : Nat} {F : Fl} {r n : Int} {m : Nat} (hn : n ≠ 0) (hm : m ≤ F.t.length) : Dsk.cutE (d1 j F r n) j (m : Int) = 0 ∧ Dsk.cutD (d1 j F r n) j (m : Int) = d1 j (F.cut m) r (nx n) := by
  have h2 := d1_fl (j := j) (F := F) (r := r) hn
  have h3 : ¬ ((m : Int) < 0 ∨ (((d1 j F r n).f j).t.length : Int) < (m : Int)) := by rw [d1_f]; omega
  refine ⟨by simp only [Dsk.cutE, h2, if_neg h3]; rfl, ?_⟩
  simp only [Dsk.cutD, h2, if_neg h3, Bool.false_eq_true, if_false, Int.toNat_natCast]
  rw [d1_f, d1_set]
theorem d1_appF {j : Nat} {F : Fl} {r : Int} {x : List UInt8} : Dsk.appE (d1 j F r 0) x.length = 32 ∧ Dsk.appD (d1 j F r 0) j x = d1 j F r (-1) := ⟨rfl, rfl⟩
theorem d1_syncF {j : Nat} {F : Fl} {r : Int} : Dsk.syncE (d1 j F r 0) = 32 ∧ Dsk.syncD (d1 j F r 0) j = d1 j F r (-1) := ⟨rfl, rfl⟩
theorem d1_cutF {j : Nat} {F : Fl} {r : Int} {m : Nat} (hm : m ≤ F.t.length) : Dsk.cutE (d1 j F r 0) j (m : Int) = 32 ∧ Dsk.cutD (d1 j F r 0) j (m : Int) = d1 j F r (-1) := by
  have h3 : ¬ ((m : Int) < 0 ∨ (((d1 j F r 0).f j).t.length : Int) < (m : Int)) := by rw [d1_f]; omega
  exact ⟨by simp only [Dsk.cutE, if_neg h3]; rfl, by simp only [Dsk.cutD, if_neg h3]; rfl⟩
end Dk
end Go.Proofs.Ytdcpacfhifofdaa
