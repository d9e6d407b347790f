/- Package disk, the disk: each function by its contract. -/
import Derived.Test.YtdcpacfhifofdaaDskF12
namespace Go.Pm
open Go Go.RowKit
/-- A disk: its files, its room, how many writes come ahead of the one that fails (or -1). -/
structure Dsk where
  f : Nat → Fl
  room : Int
  ahead : Int
def Dsk.set (D : Dsk) (i : Nat) (F : Fl) : Dsk := ⟨fun j => if j = i then F else D.f j, D.room, D.ahead⟩
def Dsk.fl (D : Dsk) : Bool := decide (D.ahead = 0)
/-- A write counted. -/
def Dsk.wr (D : Dsk) : Dsk := ⟨D.f, D.room, if D.ahead = -1 then -1 else D.ahead - 1⟩
def Dsk.used (D : Dsk) : Nat := (D.f 0).t.length + (D.f 1).t.length + (D.f 2).t.length
structure Dsk.Ok (D : Dsk) : Prop where
  f : ∀ i, i < 3 → (D.f i).Ok ∧ (D.f i).t.length ≤ 1099511627776 ∧ (D.f i).b.length ≤ 1048576
  room : 0 ≤ D.room ∧ D.room ≤ 9223372036854775807
  ahead : -1 ≤ D.ahead ∧ D.ahead ≤ 9223372036854775807
end Go.Pm
namespace Go.Proofs.Ytdcpacfhifofdaa
open Go.RowKit Go.Pm
namespace Dk
/-- The disk at block d: its files' blocks lie in Y, all in X. -/
structure At (w : World) (X : Nat → Prop) (Y : Nat → Nat → Prop) (d : Nat) (cs : Array Value) (D : Dsk) : Prop where
  blk : Blk w d cs 47
  size : cs.size = 8
  room : cs[6]? = some (.int .i64 D.room)
  ahead : cs[7]? = some (.int .i64 D.ahead)
  fl : ∀ i, i < 3 → ∃ tv bv, cs[i * 2]? = some tv ∧ cs[i * 2 + 1]? = some bv ∧ FlAt w (Y i) tv bv (D.f i)
  dis : ∀ i j k, i < 3 → j < 3 → i ≠ j → Y i k → ¬ Y j k
  yx : ∀ i k, i < 3 → Y i k → X k ∧ k ≠ d
  xd : X d
  lt : ∀ k, X k → k < w.heap.size
def DAt (w : World) (X : Nat → Prop) (d : Nat) (D : Dsk) : Prop := ∃ Y cs, At w X Y d cs D
theorem At.kept {S : Nat → Prop} {w w' : World} {X : Nat → Prop} {Y : Nat → Nat → Prop} {d : Nat} {cs : Array Value} {D : Dsk} (h : At w X Y d cs D) (hk : Kept S w w') (hs : ∀ k, X k → ¬ S k) : At w' X Y d cs D :=
  ⟨h.blk.kept hk (hs d h.xd), h.size, h.room, h.ahead, fun i hi => by
    obtain ⟨tv, bv, h1, h2, h3⟩ := h.fl i hi
    exact ⟨tv, bv, h1, h2, h3.kept hk (fun k hy => hs k (h.yx i k hi hy).1)⟩, h.dis, h.yx, h.xd, fun k hx => Nat.lt_of_lt_of_le (h.lt k hx) hk.size⟩
theorem DAt.kept {S : Nat → Prop} {w w' : World} {X : Nat → Prop} {d : Nat} {D : Dsk} (h : DAt w X d D) (hk : Kept S w w') (hs : ∀ k, X k → ¬ S k) : DAt w' X d D := by
  obtain ⟨Y, cs, h⟩ := h
  exact ⟨Y, cs, h.kept hk hs⟩
theorem DAt.keptN {w w' : World} {X : Nat → Prop} {d : Nat} {D : Dsk} (h : DAt w X d D) (hk : Kept None w w') : DAt w' X d D := h.kept hk (fun _ _ h => h)

theorem there (i : Int) (w : World) : Calls Try.prog 17 #[.int .i64 i] w fun e w' => e = .returned (.bool (decide (0 ≤ i ∧ i < 3))) ∧ w = w' := by
  by_cases h0 : 0 ≤ i
  · have d0 : decide (0 ≤ i) = true := by simpa using h0
    by_cases h1 : i < 3
    · have d1 : decide (i < 3) = true := by simpa using h1
      have d2 : decide (0 ≤ i ∧ i < 3) = true := by simp [h0, h1]
      rw [d2]
      clear d2
      go_enter Try.func17, Try.ntmps17
      go_wp2
      go_ret
      exact ⟨rfl, rfl⟩
    · have d1 : decide (i < 3) = false := by simpa using h1
      have d2 : decide (0 ≤ i ∧ i < 3) = false := by simp [h1]
      rw [d2]
      clear d2
      go_enter Try.func17, Try.ntmps17
      go_wp2
      go_ret
      exact ⟨rfl, rfl⟩
  · have d0 : decide (0 ≤ i) = false := by simpa using h0
    have d2 : decide (0 ≤ i ∧ i < 3) = false := by simp [h0]
    rw [d2]
    clear d2
    go_enter Try.func17, Try.ntmps17
    go_wp2
    go_ret
    exact ⟨rfl, rfl⟩

/-- The disk's own numbers stored over. -/
theorem At.num {w w' : World} {X : Nat → Prop} {Y : Nat → Nat → Prop} {d : Nat} {cs : Array Value} {D : Dsk} (h : At w X Y d cs D) {a : Int} (hb : Blk w' d (cs.setIfInBounds 7 (.int .i64 a)) 47) (hk : Kept (Just d) w w') : At w' X Y d (cs.setIfInBounds 7 (.int .i64 a)) ⟨D.f, D.room, a⟩ := by
  have h7 : 7 < cs.size := by rw [h.size]; decide
  refine ⟨hb, by simpa using h.size, by rw [Array.getElem?_setIfInBounds_ne (by omega)]; exact h.room, by rw [Array.getElem?_setIfInBounds_self_of_lt h7], fun i hi => ?_, h.dis, h.yx, h.xd, fun k hx => Nat.lt_of_lt_of_le (h.lt k hx) hk.size⟩
  obtain ⟨tv, bv, h1, h2, h3⟩ := h.fl i hi
  exact ⟨tv, bv, by rw [Array.getElem?_setIfInBounds_ne (by omega)]; exact h1, by rw [Array.getElem?_setIfInBounds_ne (by omega)]; exact h2, h3.kept hk (fun k hy e => (h.yx i k hi hy).2 e)⟩

set_option maxHeartbeats 1000000 in
theorem fails (X : Nat → Prop) (d : Nat) (D : Dsk) (w : World) (hD : DAt w X d D) (hok : D.Ok) :
    Calls Try.prog 18 #[.pointer (some ⟨d, 0, none⟩)] w fun e w' => e = .returned (.bool D.fl) ∧ Kept (Just d) w w' ∧ DAt w' X d D.wr := by
  obtain ⟨Y, cs, h⟩ := hD
  have c7 := h.blk.cell 7
  rw [h.ahead] at c7
  have f7 := h.blk.free 7
  obtain ⟨a0, a1⟩ := hok.ahead
  by_cases hn : D.ahead = -1
  · have e1 : D.fl = false := by simp [Dsk.fl, hn]
    have e2 : D.wr = D := by simp [Dsk.wr, ← hn]
    rw [e1, e2]
    rw [hn] at c7
    have H := hid h
    clear e1 e2 hn a0 a1 h hok
    go_enter Try.func18, Try.ntmps18
    go_wp2
    go_ret
    exact ⟨rfl, Kept.refl _ _, Y, cs, H.out⟩
  · obtain ⟨A, hA⟩ : ∃ A, A = D.ahead := ⟨_, rfl⟩
    have e2 : D.wr = ⟨D.f, D.room, A - 1⟩ := by simp [Dsk.wr, hn, hA]
    have hb := h.blk.set 7 (.int .i64 (A - 1))
    have hk := Kept.one w d 7 (.int .i64 (A - 1))
    have hN := hid (h.num hb hk)
    have w1 : wrap64 (A - 1) = A - 1 := by unfold wrap64; omega
    have d1 : (A == -1) = false := by rw [hA]; simpa using hn
    rw [e2]
    have e1 : D.fl = (A - 1 == -1) := by
      rw [hA, Bool.eq_iff_iff]
      simp [Dsk.fl]
      omega
    rw [e1]
    rw [← hA] at c7
    have HK := hid hk
    clear e1 e2 hn a0 a1 h hok hb hk hA
    go_enter Try.func18, Try.ntmps18
    go_wp2
    go_ret
    exact ⟨rfl, HK.out, Y, _, hN.out⟩

theorem aggTy_of12 {P : Program} {t : TypeId} {n : Nat} (h : (P.underlying t).map aggD = some true) (h2 : (P.info? t).map (·.size) = some n) : AggTy P t n := by
  cases hu : P.underlying t with
  | none => rw [hu] at h; simp at h
  | some d => rw [hu] at h; exact ⟨⟨d, hu, by simpa using h⟩, h2⟩
theorem aFiles : AggTy Try.prog 45 6 := aggTy_of12 (by kernel_rfl) (by kernel_rfl)
theorem ix0 (a b c d e f : Value) : ∀ W, (Instr.index 45 (.agg #[a, b, c, d, e, f]) (.int .i64 0)).run Try.prog W = .ok (.agg #[a, b]) W := fun _ => by kernel_rfl
theorem ix1 (a b c d e f : Value) : ∀ W, (Instr.index 45 (.agg #[a, b, c, d, e, f]) (.int .i64 1)).run Try.prog W = .ok (.agg #[c, d]) W := fun _ => by kernel_rfl
theorem ix2 (a b c d e f : Value) : ∀ W, (Instr.index 45 (.agg #[a, b, c, d, e, f]) (.int .i64 2)).run Try.prog W = .ok (.agg #[e, f]) W := fun _ => by kernel_rfl
set_option maxHeartbeats 1000000 in
theorem free (X : Nat → Prop) (d : Nat) (D : Dsk) (w : World) (hD : DAt w X d D) (hok : D.Ok) :
    Calls Try.prog 19 #[.pointer (some ⟨d, 0, none⟩)] w fun e w' => e = .returned (.int .i64 (D.room - (D.used : Int))) ∧ Kept None w w' := by
  obtain ⟨Y, cs, h⟩ := hD
  have c6 := h.blk.cell 6
  rw [h.room] at c6
  obtain ⟨t0, b0, p0, q0, f0⟩ := h.fl 0 (by decide)
  obtain ⟨t1, b1, p1, q1, f1⟩ := h.fl 1 (by decide)
  obtain ⟨t2, b2, p2, q2, f2⟩ := h.fl 2 (by decide)
  obtain ⟨a0, k0, rfl⟩ := f0.t.form
  obtain ⟨a1, k1, rfl⟩ := f1.t.form
  obtain ⟨a2, k2, rfl⟩ := f2.t.form
  obtain ⟨g0, j0, rfl⟩ := f0.b.form
  obtain ⟨g1, j1, rfl⟩ := f1.b.form
  obtain ⟨g2, j2, rfl⟩ := f2.b.form
  have l0 := (hok.f 0 (by decide)).2.1
  have l1 := (hok.f 1 (by decide)).2.1
  have l2 := (hok.f 2 (by decide)).2.1
  obtain ⟨r0, r1⟩ := hok.room
  obtain ⟨m0, hm0⟩ : ∃ m, m = (D.f 0).b.length := ⟨_, rfl⟩
  obtain ⟨m1, hm1⟩ : ∃ m, m = (D.f 1).b.length := ⟨_, rfl⟩
  obtain ⟨m2, hm2⟩ : ∃ m, m = (D.f 2).b.length := ⟨_, rfl⟩
  rw [← hm0] at q0
  rw [← hm1] at q1
  rw [← hm2] at q2
  have hr : w.rangeAt d 0 [.slice a0 (D.f 0).t.length k0, .slice g0 m0 j0, .slice a1 (D.f 1).t.length k1, .slice g1 m1 j1, .slice a2 (D.f 2).t.length k2, .slice g2 m2 j2] := fun j v hj => by
    rw [Nat.zero_add, h.blk.cell]
    match j, hj with
    | 0, hj => rw [← hj]; exact p0
    | 1, hj => rw [← hj]; exact q0
    | 2, hj => rw [← hj]; exact p1
    | 3, hj => rw [← hj]; exact q1
    | 4, hj => rw [← hj]; exact p2
    | 5, hj => rw [← hj]; exact q2
    | j + 6, hj => simp at hj
  have hu : D.used = (D.f 0).t.length + (D.f 1).t.length + (D.f 2).t.length := rfl
  obtain ⟨R, hR⟩ : ∃ R, R = D.room := ⟨_, rfl⟩
  obtain ⟨n0, h0⟩ : ∃ n, n = (D.f 0).t.length := ⟨_, rfl⟩
  obtain ⟨n1, h1⟩ : ∃ n, n = (D.f 1).t.length := ⟨_, rfl⟩
  obtain ⟨n2, h2⟩ : ∃ n, n = (D.f 2).t.length := ⟨_, rfl⟩
  rw [← h0, ← h1, ← h2] at hu hr
  rw [← h0] at l0
  rw [← h1] at l1
  rw [← h2] at l2
  rw [← hR] at r0 r1 c6 ⊢
  rw [hu]
  obtain ⟨s0, e0⟩ : ∃ s, s = R - (n0 : Int) := ⟨_, rfl⟩
  obtain ⟨s1, e1⟩ : ∃ s, s = s0 - (n1 : Int) := ⟨_, rfl⟩
  obtain ⟨s2, e2⟩ : ∃ s, s = s1 - (n2 : Int) := ⟨_, rfl⟩
  have es : R - ((n0 + n1 + n2 : Nat) : Int) = s2 := by omega
  rw [es]
  have w0 : wrap64 (R - (n0 : Int)) = s0 := by rw [wrap_in _ (by omega) (by omega)]; exact e0.symm
  have w1 : wrap64 (s0 - (n1 : Int)) = s1 := by rw [wrap_in _ (by omega) (by omega)]; exact e1.symm
  have w2 : wrap64 (s1 - (n2 : Int)) = s2 := by rw [wrap_in _ (by omega) (by omega)]; exact e2.symm
  have i0 := ix0 (.slice a0 n0 k0) (.slice g0 m0 j0) (.slice a1 n1 k1) (.slice g1 m1 j1) (.slice a2 n2 k2) (.slice g2 m2 j2)
  have i1 := ix1 (.slice a0 n0 k0) (.slice g0 m0 j0) (.slice a1 n1 k1) (.slice g1 m1 j1) (.slice a2 n2 k2) (.slice g2 m2 j2)
  have i2 := ix2 (.slice a0 n0 k0) (.slice g0 m0 j0) (.slice a1 n1 k1) (.slice g1 m1 j1) (.slice a2 n2 k2) (.slice g2 m2 j2)
  clear hm0 hm1 hm2 es e0 e1 e2 l0 l1 l2 r0 r1 hu h0 h1 h2 hR p0 q0 p1 q1 p2 q2 f0 f1 f2 h hok
  go_enter Try.func19, Try.ntmps19
  go_wp2_with (first | (refine wpList_load_wr rfl rfl rfl hr aFiles ?_) | fail)
  refine wp_loop_rounds 4 ?_
  iterate 4 (rw [rounds_succ]; go_wp2)
  go_ret
  refine ⟨?_, (((Kept.refl None w).alloc _).alloc _).alloc _⟩
  show Ending.returned (.int .i64 (wrap64 (s1 - (n2 : Int)))) = _
  rw [w2]

/-- File i stored over. -/
theorem At.file {w w' : World} {X : Nat → Prop} {Y : Nat → Nat → Prop} {d i : Nat} {cs cs' : Array Value} {D : Dsk} (h : At w X Y d cs D) (hi : i < 3) {tv bv : Value} {F : Fl} (hb : Blk w' d cs' 47) (hk : Kept (fun k => k = d ∨ Y i k) w w')
    (hs : cs'.size = 8) (ht : cs'[i * 2]? = some tv) (hbv : cs'[i * 2 + 1]? = some bv) (ho : ∀ j, j ≠ i * 2 → j ≠ i * 2 + 1 → cs'[j]? = cs[j]?) (hF : FlAt w' (fun k => Y i k ∨ (w.heap.size ≤ k ∧ k < w'.heap.size)) tv bv F) :
    DAt w' (fun k => X k ∨ (w.heap.size ≤ k ∧ k < w'.heap.size)) d (D.set i F) := by
  refine ⟨fun j k => if j = i then Y i k ∨ (w.heap.size ≤ k ∧ k < w'.heap.size) else Y j k, cs', hb, hs, by rw [ho 6 (by omega) (by omega)]; exact h.room, by rw [ho 7 (by omega) (by omega)]; exact h.ahead, fun j hj => ?_, fun a b k ha hb' hne h1 h2 => ?_, fun j k hj hy => ?_, .inl h.xd, fun k hx => ?_⟩
  · by_cases e : j = i
    · subst e
      refine ⟨tv, bv, ht, hbv, ?_⟩
      simp only [Dsk.set, if_true]
      exact hF
    · obtain ⟨tj, bj, h1, h2, h3⟩ := h.fl j hj
      refine ⟨tj, bj, by rw [ho _ (by omega) (by omega)]; exact h1, by rw [ho _ (by omega) (by omega)]; exact h2, ?_⟩
      simp only [Dsk.set, if_neg e]
      refine h3.kept hk (fun k hy hk' => ?_)
      rcases hk' with rfl | hk'
      · exact (h.yx j _ hj hy).2 rfl
      · exact h.dis j i k hj hi e hy hk'
  · by_cases ea : a = i
    · by_cases eb : b = i
      · omega
      · rw [if_pos ea] at h1
        rw [if_neg eb] at h2
        rcases h1 with h1 | h1
        · exact h.dis i b k hi hb' (fun e => eb e.symm) h1 h2
        · have := h.lt k (h.yx b k hb' h2).1
          omega
    · by_cases eb : b = i
      · rw [if_neg ea] at h1
        rw [if_pos eb] at h2
        rcases h2 with h2 | h2
        · exact h.dis a i k ha hi ea h1 h2
        · have := h.lt k (h.yx a k ha h1).1
          omega
      · rw [if_neg ea] at h1
        rw [if_neg eb] at h2
        exact h.dis a b k ha hb' hne h1 h2
  · by_cases ej : j = i
    · rw [if_pos ej] at hy
      rcases hy with hy | hy
      · exact ⟨.inl (h.yx i k hi hy).1, (h.yx i k hi hy).2⟩
      · have := h.lt d h.xd
        exact ⟨.inr hy, by omega⟩
    · rw [if_neg ej] at hy
      exact ⟨.inl (h.yx j k hj hy).1, (h.yx j k hj hy).2⟩
  · rcases hx with hx | hx
    · exact Nat.lt_of_lt_of_le (h.lt k hx) hk.size
    · exact hx.2

def zf (R : Int) : Array Value := #[.slice none 0 0, .slice none 0 0, .slice none 0 0, .slice none 0 0, .slice none 0 0, .slice none 0 0, .int .i64 R, .int .i64 (-1)]
theorem new_at (R : Int) (w : World) : DAt (w.alloc (.cells (zf R) 47)) (fun k => k = w.heap.size) w.heap.size ⟨fun _ => ⟨[], []⟩, R, -1⟩ := by
  refine ⟨fun _ _ => False, zf R, Blk.new _ _ _, rfl, rfl, rfl, fun i hi => ⟨.slice none 0 0, .slice none 0 0, ?_, ?_, ⟨Bo.nil _ _ _, Io.nil _ _ _, (fun k h => by cases h), (fun k h => by cases h)⟩⟩, fun _ _ _ _ _ _ h => h.elim, fun _ _ _ h => h.elim, rfl, fun k hk => by rw [hk]; simp⟩
  · match i, hi with
    | 0, _ => rfl
    | 1, _ => rfl
    | 2, _ => rfl
  · match i, hi with
    | 0, _ => rfl
    | 1, _ => rfl
    | 2, _ => rfl
/-- New. -/
theorem new (r : Int) (w : World) :
    Calls Try.prog 9 #[.int .i64 r] w fun e w' => ∃ d, e = .returned (.pointer (some ⟨d, 0, none⟩)) ∧ Kept None w w' ∧ DAt w' (fun k => k = d) d ⟨fun _ => ⟨[], []⟩, max r 0, -1⟩ ∧ w.heap.size ≤ d := by
  go_enter Try.func9, Try.ntmps9
  go_wp2
  · have e : max r 0 = 0 := by omega
    go_ret
    rw [e]
    exact ⟨_, rfl, (Kept.refl _ _).alloc _, new_at 0 w, Nat.le_refl _⟩
  · have e : max r 0 = r := by omega
    go_ret
    rw [e]
    exact ⟨_, rfl, (Kept.refl _ _).alloc _, new_at r w, Nat.le_refl _⟩

theorem at_two {i : Nat} (h : i < 3) : decide (0 ≤ (i : Int) ∧ (i : Int) < 3) = true := by simp; omega
theorem nwr (D : Dsk) : D.wr.f = D.f ∧ D.wr.room = D.room := ⟨rfl, rfl⟩
theorem Dsk_ok_wr {D : Dsk} (h : D.Ok) : D.wr.Ok := ⟨h.f, h.room, by
  have := h.ahead
  simp only [Dsk.wr]
  split <;> omega⟩
/-- What a call leaves: all but the disk's blocks is as it was; the disk lies in its own blocks and new ones. -/
def Next (w w' : World) (X : Nat → Prop) (d : Nat) (D : Dsk) : Prop := Kept X w w' ∧ ∃ X', (∀ k, X' k → X k ∨ w.heap.size ≤ k) ∧ DAt w' X' d D
theorem DAt.xd {w : World} {X : Nat → Prop} {d : Nat} {D : Dsk} (h : DAt w X d D) : X d := by
  obtain ⟨Y, cs, h⟩ := h
  exact h.xd
theorem Next.same {w : World} {X : Nat → Prop} {d : Nat} {D : Dsk} (h : DAt w X d D) : Next w w X d D := ⟨Kept.refl _ _, X, fun _ h => .inl h, h⟩
theorem Next.one {w w' : World} {X : Nat → Prop} {d : Nat} {D : Dsk} (k : Kept (Just d) w w') (h : DAt w' X d D) : Next w w' X d D := ⟨k.mono (fun q _ e => by obtain rfl : q = d := e; exact h.xd), X, fun _ h => .inl h, h⟩
theorem Next.of {w w1 w' : World} {X : Nat → Prop} {d : Nat} {D1 D : Dsk} (k : Kept (Just d) w w1) (h : DAt w1 X d D1) (k2 : Kept X w1 w') (h2 : DAt w' (fun k => X k ∨ (w1.heap.size ≤ k ∧ k < w'.heap.size)) d D) : Next w w' X d D :=
  ⟨(k.mono (fun q _ e => by obtain rfl : q = d := e; exact h.xd)).trans k2, _, fun q hq => hq.elim .inl (fun hq => .inr (Nat.le_trans k.size hq.1)), h2⟩
theorem Next.trans {w w1 w' : World} {X : Nat → Prop} {d : Nat} {D1 D : Dsk} (h1 : Next w w1 X d D1) (h2 : ∀ X1, DAt w1 X1 d D1 → Next w1 w' X1 d D) : Next w w' X d D := by
  obtain ⟨k1, X1, x1, a1⟩ := h1
  obtain ⟨k2, X2, x2, a2⟩ := h2 X1 a1
  refine ⟨k1.then k2 (fun q hq h => ?_), X2, fun q h => ?_, a2⟩
  · rcases x1 q h with h | h
    · exact h
    · omega
  · rcases x2 q h with h | h
    · exact x1 q h
    · exact .inr (Nat.le_trans k1.size h)
theorem DAt.congr {w : World} {X : Nat → Prop} {d : Nat} {D D' : Dsk} (h : DAt w X d D) (hf : ∀ i, i < 3 → D.f i = D'.f i) (hr : D.room = D'.room) (ha : D.ahead = D'.ahead) : DAt w X d D' := by
  obtain ⟨Y, cs, h⟩ := h
  exact ⟨Y, cs, h.blk, h.size, hr ▸ h.room, ha ▸ h.ahead, fun i hi => hf i hi ▸ h.fl i hi, h.dis, h.yx, h.xd, h.lt⟩

/-! ### The files' calls, at the disk. -/
theorem dsettle (X : Nat → Prop) (d i : Nat) (D : Dsk) (w : World) (hi : i < 3) (hD : DAt w X d D) :
    Calls Try.prog 21 #[.pointer (some ⟨d, i * 2, none⟩)] w fun e w' => e = .returned (.tuple #[]) ∧ Kept X w w' ∧ DAt w' (fun k => X k ∨ (w.heap.size ≤ k ∧ k < w'.heap.size)) d (D.set i ((D.f i).settle)) := by
  obtain ⟨Y, cs, h⟩ := hD
  obtain ⟨tv, bv, h1, h2, h3⟩ := h.fl i hi
  have hs := h.size
  refine (settle d (i * 2) cs tv bv w h.blk h1 h2).mono ?_
  rintro e w' ⟨rfl, hb, hk⟩
  have hk' : Kept (fun k => k = d ∨ Y i k) w w' := hk.mono (fun q _ e => .inl e)
  refine ⟨rfl, hk.mono (fun q _ e => by obtain rfl : q = d := e; exact h.xd), h.file hi (tv := tv) (bv := .slice none 0 0) hb hk' (by simpa using hs) (by rw [Array.getElem?_setIfInBounds_ne (by omega)]; exact h1) (by rw [Array.getElem?_setIfInBounds_self_of_lt (by omega)]) (fun j _ j2 => by rw [Array.getElem?_setIfInBounds_ne (by omega)]) ⟨h3.t.kept hk (fun q hq e => (h.yx i q hi (h3.tx q hq)).2 e), Io.nil _ _ _, fun q hq => .inl (h3.tx q hq), fun q hq => by cases hq⟩⟩
theorem dadd (X : Nat → Prop) (d i lo hi' : Nat) (u : Value) (x : List UInt8) (D : Dsk) (w : World) (hi : i < 3) (hD : DAt w X d D) (hu : Bs w lo hi' u x) (hl : (D.f i).b.length ≤ 1048576) (hl2 : (D.f i).t.length + x.length ≤ 140737488355328) (hux : ∀ k, lo ≤ k → k < hi' → ¬ X k) :
    Calls Try.prog 20 #[.pointer (some ⟨d, i * 2, none⟩), u] w fun e w' => e = .returned (.tuple #[]) ∧ Kept X w w' ∧ DAt w' (fun k => X k ∨ (w.heap.size ≤ k ∧ k < w'.heap.size)) d (D.set i ((D.f i).add x)) := by
  obtain ⟨Y, cs, h⟩ := hD
  obtain ⟨tv, bv, h1, h2, h3⟩ := h.fl i hi
  have hs := h.size
  refine (add d (i * 2) lo hi' cs tv bv u x (Y i) (D.f i) w h.blk h1 h2 h3 hu hl hl2 (fun k hk => h.lt k (h.yx i k hi hk).1) (fun hk => (h.yx i d hi hk).2 rfl) (fun k k1 k2 => ⟨fun hk => hux k k1 k2 (h.yx i k hi hk).1, fun e => hux k k1 k2 (by rw [e]; exact h.xd)⟩)).mono ?_
  rintro e w' ⟨rfl, hk, tv', bv', hb, hF⟩
  refine ⟨rfl, hk.mono (fun q _ e => e.elim (fun e => by rw [e]; exact h.xd) (fun e => (h.yx i q hi e).1)), h.file hi hb hk (by simpa using hs) (by rw [Array.getElem?_setIfInBounds_self_of_lt (by simp; omega)]) (by rw [Array.getElem?_setIfInBounds_ne (by omega), Array.getElem?_setIfInBounds_self_of_lt (by omega)]) (fun j j1 j2 => by rw [Array.getElem?_setIfInBounds_ne (by omega), Array.getElem?_setIfInBounds_ne (by omega)]) hF⟩
theorem dcut (X : Nat → Prop) (d i n : Nat) (D : Dsk) (w : World) (hi : i < 3) (hD : DAt w X d D) (hok : (D.f i).Ok) (hn : n ≤ (D.f i).t.length) :
    Calls Try.prog 24 #[.pointer (some ⟨d, i * 2, none⟩), .int .i64 (n : Int)] w fun e w' => e = .returned (.tuple #[]) ∧ Kept X w w' ∧ DAt w' (fun k => X k ∨ (w.heap.size ≤ k ∧ k < w'.heap.size)) d (D.set i ((D.f i).cut n)) := by
  obtain ⟨Y, cs, h⟩ := hD
  obtain ⟨tv, bv, h1, h2, h3⟩ := h.fl i hi
  have hs := h.size
  refine (cut d (i * 2) n cs tv bv (Y i) (D.f i) w h.blk h1 h2 h3 hok hn).mono ?_
  rintro e w' ⟨rfl, hk, tv', bv', hb, hF⟩
  refine ⟨rfl, hk.mono (fun q _ e => by obtain rfl : q = d := e; exact h.xd), h.file hi hb (hk.mono (fun q _ e => .inl e)) (by simpa using hs) (by rw [Array.getElem?_setIfInBounds_ne (by omega), Array.getElem?_setIfInBounds_self_of_lt (by omega)]) (by rw [Array.getElem?_setIfInBounds_self_of_lt (by simp; omega)]) (fun j j1 j2 => by rw [Array.getElem?_setIfInBounds_ne (by omega), Array.getElem?_setIfInBounds_ne (by omega)]) ⟨hF.t, hF.b, fun q hq => .inl (hF.tx q hq), fun q hq => .inl (hF.bx q hq)⟩⟩
theorem dcrash (X : Nat → Prop) (d i m : Nat) (torn : Int) (D : Dsk) (w : World) (hi : i < 3) (hD : DAt w X d D) (hok : (D.f i).Ok) (hm : m < 18446744073709551616) (ht0 : -9223372036854775808 ≤ torn) (ht1 : torn ≤ 9223372036854775807) :
    Calls Try.prog 23 #[.pointer (some ⟨d, i * 2, none⟩), .int .u64 (m : Int), .int .i64 torn] w fun e w' => e = .returned (.tuple #[]) ∧ Next w w' X d (D.set i ((D.f i).crash m torn)) := by
  obtain ⟨Y, cs, h⟩ := hD
  obtain ⟨tv, bv, h1, h2, h3⟩ := h.fl i hi
  have hs := h.size
  refine (crash d (i * 2) m torn cs tv bv (Y i) (D.f i) w h.blk h1 h2 h3 hok hm ht0 ht1).mono ?_
  rintro e w' ⟨rfl, hk, tv', bv', hb, hF⟩
  exact ⟨rfl, hk.mono (fun q _ e => e.elim (fun e => by rw [e]; exact h.xd) (fun e => (h.yx i q hi e).1)), _, fun q hq => hq.elim .inl (fun hq => .inr hq.1), h.file hi hb hk (by simpa using hs) (by rw [Array.getElem?_setIfInBounds_ne (by omega), Array.getElem?_setIfInBounds_self_of_lt (by omega)]) (by rw [Array.getElem?_setIfInBounds_self_of_lt (by simp; omega)]) (fun j j1 j2 => by rw [Array.getElem?_setIfInBounds_ne (by omega), Array.getElem?_setIfInBounds_ne (by omega)]) ⟨hF.t, hF.b, fun q hq => .inl (hF.tx q hq), fun q hq => .inl (hF.bx q hq)⟩⟩

/-- Sync. -/
def Dsk.syncE (D : Dsk) : Int := if D.fl then 32 else 0
def Dsk.syncD (D : Dsk) (i : Nat) : Dsk := if D.fl then D.wr else D.wr.set i ((D.f i).settle)
set_option maxHeartbeats 1000000 in
theorem sync (X : Nat → Prop) (d i : Nat) (D : Dsk) (w : World) (hi : i < 3) (hD : DAt w X d D) (hok : D.Ok) :
    Calls Try.prog 11 #[.pointer (some ⟨d, 0, none⟩), .int .i64 (i : Int)] w fun e w' => e = .returned (.int .i64 (Dsk.syncE D)) ∧ Next w w' X d (Dsk.syncD D i) := by
  have H := hid (And.intro hD hok)
  have hl : (i : Int) < 3 := by omega
  have HI := hid hi
  clear hD hok hi
  cases hf : D.fl with
  | true =>
    rw [show Dsk.syncE D = 32 by simp [Dsk.syncE, hf], show Dsk.syncD D i = D.wr by simp [Dsk.syncD, hf]]
    have HF := hid hf
    clear hf
    go_enter Try.func11, Try.ntmps11
    go_wp2_with fail
    refine (there (i : Int) w).mono ?_
    rintro e w0 ⟨rfl, rfl⟩
    rw [at_two HI.out]
    go_wp2_with fail
    refine (fails X d D w H.out.1 H.out.2).mono ?_
    rintro e w1 ⟨rfl, k1, h1⟩
    have HK := hid k1
    have H1 := hid h1
    clear k1 h1
    rw [HF.out]
    go_wp2
    go_ret
    exact ⟨rfl, Next.one HK.out H1.out⟩
  | false =>
    rw [show Dsk.syncE D = 0 by simp [Dsk.syncE, hf], show Dsk.syncD D i = D.wr.set i ((D.f i).settle) by simp [Dsk.syncD, hf]]
    have HF := hid hf
    clear hf
    go_enter Try.func11, Try.ntmps11
    go_wp2_with fail
    refine (there (i : Int) w).mono ?_
    rintro e w0 ⟨rfl, rfl⟩
    rw [at_two HI.out]
    go_wp2_with fail
    refine (fails X d D w H.out.1 H.out.2).mono ?_
    rintro e w1 ⟨rfl, k1, h1⟩
    have HK := hid k1
    have H1 := hid h1
    clear k1 h1
    rw [HF.out]
    go_wp2_with fail
    refine (dsettle X d i D.wr w1 HI.out H1.out).mono ?_
    rintro e w2 ⟨rfl, k2, h2⟩
    have HN := hid (Next.of HK.out H1.out k2 h2)
    clear k2 h2
    go_wp2
    go_ret
    exact ⟨rfl, HN.out⟩
/-- Append. -/
def Dsk.appE (D : Dsk) (n : Nat) : Int := if D.fl then 32 else if D.room < D.used + n then 33 else 0
def Dsk.appD (D : Dsk) (i : Nat) (x : List UInt8) : Dsk := if D.fl then D.wr else if D.room < D.used + x.length then D.wr else D.wr.set i ((D.f i).add x)
set_option maxHeartbeats 1000000 in
theorem append (X : Nat → Prop) (d i lo hi' : Nat) (u : Value) (x : List UInt8) (D : Dsk) (w : World) (hi : i < 3) (hD : DAt w X d D) (hok : D.Ok) (hu : Bs w lo hi' u x) (hx : x.length ≤ 1099511627776) (hux : ∀ k, lo ≤ k → k < hi' → ¬ X k) :
    Calls Try.prog 10 #[.pointer (some ⟨d, 0, none⟩), .int .i64 (i : Int), u] w fun e w' => e = .returned (.int .i64 (Dsk.appE D x.length)) ∧ Next w w' X d (Dsk.appD D i x) := by
  have HU := hid (And.intro hu (And.intro hx hux))
  obtain ⟨a, c, rfl, _⟩ := hu.shape
  have H := hid (And.intro hD hok)
  have hl : (i : Int) < 3 := by omega
  have HI := hid hi
  clear hD hok hi
  clear hu hx hux
  cases hf : D.fl with
  | true =>
    rw [show Dsk.appE D x.length = 32 by simp [Dsk.appE, hf], show Dsk.appD D i x = D.wr by simp [Dsk.appD, hf]]
    have HF := hid hf
    clear hf
    go_enter Try.func10, Try.ntmps10
    go_wp2_with fail
    refine (there (i : Int) w).mono ?_
    rintro e w0 ⟨rfl, rfl⟩
    rw [at_two HI.out]
    go_wp2_with fail
    refine (fails X d D w H.out.1 H.out.2).mono ?_
    rintro e w1 ⟨rfl, k1, h1⟩
    have HK := hid k1
    have H1 := hid h1
    clear k1 h1
    rw [HF.out]
    go_wp2
    go_ret
    exact ⟨rfl, Next.one HK.out H1.out⟩
  | false =>
    by_cases hr : D.room < D.used + x.length
    · rw [show Dsk.appE D x.length = 33 by simp [Dsk.appE, hf, hr], show Dsk.appD D i x = D.wr by simp [Dsk.appD, hf, hr]]
      have HF := hid hf
      obtain ⟨V, hV⟩ : ∃ V, V = D.room - (D.used : Int) := ⟨_, rfl⟩
      have hg : decide (V < (x.length : Int)) = true := by simp; omega
      have HV := hid hV
      clear hf hr hV
      go_enter Try.func10, Try.ntmps10
      go_wp2_with fail
      refine (there (i : Int) w).mono ?_
      rintro e w0 ⟨rfl, rfl⟩
      rw [at_two HI.out]
      go_wp2_with fail
      refine (fails X d D w H.out.1 H.out.2).mono ?_
      rintro e w1 ⟨rfl, k1, h1⟩
      have HK := hid k1
      have H1 := hid h1
      clear k1 h1
      rw [HF.out]
      go_wp2_with fail
      refine (free X d D.wr w1 H1.out (Dsk_ok_wr H.out.2)).mono ?_
      rintro e w2 ⟨rfl, k2⟩
      rw [show D.wr.room - (D.wr.used : Int) = V from HV.out.symm]
      have HN := hid (Next.one (HK.out.trans (k2.mono (fun _ _ h => h.elim))) (H1.out.keptN k2))
      clear k2
      go_wp2
      go_ret
      exact ⟨rfl, HN.out⟩
    · rw [show Dsk.appE D x.length = 0 by simp [Dsk.appE, hf, hr], show Dsk.appD D i x = D.wr.set i ((D.f i).add x) by simp [Dsk.appD, hf, hr]]
      have HF := hid hf
      obtain ⟨V, hV⟩ : ∃ V, V = D.room - (D.used : Int) := ⟨_, rfl⟩
      have hg : decide (V < (x.length : Int)) = false := by simp; omega
      have HV := hid hV
      clear hf hr hV
      go_enter Try.func10, Try.ntmps10
      go_wp2_with fail
      refine (there (i : Int) w).mono ?_
      rintro e w0 ⟨rfl, rfl⟩
      rw [at_two HI.out]
      go_wp2_with fail
      refine (fails X d D w H.out.1 H.out.2).mono ?_
      rintro e w1 ⟨rfl, k1, h1⟩
      have HK := hid k1
      have H1 := hid h1
      clear k1 h1
      rw [HF.out]
      go_wp2_with fail
      refine (free X d D.wr w1 H1.out (Dsk_ok_wr H.out.2)).mono ?_
      rintro e w2 ⟨rfl, k2⟩
      rw [show D.wr.room - (D.wr.used : Int) = V from HV.out.symm]
      have kk : Kept (Just d) w w2 := HK.out.trans (k2.mono (fun _ _ h => h.elim))
      have HKK := hid kk
      have H2 := hid (H1.out.keptN k2)
      have hu2 : Bs w2 lo hi' (.slice a x.length c) x := HU.out.1.kept kk (fun k h1 h2 e => HU.out.2.2 k h1 h2 (by rw [show k = d from e]; exact H.out.1.xd))
      have HU2 := hid hu2
      clear k2 kk hu2
      go_wp2_with fail
      refine (dadd X d i lo hi' _ x D.wr w2 HI.out H2.out HU2.out (H.out.2.f i HI.out).2.2 (by have := (H.out.2.f i HI.out).2.1; have := HU.out.2.1; have : (D.wr.f i).t.length = (D.f i).t.length := rfl; omega) HU.out.2.2).mono ?_
      rintro e w3 ⟨rfl, k3, h3⟩
      have HN := hid (Next.of HKK.out H2.out k3 h3)
      clear k3 h3
      go_wp2
      go_ret
      exact ⟨rfl, HN.out⟩
/-- A file's bytes, where they lie. -/
theorem DAt.text {w : World} {X : Nat → Prop} {d i : Nat} {D : Dsk} (h : DAt w X d D) (hi : i < 3) : ∃ a c, ∃ _bv : Value, w.cell? ⟨d, i * 2, none⟩ = some (.slice a (D.f i).t.length c) ∧ Bo 5 w 0 (.slice a (D.f i).t.length c) (D.f i).t := by
  obtain ⟨Y, cs, h⟩ := h
  obtain ⟨tv, bv, h1, h2, h3⟩ := h.fl i hi
  obtain ⟨a, c, rfl⟩ := h3.t.form
  exact ⟨a, c, bv, by rw [h.blk.cell]; exact h1, h3.t⟩
/-- Cut. -/
def Dsk.cutE (D : Dsk) (i : Nat) (n : Int) : Int := if n < 0 ∨ (D.f i).t.length < n then 36 else if D.fl then 32 else 0
def Dsk.cutD (D : Dsk) (i : Nat) (n : Int) : Dsk := if n < 0 ∨ (D.f i).t.length < n then D else if D.fl then D.wr else D.wr.set i ((D.f i).cut n.toNat)
set_option maxHeartbeats 1000000 in
theorem dcutx (X : Nat → Prop) (d i : Nat) (n : Int) (D : Dsk) (w : World) (hi : i < 3) (hD : DAt w X d D) (hok : D.Ok) :
    Calls Try.prog 16 #[.pointer (some ⟨d, 0, none⟩), .int .i64 (i : Int), .int .i64 n] w fun e w' => e = .returned (.int .i64 (Dsk.cutE D i n)) ∧ Next w w' X d (Dsk.cutD D i n) := by
  have H := hid (And.intro hD hok)
  have hl : (i : Int) < 3 := by omega
  have HI := hid hi
  obtain ⟨a, c, b, hc, hT⟩ := hD.text hi
  clear hD hok hT hi
  by_cases h0 : n < 0
  · rw [show Dsk.cutE D i n = 36 by simp [Dsk.cutE, h0], show Dsk.cutD D i n = D by simp [Dsk.cutD, h0]]
    have d0 : decide (n < 0) = true := by simpa using h0
    clear h0
    go_enter Try.func16, Try.ntmps16
    go_wp2_with fail
    refine (there (i : Int) w).mono ?_
    rintro e w0 ⟨rfl, rfl⟩
    rw [at_two HI.out]
    go_wp2
    go_ret
    exact ⟨rfl, Next.same H.out.1⟩
  · by_cases h1 : (D.f i).t.length < n
    · rw [show Dsk.cutE D i n = 36 by simp [Dsk.cutE, h1], show Dsk.cutD D i n = D by simp [Dsk.cutD, h1]]
      have d0 : decide (n < 0) = false := by simpa using h0
      have d1 : decide (((D.f i).t.length : Int) < n) = true := by simpa using h1
      clear h0 h1
      go_enter Try.func16, Try.ntmps16
      go_wp2_with fail
      refine (there (i : Int) w).mono ?_
      rintro e w0 ⟨rfl, rfl⟩
      rw [at_two HI.out]
      go_wp2
      go_ret
      exact ⟨rfl, Next.same H.out.1⟩
    · have h2 : ¬ (n < 0 ∨ (D.f i).t.length < n) := by omega
      obtain ⟨m, rfl⟩ : ∃ m : Nat, n = (m : Int) := ⟨n.toNat, by omega⟩
      have hm : m ≤ (D.f i).t.length := by omega
      have HM := hid hm
      have d1 : decide (((D.f i).t.length : Int) < (m : Int)) = false := by simpa using hm
      have d2 : decide ((D.f i).t.length < m) = false := by simpa using hm
      have d3 : ¬ (D.f i).t.length < m := by omega
      clear h0 h1 hm
      cases hf : D.fl with
      | true =>
        rw [show Dsk.cutE D i (m : Int) = 32 by simp only [Dsk.cutE, hf, if_neg h2]; rfl, show Dsk.cutD D i (m : Int) = D.wr by simp only [Dsk.cutD, hf, if_neg h2]; rfl]
        have HF := hid hf
        clear hf h2
        go_enter Try.func16, Try.ntmps16
        go_wp2_with fail
        refine (there (i : Int) w).mono ?_
        rintro e w0 ⟨rfl, rfl⟩
        rw [at_two HI.out]
        go_wp2_with fail
        refine (fails X d D w H.out.1 H.out.2).mono ?_
        rintro e w1 ⟨rfl, k1, h1⟩
        have HN := hid (Next.one k1 h1)
        clear k1 h1
        rw [HF.out]
        go_wp2
        go_ret
        exact ⟨rfl, HN.out⟩
      | false =>
        rw [show Dsk.cutE D i (m : Int) = 0 by simp only [Dsk.cutE, hf, if_neg h2]; rfl, show Dsk.cutD D i (m : Int) = D.wr.set i ((D.f i).cut m) by simp only [Dsk.cutD, hf, if_neg h2]; rfl]
        have HF := hid hf
        clear hf h2
        go_enter Try.func16, Try.ntmps16
        go_wp2_with fail
        refine (there (i : Int) w).mono ?_
        rintro e w0 ⟨rfl, rfl⟩
        rw [at_two HI.out]
        go_wp2_with fail
        refine (fails X d D w H.out.1 H.out.2).mono ?_
        rintro e w1 ⟨rfl, k1, h1⟩
        have HK := hid k1
        have H1 := hid h1
        clear k1 h1
        rw [HF.out]
        go_wp2_with fail
        refine (dcut X d i m D.wr w1 HI.out H1.out (H.out.2.f i HI.out).1 HM.out).mono ?_
        rintro e w2 ⟨rfl, k2, h2⟩
        have HN := hid (Next.of HK.out H1.out k2 h2)
        clear k2 h2
        go_wp2
        go_ret
        exact ⟨rfl, HN.out⟩
set_option maxHeartbeats 1000000 in
/-- Read. -/
theorem read (X : Nat → Prop) (d i : Nat) (D : Dsk) (w : World) (hi : i < 3) (hD : DAt w X d D) (hok : D.Ok) :
    Calls Try.prog 12 #[.pointer (some ⟨d, 0, none⟩), .int .i64 (i : Int)] w fun e w' => ∃ v, e = .returned v ∧ Kept None w w' ∧ Ob w' w.heap.size v (D.f i).t := by
  have H := hid (And.intro hD hok)
  have hl : (i : Int) < 3 := by omega
  have HI := hid hi
  obtain ⟨a, c, b, hc, hT⟩ := hD.text hi
  have hB : Bs w 0 w.heap.size (.slice a (D.f i).t.length c) (D.f i).t := hT.bs (Nat.le_refl _)
  have hn : Ob w w.heap.size (.slice none 0 0) [] := Bo.nil _ _ _
  have hlen : ([] : List UInt8).length + (D.f i).t.length ≤ 140737488355328 := by have := (hok.f i hi).2.1; simp; omega
  have HL := hid hlen
  clear hD hok hT hi hlen
  go_enter Try.func12, Try.ntmps12
  go_wp2_with fail
  refine (there (i : Int) w).mono ?_
  rintro e w0 ⟨rfl, rfl⟩
  rw [at_two HI.out]
  go_wp2_with (first | (refine wpList_append_bo rfl _ _ 22 rfl rtBytes rfl rfl hn hB HL.out (Nat.le_refl _) ?_; intro a5 n5 c5 w5 hB5 hK5) | fail)
  go_ret
  exact ⟨_, rfl, hK5.mono (fun k _ h => by cases h), by simpa using hB5⟩
set_option maxHeartbeats 1000000 in
/-- Sure. -/
theorem sure (X : Nat → Prop) (d i : Nat) (D : Dsk) (w : World) (hi : i < 3) (hD : DAt w X d D) :
    Calls Try.prog 13 #[.pointer (some ⟨d, 0, none⟩), .int .i64 (i : Int)] w fun e w' => e = .returned (.int .i64 ((D.f i).sure : Int)) ∧ w = w' := by
  obtain ⟨Y, cs, h⟩ := hD
  obtain ⟨tv, bv, h1, h2, h3⟩ := h.fl i hi
  have hs := begin d (i * 2) 0 cs tv bv (Y i) (D.f i) w h.blk h1 h2 h3 (by decide)
  have HS := hid hs
  have hl : (i : Int) < 3 := by omega
  have HI := hid hi
  clear hs h h1 h2 h3 hi
  go_enter Try.func13, Try.ntmps13
  go_wp2_with fail
  refine (there (i : Int) w).mono ?_
  rintro e w0 ⟨rfl, rfl⟩
  rw [at_two HI.out]
  go_wp2_with fail
  refine HS.out.mono ?_
  rintro e w0 ⟨rfl, rfl⟩
  go_wp2
  go_ret
  exact ⟨rfl, rfl⟩
/-- Fail. -/
def Dsk.failD (D : Dsk) (n : Int) : Dsk := ⟨D.f, D.room, max n (-1)⟩
set_option maxHeartbeats 1000000 in
theorem dfail (X : Nat → Prop) (d : Nat) (n : Int) (D : Dsk) (w : World) (hD : DAt w X d D) :
    Calls Try.prog 15 #[.pointer (some ⟨d, 0, none⟩), .int .i64 n] w fun e w' => e = .returned (.tuple #[]) ∧ Kept (Just d) w w' ∧ DAt w' X d (Dsk.failD D n) := by
  obtain ⟨Y, cs, h⟩ := hD
  have c7 := h.blk.cell 7
  rw [h.ahead] at c7
  have f7 := h.blk.free 7
  have hN : ∀ v, Kept (Just d) w (w.setCell ⟨d, 7, none⟩ (.int .i64 v)) ∧ At (w.setCell ⟨d, 7, none⟩ (.int .i64 v)) X Y d (cs.setIfInBounds 7 (.int .i64 v)) ⟨D.f, D.room, v⟩ := fun v => ⟨Kept.one w d 7 _, h.num (h.blk.set 7 _) (Kept.one w d 7 _)⟩
  have HN := hid hN
  clear hN h
  unfold Dsk.failD
  go_enter Try.func15, Try.ntmps15
  go_wp2
  · have e : max n (-1) = -1 := by omega
    go_end0
    rw [e]
    exact ⟨rfl, (HN.out _).1, Y, _, (HN.out _).2⟩
  · have e : max n (-1) = n := by omega
    go_end0
    rw [e]
    exact ⟨rfl, (HN.out _).1, Y, _, (HN.out _).2⟩
/-- Crash. -/
def Dsk.crashD (D : Dsk) (m : Nat) (torn : Int) : Dsk := ⟨fun i => (D.f i).crash m torn, D.room, -1⟩
theorem DAt.num {w : World} {X : Nat → Prop} {d : Nat} {D : Dsk} (h : DAt w X d D) (a : Int) : w.cell? ⟨d, 7, none⟩ = some (.int .i64 D.ahead) ∧ w.frozen? ⟨d, 7, none⟩ = false ∧ DAt (w.setCell ⟨d, 7, none⟩ (.int .i64 a)) X d ⟨D.f, D.room, a⟩ := by
  obtain ⟨Y, cs, h⟩ := h
  exact ⟨by rw [h.blk.cell]; exact h.ahead, h.blk.free 7, Y, _, h.num (h.blk.set 7 _) (Kept.one w d 7 _)⟩
set_option maxHeartbeats 2000000 in
theorem dcrashx (X : Nat → Prop) (d m : Nat) (torn : Int) (D : Dsk) (w : World) (hD : DAt w X d D) (hok : ∀ i, i < 3 → (D.f i).Ok) (hm : m < 18446744073709551616) (ht0 : -9223372036854775808 ≤ torn) (ht1 : torn ≤ 9223372036854775807) :
    Calls Try.prog 14 #[.pointer (some ⟨d, 0, none⟩), .int .u64 (m : Int), .int .i64 torn] w fun e w' => e = .returned (.tuple #[]) ∧ Next w w' X d (Dsk.crashD D m torn) := by
  have H := hid (And.intro hD hok)
  have HM := hid (And.intro hm (And.intro ht0 ht1))
  clear hD hok hm ht0 ht1
  have O : ∀ i, i < 3 → (D.f i).Ok := H.out.2
  have O := hid O
  go_enter Try.func14, Try.ntmps14
  go_wp2_with fail
  refine wp_loop_rounds 4 ?_
  rw [rounds_succ]
  go_wp2_with fail
  refine (dcrash X d 0 m torn D w (by decide) H.out.1 (O.out 0 (by decide)) HM.out.1 HM.out.2.1 HM.out.2.2).mono ?_
  rintro e w1 ⟨rfl, n1⟩
  obtain ⟨k1, X1, x1, a1⟩ := n1
  have A1 := hid a1
  have K1 := hid k1
  have XX1 := hid x1
  clear a1 k1 x1
  obtain ⟨D1, hD1⟩ : ∃ D', D' = D.set 0 ((D.f 0).crash m torn) := ⟨_, rfl⟩
  rw [← hD1] at A1
  have HD1 := hid hD1
  clear hD1
  have f1 : ∀ i, D1.f i = if i = 0 then (D.f i).crash m torn else D.f i := fun i => by rw [HD1.out]; by_cases e : i = 0 <;> simp [Dsk.set, e]
  have O1 : ∀ i, i < 3 → 1 ≤ i → (D1.f i).Ok := fun i hi h1 => by rw [f1, if_neg (by omega)]; exact O.out i hi
  have F1 := hid f1
  have P1 := hid O1
  clear f1 O1
  go_wp2_with fail
  rw [rounds_succ]
  go_wp2_with fail
  refine (dcrash X1 d 1 m torn D1 w1 (by decide) A1.out (P1.out 1 (by decide) (by decide)) HM.out.1 HM.out.2.1 HM.out.2.2).mono ?_
  rintro e w2 ⟨rfl, n2⟩
  obtain ⟨k2, X2, x2, a2⟩ := n2
  have A2 := hid a2
  have K2 := hid k2
  have XX2 := hid x2
  clear a2 k2 x2
  obtain ⟨D2, hD2⟩ : ∃ D', D' = D1.set 1 ((D1.f 1).crash m torn) := ⟨_, rfl⟩
  rw [← hD2] at A2
  have HD2 := hid hD2
  clear hD2
  have f2 : ∀ i, D2.f i = if i = 1 then (D1.f i).crash m torn else D1.f i := fun i => by rw [HD2.out]; by_cases e : i = 1 <;> simp [Dsk.set, e]
  have O2 : ∀ i, i < 3 → 2 ≤ i → (D2.f i).Ok := fun i hi h1 => by rw [f2, if_neg (by omega)]; exact P1.out i hi (by omega)
  have F2 := hid f2
  have P2 := hid O2
  clear f2 O2
  go_wp2_with fail
  rw [rounds_succ]
  go_wp2_with fail
  refine (dcrash X2 d 2 m torn D2 w2 (by decide) A2.out (P2.out 2 (by decide) (by decide)) HM.out.1 HM.out.2.1 HM.out.2.2).mono ?_
  rintro e w3 ⟨rfl, n3⟩
  obtain ⟨k3, X3, x3, a3⟩ := n3
  have A3 := hid a3
  have K3 := hid k3
  have XX3 := hid x3
  clear a3 k3 x3
  obtain ⟨D3, hD3⟩ : ∃ D', D' = D2.set 2 ((D2.f 2).crash m torn) := ⟨_, rfl⟩
  rw [← hD3] at A3
  have HD3 := hid hD3
  clear hD3
  have f3 : ∀ i, D3.f i = if i = 2 then (D2.f i).crash m torn else D2.f i := fun i => by rw [HD3.out]; by_cases e : i = 2 <;> simp [Dsk.set, e]
  have F3 := hid f3
  clear f3
  obtain ⟨c7, f7, hN⟩ := A3.out.num (-1)
  have HN := hid hN
  clear hN
  go_wp2_with fail
  rw [rounds_succ]
  go_wp2
  go_end0
  have k9 := Kept.one w3 d 7 (.int .i64 (-1))
  have y2 : ∀ q, X2 q → X q ∨ w.heap.size ≤ q := fun q h => (XX2.out q h).elim (XX1.out q) (fun h => .inr (Nat.le_trans K1.out.size h))
  have y3 : ∀ q, X3 q → X q ∨ w.heap.size ≤ q := fun q h => (XX3.out q h).elim (y2 q) (fun h => .inr (Nat.le_trans (Nat.le_trans K1.out.size K2.out.size) h))
  have kk : Kept X w (w3.setCell ⟨d, 7, none⟩ (.int .i64 (-1))) := (((K1.out.then K2.out (fun q hq h => (XX1.out q h).resolve_right (by omega))).then K3.out (fun q hq h => (y2 q h).resolve_right (by omega))).then k9 (fun q hq e => by obtain rfl : q = d := e; exact H.out.1.xd))
  refine ⟨rfl, kk, X3, y3, HN.out.congr (fun i hi => ?_) (by rw [HD3.out, HD2.out, HD1.out]; rfl) rfl⟩
  show D3.f i = (D.f i).crash m torn
  rw [F3.out, F2.out, F1.out]
  match i, hi with
  | 0, _ => rfl
  | 1, _ => rfl
  | 2, _ => rfl
/-- No such file. -/
theorem bad_two {i : Int} (h : ¬ (0 ≤ i ∧ i < 3)) : decide (0 ≤ i ∧ i < 3) = false := by simpa using h
theorem append_bad (d : Nat) (i : Int) (u : Value) (w : World) (h : ¬ (0 ≤ i ∧ i < 3)) : Calls Try.prog 10 #[.pointer (some ⟨d, 0, none⟩), .int .i64 i, u] w fun e w' => e = .returned (.int .i64 36) ∧ w = w' := by
  have hb := hid (bad_two h)
  clear h
  go_enter Try.func10, Try.ntmps10
  go_wp2_with fail
  refine (there i w).mono ?_
  rintro e w0 ⟨rfl, rfl⟩
  rw [hb.out]
  go_wp2
  go_ret
  exact ⟨rfl, rfl⟩
theorem sync_bad (d : Nat) (i : Int) (w : World) (h : ¬ (0 ≤ i ∧ i < 3)) : Calls Try.prog 11 #[.pointer (some ⟨d, 0, none⟩), .int .i64 i] w fun e w' => e = .returned (.int .i64 36) ∧ w = w' := by
  have hb := hid (bad_two h)
  clear h
  go_enter Try.func11, Try.ntmps11
  go_wp2_with fail
  refine (there i w).mono ?_
  rintro e w0 ⟨rfl, rfl⟩
  rw [hb.out]
  go_wp2
  go_ret
  exact ⟨rfl, rfl⟩
end Dk
end Go.Proofs.Ytdcpacfhifofdaa
