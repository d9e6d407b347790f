/- A disk's files as plain functions; rows of numbers that the call owns; what shortens and clears a row. -/
import Derived.Test.YtdcpacfhifofdaaLow
import Derived.Lib.SliceRun
namespace Go.Pm
open Go Go.RowKit

/-! ### A file: its bytes, and where each Append begins that isn't sure. -/
structure Fl where
  t : List UInt8
  b : List Nat
def Fl.beg (f : Fl) (i : Nat) : Nat := f.b.getD i f.t.length
/-- Each begins where the one ahead of it does, or behind it, and within the file. -/
def Fl.Ok (f : Fl) : Prop := ∀ i j, i ≤ j → f.beg i ≤ f.beg j
def Fl.sure (f : Fl) : Nat := f.beg 0
def Fl.add (f : Fl) (x : List UInt8) : Fl := ⟨f.t ++ x, f.b ++ [f.t.length]⟩
def Fl.settle (f : Fl) : Fl := ⟨f.t, []⟩
def Fl.cut (f : Fl) (n : Nat) : Fl := ⟨f.t.take n, f.b.takeWhile (fun x => decide (x < n))⟩
def zeroAt (l : List UInt8) (i j : Nat) : List UInt8 := l.take i ++ List.replicate (j - i) 0 ++ l.drop j
structure CrS where
  t : List UInt8
  a : Nat
  e : Nat
def Fl.crashS (f : Fl) (m : Nat) : Nat → CrS
  | 0 => ⟨f.t, f.beg 0, f.beg 0⟩
  | i + 1 => if m.testBit i then ⟨zeroAt (f.crashS m i).t (f.crashS m i).e (f.beg i), f.beg i, f.beg (i + 1)⟩ else f.crashS m i
def Fl.crashE (f : Fl) (m : Nat) (torn : Int) : Nat :=
  if 0 ≤ torn then (f.crashS m f.b.length).a + (min torn ((f.crashS m f.b.length).e - (f.crashS m f.b.length).a : Nat)).toNat else (f.crashS m f.b.length).e
def Fl.crash (f : Fl) (m : Nat) (torn : Int) : Fl := ⟨(f.crashS m f.b.length).t.take (f.crashE m torn), []⟩

theorem zeroAt_length {l : List UInt8} {i j : Nat} (h1 : i ≤ j) (h2 : j ≤ l.length) : (zeroAt l i j).length = l.length := by
  simp [zeroAt]
  omega
theorem zeroAt_same (l : List UInt8) (i : Nat) : zeroAt l i i = l := by simp [zeroAt]
theorem Fl.beg_end (f : Fl) {i : Nat} (h : f.b.length ≤ i) : f.beg i = f.t.length := by
  simp [Fl.beg, List.getD, List.getElem?_eq_none h]
theorem Fl.beg_at (f : Fl) {i : Nat} (h : i < f.b.length) : f.beg i = f.b[i] := by
  simp [Fl.beg, List.getD, List.getElem?_eq_getElem h]
theorem Fl.Ok.le {f : Fl} (h : f.Ok) (i : Nat) : f.beg i ≤ f.t.length := by
  have := h i (max i f.b.length) (Nat.le_max_left _ _)
  rwa [f.beg_end (Nat.le_max_right i f.b.length)] at this
theorem Fl.ok_nil (t : List UInt8) : Fl.Ok ⟨t, []⟩ := fun i j _ => by simp [Fl.beg]
theorem Fl.ok_add {f : Fl} (h : f.Ok) (x : List UInt8) : (f.add x).Ok := fun i j hij => by
  have key : ∀ i, (f.add x).beg i = if i < f.b.length then f.beg i else if i = f.b.length then f.t.length else f.t.length + x.length := fun i => by
    by_cases h1 : i < f.b.length
    · rw [if_pos h1, Fl.beg_at _ (by simp [Fl.add]; omega), Fl.beg_at _ h1]
      simp [Fl.add, List.getElem_append_left h1]
    · rw [if_neg h1]
      by_cases h2 : i = f.b.length
      · rw [if_pos h2, Fl.beg_at _ (by simp [Fl.add]; omega)]
        subst h2
        simp [Fl.add]
      · rw [if_neg h2, Fl.beg_end _ (by simp [Fl.add]; omega)]
        simp [Fl.add]
  rw [key i, key j]
  have h1 := h i j hij
  have h2 := h.le i
  have h3 := h.le j
  by_cases c1 : i < f.b.length
  · rw [if_pos c1]
    by_cases c2 : j < f.b.length
    · rw [if_pos c2]; exact h1
    · rw [if_neg c2]
      split <;> omega
  · rw [if_neg c1, if_neg (show ¬ j < f.b.length by omega)]
    by_cases c3 : j = f.b.length
    · rw [if_pos c3, if_pos (show i = f.b.length by omega)]
      exact Nat.le_refl _
    · rw [if_neg c3]
      split <;> omega
theorem Fl.Ok.sure_le {f : Fl} (h : f.Ok) : f.sure ≤ f.t.length := h.le 0

/-- takeWhile as the loop finds it: all from k on are n or beyond, the one ahead of k is not. -/
theorem Fl.cut_at {f : Fl} (h : f.Ok) (n k : Nat) (hk : k ≤ f.b.length) (h1 : ∀ i, k ≤ i → i < f.b.length → n ≤ f.beg i) (h2 : k = 0 ∨ f.beg (k - 1) < n) : f.b.takeWhile (fun x => decide (x < n)) = f.b.take k := by
  have hp : ∀ i, i < k → f.beg i < n := fun i hi => by
    rcases h2 with rfl | h2
    · omega
    · exact Nat.lt_of_le_of_lt (h i (k - 1) (by omega)) h2
  have e : f.b = f.b.take k ++ f.b.drop k := (List.take_append_drop k f.b).symm
  conv => lhs; rw [e]
  rw [List.takeWhile_append_of_pos]
  · cases hd : f.b.drop k with
    | nil => simp
    | cons y ys =>
      have hlt : k < f.b.length := by
        rcases Nat.lt_or_ge k f.b.length with h' | h'
        · exact h'
        · rw [List.drop_of_length_le h'] at hd; cases hd
      have hy : f.b[k] = y := by
        have := List.getElem_cons_drop (as := f.b) (i := k) hlt
        rw [hd] at this
        injection this
      have := h1 k (Nat.le_refl _) hlt
      rw [Fl.beg_at _ hlt, hy] at this
      rw [List.takeWhile_cons]
      simp [show ¬ y < n by omega]
  · intro y hy
    obtain ⟨i, hi, rfl⟩ := List.mem_iff_getElem.1 hy
    have hi' : i < k ∧ i < f.b.length := by simpa [Nat.lt_min] using hi
    have := hp i hi'.1
    rw [Fl.beg_at _ hi'.2] at this
    simpa using this
theorem Fl.cut_b {f : Fl} (h : f.Ok) (n : Nat) : ∃ k, k ≤ f.b.length ∧ f.b.takeWhile (fun x => decide (x < n)) = f.b.take k ∧ (∀ i, i < k → f.beg i < n) ∧ (∀ i, k ≤ i → i < f.b.length → n ≤ f.beg i) := by
  have key : ∀ m, m ≤ f.b.length → (∀ i, m ≤ i → i < f.b.length → n ≤ f.beg i) → ∃ k, k ≤ f.b.length ∧ f.b.takeWhile (fun x => decide (x < n)) = f.b.take k ∧ (∀ i, i < k → f.beg i < n) ∧ (∀ i, k ≤ i → i < f.b.length → n ≤ f.beg i) := by
    intro m
    induction m with
    | zero => exact fun h0 h1 => ⟨0, h0, Fl.cut_at h n 0 h0 h1 (.inl rfl), fun i hi => by omega, h1⟩
    | succ m ih =>
      intro h0 h1
      by_cases c : f.beg m < n
      · exact ⟨m + 1, h0, Fl.cut_at h n (m + 1) h0 h1 (.inr (by simpa using c)), fun i hi => Nat.lt_of_le_of_lt (h i m (by omega)) c, h1⟩
      · refine ih (by omega) fun i hi hl => ?_
        by_cases e : i = m
        · subst e; omega
        · exact h1 i (by omega) hl
  exact key f.b.length (Nat.le_refl _) (fun i h1 h2 => by omega)
theorem Fl.ok_cut {f : Fl} (h : f.Ok) {n : Nat} (hn : n ≤ f.t.length) : (f.cut n).Ok ∧ (f.cut n).sure = min n f.sure := by
  obtain ⟨k, hk, e, h1, h2⟩ := Fl.cut_b h n
  have key : ∀ i, (f.cut n).beg i = if i < k then f.beg i else n := fun i => by
    by_cases c : i < k
    · rw [if_pos c, Fl.beg_at _ (by simp [Fl.cut, e]; omega), Fl.beg_at _ (show i < f.b.length by omega)]
      simp [Fl.cut, e]
    · rw [if_neg c, Fl.beg_end _ (by simp [Fl.cut, e]; omega)]
      simp [Fl.cut]
      omega
  refine ⟨fun i j hij => ?_, ?_⟩
  · rw [key i, key j]
    have a1 := h i j hij
    have a2 := h1 i
    split <;> split <;> omega
  · unfold Fl.sure
    rw [key 0]
    have a1 := h1 0
    split
    · have := a1 ‹_›; omega
    · by_cases c : 0 < f.b.length
      · have := h2 0 (by omega) c; omega
      · rw [f.beg_end (by omega)]; omega

/-! ### What a crash leaves. -/
theorem Fl.crashS_ok {f : Fl} (h : f.Ok) (m : Nat) : ∀ i, i ≤ f.b.length → (f.crashS m i).t.length = f.t.length ∧ f.sure ≤ (f.crashS m i).a ∧ (f.crashS m i).a ≤ (f.crashS m i).e ∧ (f.crashS m i).e ≤ f.beg i ∧
    (f.crashS m i).t.take f.sure = f.t.take f.sure ∧ ∀ j, (f.crashS m i).t.getD j 0 = f.t.getD j 0 ∨ (f.crashS m i).t.getD j 0 = 0
  | 0, _ => ⟨rfl, Nat.le_refl _, Nat.le_refl _, Nat.le_refl _, rfl, fun _ => .inl rfl⟩
  | i + 1, hi => by
    obtain ⟨h1, h2, h3, h4, h5, h6⟩ := Fl.crashS_ok h m i (by omega)
    have m1 := h i (i + 1) (by omega)
    have m2 := h.le i
    have m0 := h 0 i (by omega)
    simp only [Fl.crashS]
    split
    · refine ⟨by rw [zeroAt_length h4 (by omega)]; exact h1, m0, m1, Nat.le_refl _, ?_, fun j => ?_⟩
      · simp only [zeroAt, List.append_assoc]
        rw [List.take_append_of_le_length (by simp; omega), List.take_take, Nat.min_eq_left (by omega)]
        exact h5
      · have h6 := h6 j
        simp only [zeroAt, List.getD, List.append_assoc] at h6 ⊢
        by_cases c1 : j < (f.crashS m i).e
        · rw [List.getElem?_append_left (by simp; omega), List.getElem?_take_of_lt c1]
          exact h6
        · rw [List.getElem?_append_right (by simp; omega)]
          by_cases c2 : j < f.beg i
          · rw [List.getElem?_append_left (by simp; omega)]
            right
            rw [List.getElem?_replicate_of_lt (by simp; omega)]
            rfl
          · rw [List.getElem?_append_right (by simp; omega)]
            have e : (f.beg i + (j - ((f.crashS m i).t.take (f.crashS m i).e).length - (List.replicate (f.beg i - (f.crashS m i).e) (0 : UInt8)).length)) = j := by simp; omega
            rw [List.getElem?_drop, e]
            exact h6
    · exact ⟨h1, h2, h3, by omega, h5, h6⟩
theorem Fl.crashE_ok {f : Fl} (h : f.Ok) (m : Nat) (torn : Int) : f.sure ≤ f.crashE m torn ∧ f.crashE m torn ≤ f.t.length := by
  obtain ⟨h1, h2, h3, h4, h5, h6⟩ := Fl.crashS_ok h m f.b.length (Nat.le_refl _)
  rw [f.beg_end (Nat.le_refl _)] at h4
  unfold Fl.crashE
  split <;> omega
theorem Fl.crash_len {f : Fl} (h : f.Ok) (m : Nat) (torn : Int) : (f.crash m torn).t.length = f.crashE m torn := by
  have := (Fl.crashE_ok h m torn).2
  have := (Fl.crashS_ok h m f.b.length (Nat.le_refl _)).1
  simp [Fl.crash]
  omega
theorem Fl.crash_sure {f : Fl} (h : f.Ok) (m : Nat) (torn : Int) : (f.crash m torn).t.take f.sure = f.t.take f.sure := by
  have := (Fl.crashE_ok h m torn).1
  simp only [Fl.crash, List.take_take]
  rw [Nat.min_eq_left this]
  exact (Fl.crashS_ok h m f.b.length (Nat.le_refl _)).2.2.2.2.1
theorem Fl.crash_at {f : Fl} (h : f.Ok) (m : Nat) (torn : Int) (j : Nat) (hj : j < (f.crash m torn).t.length) : (f.crash m torn).t.getD j 0 = f.t.getD j 0 ∨ (f.crash m torn).t.getD j 0 = 0 := by
  rw [Fl.crash_len h] at hj
  have := (Fl.crashS_ok h m f.b.length (Nat.le_refl _)).2.2.2.2.2 j
  simp only [Fl.crash, List.getD] at this ⊢
  rwa [List.getElem?_take_of_lt hj]
theorem Fl.crash_none {f : Fl} (torn : Int) (_h : f.Ok) : f.crash 0 torn = ⟨f.t.take f.sure, []⟩ := by
  have e : ∀ i, f.crashS 0 i = ⟨f.t, f.beg 0, f.beg 0⟩ := fun i => by
    induction i with
    | zero => rfl
    | succ i ih => simp [Fl.crashS, ih]
  unfold Fl.crash Fl.crashE
  rw [e]
  have : (min torn (0 : Int)).toNat = 0 := by omega
  simp [this, Fl.sure]
theorem Fl.crash_settled (t : List UInt8) (m : Nat) (torn : Int) : Fl.crash ⟨t, []⟩ m torn = ⟨t, []⟩ := by
  unfold Fl.crash Fl.crashE Fl.crashS
  have : (min torn (0 : Int)).toNat = 0 := by omega
  simp [this, Fl.beg]

/-! ### Rows that the call owns: numbers; what shortens and clears a row. -/
def i64v (n : Nat) : Value := .int .i64 (n : Int)
def Io (e : TypeId) (w : World) (base : Nat) (v : Value) (l : List Nat) : Prop := w.ownsRow base e 1 v l.length (l.map i64v)
theorem Io.nil (e : TypeId) (w : World) (base : Nat) : Io e w base (.slice none 0 0) [] := World.ownsRow_nil w base e 1
theorem Io.form {e : TypeId} {w : World} {base : Nat} {v : Value} {l : List Nat} (h : Io e w base v l) : ∃ a cap, v = .slice a l.length cap := by
  rcases h.2 with ⟨rfl, h0⟩ | ⟨g, cap, cur, rfl, _⟩
  · exact ⟨none, 0, by rw [h0]⟩
  · exact ⟨_, _, rfl⟩
theorem row_kept {S : Nat → Prop} {e : TypeId} {w w' : World} {base n : Nat} {v : Value} {xs : List Value} (h : w.ownsRow base e 1 v n xs) (hk : Kept S w w') (hs : ∀ k, v.ownBlock = some k → ¬ S k) : w'.ownsRow base e 1 v n xs := by
  refine ⟨h.1, ?_⟩
  rcases h.2 with h2 | ⟨g, cap, cur, hv, hb, hg, r⟩
  · exact .inl h2
  · refine .inr ⟨g, cap, cur, hv, hb, ?_, r⟩
    rw [hk.block g (lt_of_block hg) (hs g (by rw [hv]; rfl))]
    exact hg
theorem Io.kept {S : Nat → Prop} {e : TypeId} {w w' : World} {base : Nat} {v : Value} {l : List Nat} (h : Io e w base v l) (hk : Kept S w w') (hs : ∀ k, v.ownBlock = some k → ¬ S k) : Io e w' base v l := row_kept h hk hs
theorem Io.own {e : TypeId} {w : World} {base : Nat} {v : Value} {l : List Nat} (h : Io e w base v l) : ∀ k, v.ownBlock = some k → base ≤ k ∧ k < w.heap.size := World.ownsRow.lt h
/-- A number of the row, where it lies. -/
theorem Io.at {e : TypeId} {w : World} {base n cap : Nat} {a : Option Addr} {l : List Nat} (h : Io e w base (.slice a n cap) l) (hn : 0 < l.length) :
    ∃ g, a = some ⟨g, 0, none⟩ ∧ g < w.heap.size ∧ ∀ i (hi : i < l.length), w.cell? ⟨g, i, none⟩ = some (.int .i64 (l[i] : Int)) := by
  rcases h.2 with ⟨_, h0⟩ | ⟨g, c, cur, hv, hb, hg, hnc, hcm, hcs, htake⟩
  · omega
  · injection hv with e1 e2 e3
    subst e1
    refine ⟨g, rfl, lt_of_block hg, fun i hi => ?_⟩
    rw [cell_of_row w g i cur e (0, 0) hg]
    have := congrArg (fun z => z[i]?) htake
    simp only [List.getElem?_take, Nat.mul_one, hi, if_true, List.getElem?_map, List.getElem?_eq_getElem hi, Option.map_some] at this
    simpa [i64v] using this
/-- Two rows of unlike elements lie in unlike blocks. -/
theorem row_apart {w : World} {base base' n n' : Nat} {e e' : TypeId} {v v' : Value} {xs xs' : List Value} (h : w.ownsRow base e 1 v n xs) (h' : w.ownsRow base' e' 1 v' n' xs') (hne : e ≠ e') : ∀ k, v.ownBlock = some k → v'.ownBlock ≠ some k := by
  intro k hk hk'
  rcases h.2 with ⟨rfl, _⟩ | ⟨g, c, cur, rfl, _, hg, _⟩
  · cases hk
  · rcases h'.2 with ⟨rfl, _⟩ | ⟨g', c', cur', rfl, _, hg', _⟩
    · cases hk'
    · simp only [Value.ownBlock, Option.some.injEq] at hk hk'
      subst hk
      subst hk'
      rw [hg] at hg'
      injection hg' with hg'
      injection hg' with _ q
      exact hne q
theorem row_blk {w : World} {base n : Nat} {e t : TypeId} {v : Value} {xs : List Value} {d : Nat} {cs : Array Value} (h : w.ownsRow base e 1 v n xs) (hd : Blk w d cs t) (hne : e ≠ t) : v.ownBlock ≠ some d := by
  intro hk
  rcases h.2 with ⟨rfl, _⟩ | ⟨g, c, cur, rfl, _, hg, _⟩
  · cases hk
  · simp only [Value.ownBlock, Option.some.injEq] at hk
    subst hk
    unfold Blk at hd
    rw [hg] at hd
    injection hd with hd
    injection hd with _ q
    exact hne q
theorem row_take {e : TypeId} {w : World} {base n cap : Nat} {a : Option Addr} {xs : List Value} (h : w.ownsRow base e 1 (.slice a n cap) n xs) {i : Nat} (hi : i ≤ n) : w.ownsRow base e 1 (.slice a i cap) i (xs.take i) := by
  have hl := h.1
  refine ⟨by simp; omega, ?_⟩
  rcases h.2 with ⟨hv, h0⟩ | ⟨g, c, cur, hv, hb, hg, hnc, hcm, hcs, htake⟩
  · injection hv with e1 e2 e3
    subst e1 e3
    exact .inl ⟨by rw [show i = 0 by omega], by omega⟩
  · injection hv with e1 e2 e3
    subst e1 e3
    refine .inr ⟨g, cap, cur, rfl, hb, hg, by omega, hcm, hcs, ?_⟩
    rw [← htake, List.take_take, Nat.mul_one, Nat.mul_one, Nat.min_eq_left hi]
theorem add_zero (a : Option Addr) : a.map (·.add 0) = a := by
  cases a with
  | none => rfl
  | some x => simp [Addr.add]
theorem row_cap {e : TypeId} {w : World} {base n cap : Nat} {a : Option Addr} {xs : List Value} (h : w.ownsRow base e 1 (.slice a n cap) n xs) : n ≤ cap ∧ cap ≤ 9223372036854775807 := by
  rcases h.2 with ⟨hv, h0⟩ | ⟨g, c, cur, hv, hb, hg, hnc, hcm, hcs, htake⟩
  · injection hv with e1 e2 e3
    subst e3
    omega
  · injection hv with e1 e2 e3
    subst e3
    exact ⟨hnc, hcm⟩
section
variable {P : Program} {t : TypeId} (ht : P.underlying t = some (.slice (P.elem t))) (hz : ∀ W, (sizeOf (P.elem t)).run P W = .ok 1 W)
include ht hz
/-- 's[:i]'. -/
theorem row_slice_to {e : TypeId} {w : World} {base n cap : Nat} {a : Option Addr} {xs : List Value} (h : w.ownsRow base e 1 (.slice a n cap) n xs) (k : IntKind) (i : Int) (h0 : 0 ≤ i) (h1 : i ≤ n) :
    ∀ W, (Instr.slice t (.slice a n cap) none (some (.int k i)) none).run P W = .ok (.slice a i.toNat cap) W := fun W => by
  have hc := (row_cap h).1
  rw [run_slice_h (P := P) W t a n cap ht k i h0 (by omega), hz]
  simp only [Result.andThen, Go.sliced, Nat.mul_one, Nat.sub_zero, add_zero, ite_self]
/-- 's[i:j]'. -/
theorem row_slice_mid {e : TypeId} {w : World} {base n cap : Nat} {a : Option Addr} {xs : List Value} (h : w.ownsRow base e 1 (.slice a n cap) n xs) (k k' : IntKind) (i j : Int) (h0 : 0 ≤ i) (h1 : i ≤ j) (h2 : j ≤ n) :
    ∀ W, (Instr.slice t (.slice a n cap) (some (.int k i)) (some (.int k' j)) none).run P W = .ok (.slice (if cap = i.toNat then a else a.map (·.add i.toNat)) (j.toNat - i.toNat) (cap - i.toNat)) W := fun W => by
  have hc := (row_cap h).1
  rw [run_slice_lh (P := P) W t a n cap ht k k' i j h0 h1 (by omega), hz]
  simp only [Result.andThen, Go.sliced, Nat.mul_one]
end
theorem kept_cells12 {S : Nat → Prop} {a : World} {b : Nat} (hb : b < a.heap.size → S b) : ∀ (cs : List Value) (o : Nat) (w : World), Kept S a w → Kept S a (w.setCells b o cs)
  | [], _, _, h => h
  | c :: cs, o, _w, h => kept_cells12 hb cs (o + 1) _ (h.setCell (p := ⟨b, o, none⟩) hb c)
theorem blk_cells12 {g : Nat} {t : TypeId} : ∀ (cs : List Value) (o : Nat) (w : World) (cur : Array Value), Blk w g cur t → o + cs.length ≤ cur.size →
    Blk (w.setCells g o cs) g (cur.toList.take o ++ cs ++ cur.toList.drop (o + cs.length)).toArray t
  | [], o, w, cur, h, _ => by simpa [World.setCells] using h
  | c :: cs, o, w, cur, h, hl => by
    simp only [List.length_cons] at hl
    have h1 := blk_cells12 cs (o + 1) (w.setCell ⟨g, o, none⟩ c) (cur.setIfInBounds o c) (h.set o c) (by simp; omega)
    rw [World.setCells]
    have e : (cur.setIfInBounds o c).toList.take (o + 1) ++ cs ++ (cur.setIfInBounds o c).toList.drop (o + 1 + cs.length) = cur.toList.take o ++ c :: cs ++ cur.toList.drop (o + (cs.length + 1)) := by
      rw [Array.toList_setIfInBounds, List.take_succ_eq_append_getElem (by simp; omega), List.getElem_set_self, List.take_set_of_le (Nat.le_refl _), List.drop_set_of_lt (by omega)]
      simp [Nat.add_assoc, Nat.add_comm 1 cs.length]
    rw [e] at h1
    simpa using h1
/-- 'clear(s[i:j])'. -/
theorem bo_clear {P : Program} {t e : TypeId} (ht : P.underlying t = some (.slice e)) (hv : ∀ w, (zeroValue e).run P w = .ok (.int .u8 0) w) {w : World} {base n cap : Nat} {a : Option Addr} {l : List UInt8} (h : Bo e w base (.slice a n cap) l) {i j : Nat} (hij : i ≤ j) (hj : j ≤ l.length) :
    ∃ w', (∀ ty, (Builtin.clear_ #[t] ty #[.slice (if cap = i then a else a.map (·.add i)) (j - i) (cap - i)]).run P w = .ok (.tuple #[]) w') ∧ Bo e w' base (.slice a n cap) (zeroAt l i j) ∧ Kept (Of (.slice a n cap)) w w' := by
  by_cases c : i = j
  · subst c
    refine ⟨w, fun ty => ?_, by rw [zeroAt_same]; exact h, Kept.refl _ _⟩
    rw [Nat.sub_self]
    cases (if cap = i then a else a.map (·.add i)) <;> simp [Builtin.clear_, run_underlying ht]
  · rcases h.2 with ⟨_, h0⟩ | ⟨g, c', cur, hv', hb, hg, hnc, hcm, hcs, htake⟩
    · omega
    · injection hv' with e1 e2 e3
      subst e1 e2 e3
      have hB : Blk w g cur e := hg
      have ea : (if cap = i then some (⟨g, 0, none⟩ : Addr) else (some (⟨g, 0, none⟩ : Addr)).map (·.add i)) = some ⟨g, i, none⟩ := by
        rw [if_neg (by omega)]
        simp only [Option.map_some, Addr.add]
        split <;> simp_all
      rw [ea]
      refine ⟨w.setCells g i (List.replicate (j - i) (.int .u8 0)), fun ty => ?_, ?_, ?_⟩
      · refine Lib.run_clear_slice w t e ty (.int .u8 0) ht hv rfl rfl g i (j - i) (cap - i) (by omega) (fun q hq => ?_) (fun q _ => hB.free _)
        rw [hB.cell]
        simp
        omega
      · have hb2 := blk_cells12 (List.replicate (j - i) (.int .u8 0)) i w cur hB (by simp; omega)
        have hlen : (zeroAt l i j).length = l.length := zeroAt_length hij hj
        unfold Bo
        rw [hlen]
        refine ⟨by simp [hlen], .inr ⟨g, cap, _, rfl, hb, hb2, by omega, hcm, by simp; omega, ?_⟩⟩
        simp only [List.length_replicate, Nat.mul_one] at htake ⊢
        have hcl : cur.toList.length = cap := by simp; omega
        rw [show i + (j - i) = j by omega]
        have t1 : cur.toList.take i = (l.take i).map u8v := by
          rw [List.map_take, ← htake, List.take_take, Nat.min_eq_left (by omega)]
        have t2 : (cur.toList.drop j).take (l.length - j) = (l.drop j).map u8v := by
          rw [List.map_drop, ← htake, List.drop_take]
        unfold zeroAt
        rw [List.map_append, List.map_append, ← t1, ← t2, List.map_replicate, List.take_append, List.take_of_length_le (by simp; omega)]
        congr 2
        simp
        omega
      · exact kept_cells12 (S := Of (.slice (some ⟨g, 0, none⟩) l.length cap)) (fun _ => rfl) _ _ _ (Kept.refl _ _)
/-- 'append' of bytes to bytes of the call's own, with where the row lies then. -/
theorem wpList_append_bk {P : Program} {ops : Array Oper} {rest : List Oper} {o : Oper} {a : Act} {w : World} {Q : Exit → Act → World → Prop} (hgd : o.guard = none) (s x : Operand) (t : TypeId)
    (ho : o.op = .call { callee := .builtin .append, args := #[s, x], argTypes := #[t, t] }) {e : TypeId} (hT : RowTy P t e (.int .u8 0) 1)
    {v : Value} (hs : a.eval s = v) {u : Value} (hx : a.eval x = u) {base : Nat} {l : List UInt8} (hown : Bo e w base v l) {lo hi : Nat} {m : List UInt8} (hu : Bs w lo hi u m)
    (h63 : l.length + m.length ≤ 140737488355328) (hbase : base ≤ w.heap.size)
    (h : ∀ a' n' cap' w', Bo e w' base (.slice a' n' cap') (l ++ m) → Kept (Of v) w w' → (∀ k, (Value.slice a' n' cap').ownBlock = some k → v.ownBlock = some k ∨ k = w.heap.size) → wpList P ops Q rest (a.put o.dst (.slice a' n' cap')) w') : wpList P ops Q (o :: rest) a w := by
  refine wpList_plain hgd fun K hK' => ?_
  obtain ⟨a', n', c', w', hr, h1, h2, h3⟩ := run_append_bo (w := w) (ty := o.type) hT hown hu h63 hbase
  unfold Oper.wp
  simp only [execOp, ho, resolve, invoke, builtin, Sem.run_bind, Sem.run_pure, Result.andThen_ok, List.map_toArray, List.map_cons, List.map_nil, hs, hx, hr]
  exact hK' _ _ (h _ _ _ _ h1 h2 h3)
end Go.Pm
