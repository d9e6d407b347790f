/- Entries and what is known, as plain mathematics and as rows. Program-independent. -/
import Derived.Test.YtibkijloibnkfaaPcs7
import Derived.Test.YtibkijloibnkfaaEntA
import Derived.Test.YtibkijloibnkfaaNm7
import Derived.Deep.QuietTactic
import Derived.BigQuiet
import Derived.Deep.LoopGhost
import Derived.Deep.DeepCutAuto
import Derived.Test.YtibkijloibnkfaaEntRight
import Derived.Test.YtibkijloibnkfaaApp7
import Derived.Test.YtibkijloibnkfaaHk8
import Derived.Test.YtibkijloibnkfaaRefSet6
namespace Go.Pm
open Go Go.RowKit

structure Ent where
  n : ByteArray
  v : Int
  k : Nat
def Ent.none : Ent := ⟨⟨#[]⟩, 0, 0⟩
structure Kno where
  e : Ent
  p : Int
def Kno.none : Kno := ⟨Ent.none, 0⟩
abbrev entC (x : Ent) : List Value := [.string x.n, .int .i64 x.v, .int .u64 (x.k : Int)]
abbrev knoC (x : Kno) : List Value := [.string x.e.n, .int .i64 x.e.v, .int .u64 (x.e.k : Int), .int .i64 x.p]
abbrev Ent.V (x : Ent) : Value := .agg (entC x).toArray
abbrev Kno.V (x : Kno) : Value := .agg (knoC x).toArray
def entsC (l : List Ent) : List (List Value) := l.map entC
def knosC (l : List Kno) : List (List Value) := l.map knoC
/-- Its name is a string that a machine may have, its key a word. -/
def Ent.Ok (x : Ent) : Prop := x.n.size ≤ 274877906944 ∧ x.k < 18446744073709551616
def EOk (l : List Ent) : Prop := ∀ x ∈ l, x.Ok
def KOk (l : List Kno) : Prop := ∀ x ∈ l, x.e.Ok
theorem entsC_each (l : List Ent) : Each 3 (entsC l) := fun x hx => by
  obtain ⟨y, _, rfl⟩ := List.mem_map.1 hx
  rfl
theorem knosC_each (l : List Kno) : Each 4 (knosC l) := fun x hx => by
  obtain ⟨y, _, rfl⟩ := List.mem_map.1 hx
  rfl
theorem entC_one (x : Ent) : ∀ c ∈ entC x, c.oneCell' = true := by
  intro c hc
  simp only [entC, List.mem_cons, List.not_mem_nil, or_false] at hc
  rcases hc with rfl | rfl | rfl <;> rfl
theorem knoC_one (x : Kno) : ∀ c ∈ knoC x, c.oneCell' = true := by
  intro c hc
  simp only [knoC, List.mem_cons, List.not_mem_nil, or_false] at hc
  rcases hc with rfl | rfl | rfl | rfl <;> rfl
theorem entsC_one (l : List Ent) : ∀ x ∈ entsC l, ∀ c ∈ x, c.oneCell' = true := fun x hx => by
  obtain ⟨y, _, rfl⟩ := List.mem_map.1 hx
  exact entC_one y
theorem knosC_one (l : List Kno) : ∀ x ∈ knosC l, ∀ c ∈ x, c.oneCell' = true := fun x hx => by
  obtain ⟨y, _, rfl⟩ := List.mem_map.1 hx
  exact knoC_one y
theorem entsC_len (l : List Ent) : (entsC l).length = l.length := List.length_map _
theorem knosC_len (l : List Kno) : (knosC l).length = l.length := List.length_map _
theorem entsC_app (a b : List Ent) : entsC (a ++ b) = entsC a ++ entsC b := List.map_append
theorem knosC_app (a b : List Kno) : knosC (a ++ b) = knosC a ++ knosC b := List.map_append
theorem entsC_at (l : List Ent) (i : Nat) (h : i < l.length) : (entsC l)[i]? = some (entC l[i]) := by
  unfold entsC
  rw [List.getElem?_map, List.getElem?_eq_getElem h]
  rfl
theorem knosC_at (l : List Kno) (i : Nat) (h : i < l.length) : (knosC l)[i]? = some (knoC l[i]) := by
  unfold knosC
  rw [List.getElem?_map, List.getElem?_eq_getElem h]
  rfl
/-- The cells of entry i, of what is known i. -/
theorem Ps.ent {w : World} {lo hi : Nat} {a : Option Addr} {n cap : Nat} {l : List Ent} (h : Ps 3 w lo hi (.slice a n cap) (entsC l)) (hn : 0 < l.length) :
    ∃ b o, a = some ⟨b, o, none⟩ ∧ ∀ i (hi : i < l.length), w.cell? ⟨b, o + i * 3, none⟩ = some (.string l[i].n) ∧ w.cell? ⟨b, o + i * 3 + 1, none⟩ = some (.int .i64 l[i].v) ∧ w.cell? ⟨b, o + i * 3 + 2, none⟩ = some (.int .u64 (l[i].k : Int)) ∧ w.rangeAt b (o + i * 3) (entC l[i]) := by
  obtain ⟨b, o, rfl, _, _, _, hr⟩ := h.ne (by decide) (by rw [entsC_len]; exact hn)
  refine ⟨b, o, rfl, fun i hi => ?_⟩
  have h1 := hr i _ (entsC_at l i hi)
  exact ⟨h1 0 _ rfl, h1 1 _ rfl, h1 2 _ rfl, h1⟩
theorem Ps.kno {w : World} {lo hi : Nat} {a : Option Addr} {n cap : Nat} {l : List Kno} (h : Ps 4 w lo hi (.slice a n cap) (knosC l)) (hn : 0 < l.length) :
    ∃ b o, a = some ⟨b, o, none⟩ ∧ ∀ i (hi : i < l.length), w.cell? ⟨b, o + i * 4, none⟩ = some (.string l[i].e.n) ∧ w.cell? ⟨b, o + i * 4 + 1, none⟩ = some (.int .i64 l[i].e.v) ∧ w.cell? ⟨b, o + i * 4 + 2, none⟩ = some (.int .u64 (l[i].e.k : Int)) ∧ w.cell? ⟨b, o + i * 4 + 3, none⟩ = some (.int .i64 l[i].p) ∧ w.rangeAt b (o + i * 4) (knoC l[i]) ∧ w.rangeAt b (o + i * 4) (entC l[i].e) := by
  obtain ⟨b, o, rfl, _, _, _, hr⟩ := h.ne (by decide) (by rw [knosC_len]; exact hn)
  refine ⟨b, o, rfl, fun i hi => ?_⟩
  have h1 := hr i _ (knosC_at l i hi)
  refine ⟨h1 0 _ rfl, h1 1 _ rfl, h1 2 _ rfl, h1 3 _ rfl, h1, fun j v hj => h1 j v ?_⟩
  match j, hj with
  | 0, hj => exact hj
  | 1, hj => exact hj
  | 2, hj => exact hj
  | j + 3, hj => simp at hj

/-- 's[:i]', 's[i:]' of pieces. -/
theorem ps_to {P : Program} {t : TypeId} {k : Nat} (ht : P.underlying t = some (.slice (P.elem t))) (hz : ∀ W, (sizeOf (P.elem t)).run P W = .ok k W) {w : World} {lo hi : Nat} {a : Option Addr} {n cap : Nat} {xs : List (List Value)} (h : Ps k w lo hi (.slice a n cap) xs) (kd : IntKind) (i : Nat) (h1 : i ≤ n) :
    ∃ a', (∀ W, (Instr.slice t (.slice a n cap) none (some (.int kd i)) none).run P W = .ok (.slice a' i cap) W) ∧ Ps k w lo hi (.slice a' i cap) (xs.take i) := by
  have hc : n ≤ cap := by obtain ⟨a', cap', hv, hc, _⟩ := h.form; injection hv; omega
  refine ⟨if cap = 0 then a else a.map (·.add 0), fun W => ?_, ?_⟩
  · rw [run_slice_h (P := P) W t a n cap ht kd i (by omega) (by omega), hz]
    simp [Go.sliced]
  · have := Ps.sliced h 0 i (by omega) (by omega)
    simpa using this
theorem ps_from {P : Program} {t : TypeId} {k : Nat} (ht : P.underlying t = some (.slice (P.elem t))) (hz : ∀ W, (sizeOf (P.elem t)).run P W = .ok k W) {w : World} {lo hi : Nat} {a : Option Addr} {n cap : Nat} {xs : List (List Value)} (h : Ps k w lo hi (.slice a n cap) xs) (kd : IntKind) (i : Nat) (h1 : i ≤ n) :
    ∃ a', (∀ W, (Instr.slice t (.slice a n cap) (some (.int kd i)) none none).run P W = .ok (.slice a' (n - i) (cap - i)) W) ∧ Ps k w lo hi (.slice a' (n - i) (cap - i)) (xs.drop i) := by
  refine ⟨if cap = i then a else a.map (·.add (i * k)), fun W => ?_, ?_⟩
  · rw [run_slice_l (P := P) W t a n cap ht kd i (by omega) (by omega), hz]
    simp [Go.sliced]
  · have hn : n = xs.length := by obtain ⟨a', cap', hv, _⟩ := h.form; injection hv
    have := Ps.sliced h i n (by omega) (Nat.le_refl _)
    rw [List.take_of_length_le (by omega)] at this
    exact this
theorem knosC_take (l : List Kno) (i : Nat) : knosC (l.take i) = (knosC l).take i := List.map_take
theorem knosC_drop (l : List Kno) (i : Nat) : knosC (l.drop i) = (knosC l).drop i := List.map_drop
theorem entsC_take (l : List Ent) (i : Nat) : entsC (l.take i) = (entsC l).take i := List.map_take
theorem entsC_drop (l : List Ent) (i : Nat) : entsC (l.drop i) = (entsC l).drop i := List.map_drop

/-- Where a row of pieces lies: within [lo, hi), or in memory that is newer than world w. -/
def Off (k : Nat) (w : World) (lo hi : Nat) (w' : World) (r : Value) (xs : List (List Value)) : Prop := ∃ lo2 hi2, Ps k w' lo2 hi2 r xs ∧ ((lo ≤ lo2 ∧ hi2 ≤ hi) ∨ w.heap.size ≤ lo2)
theorem Off.kept {k : Nat} {S : Nat → Prop} {w w' w2 : World} {lo hi : Nat} {r : Value} {xs : List (List Value)} (h : Off k w lo hi w' r xs) (hk : Kept S w' w2) (h1 : ∀ b, lo ≤ b → b < hi → ¬ S b) (h2 : ∀ b, w.heap.size ≤ b → ¬ S b) : Off k w lo hi w2 r xs := by
  obtain ⟨lo2, hi2, hp, hq⟩ := h
  refine ⟨lo2, hi2, hp.kept hk (fun b q1 q2 => ?_), hq⟩
  rcases hq with ⟨p1, p2⟩ | p1
  · exact h1 b (by omega) (by omega)
  · exact h2 b (by omega)
theorem Off.ps {k : Nat} {w w' : World} {lo hi : Nat} {r : Value} {xs : List (List Value)} (h : Off k w lo hi w' r xs) : Ps k w' 0 w'.heap.size r xs := by
  obtain ⟨lo2, hi2, hp, _⟩ := h
  exact hp.lt.wider (Nat.zero_le _) (Nat.min_le_right _ _)
theorem Off.base {k : Nat} {w w0 w' : World} {lo hi : Nat} {r : Value} {xs : List (List Value)} (h : Off k w lo hi w' r xs) (hb : w0.heap.size ≤ w.heap.size) : Off k w0 lo hi w' r xs := by
  obtain ⟨lo2, hi2, hp, hq⟩ := h
  exact ⟨lo2, hi2, hp, hq.elim .inl (fun p => .inr (by omega))⟩
theorem Off.of {k : Nat} {w : World} {lo hi : Nat} {r : Value} {xs : List (List Value)} (w0 : World) (h : Ps k w lo hi r xs) : Off k w0 lo hi w r xs := ⟨lo, hi, h, .inl ⟨Nat.le_refl _, Nat.le_refl _⟩⟩

/-! ### The document's directory -/
/-- Names are alike; one is ahead of another one. -/
def eqN (a b : ByteArray) : Bool := a.toList == b.toList
def ltN (a b : ByteArray) : Bool := Go.Op.bytesLess a.toList b.toList
/-- One step of Latest. -/
def latS (nm : ByteArray) (s : Kno × Bool) (x : Kno) : Kno × Bool := if eqN x.e.n nm && (!s.2 || decide (s.1.e.v < x.e.v)) then (x, true) else s
def latF (l : List Kno) (nm : ByteArray) : Kno × Bool := l.foldl (latS nm) (Kno.none, false)
theorem latF_take (l : List Kno) (nm : ByteArray) (i : Nat) (h : i < l.length) : (l.take (i + 1)).foldl (latS nm) (Kno.none, false) = latS nm ((l.take i).foldl (latS nm) (Kno.none, false)) l[i] := by
  rw [List.take_succ_eq_append_getElem h, List.foldl_append]
  rfl
theorem latF_all (l : List Kno) (nm : ByteArray) : (l.take l.length).foldl (latS nm) (Kno.none, false) = latF l nm := by rw [List.take_length]; rfl
theorem latS_ok {nm : ByteArray} {s : Kno × Bool} {x : Kno} (hs : s.1.e.Ok) (hx : x.e.Ok) : (latS nm s x).1.e.Ok := by
  unfold latS
  split
  · exact hx
  · exact hs
theorem latF_Ok : ∀ (l : List Kno) (nm : ByteArray), KOk l → (latF l nm).1.e.Ok := by
  intro l nm h
  have g : ∀ (l : List Kno) (s : Kno × Bool), KOk l → s.1.e.Ok → (l.foldl (latS nm) s).1.e.Ok := by
    intro l
    induction l with
    | nil => intro s _ hs; exact hs
    | cons x l ih =>
      intro s hl hs
      exact ih _ (fun y hy => hl y (List.mem_cons_of_mem _ hy)) (latS_ok hs (hl x (List.mem_cons_self ..)))
  exact g l _ h ⟨by decide, by decide⟩
/-- Ahead of an entry, in the order by names and versions. -/
def aheadK (y : Kno) (e : Ent) : Bool := ltN y.e.n e.n || (eqN y.e.n e.n && decide (y.e.v < e.v))
/-- How many stand ahead: the first so many. -/
def place (l : List Kno) (e : Ent) : Nat := (l.takeWhile (fun y => aheadK y e)).length
def insK (l : List Kno) (x : Kno) : List Kno := l.take (place l x.e) ++ x :: l.drop (place l x.e)
theorem place_le (l : List Kno) (e : Ent) : place l e ≤ l.length := by
  unfold place
  exact (List.takeWhile_sublist _).length_le
theorem place_lt {l : List Kno} {e : Ent} {i : Nat} (h : i < place l e) (hl : i < l.length) : aheadK l[i] e = true := by
  induction l generalizing i with
  | nil => simp at hl
  | cons y l ih =>
    unfold place at h
    rw [List.takeWhile_cons] at h
    split at h
    · rename_i hy
      cases i with
      | zero => exact hy
      | succ i => exact ih (by simpa [place] using h) (by simpa using hl)
    · simp at h
theorem place_at {l : List Kno} {e : Ent} (hl : place l e < l.length) : aheadK l[place l e] e = false := by
  induction l with
  | nil => simp at hl
  | cons y l ih =>
    cases hy : aheadK y e with
    | false =>
      have : place (y :: l) e = 0 := by simp [place, hy]
      simp only [this, List.getElem_cons_zero, hy]
    | true =>
      have e1 : place (y :: l) e = place l e + 1 := by simp [place, hy]
      have hl' : place l e < l.length := by rw [e1] at hl; simpa using hl
      have := ih hl'
      simp only [e1, List.getElem_cons_succ]
      exact this
/-- May entry e of a batch come at this epoch; ahead of it in the batch: b. -/
def mayE (l : List Kno) (b : List Ent) (e : Ent) : Bool := (entR e.n.size e.v e.k && decide (e.v = IntKind.i64.wrap ((latF l e.n).1.e.v + 1))) && !(b.any (fun y => eqN y.n e.n))
/-- The directory behind the first i of a batch; none: one of them may not be. -/
def addN (l : List Kno) (p : Int) (b : List Ent) : Nat → Option (List Kno)
  | 0 => some l
  | i + 1 => match addN l p b i with
    | Option.none => Option.none
    | some out => match b[i]? with
      | Option.none => some out
      | some e => if mayE l (b.take i) e then some (insK out ⟨e, p⟩) else Option.none
def addR (l : List Kno) : Option (List Kno) → List Kno × Bool
  | Option.none => (l, false)
  | some out => (out, true)
def addF (l : List Kno) (p : Int) (b : List Ent) : List Kno × Bool :=
  if p < 1 then (l, false) else if l.any (fun y => decide (p ≤ y.p)) then (l, false) else addR l (addN l p b b.length)
theorem addN_none {l : List Kno} {p : Int} {b : List Ent} {i : Nat} (h : addN l p b i = Option.none) : ∀ j, addN l p b (i + j) = Option.none
  | 0 => h
  | j + 1 => by
    show addN l p b (i + j + 1) = _
    unfold addN
    rw [addN_none h j]
theorem addN_stop {l : List Kno} {p : Int} {b : List Ent} {i : Nat} (h : addN l p b i = Option.none) (hi : i ≤ b.length) : addN l p b b.length = Option.none := by
  have := addN_none h (b.length - i)
  rwa [Nat.add_sub_cancel' hi] at this
theorem addN_bad {l out : List Kno} {p : Int} {b : List Ent} {i : Nat} (h : addN l p b i = some out) (hi : i < b.length) (hm : mayE l (b.take i) b[i] = false) : addN l p b (i + 1) = Option.none := by
  unfold addN
  rw [h, List.getElem?_eq_getElem hi]
  simp only [hm]
  rfl
theorem addN_good {l out : List Kno} {p : Int} {b : List Ent} {i : Nat} (h : addN l p b i = some out) (hi : i < b.length) (hm : mayE l (b.take i) b[i] = true) : addN l p b (i + 1) = some (insK out ⟨b[i], p⟩) := by
  unfold addN
  rw [h, List.getElem?_eq_getElem hi]
  simp only [hm, if_true]
theorem insK_len (l : List Kno) (x : Kno) : (insK l x).length = l.length + 1 := by
  unfold insK
  have := place_le l x.e
  simp
  omega
theorem insK_ok {l : List Kno} {x : Kno} (hl : KOk l) (hx : x.e.Ok) : KOk (insK l x) := fun y hy => by
  unfold insK at hy
  rcases List.mem_append.1 hy with h | h
  · exact hl y (List.mem_of_mem_take h)
  · rcases List.mem_cons.1 h with h | h
    · rw [h]; exact hx
    · exact hl y (List.mem_of_mem_drop h)
theorem addN_ok {l : List Kno} {p : Int} {b : List Ent} (hl : KOk l) (hb : EOk b) : ∀ (i : Nat) (out : List Kno), addN l p b i = some out → KOk out ∧ out.length ≤ l.length + i
  | 0, out, h => by
    obtain rfl := Option.some.inj h
    exact ⟨hl, Nat.le_refl _⟩
  | i + 1, out, h => by
    unfold addN at h
    cases h0 : addN l p b i with
    | none => rw [h0] at h; cases h
    | some o =>
      obtain ⟨q1, q2⟩ := addN_ok hl hb i o h0
      rw [h0] at h
      cases h1 : b[i]? with
      | none =>
        rw [h1] at h
        obtain rfl := Option.some.inj h
        exact ⟨q1, by omega⟩
      | some e =>
        rw [h1] at h
        simp only at h
        split at h
        · obtain rfl := Option.some.inj h
          exact ⟨insK_ok q1 (hb e (List.mem_of_getElem? h1)), by rw [insK_len]; omega⟩
        · cases h
theorem addF_ok {l : List Kno} {p : Int} {b : List Ent} (hl : KOk l) (hb : EOk b) : KOk (addF l p b).1 ∧ (addF l p b).1.length ≤ l.length + b.length := by
  unfold addF
  split
  · exact ⟨hl, Nat.le_add_right _ _⟩
  · split
    · exact ⟨hl, Nat.le_add_right _ _⟩
    · cases h : addN l p b b.length with
      | none => exact ⟨hl, Nat.le_add_right _ _⟩
      | some out => exact addN_ok hl hb _ _ h
end Go.Pm

namespace Go.Proofs.Ytibkijloibnkfaa
open Go.RowKit Go.Pm
namespace R16
theorem aKno : AggTy Try.prog 73 4 := Sg.AggTy.of (by kernel_rfl) (by kernel_rfl)
theorem res_ct {P : Program} {fn : Func} {p q : Tmp} {ty : TypeId} (h : fn.results = #[.cell p ty, .tmp q]) (tmps : Array Value) {w : World} {g : Nat} {t : TypeId} {cs : Array Value} (hp : tmps.getD p undef = .pointer (some ⟨g, 0, none⟩)) {x : Value} (hq : tmps.getD q undef = x) (hb : Blk w g cs t)
    (hT : AggTy P ty cs.size) : (results fn tmps).run P w = .ok (.tuple #[.agg cs, x]) w := by
  obtain ⟨d, hu, hd⟩ := hT.ag
  have hp' : tmps[p]?.getD undef = .pointer (some ⟨g, 0, none⟩) := by simpa using hp
  have hq' : tmps[q]?.getD undef = x := by simpa using hq
  have hl := run_loadVar_row w g t ty cs (0, 0) d hb hu (by cases d <;> first | rfl | exact hd) hT.size
  simp [results, h, hp', hq', asAddr, hl]
theorem kno_all (x : Kno) : (knoC x).toArray.all (·.oneCell') = true := all_oneCell_toArray (knoC_one x)
set_option maxRecDepth 100000 in
set_option maxHeartbeats 8000000 in
/-- Latest. -/
theorem latest (v : Value) (lo hi : Nat) (l : List Kno) (nm : ByteArray) (w : World) (hv : Ps 4 w lo hi v (knosC l)) (hlen : l.length ≤ 1099511627776) :
    Calls Try.prog 31 #[v, .string nm] w fun e w' => e = .returned (.tuple #[(latF l nm).1.V, .bool (latF l nm).2]) ∧ Kept None w w' := by
  obtain ⟨a, cap, rfl, g1, g2, g3⟩ := hv.form
  rw [knosC_len] at g1 hv ⊢
  have hall := latF_all l nm
  obtain ⟨RS, hRS⟩ : ∃ r, r = latF l nm := ⟨_, rfl⟩
  rw [← hRS] at hall ⊢
  obtain ⟨n, hn⟩ : ∃ n, n = l.length := ⟨_, rfl⟩
  rw [← hn] at g1 hlen hv hall ⊢
  have k0 : Kept None w ((w.alloc (.cells #[.string ⟨#[]⟩, .int .i64 0, .int .u64 0, .int .i64 0] 73)).alloc (.cells #[.string ⟨#[]⟩, .int .i64 0, .int .u64 0, .int .i64 0] 73)) := ((Kept.refl _ _).alloc _).alloc _
  have y0 : Blk ((w.alloc (.cells #[.string ⟨#[]⟩, .int .i64 0, .int .u64 0, .int .i64 0] 73)).alloc (.cells #[.string ⟨#[]⟩, .int .i64 0, .int .u64 0, .int .i64 0] 73)) (w.heap.size + 1) (knoC Kno.none).toArray 73 := Blk.new2 w _ _ _
  have z0 : Blk ((w.alloc (.cells #[.string ⟨#[]⟩, .int .i64 0, .int .u64 0, .int .i64 0] 73)).alloc (.cells #[.string ⟨#[]⟩, .int .i64 0, .int .u64 0, .int .i64 0] 73)) w.heap.size #[.string ⟨#[]⟩, .int .i64 0, .int .u64 0, .int .i64 0] 73 := (Blk.new w _ _).alloc _
  have HV := hid hv
  have HN := hid (And.intro hn hlen)
  have HA := hid (And.intro hall hRS)
  clear hv hn hall hRS g3
  have K0 := hid k0
  have Y0 := hid y0
  have Z0 := hid z0
  clear k0 y0 z0
  go_enter Try.func31, Try.ntmps31
  go_wp2
  go_loopg [7, 8] n (fun kx s7 s8 wr => ∃ (k : Nat) (X : Kno) (b : Bool), s8 = .int .i64 k ∧ s7 = .bool b ∧ k ≤ n ∧ n - k ≤ kx ∧ Hid (Kept None w wr) ∧ Hid (Blk wr (w.heap.size + 1) (knoC X).toArray 73) ∧ Hid (Blk wr w.heap.size #[.string ⟨#[]⟩, .int .i64 0, .int .u64 0, .int .i64 0] 73) ∧ Hid ((l.take k).foldl (latS nm) (Kno.none, false) = (X, b)))
  case atStart => exact ⟨0, Kno.none, false, rfl, rfl, Nat.zero_le _, Nat.le_refl _, K0, Y0, Z0, hid rfl⟩
  case round =>
    obtain ⟨k, X, b, rfl, rfl, hk, hkx, HK, HY, HZ, HT⟩ := hrel
    by_cases hlt : k < n
    · have hz : (k : Int) < (n : Int) := by omega
      have wk : IntKind.i64.wrap ((k : Int) + 1) = (k : Int) + 1 := by rw [IntKind.wrap_i64]; have := HN.out.2; omega
      have kl : k < l.length := by have := HN.out.1; omega
      obtain ⟨bb, o, q1, hc⟩ := (HV.out.kept HK.out (fun _ _ _ h => h)).kno (by omega)
      obtain rfl := q1
      obtain ⟨c0, c1, _, _, rx, _⟩ := hc k kl
      have hS := latF_take l nm k kl
      rw [HT.out] at hS
      have HS := hid hS
      have HR := hid rx
      obtain ⟨E, hE⟩ : ∃ E, E = eqN l[k].e.n nm := ⟨_, rfl⟩
      obtain ⟨G, hG⟩ : ∃ G, G = decide (X.e.v < l[k].e.v) := ⟨_, rfl⟩
      obtain ⟨x0, hx0⟩ : ∃ x, x = l[k].e.n := ⟨_, rfl⟩
      obtain ⟨x1, hx1⟩ : ∃ x, x = l[k].e.v := ⟨_, rfl⟩
      obtain ⟨t1, ht1⟩ : ∃ x, x = X.e.v := ⟨_, rfl⟩
      rw [← hx0] at c0
      rw [← hx1] at c1
      have hE' : (x0.toList == nm.toList) = E := by rw [hx0, hE]; rfl
      have hG' : decide (t1 < x1) = G := by rw [ht1, hx1, hG]
      have d1 : wr.cell? ⟨w.heap.size + 1, 1, none⟩ = some (.int .i64 t1) := by rw [ht1]; exact HY.out.cell 1
      have HX := hid (And.intro hE.symm (And.intro hG.symm True.intro))
      clear rx hc hS hE hG hx0 hx1 ht1
      cases E with
      | false =>
        go_wp2_with fail
        go_quiet (fail)
        obtain ⟨w6, hw6⟩ : ∃ w6, w6 = wr.drewN nq := ⟨_, rfl⟩
        have hW : Kept None wr w6 := hw6 ▸ Kept.toDrewN _ _ _
        rw [← hw6]
        clear hw6 c0 c1 d1
        have HW := hid (HK.out.trans hW)
        have y6 := HY.out.kept hW (fun h => h)
        have z6 := HZ.out.kept hW (fun h => h)
        have HY6 := hid y6
        have HZ6 := hid z6
        have HT2 : Hid ((l.take (k + 1)).foldl (latS nm) (Kno.none, false) = (X, b)) := hid (by rw [HS.out, latS, if_neg (by rw [HX.out.1]; simp)])
        clear HK hW y6 z6
        go_wp2
        go_roundg (n - (k + 1))
        case measure => omega
        case rel => exact ⟨k + 1, X, b, by go_num, rfl, by omega, Nat.le_refl _, HW, HY6, HZ6, HT2⟩
      | true =>
        cases b with
        | false =>
          go_wp2_with fail
          go_quiet (fail)
          obtain ⟨w6, hw6⟩ : ∃ w6, w6 = wr.drewN nq := ⟨_, rfl⟩
          have hW : Kept None wr w6 := hw6 ▸ Kept.toDrewN _ _ _
          rw [← hw6]
          clear hw6 c0 c1 d1
          have HW := hid (HK.out.trans hW)
          have y6 := HY.out.kept hW (fun h => h)
          have z6 := HZ.out.kept hW (fun h => h)
          have rx := rangeAt_kept HR.out hW
          have HT2 : Hid ((l.take (k + 1)).foldl (latS nm) (Kno.none, false) = (l[k]'(by have := HN.out; omega), true)) := hid (by rw [HS.out, latS, if_pos (by rw [HX.out.1, HX.out.2.1]; rfl)])
          clear HK
          go_wp2_with (first | (refine wpList_load_at (.refl _) _ _ rfl rfl rx aKno ?_) | (refine wpList_store_blk (.refl _) _ _ _ rfl rfl rfl y6 aKno rfl (kno_all _) ?_; intro w7 y7 k7) | fail)
          have HW7 : Hid (Kept None w w7) := hid (HW.out.then k7 (fun i hi (h : i = w.heap.size + 1) => by omega))
          have HY7 := hid y7
          have HZ7 := hid (z6.kept k7 (fun (h : w.heap.size = w.heap.size + 1) => by omega))
          clear y6 z6 y7 k7 HW hW rx
          go_roundg (n - (k + 1))
          case measure => omega
          case rel => exact ⟨k + 1, l[k]'(by have := HN.out; omega), true, by go_num, rfl, by omega, Nat.le_refl _, HW7, HY7, HZ7, HT2⟩
        | true =>
          cases G with
          | true =>
            go_wp2_with fail
            go_quiet (fail)
            obtain ⟨w6, hw6⟩ : ∃ w6, w6 = wr.drewN nq := ⟨_, rfl⟩
            have hW : Kept None wr w6 := hw6 ▸ Kept.toDrewN _ _ _
            rw [← hw6]
            clear hw6 c0 c1 d1
            have HW := hid (HK.out.trans hW)
            have y6 := HY.out.kept hW (fun h => h)
            have z6 := HZ.out.kept hW (fun h => h)
            have rx := rangeAt_kept HR.out hW
            have HT2 : Hid ((l.take (k + 1)).foldl (latS nm) (Kno.none, false) = (l[k]'(by have := HN.out; omega), true)) := hid (by rw [HS.out, latS, if_pos (by rw [HX.out.1, HX.out.2.1]; rfl)])
            clear HK
            go_wp2_with (first | (refine wpList_load_at (.refl _) _ _ rfl rfl rx aKno ?_) | (refine wpList_store_blk (.refl _) _ _ _ rfl rfl rfl y6 aKno rfl (kno_all _) ?_; intro w7 y7 k7) | fail)
            have HW7 : Hid (Kept None w w7) := hid (HW.out.then k7 (fun i hi (h : i = w.heap.size + 1) => by omega))
            have HY7 := hid y7
            have HZ7 := hid (z6.kept k7 (fun (h : w.heap.size = w.heap.size + 1) => by omega))
            clear y6 z6 y7 k7 HW hW rx
            go_roundg (n - (k + 1))
            case measure => omega
            case rel => exact ⟨k + 1, l[k]'(by have := HN.out; omega), true, by go_num, rfl, by omega, Nat.le_refl _, HW7, HY7, HZ7, HT2⟩
          | false =>
            go_wp2_with fail
            go_quiet (fail)
            obtain ⟨w6, hw6⟩ : ∃ w6, w6 = wr.drewN nq := ⟨_, rfl⟩
            have hW : Kept None wr w6 := hw6 ▸ Kept.toDrewN _ _ _
            rw [← hw6]
            clear hw6 c0 c1 d1
            have HW := hid (HK.out.trans hW)
            have y6 := HY.out.kept hW (fun h => h)
            have z6 := HZ.out.kept hW (fun h => h)
            have HY6 := hid y6
            have HZ6 := hid z6
            have HT2 : Hid ((l.take (k + 1)).foldl (latS nm) (Kno.none, false) = (X, true)) := hid (by rw [HS.out, latS, if_neg (by rw [HX.out.1, HX.out.2.1]; simp)])
            clear HK hW y6 z6
            go_wp2
            go_roundg (n - (k + 1))
            case measure => omega
            case rel => exact ⟨k + 1, X, true, by go_num, rfl, by omega, Nat.le_refl _, HW, HY6, HZ6, HT2⟩
    · have hz : ¬ (k : Int) < (n : Int) := by omega
      obtain rfl : k = n := by omega
      have hf : RS = (X, b) := by
        have h1 := HT.out
        rw [HA.out.1] at h1
        exact h1
      have HF := hid hf
      have y6 := HY.out
      have z6 := HZ.out
      clear HT hf
      go_wp2_with (first | (refine wpList_load_blk rfl _ _ rfl rfl y6 aKno ?_) | (refine wpList_store_blk rfl _ _ _ rfl rfl rfl z6 aKno rfl (kno_all _) ?_; intro w7 z7 k7) | fail)
      exact bodyPost_ret (v := .tuple #[X.V, .bool b]) (res_ct rfl _ rfl rfl z7 aKno) rfl ⟨by rw [HF.out], HK.out.then k7 (fun i hi (h : i = w.heap.size) => by omega)⟩
end R16
end Go.Proofs.Ytibkijloibnkfaa

namespace Go.Proofs.Ytibkijloibnkfaa
open Go.RowKit Go.Pm
namespace R16
theorem rtKnown : RowTyK Try.prog 33 73 (.agg #[.string ⟨#[]⟩, .int .i64 0, .int .u64 0, .int .i64 0]) 4 40 := Hk.rtyK (by kernel_rfl) (by kernel_rfl) (by rfl) (by decide)
theorem elKnown : Try.prog.elem 33 = 73 := by kernel_rfl
theorem tKnown : Try.prog.underlying 33 = some (.slice (Try.prog.elem 33)) := by rw [elKnown]; kernel_rfl
theorem zKnown : ∀ W, (sizeOf (Try.prog.elem 33)).run Try.prog W = .ok 4 W := by rw [elKnown]; intro W; kernel_rfl
/-- A block of one piece, as a row. -/
theorem ps_blk {k : Nat} {w : World} {g : Nat} {t : TypeId} {x : List Value} (h : Blk w g x.toArray t) (hx : x.length = k) : Ps k w 0 w.heap.size (.slice (some ⟨g, 0, none⟩) 1 1) [x] := by
  refine ⟨Each.one hx, by simp [hx], some ⟨g, 0, none⟩, 1, rfl, Nat.le_refl _, by unfold maxLen; omega, (fun h => by cases h), ?_⟩
  intro ad had i c hc
  simp only [Option.some.injEq] at had
  subst had
  refine ⟨Nat.zero_le _, h.lt, ?_⟩
  rw [Addr.add_lit, Nat.zero_add, h.cell]
  simpa using hc
theorem ent_all (x : Ent) : (entC x).toArray.all (·.oneCell') = true := all_oneCell_toArray (entC_one x)
set_option maxRecDepth 100000 in
set_option maxHeartbeats 16000000 in
/-- Add. -/
theorem add (v u : Value) (lo hi lo' hi' : Nat) (l : List Kno) (p : Int) (b : List Ent) (w : World) (hv : Ps 4 w lo hi v (knosC l)) (hu : Ps 3 w lo' hi' u (entsC b)) (hl : l.length ≤ 274877906944) (hb : b.length ≤ 274877906944) :
    Calls Try.prog 86 #[v, .int .i64 p, u] w fun e w' => ∃ r, e = .returned (.tuple #[r, .bool (addF l p b).2]) ∧ Kept None w w' ∧ Off 4 w lo hi w' r (knosC (addF l p b).1) := by
  have hvv : ∀ W, Kept None w W → Off 4 w lo hi W v (knosC l) := fun W hW => Off.of w (hv.kept hW (fun _ _ _ h => h))
  obtain ⟨a, cap, rfl, g1, g2, g3⟩ := hv.form
  rw [knosC_len] at g1 hv hvv ⊢
  obtain ⟨au, cu, rfl, gu1, gu2, gu3⟩ := hu.form
  rw [entsC_len] at gu1 hu ⊢
  obtain ⟨n, hn⟩ : ∃ n, n = l.length := ⟨_, rfl⟩
  obtain ⟨m, hm⟩ : ∃ m, m = b.length := ⟨_, rfl⟩
  rw [← hn] at g1 hl hv hvv ⊢
  rw [← hm] at gu1 hb hu ⊢
  have bad1 : p < 1 → addF l p b = (l, false) := fun h => by unfold addF; rw [if_pos h]
  have bad2 : ∀ k (hk : k < l.length), ¬ p < 1 → p ≤ l[k].p → addF l p b = (l, false) := fun k hk h h2 => by
    unfold addF
    rw [if_neg h, if_pos (List.any_eq_true.2 ⟨l[k], List.getElem_mem hk, by simpa using h2⟩)]
  have good : ¬ p < 1 → (∀ k (hk : k < l.length), ¬ p ≤ l[k].p) → addF l p b = addR l (addN l p b b.length) := fun h h2 => by
    have h5 : ¬ (l.any fun y => decide (p ≤ y.p)) = true := fun h3 => by
      obtain ⟨y, hy, h4⟩ := List.any_eq_true.1 h3
      obtain ⟨k, hk, rfl⟩ := List.getElem_of_mem hy
      exact h2 k hk (by simpa using h4)
    unfold addF
    rw [if_neg h, if_neg h5]
  obtain ⟨RS, hRS⟩ : ∃ r, r = addF l p b := ⟨_, rfl⟩
  rw [← hRS] at bad1 bad2 good ⊢
  have HV := hid (And.intro hv hvv)
  have HU := hid hu
  have HN := hid (And.intro hn (And.intro hm (And.intro hl hb)))
  have HBAD := hid (And.intro bad1 bad2)
  have HGOOD := hid good
  clear hv hvv hu hn hm bad1 bad2 good hRS g3 gu3
  have K0 := hid (Kept.refl None w)
  by_cases hp1 : p < 1
  · have hq := HBAD.out.1 hp1
    have HQ := hid hq
    clear hq
    go_enter Try.func86, Try.ntmps86
    go_wp2
    go_ret2
    exact ⟨.slice a n cap, by rw [HQ.out]; rfl, Kept.refl _ _, by rw [HQ.out]; exact HV.out.2 w (Kept.refl _ _)⟩
  go_enter Try.func86, Try.ntmps86
  go_wp2
  go_loopg [8] n (fun kx s8 wr => ∃ k : Nat, s8 = .int .i64 k ∧ k ≤ n ∧ n - k ≤ kx ∧ Hid (Kept None w wr) ∧ Hid (∀ j (_ : j < k) (hj : j < l.length), ¬ p ≤ l[j].p))
  case atStart => exact ⟨0, rfl, Nat.zero_le _, Nat.le_refl _, K0, hid (fun j hj => absurd hj (by omega))⟩
  case round =>
    obtain ⟨k, rfl, hk, hkx, HK, HT⟩ := hrel
    by_cases hlt : k < n
    · have hz : (k : Int) < (n : Int) := by omega
      have wk : IntKind.i64.wrap ((k : Int) + 1) = (k : Int) + 1 := by rw [IntKind.wrap_i64]; have := HN.out.2.2.1; omega
      have kl : k < l.length := by have := HN.out.1; omega
      obtain ⟨bb, o, q1, hc⟩ := (HV.out.1.kept HK.out (fun _ _ _ h => h)).kno (by omega)
      obtain rfl := q1
      obtain ⟨_, _, _, c3, _, _⟩ := hc k kl
      obtain ⟨x3, hx3⟩ : ∃ x, x = l[k].p := ⟨_, rfl⟩
      rw [← hx3] at c3
      have HX := hid hx3
      clear hc hx3
      by_cases hpx : p ≤ x3
      · have hq := HBAD.out.2 k kl hp1 (HX.out ▸ hpx)
        have HQ := hid hq
        clear hq
        go_wp2
        go_ret2
        exact ⟨.slice (some ⟨bb, o, none⟩) n cap, by rw [HQ.out]; rfl, HK.out, by rw [HQ.out]; exact HV.out.2 _ HK.out⟩
      · have HT2 : Hid (∀ j (_ : j < k + 1) (hj : j < l.length), ¬ p ≤ l[j].p) := hid (fun j hj hjl => by
          by_cases hjk : j = k
          · subst hjk
            rw [← HX.out]
            exact hpx
          · exact HT.out j (by omega) hjl)
        go_wp2
        go_roundg (n - (k + 1))
        case measure => omega
        case rel => exact ⟨k + 1, by go_num, by omega, Nat.le_refl _, HK, HT2⟩
    · have hz : ¬ (k : Int) < (n : Int) := by omega
      have hq := HGOOD.out hp1 (fun j hj => by have := HT.out j (by have := HN.out.1; omega) hj; omega)
      have HQ := hid hq
      clear hq HT HGOOD hlt hk hkx
      have i1 := HV.out.1.kept HK.out (fun _ _ _ h => h)
      have hall := knosC_one l
      go_wp2_with (first | (at_builtin; refine wpList_append_po (v := .slice none 0 0) (l := []) (m := knosC l) (base := wr.heap.size) rfl _ _ 33 rfl rtKnown (by decide) rfl rfl (Po.nil _ _ _ _) i1 hall (by rw [knosC_len]; have := HN.out; simp; omega) (Nat.le_refl _) ?k4) | fail)
      case k4 =>
        intro a4 n4 c4 w4 b4 k4 _
        have k04 := HK.out.trans (k4.mono (fun _ _ h => by cases h))
        have b4' : Ps 4 w4 w.heap.size w4.heap.size (.slice a4 n4 c4) (knosC l) := (by simpa using b4 : Po 4 73 w4 wr.heap.size (.slice a4 n4 c4) (knosC l)).ps (Nat.le_refl _) |>.wider HK.out.size (Nat.le_refl _)
        have K4 := hid k04
        have B4 := hid b4'
        clear b4 b4' k4 k04 i1 hall HK
        go_wp2
        go_loopg [9, 10] m (fun kx s9 s10 wr => ∃ (k : Nat) (out : List Kno) (ao : Option Addr) (no co : Nat), s10 = .int .i64 k ∧ s9 = .slice ao no co ∧ k ≤ m ∧ m - k ≤ kx ∧ Hid (Kept None w wr) ∧ Hid (Ps 4 wr w.heap.size wr.heap.size (.slice ao no co) (knosC out)) ∧ Hid (addN l p b k = some out ∧ out.length ≤ n + k))
        case atStart => exact ⟨0, l, _, _, _, rfl, rfl, Nat.zero_le _, Nat.le_refl _, K4, B4, hid ⟨rfl, by have := HN.out.1; omega⟩⟩
        case round =>
          obtain ⟨k, out, ao, no, co, rfl, rfl, hk, hkx, HK, HO, HT⟩ := hrel
          by_cases hlt : k < m
          · have hz : (k : Int) < (m : Int) := by omega
            have wk : IntKind.i64.wrap ((k : Int) + 1) = (k : Int) + 1 := by rw [IntKind.wrap_i64]; have := HN.out.2.2.2; omega
            have kb : k < b.length := by have := HN.out.2.1; omega
            obtain ⟨bb, oo, q1, hc⟩ := (HU.out.kept HK.out (fun _ _ _ h => h)).ent (by omega)
            obtain rfl := q1
            obtain ⟨_, _, _, rE⟩ := hc k kb
            obtain ⟨e, he⟩ : ∃ e, e = b[k] := ⟨_, rfl⟩
            rw [← he] at rE
            have HEE := hid he
            have kW : Kept None w (wr.alloc (.cells (entC e).toArray 53)) := HK.out.alloc _
            have eW : Blk (wr.alloc (.cells (entC e).toArray 53)) wr.heap.size (entC e).toArray 53 := Blk.new _ _ _
            have hLat := fun W hW => latest (.slice a n cap) lo hi l e.n W (HV.out.1.kept hW (fun _ _ _ h => h)) (by have := HN.out; omega)
            obtain ⟨X, hX⟩ : ∃ X, X = latF l e.n := ⟨_, rfl⟩
            rw [← hX] at hLat
            have HX := hid hX
            have HL := hid hLat
            have hER := fun W => RUp.entryRight e.n e.v e.k W
            have HER := hid hER
            clear hc he hX hLat hER
            go_wp2_with (first | (refine wpList_load_at (.refl _) _ _ rfl rfl rE Up.aEnt ?_) | fail)
            refine (HL.out _ kW).mono ?_
            rintro ee w5 ⟨rfl, kn⟩
            have k5 := kW.trans kn
            have e5 := eW.kept kn (fun h => h)
            have k6 : Kept None w (w5.alloc (.cells #[.string X.1.e.n, .int .i64 X.1.e.v, .int .u64 (X.1.e.k : Int), .int .i64 X.1.p] 73)) := k5.alloc _
            have e6 : Blk (w5.alloc (.cells #[.string X.1.e.n, .int .i64 X.1.e.v, .int .u64 (X.1.e.k : Int), .int .i64 X.1.p] 73)) wr.heap.size (entC e).toArray 53 := e5.alloc _
            have x6 : Blk (w5.alloc (.cells #[.string X.1.e.n, .int .i64 X.1.e.v, .int .u64 (X.1.e.k : Int), .int .i64 X.1.p] 73)) w5.heap.size (knoC X.1).toArray 73 := Blk.new _ _ _
            have o6 := (HO.out.kept ((((Kept.refl None wr).alloc (.cells (entC e).toArray 53)).trans kn).alloc (.cells #[.string X.1.e.n, .int .i64 X.1.e.v, .int .u64 (X.1.e.k : Int), .int .i64 X.1.p] 73)) (fun _ _ _ h => h))
            clear kW eW kn k5 e5 rE HO
            go_wp2_with (first | (refine wpList_load_blk rfl _ _ rfl rfl e6 Up.aEnt ?_) | fail)
            refine (HER.out _).mono ?_
            rintro ee w7 ⟨rfl, kn⟩
            have k7 := k6.trans kn
            have e7 := e6.kept kn (fun h => h)
            have x7 := x6.kept kn (fun h => h)
            have o7 := o6.kept kn (fun _ _ _ h => h)
            have K7 := hid k7
            have E7 := hid e7
            have O7 := hid o7
            have c1 : w7.cell? ⟨wr.heap.size, 1, none⟩ = some (.int .i64 e.v) := e7.cell 1
            have d1 : w7.cell? ⟨w5.heap.size, 1, none⟩ = some (.int .i64 X.1.e.v) := x7.cell 1
            have hstop : mayE l (b.take k) e = false → RS = (l, false) := fun h => by
              rw [HQ.out, addN_stop (addN_bad HT.out.1 kb (HEE.out ▸ h)) (by omega)]
              rfl
            have HSTOP := hid hstop
            have hmay : mayE l (b.take k) e = ((entR e.n.size e.v e.k && decide (e.v = IntKind.i64.wrap (X.1.e.v + 1))) && !((b.take k).any (fun y => eqN y.n e.n))) := by
              rw [HX.out]
              rfl
            have HMAY := hid hmay
            obtain ⟨ER, hERb⟩ : ∃ r, r = entR e.n.size e.v e.k := ⟨_, rfl⟩
            have HERB := hid hERb
            rw [← hERb]
            obtain ⟨kv, hkv⟩ : ∃ x, x = X.1.e.v := ⟨_, rfl⟩
            obtain ⟨ev, hev⟩ : ∃ x, x = e.v := ⟨_, rfl⟩
            rw [← hkv] at d1
            rw [← hev] at c1
            obtain ⟨xx, hxx⟩ : ∃ x, x = IntKind.i64.wrap (kv + 1) := ⟨_, rfl⟩
            have hxw := hxx.symm
            have HXV := hid (And.intro hkv (And.intro hev hxx))
            clear hstop hmay hERb hkv hev hxx k6 e6 x6 o6 kn k7 e7 x7 o7 HL HER
            cases ER with
            | false =>
              have hq := HSTOP.out (by rw [HMAY.out, ← HERB.out]; rfl)
              have HQ2 := hid hq
              clear hq hxw
              go_wp2_with (first | go_skip | fail)
              go_ret2
              exact ⟨.slice a n cap, by rw [HQ2.out]; rfl, K7.out, by rw [HQ2.out]; exact HV.out.2 _ K7.out⟩
            | true =>
              by_cases hvx : ev = xx
              · have HVX := hid hvx
                obtain rfl := hvx
                go_wp2_with (first | go_skip | fail)
                clear c1 d1 hxw
                obtain ⟨eb, hebd⟩ : ∃ eb, eb = wr.heap.size := ⟨_, rfl⟩
                rw [← hebd]
                have HEB := hid hebd
                clear hebd
                have hno : no = out.length ∧ no ≤ co := by
                  obtain ⟨q1, q2, q3, q4, _, _⟩ := O7.out.form
                  rw [knosC_len] at q3 q4
                  injection q3 with _ r2 r3
                  omega
                have HNO := hid hno
                clear hno
                go_loopg [14] k (fun kx3 s14 wr => ∃ j : Nat, s14 = .int .i64 j ∧ j ≤ k ∧ k - j ≤ kx3 ∧ Hid (Kept None w7 wr) ∧ Hid ((b.take j).any (fun y => eqN y.n e.n) = false))
                case atStart => exact ⟨0, rfl, Nat.zero_le _, Nat.le_refl _, hid (Kept.refl _ _), hid (by simp)⟩
                case round =>
                  obtain ⟨j, rfl, hj, hjx, HK3, HT3⟩ := hrel
                  have E3 := hid (E7.out.kept HK3.out (fun h => h))
                  have d0 : wr.cell? ⟨eb, 0, none⟩ = some (.string e.n) := by rw [HEB.out]; exact E3.out.cell 0
                  by_cases hlt3 : j < k
                  · have hz3 : (j : Int) < (k : Int) := by omega
                    have hz4 : (j : Int) < (m : Int) := by omega
                    have wj : IntKind.i64.wrap ((j : Int) + 1) = (j : Int) + 1 := by rw [IntKind.wrap_i64]; have := HN.out.2.2.2; omega
                    have jb : j < b.length := by omega
                    obtain ⟨b2, o2, q2, hc2⟩ := (HU.out.kept (K7.out.trans HK3.out) (fun _ _ _ h => h)).ent (by omega)
                    obtain ⟨rfl, rfl⟩ : bb = b2 ∧ oo = o2 := by simpa using q2
                    obtain ⟨c0, _, _, _⟩ := hc2 j jb
                    obtain ⟨y0, hy0⟩ : ∃ y, y = b[j].n := ⟨_, rfl⟩
                    rw [← hy0] at c0
                    have htk : (b.take (j + 1)).any (fun y => eqN y.n e.n) = ((b.take j).any (fun y => eqN y.n e.n) || eqN y0 e.n) := by
                      rw [List.take_succ_eq_append_getElem jb, List.any_append, hy0]
                      simp
                    have HTK := hid htk
                    obtain ⟨EQ, hEQ⟩ : ∃ q, q = eqN y0 e.n := ⟨_, rfl⟩
                    obtain ⟨e0, he0⟩ : ∃ x, x = e.n := ⟨_, rfl⟩
                    have hEQ' : (y0.toList == e0.toList) = EQ := by rw [he0, hEQ]; rfl
                    rw [← he0] at d0
                    have HEQ := hid hEQ
                    clear hc2 q2 htk hEQ hy0 he0
                    cases EQ with
                    | true =>
                      have hq := HSTOP.out (by
                        rw [HMAY.out]
                        have h3 : ((b.take k).any fun y => eqN y.n e.n) = true := by
                          have h4 : ((b.take (j + 1)).any fun y => eqN y.n e.n) = true := by rw [HTK.out, ← HEQ.out]; simp
                          obtain ⟨y, hy, hyt⟩ := List.any_eq_true.1 h4
                          exact List.any_eq_true.2 ⟨y, List.take_subset_take_left b (by omega) hy, hyt⟩
                        rw [h3]
                        simp)
                      have HQ2 := hid hq
                      clear hq
                      go_wp2_with fail
                      go_quiet (fail)
                      obtain ⟨w8, hw8⟩ : ∃ w8, w8 = wr.drewN nq := ⟨_, rfl⟩
                      have k8 : Kept None w w8 := (K7.out.trans HK3.out).trans (hw8 ▸ Kept.toDrewN _ _ _)
                      rw [← hw8]
                      clear hw8 c0 d0
                      go_wp2
                      go_ret2
                      exact ⟨.slice a n cap, by rw [HQ2.out]; rfl, k8, by rw [HQ2.out]; exact HV.out.2 _ k8⟩
                    | false =>
                      have HT4 : Hid ((b.take (j + 1)).any (fun y => eqN y.n e.n) = false) := hid (by rw [HTK.out, HT3.out, ← HEQ.out]; rfl)
                      go_wp2_with fail
                      go_quiet (fail)
                      obtain ⟨w8, hw8⟩ : ∃ w8, w8 = wr.drewN nq := ⟨_, rfl⟩
                      have HK4 : Hid (Kept None w7 w8) := hid (HK3.out.trans (hw8 ▸ Kept.toDrewN _ _ _))
                      rw [← hw8]
                      clear hw8 c0 d0 E3
                      go_wp2
                      go_roundg (k - (j + 1))
                      case measure => omega
                      case rel => exact ⟨j + 1, by go_num, by omega, Nat.le_refl _, HK4, HT4⟩
                  · have hz3 : ¬ (j : Int) < (k : Int) := by omega
                    obtain rfl : j = k := by omega
                    have hgood : mayE l (b.take j) e = true := by
                      rw [HMAY.out, HT3.out, ← HERB.out, ← HXV.out.1, ← HXV.out.2.1, ← HXV.out.2.2, decide_eq_true rfl]
                      rfl
                    have hadd := addN_good (p := p) HT.out.1 kb (by rw [← HEE.out]; exact hgood)
                    rw [← HEE.out] at hadd
                    have HADD := hid hadd
                    have K9 := hid (K7.out.trans HK3.out)
                    have O9 := hid (O7.out.kept HK3.out (fun _ _ _ h => h))
                    have hpl := place_le out e
                    have hplt := fun i (h : i < place out e) hi => place_lt (e := e) h hi
                    have hpat := fun hi => place_at (l := out) (e := e) hi
                    obtain ⟨pl, hpd⟩ : ∃ pl, pl = place out e := ⟨_, rfl⟩
                    rw [← hpd] at hpl hplt hpat
                    have HPL := hid (And.intro hpl (And.intro hplt (And.intro hpat hpd)))
                    clear hgood hadd hpl hplt hpat hpd d0 HSTOP HMAY HT3 hz3
                    obtain ⟨wo, hwo⟩ : ∃ wo, wo = wr := ⟨_, rfl⟩
                    rw [← hwo] at K9 O9 E3 ⊢
                    clear hwo HK3
                    go_wp2
                    go_loopg [15] no (fun kx4 s15 wr => ∃ i : Nat, s15 = .int .i64 i ∧ i ≤ pl ∧ no - i ≤ kx4 ∧ Hid (Kept None wo wr))
                    case atStart => exact ⟨0, rfl, Nat.zero_le _, Nat.le_refl _, hid (Kept.refl _ _)⟩
                    case round =>
                      obtain ⟨i, rfl, hi, hix, HK4⟩ := hrel
                      have K5 := hid ((K9.out.trans HK4.out))
                      have E4 := hid (E3.out.kept HK4.out (fun h => h))
                      have f0 : wr.cell? ⟨eb, 0, none⟩ = some (.string e.n) := by rw [HEB.out]; exact E4.out.cell 0
                      have f1 : wr.cell? ⟨eb, 1, none⟩ = some (.int .i64 ev) := by rw [HEB.out, HXV.out.2.1]; exact E4.out.cell 1
                      obtain ⟨e0, he0⟩ : ∃ x, x = e.n := ⟨_, rfl⟩
                      rw [← he0] at f0
                      by_cases hin : i < no
                      · have hzi : (i : Int) < (no : Int) := by omega
                        have wi : IntKind.i64.wrap ((i : Int) + 1) = (i : Int) + 1 := by rw [IntKind.wrap_i64]; have := HNO.out; have := HT.out.2; have := HN.out; omega
                        have hio : i < out.length := by have := HNO.out; omega
                        obtain ⟨b4, o4, q4, hc4⟩ := (O9.out.kept HK4.out (fun _ _ _ h => h)).kno (by omega)
                        obtain rfl := q4
                        obtain ⟨c0, c1, _, _, _, _⟩ := hc4 i hio
                        obtain ⟨y0, hy0⟩ : ∃ y, y = out[i].e.n := ⟨_, rfl⟩
                        obtain ⟨y1, hy1⟩ : ∃ y, y = out[i].e.v := ⟨_, rfl⟩
                        rw [← hy0] at c0
                        rw [← hy1] at c1
                        have hah : aheadK out[i] e = (ltN y0 e0 || (eqN y0 e0 && decide (y1 < ev))) := by rw [hy0, hy1, he0, HXV.out.2.1]; rfl
                        have hbel : i < pl → aheadK out[i] e = true := fun h => HPL.out.2.1 i h hio
                        have habv : i = pl → aheadK out[i] e = false := fun h => by
                          subst h
                          exact HPL.out.2.2.1 hio
                        rw [hah] at hbel habv
                        obtain ⟨LT, hLT⟩ : ∃ q, q = ltN y0 e0 := ⟨_, rfl⟩
                        obtain ⟨EQ, hEQ⟩ : ∃ q, q = eqN y0 e0 := ⟨_, rfl⟩
                        obtain ⟨VL, hVL⟩ : ∃ q, q = decide (y1 < ev) := ⟨_, rfl⟩
                        rw [← hLT, ← hEQ, ← hVL] at hbel habv
                        have gLT : Go.Op.bytesLess y0.toList e0.toList = LT := by rw [hLT]; rfl
                        have gEQ : (y0.toList == e0.toList) = EQ := by rw [hEQ]; rfl
                        have gVL : decide (y1 < ev) = VL := hVL.symm
                        have HB := hid (And.intro hbel habv)
                        clear hLT hEQ hVL hbel habv hah hc4 hy0 hy1 he0
                        have hcs : (i < pl ∧ LT = true) ∨ (i < pl ∧ LT = false ∧ EQ = true ∧ VL = true) ∨ (i = pl ∧ LT = false ∧ EQ = false) ∨ (i = pl ∧ LT = false ∧ EQ = true ∧ VL = false) := by
                          have h1 := HB.out.1
                          have h2 := HB.out.2
                          by_cases hp : i < pl
                          · have h3 := h1 hp
                            cases LT
                            · right; left
                              simp only [Bool.false_or, Bool.and_eq_true] at h3
                              exact ⟨hp, rfl, h3.1, h3.2⟩
                            · left; exact ⟨hp, rfl⟩
                          · have hpe : i = pl := by omega
                            have h3 := h2 hpe
                            cases LT
                            · right; right
                              cases EQ
                              · left; exact ⟨hpe, rfl, rfl⟩
                              · right
                                simp only [Bool.false_or, Bool.true_and] at h3
                                exact ⟨hpe, rfl, rfl, h3⟩
                            · simp at h3
                        clear HB
                        rcases hcs with ⟨hp, rfl⟩ | ⟨hp, rfl, rfl, rfl⟩ | ⟨hp, rfl, rfl⟩ | ⟨hp, rfl, rfl, rfl⟩
                        · have HP := hid hp
                          go_wp2_with fail
                          go_quiet (fail)
                          obtain ⟨w9, hw9⟩ : ∃ w9, w9 = wr.drewN nq := ⟨_, rfl⟩
                          have k9 : Kept None wr w9 := hw9 ▸ Kept.toDrewN _ _ _
                          rw [← hw9]
                          clear hw9 f0 f1 c0 c1
                          have HK6 := hid (HK4.out.trans k9)
                          clear k9
                          go_wp2
                          go_roundg (no - (i + 1))
                          case measure => omega
                          case rel => exact ⟨i + 1, by go_num, by omega, Nat.le_refl _, HK6⟩
                        · have HP := hid hp
                          go_wp2_with fail
                          go_quiet (fail)
                          obtain ⟨w9, hw9⟩ : ∃ w9, w9 = wr.drewN nq := ⟨_, rfl⟩
                          have k9 : Kept None wr w9 := hw9 ▸ Kept.toDrewN _ _ _
                          rw [← hw9]
                          clear hw9 f0 f1 c0 c1
                          have HK6 := hid (HK4.out.trans k9)
                          clear k9
                          go_wp2
                          go_roundg (no - (i + 1))
                          case measure => omega
                          case rel => exact ⟨i + 1, by go_num, by omega, Nat.le_refl _, HK6⟩
                        · have HP := hid hp
                          clear hp
                          go_wp2_with fail
                          go_quiet (fail)
                          obtain ⟨w9, hw9⟩ : ∃ w9, w9 = wr.drewN nq := ⟨_, rfl⟩
                          have k9 : Kept None wr w9 := hw9 ▸ Kept.toDrewN _ _ _
                          rw [← hw9]
                          clear hw9 f0 f1 c0 c1
                          obtain rfl := HP.out
                          have hino : i ≤ no := by have := HPL.out.1; have := HNO.out; omega
                          have K10 := hid ((K9.out.trans HK4.out).trans k9)
                          have o10 := (O9.out.kept HK4.out (fun _ _ _ h => h)).kept k9 (fun _ _ _ h => h)
                          have E10 : Hid (Blk w9 eb #[.string e.n, .int .i64 e.v, .int .u64 (e.k : Int)] 53) := hid (by rw [HEB.out]; exact ((E3.out.kept HK4.out (fun h => h)).kept k9 (fun h => h)))
                          obtain ⟨aT, sT, pT⟩ := ps_to tKnown zKnown o10 .i64 i (by omega)
                          obtain ⟨aD, sD, pD⟩ := ps_from tKnown zKnown o10 .i64 i (by omega)
                          rw [← knosC_take] at pT
                          rw [← knosC_drop] at pD
                          have HSL := hid (And.intro sT (And.intro pT (And.intro sD pD)))
                          have HLN : Hid ((out.take i).length = i ∧ (out.drop i).length = no - i ∧ out.length ≤ 549755813888) := hid (by rw [List.length_take, List.length_drop]; have := HNO.out; have := HT.out.2; have := HN.out; omega)
                          clear o10 sT pT sD pD k9 HK4
                          go_wp2_with fail
                          refine wp_region_plan (Kept None w9) [{ k := 3, uses := [], pure := fun u => ∃ a n c, u = .slice a n c, fact := fun u W => Po 4 73 W w9.heap.size u (knosC (out.take i)) }, { k := 7, uses := [], pure := fun u => ∃ g, u = .slice (some ⟨g, 0, none⟩) 1 1, fact := fun u W => ∃ g, u = .slice (some ⟨g, 0, none⟩) 1 1 ∧ Blk W g #[.string e.n, .int .i64 e.v, .int .u64 (e.k : Int), .int .i64 p] 73 }, { k := 8, uses := [3, 7], spends := [3, 7], later := [12], pure := fun u => ∃ a n c, u = .slice a n c, fact := fun u W => Po 4 73 W w9.heap.size u (knosC (out.take i ++ [⟨e, p⟩])) }, { k := 12, uses := [8, 3, 7], spends := [8, 3, 7], pure := fun u => ∃ a n c, u = .slice a n c, fact := fun u W => Po 4 73 W w9.heap.size u (knosC (out.take i ++ ⟨e, p⟩ :: out.drop i)) }] [] (by kernel_rfl) (by kernel_rfl) (by kernel_rfl) (by rfl) ?pures1 ((Kept.refl _ w9).drew) ?starts1 ?walk1
                          case pures1 =>
                            intro f hf
                            simp only [List.mem_cons, List.not_mem_nil, or_false] at hf
                            rcases hf with rfl | rfl | rfl | rfl
                            · exact ⟨_, none, 0, 0, rfl⟩
                            · exact ⟨_, 0, rfl⟩
                            · exact ⟨_, none, 0, 0, rfl⟩
                            · exact ⟨_, none, 0, 0, rfl⟩
                          case starts1 =>
                            intro k hk
                            cases hk
                          iterate 2 (refine wpPar_pure rfl (by rfl) _ (fun W hW => by
                              go_simp
                              exact rfl) ?_; simp only [Act.put, List.setIfInBounds_toArray, List.set_cons_zero, List.set_cons_succ])
                          refine wpPar_pure rfl (by rfl) (.slice aT i co) (fun W hW => by have q := HSL.out.1 W; go_simp) ?_; simp only [Act.put, List.setIfInBounds_toArray, List.set_cons_zero, List.set_cons_succ]
                          refine wpPar_adds rfl (by rfl) (fun W hW hd => ?_) (fun v3 hv => ?_)
                          · refine gives_append_po _ _ 33 rfl rtKnown (by decide) rfl rfl (Po.nil 4 73 W w9.heap.size) (HSL.out.2.1.kept hW (fun _ _ _ h => h)) (knosC_one _) (by rw [knosC_len]; have := HLN.out; simp; omega) hW.size ?_
                            intro a' n' c' W' hP kO o9
                            have kN : Kept None W W' := (Kept.refl None W).then kO (fun i hi h => by cases h)
                            have hP' : Po 4 73 W' w9.heap.size (.slice a' n' c') (knosC (out.take i)) := by simpa using hP
                            refine ⟨hW.then kN (fun _ _ h => h.elim), ⟨_, _, _, rfl⟩, hP', keeps_of fun f hf hs hl hne u hfu => ?_⟩
                            simp only [List.mem_cons, List.not_mem_nil, or_false] at hf
                            rcases hf with rfl | rfl | rfl | rfl
                            · exact absurd rfl hne
                            · (obtain ⟨g, e1, e3⟩ := hfu; exact ⟨g, e1, e3.kept kN (fun h => h)⟩)
                            · exact Po.kept hfu kN (fun _ _ h => h)
                            · exact Po.kept hfu kN (fun _ _ h => h)
                          obtain ⟨a3, n3, c3, rfl⟩ : ∃ a n c, v3 = .slice a n c := hv
                          simp only [Act.put, List.setIfInBounds_toArray, List.set_cons_zero, List.set_cons_succ]
                          refine wpPar_pure rfl (by rfl) _ (fun W hW => by first | exact exec_load_blk _ _ rfl rfl (E10.out.kept hW (fun h => h)) Up.aEnt | (go_simp; exact rfl)) ?_; simp only [Act.put, List.setIfInBounds_toArray, List.set_cons_zero, List.set_cons_succ]
                          iterate 2 (refine wpPar_pure rfl (by rfl) _ (fun W hW => by
                              go_simp
                              exact rfl) ?_; simp only [Act.put, List.setIfInBounds_toArray, List.set_cons_zero, List.set_cons_succ])
                          refine wpPar_adds rfl (by rfl) (fun W hW hd => ?_) (fun v7 hv => ?_)
                          · unfold Gives
                            rw [exec_one_item 33 (.tmp 124) rfl rtKnown (by decide) (A := #[.string e.n, .int .i64 e.v, .int .u64 (e.k : Int), .int .i64 p]) rfl rfl]
                            have kN : Kept None W (W.alloc (.cells #[.string e.n, .int .i64 e.v, .int .u64 (e.k : Int), .int .i64 p] 73)) := (Kept.refl None W).alloc _
                            refine ⟨hW.then kN (fun _ _ h => h.elim), ⟨_, rfl⟩, ⟨_, rfl, Blk.new _ _ _⟩, keeps_of fun f hf hs hl hne u hfu => ?_⟩
                            simp only [List.mem_cons, List.not_mem_nil, or_false] at hf
                            rcases hf with rfl | rfl | rfl | rfl
                            · exact Po.kept hfu kN (fun _ _ h => h)
                            · exact absurd rfl hne
                            · exact Po.kept hfu kN (fun _ _ h => h)
                            · exact Po.kept hfu kN (fun _ _ h => h)
                          obtain ⟨g7, rfl⟩ : ∃ g, v7 = .slice (some ⟨g, 0, none⟩) 1 1 := hv
                          simp only [Act.put, List.setIfInBounds_toArray, List.set_cons_zero, List.set_cons_succ]
                          refine wpPar_adds rfl (by rfl) (fun W hW hd => ?_) (fun v8 hv => ?_)
                          · have hO : Po 4 73 W w9.heap.size (.slice a3 n3 c3) (knosC (out.take i)) := hd 3 (List.Mem.head _)
                            obtain ⟨g, hgg, hg3⟩ : ∃ g, Value.slice (some ⟨g7, 0, none⟩) 1 1 = .slice (some ⟨g, 0, none⟩) 1 1 ∧ Blk W g #[.string e.n, .int .i64 e.v, .int .u64 (e.k : Int), .int .i64 p] 73 := hd 7 (List.Mem.tail _ (List.Mem.head _))
                            obtain rfl : g7 = g := by simpa using hgg
                            have hu : Ps 4 W 0 W.heap.size (.slice (some ⟨g7, 0, none⟩) 1 1) (knosC [⟨e, p⟩]) := ps_blk (x := knoC ⟨e, p⟩) hg3 rfl
                            refine gives_append_po _ _ 33 rfl rtKnown (by decide) rfl rfl hO hu (knosC_one _) (by rw [knosC_len, knosC_len]; have := HLN.out; simp; omega) hW.size ?_
                            intro a' n' c' W' hP kS o9
                            have kN : True := trivial
                            rw [← knosC_app] at hP
                            refine ⟨hW.then kS (fun i hi h => by have := (hO.own i h).1; omega), ⟨_, _, _, rfl⟩, hP, keeps_of fun f hf hs hl hne u hfu => ?_⟩
                            simp only [List.mem_cons, List.not_mem_nil, or_false] at hf
                            rcases hf with rfl | rfl | rfl | rfl
                            · exact absurd (List.Mem.head _) hs
                            · exact absurd (List.Mem.tail _ (List.Mem.head _)) hs
                            · exact absurd rfl hne
                            · exact absurd (List.Mem.head _) hl
                          obtain ⟨a8, n8, c8, rfl⟩ : ∃ a n c, v8 = .slice a n c := hv
                          simp only [Act.put, List.setIfInBounds_toArray, List.set_cons_zero, List.set_cons_succ]
                          iterate 2 (refine wpPar_pure rfl (by rfl) _ (fun W hW => by
                              go_simp
                              exact rfl) ?_; simp only [Act.put, List.setIfInBounds_toArray, List.set_cons_zero, List.set_cons_succ])
                          refine wpPar_pure rfl (by rfl) (.slice aD (no - i) (co - i)) (fun W hW => by have q := HSL.out.2.2.1 W; go_simp) ?_; simp only [Act.put, List.setIfInBounds_toArray, List.set_cons_zero, List.set_cons_succ]
                          refine wpPar_adds rfl (by rfl) (fun W hW hd => ?_) (fun v12 hv => ?_)
                          · have hO : Po 4 73 W w9.heap.size (.slice a8 n8 c8) (knosC (out.take i ++ [⟨e, p⟩])) := hd 8 (List.Mem.head _)
                            refine gives_append_po _ _ 33 rfl rtKnown (by decide) rfl rfl hO (HSL.out.2.2.2.kept hW (fun _ _ _ h => h)) (knosC_one _) (by rw [knosC_len, knosC_len, List.length_append]; have := HLN.out; simp; omega) hW.size ?_
                            intro a' n' c' W' hP kS o9
                            have kN : True := trivial
                            rw [← knosC_app, List.append_assoc, List.singleton_append] at hP
                            refine ⟨hW.then kS (fun i hi h => by have := (hO.own i h).1; omega), ⟨_, _, _, rfl⟩, hP, keeps_of fun f hf hs hl hne u hfu => ?_⟩
                            simp only [List.mem_cons, List.not_mem_nil, or_false] at hf
                            rcases hf with rfl | rfl | rfl | rfl
                            · exact absurd (List.Mem.tail _ (List.Mem.head _)) hs
                            · exact absurd (List.Mem.tail _ (List.Mem.tail _ (List.Mem.head _))) hs
                            · exact absurd (List.Mem.head _) hs
                            · exact absurd rfl hne
                          obtain ⟨a12, n12, c12, rfl⟩ : ∃ a n c, v12 = .slice a n c := hv
                          simp only [Act.put, List.setIfInBounds_toArray, List.set_cons_zero, List.set_cons_succ]
                          iterate 1 (refine wpPar_pure rfl (by rfl) _ (fun W hW => by
                              go_simp
                              exact rfl) ?_; simp only [Act.put, List.setIfInBounds_toArray, List.set_cons_zero, List.set_cons_succ])
                          refine wpPar_nil (fun W hW hG => ?_)
                          have bz : Po 4 73 W w9.heap.size (.slice a12 n12 c12) (knosC (out.take i ++ ⟨e, p⟩ :: out.drop i)) := hG 12
                          have HKW := hid (K10.out.trans hW)
                          have HOW : Hid (Ps 4 W w.heap.size W.heap.size (.slice a12 n12 c12) (knosC (insK out ⟨e, p⟩))) := hid (by
                            have h1 := (bz.ps (Nat.le_refl _)).wider K10.out.size (Nat.le_refl _)
                            unfold insK
                            rw [← HPL.out.2.2.2]
                            exact h1)
                          have HTW : Hid (addN l p b (j + 1) = some (insK out ⟨e, p⟩) ∧ (insK out ⟨e, p⟩).length ≤ n + (j + 1)) := hid ⟨HADD.out, by rw [insK_len]; have := HT.out.2; omega⟩
                          clear hG bz hW K10 E10 HSL
                          go_wp2
                          go_roundg (m - (j + 1))
                          case measure => omega
                          case rel => exact ⟨j + 1, insK out ⟨e, p⟩, _, _, _, by go_num, rfl, by omega, Nat.le_refl _, HKW, HOW, HTW⟩
                        · have HP := hid hp
                          clear hp
                          go_wp2_with fail
                          go_quiet (fail)
                          obtain ⟨w9, hw9⟩ : ∃ w9, w9 = wr.drewN nq := ⟨_, rfl⟩
                          have k9 : Kept None wr w9 := hw9 ▸ Kept.toDrewN _ _ _
                          rw [← hw9]
                          clear hw9 f0 f1 c0 c1
                          obtain rfl := HP.out
                          have hino : i ≤ no := by have := HPL.out.1; have := HNO.out; omega
                          have K10 := hid ((K9.out.trans HK4.out).trans k9)
                          have o10 := (O9.out.kept HK4.out (fun _ _ _ h => h)).kept k9 (fun _ _ _ h => h)
                          have E10 : Hid (Blk w9 eb #[.string e.n, .int .i64 e.v, .int .u64 (e.k : Int)] 53) := hid (by rw [HEB.out]; exact ((E3.out.kept HK4.out (fun h => h)).kept k9 (fun h => h)))
                          obtain ⟨aT, sT, pT⟩ := ps_to tKnown zKnown o10 .i64 i (by omega)
                          obtain ⟨aD, sD, pD⟩ := ps_from tKnown zKnown o10 .i64 i (by omega)
                          rw [← knosC_take] at pT
                          rw [← knosC_drop] at pD
                          have HSL := hid (And.intro sT (And.intro pT (And.intro sD pD)))
                          have HLN : Hid ((out.take i).length = i ∧ (out.drop i).length = no - i ∧ out.length ≤ 549755813888) := hid (by rw [List.length_take, List.length_drop]; have := HNO.out; have := HT.out.2; have := HN.out; omega)
                          clear o10 sT pT sD pD k9 HK4
                          go_wp2_with fail
                          refine wp_region_plan (Kept None w9) [{ k := 3, uses := [], pure := fun u => ∃ a n c, u = .slice a n c, fact := fun u W => Po 4 73 W w9.heap.size u (knosC (out.take i)) }, { k := 7, uses := [], pure := fun u => ∃ g, u = .slice (some ⟨g, 0, none⟩) 1 1, fact := fun u W => ∃ g, u = .slice (some ⟨g, 0, none⟩) 1 1 ∧ Blk W g #[.string e.n, .int .i64 e.v, .int .u64 (e.k : Int), .int .i64 p] 73 }, { k := 8, uses := [3, 7], spends := [3, 7], later := [12], pure := fun u => ∃ a n c, u = .slice a n c, fact := fun u W => Po 4 73 W w9.heap.size u (knosC (out.take i ++ [⟨e, p⟩])) }, { k := 12, uses := [8, 3, 7], spends := [8, 3, 7], pure := fun u => ∃ a n c, u = .slice a n c, fact := fun u W => Po 4 73 W w9.heap.size u (knosC (out.take i ++ ⟨e, p⟩ :: out.drop i)) }] [] (by kernel_rfl) (by kernel_rfl) (by kernel_rfl) (by rfl) ?pures2 ((Kept.refl _ w9).drew) ?starts2 ?walk2
                          case pures2 =>
                            intro f hf
                            simp only [List.mem_cons, List.not_mem_nil, or_false] at hf
                            rcases hf with rfl | rfl | rfl | rfl
                            · exact ⟨_, none, 0, 0, rfl⟩
                            · exact ⟨_, 0, rfl⟩
                            · exact ⟨_, none, 0, 0, rfl⟩
                            · exact ⟨_, none, 0, 0, rfl⟩
                          case starts2 =>
                            intro k hk
                            cases hk
                          iterate 2 (refine wpPar_pure rfl (by rfl) _ (fun W hW => by
                              go_simp
                              exact rfl) ?_; simp only [Act.put, List.setIfInBounds_toArray, List.set_cons_zero, List.set_cons_succ])
                          refine wpPar_pure rfl (by rfl) (.slice aT i co) (fun W hW => by have q := HSL.out.1 W; go_simp) ?_; simp only [Act.put, List.setIfInBounds_toArray, List.set_cons_zero, List.set_cons_succ]
                          refine wpPar_adds rfl (by rfl) (fun W hW hd => ?_) (fun v3 hv => ?_)
                          · refine gives_append_po _ _ 33 rfl rtKnown (by decide) rfl rfl (Po.nil 4 73 W w9.heap.size) (HSL.out.2.1.kept hW (fun _ _ _ h => h)) (knosC_one _) (by rw [knosC_len]; have := HLN.out; simp; omega) hW.size ?_
                            intro a' n' c' W' hP kO o9
                            have kN : Kept None W W' := (Kept.refl None W).then kO (fun i hi h => by cases h)
                            have hP' : Po 4 73 W' w9.heap.size (.slice a' n' c') (knosC (out.take i)) := by simpa using hP
                            refine ⟨hW.then kN (fun _ _ h => h.elim), ⟨_, _, _, rfl⟩, hP', keeps_of fun f hf hs hl hne u hfu => ?_⟩
                            simp only [List.mem_cons, List.not_mem_nil, or_false] at hf
                            rcases hf with rfl | rfl | rfl | rfl
                            · exact absurd rfl hne
                            · (obtain ⟨g, e1, e3⟩ := hfu; exact ⟨g, e1, e3.kept kN (fun h => h)⟩)
                            · exact Po.kept hfu kN (fun _ _ h => h)
                            · exact Po.kept hfu kN (fun _ _ h => h)
                          obtain ⟨a3, n3, c3, rfl⟩ : ∃ a n c, v3 = .slice a n c := hv
                          simp only [Act.put, List.setIfInBounds_toArray, List.set_cons_zero, List.set_cons_succ]
                          refine wpPar_pure rfl (by rfl) _ (fun W hW => by first | exact exec_load_blk _ _ rfl rfl (E10.out.kept hW (fun h => h)) Up.aEnt | (go_simp; exact rfl)) ?_; simp only [Act.put, List.setIfInBounds_toArray, List.set_cons_zero, List.set_cons_succ]
                          iterate 2 (refine wpPar_pure rfl (by rfl) _ (fun W hW => by
                              go_simp
                              exact rfl) ?_; simp only [Act.put, List.setIfInBounds_toArray, List.set_cons_zero, List.set_cons_succ])
                          refine wpPar_adds rfl (by rfl) (fun W hW hd => ?_) (fun v7 hv => ?_)
                          · unfold Gives
                            rw [exec_one_item 33 (.tmp 124) rfl rtKnown (by decide) (A := #[.string e.n, .int .i64 e.v, .int .u64 (e.k : Int), .int .i64 p]) rfl rfl]
                            have kN : Kept None W (W.alloc (.cells #[.string e.n, .int .i64 e.v, .int .u64 (e.k : Int), .int .i64 p] 73)) := (Kept.refl None W).alloc _
                            refine ⟨hW.then kN (fun _ _ h => h.elim), ⟨_, rfl⟩, ⟨_, rfl, Blk.new _ _ _⟩, keeps_of fun f hf hs hl hne u hfu => ?_⟩
                            simp only [List.mem_cons, List.not_mem_nil, or_false] at hf
                            rcases hf with rfl | rfl | rfl | rfl
                            · exact Po.kept hfu kN (fun _ _ h => h)
                            · exact absurd rfl hne
                            · exact Po.kept hfu kN (fun _ _ h => h)
                            · exact Po.kept hfu kN (fun _ _ h => h)
                          obtain ⟨g7, rfl⟩ : ∃ g, v7 = .slice (some ⟨g, 0, none⟩) 1 1 := hv
                          simp only [Act.put, List.setIfInBounds_toArray, List.set_cons_zero, List.set_cons_succ]
                          refine wpPar_adds rfl (by rfl) (fun W hW hd => ?_) (fun v8 hv => ?_)
                          · have hO : Po 4 73 W w9.heap.size (.slice a3 n3 c3) (knosC (out.take i)) := hd 3 (List.Mem.head _)
                            obtain ⟨g, hgg, hg3⟩ : ∃ g, Value.slice (some ⟨g7, 0, none⟩) 1 1 = .slice (some ⟨g, 0, none⟩) 1 1 ∧ Blk W g #[.string e.n, .int .i64 e.v, .int .u64 (e.k : Int), .int .i64 p] 73 := hd 7 (List.Mem.tail _ (List.Mem.head _))
                            obtain rfl : g7 = g := by simpa using hgg
                            have hu : Ps 4 W 0 W.heap.size (.slice (some ⟨g7, 0, none⟩) 1 1) (knosC [⟨e, p⟩]) := ps_blk (x := knoC ⟨e, p⟩) hg3 rfl
                            refine gives_append_po _ _ 33 rfl rtKnown (by decide) rfl rfl hO hu (knosC_one _) (by rw [knosC_len, knosC_len]; have := HLN.out; simp; omega) hW.size ?_
                            intro a' n' c' W' hP kS o9
                            have kN : True := trivial
                            rw [← knosC_app] at hP
                            refine ⟨hW.then kS (fun i hi h => by have := (hO.own i h).1; omega), ⟨_, _, _, rfl⟩, hP, keeps_of fun f hf hs hl hne u hfu => ?_⟩
                            simp only [List.mem_cons, List.not_mem_nil, or_false] at hf
                            rcases hf with rfl | rfl | rfl | rfl
                            · exact absurd (List.Mem.head _) hs
                            · exact absurd (List.Mem.tail _ (List.Mem.head _)) hs
                            · exact absurd rfl hne
                            · exact absurd (List.Mem.head _) hl
                          obtain ⟨a8, n8, c8, rfl⟩ : ∃ a n c, v8 = .slice a n c := hv
                          simp only [Act.put, List.setIfInBounds_toArray, List.set_cons_zero, List.set_cons_succ]
                          iterate 2 (refine wpPar_pure rfl (by rfl) _ (fun W hW => by
                              go_simp
                              exact rfl) ?_; simp only [Act.put, List.setIfInBounds_toArray, List.set_cons_zero, List.set_cons_succ])
                          refine wpPar_pure rfl (by rfl) (.slice aD (no - i) (co - i)) (fun W hW => by have q := HSL.out.2.2.1 W; go_simp) ?_; simp only [Act.put, List.setIfInBounds_toArray, List.set_cons_zero, List.set_cons_succ]
                          refine wpPar_adds rfl (by rfl) (fun W hW hd => ?_) (fun v12 hv => ?_)
                          · have hO : Po 4 73 W w9.heap.size (.slice a8 n8 c8) (knosC (out.take i ++ [⟨e, p⟩])) := hd 8 (List.Mem.head _)
                            refine gives_append_po _ _ 33 rfl rtKnown (by decide) rfl rfl hO (HSL.out.2.2.2.kept hW (fun _ _ _ h => h)) (knosC_one _) (by rw [knosC_len, knosC_len, List.length_append]; have := HLN.out; simp; omega) hW.size ?_
                            intro a' n' c' W' hP kS o9
                            have kN : True := trivial
                            rw [← knosC_app, List.append_assoc, List.singleton_append] at hP
                            refine ⟨hW.then kS (fun i hi h => by have := (hO.own i h).1; omega), ⟨_, _, _, rfl⟩, hP, keeps_of fun f hf hs hl hne u hfu => ?_⟩
                            simp only [List.mem_cons, List.not_mem_nil, or_false] at hf
                            rcases hf with rfl | rfl | rfl | rfl
                            · exact absurd (List.Mem.tail _ (List.Mem.head _)) hs
                            · exact absurd (List.Mem.tail _ (List.Mem.tail _ (List.Mem.head _))) hs
                            · exact absurd (List.Mem.head _) hs
                            · exact absurd rfl hne
                          obtain ⟨a12, n12, c12, rfl⟩ : ∃ a n c, v12 = .slice a n c := hv
                          simp only [Act.put, List.setIfInBounds_toArray, List.set_cons_zero, List.set_cons_succ]
                          iterate 1 (refine wpPar_pure rfl (by rfl) _ (fun W hW => by
                              go_simp
                              exact rfl) ?_; simp only [Act.put, List.setIfInBounds_toArray, List.set_cons_zero, List.set_cons_succ])
                          refine wpPar_nil (fun W hW hG => ?_)
                          have bz : Po 4 73 W w9.heap.size (.slice a12 n12 c12) (knosC (out.take i ++ ⟨e, p⟩ :: out.drop i)) := hG 12
                          have HKW := hid (K10.out.trans hW)
                          have HOW : Hid (Ps 4 W w.heap.size W.heap.size (.slice a12 n12 c12) (knosC (insK out ⟨e, p⟩))) := hid (by
                            have h1 := (bz.ps (Nat.le_refl _)).wider K10.out.size (Nat.le_refl _)
                            unfold insK
                            rw [← HPL.out.2.2.2]
                            exact h1)
                          have HTW : Hid (addN l p b (j + 1) = some (insK out ⟨e, p⟩) ∧ (insK out ⟨e, p⟩).length ≤ n + (j + 1)) := hid ⟨HADD.out, by rw [insK_len]; have := HT.out.2; omega⟩
                          clear hG bz hW K10 E10 HSL
                          go_wp2
                          go_roundg (m - (j + 1))
                          case measure => omega
                          case rel => exact ⟨j + 1, insK out ⟨e, p⟩, _, _, _, by go_num, rfl, by omega, Nat.le_refl _, HKW, HOW, HTW⟩
                      · have hzi : ¬ (i : Int) < (no : Int) := by omega
                        have hip : i = pl := by have := HPL.out.1; have := HNO.out; omega
                        have HIP := hid hip
                        clear hip he0
                        go_wp2_with fail
                        go_quiet (fail)
                        obtain ⟨w9, hw9⟩ : ∃ w9, w9 = wr.drewN nq := ⟨_, rfl⟩
                        have k9 : Kept None wr w9 := hw9 ▸ Kept.toDrewN _ _ _
                        rw [← hw9]
                        clear hw9 f0 f1
                        obtain rfl := HIP.out
                        have hino : i ≤ no := by have := HPL.out.1; have := HNO.out; omega
                        have K10 := hid ((K9.out.trans HK4.out).trans k9)
                        have o10 := (O9.out.kept HK4.out (fun _ _ _ h => h)).kept k9 (fun _ _ _ h => h)
                        have E10 : Hid (Blk w9 eb #[.string e.n, .int .i64 e.v, .int .u64 (e.k : Int)] 53) := hid (by rw [HEB.out]; exact ((E3.out.kept HK4.out (fun h => h)).kept k9 (fun h => h)))
                        obtain ⟨aT, sT, pT⟩ := ps_to tKnown zKnown o10 .i64 i (by omega)
                        obtain ⟨aD, sD, pD⟩ := ps_from tKnown zKnown o10 .i64 i (by omega)
                        rw [← knosC_take] at pT
                        rw [← knosC_drop] at pD
                        have HSL := hid (And.intro sT (And.intro pT (And.intro sD pD)))
                        have HLN : Hid ((out.take i).length = i ∧ (out.drop i).length = no - i ∧ out.length ≤ 549755813888) := hid (by rw [List.length_take, List.length_drop]; have := HNO.out; have := HT.out.2; have := HN.out; omega)
                        clear o10 sT pT sD pD k9 HK4
                        go_wp2_with fail
                        refine wp_region_plan (Kept None w9) [{ k := 3, uses := [], pure := fun u => ∃ a n c, u = .slice a n c, fact := fun u W => Po 4 73 W w9.heap.size u (knosC (out.take i)) }, { k := 7, uses := [], pure := fun u => ∃ g, u = .slice (some ⟨g, 0, none⟩) 1 1, fact := fun u W => ∃ g, u = .slice (some ⟨g, 0, none⟩) 1 1 ∧ Blk W g #[.string e.n, .int .i64 e.v, .int .u64 (e.k : Int), .int .i64 p] 73 }, { k := 8, uses := [3, 7], spends := [3, 7], later := [12], pure := fun u => ∃ a n c, u = .slice a n c, fact := fun u W => Po 4 73 W w9.heap.size u (knosC (out.take i ++ [⟨e, p⟩])) }, { k := 12, uses := [8, 3, 7], spends := [8, 3, 7], pure := fun u => ∃ a n c, u = .slice a n c, fact := fun u W => Po 4 73 W w9.heap.size u (knosC (out.take i ++ ⟨e, p⟩ :: out.drop i)) }] [] (by kernel_rfl) (by kernel_rfl) (by kernel_rfl) (by rfl) ?pures0 ((Kept.refl _ w9).drew) ?starts0 ?walk0
                        case pures0 =>
                          intro f hf
                          simp only [List.mem_cons, List.not_mem_nil, or_false] at hf
                          rcases hf with rfl | rfl | rfl | rfl
                          · exact ⟨_, none, 0, 0, rfl⟩
                          · exact ⟨_, 0, rfl⟩
                          · exact ⟨_, none, 0, 0, rfl⟩
                          · exact ⟨_, none, 0, 0, rfl⟩
                        case starts0 =>
                          intro k hk
                          cases hk
                        iterate 2 (refine wpPar_pure rfl (by rfl) _ (fun W hW => by
                            go_simp
                            exact rfl) ?_; simp only [Act.put, List.setIfInBounds_toArray, List.set_cons_zero, List.set_cons_succ])
                        refine wpPar_pure rfl (by rfl) (.slice aT i co) (fun W hW => by have q := HSL.out.1 W; go_simp) ?_; simp only [Act.put, List.setIfInBounds_toArray, List.set_cons_zero, List.set_cons_succ]
                        refine wpPar_adds rfl (by rfl) (fun W hW hd => ?_) (fun v3 hv => ?_)
                        · refine gives_append_po _ _ 33 rfl rtKnown (by decide) rfl rfl (Po.nil 4 73 W w9.heap.size) (HSL.out.2.1.kept hW (fun _ _ _ h => h)) (knosC_one _) (by rw [knosC_len]; have := HLN.out; simp; omega) hW.size ?_
                          intro a' n' c' W' hP kO o9
                          have kN : Kept None W W' := (Kept.refl None W).then kO (fun i hi h => by cases h)
                          have hP' : Po 4 73 W' w9.heap.size (.slice a' n' c') (knosC (out.take i)) := by simpa using hP
                          refine ⟨hW.then kN (fun _ _ h => h.elim), ⟨_, _, _, rfl⟩, hP', keeps_of fun f hf hs hl hne u hfu => ?_⟩
                          simp only [List.mem_cons, List.not_mem_nil, or_false] at hf
                          rcases hf with rfl | rfl | rfl | rfl
                          · exact absurd rfl hne
                          · (obtain ⟨g, e1, e3⟩ := hfu; exact ⟨g, e1, e3.kept kN (fun h => h)⟩)
                          · exact Po.kept hfu kN (fun _ _ h => h)
                          · exact Po.kept hfu kN (fun _ _ h => h)
                        obtain ⟨a3, n3, c3, rfl⟩ : ∃ a n c, v3 = .slice a n c := hv
                        simp only [Act.put, List.setIfInBounds_toArray, List.set_cons_zero, List.set_cons_succ]
                        refine wpPar_pure rfl (by rfl) _ (fun W hW => by first | exact exec_load_blk _ _ rfl rfl (E10.out.kept hW (fun h => h)) Up.aEnt | (go_simp; exact rfl)) ?_; simp only [Act.put, List.setIfInBounds_toArray, List.set_cons_zero, List.set_cons_succ]
                        iterate 2 (refine wpPar_pure rfl (by rfl) _ (fun W hW => by
                            go_simp
                            exact rfl) ?_; simp only [Act.put, List.setIfInBounds_toArray, List.set_cons_zero, List.set_cons_succ])
                        refine wpPar_adds rfl (by rfl) (fun W hW hd => ?_) (fun v7 hv => ?_)
                        · unfold Gives
                          rw [exec_one_item 33 (.tmp 124) rfl rtKnown (by decide) (A := #[.string e.n, .int .i64 e.v, .int .u64 (e.k : Int), .int .i64 p]) rfl rfl]
                          have kN : Kept None W (W.alloc (.cells #[.string e.n, .int .i64 e.v, .int .u64 (e.k : Int), .int .i64 p] 73)) := (Kept.refl None W).alloc _
                          refine ⟨hW.then kN (fun _ _ h => h.elim), ⟨_, rfl⟩, ⟨_, rfl, Blk.new _ _ _⟩, keeps_of fun f hf hs hl hne u hfu => ?_⟩
                          simp only [List.mem_cons, List.not_mem_nil, or_false] at hf
                          rcases hf with rfl | rfl | rfl | rfl
                          · exact Po.kept hfu kN (fun _ _ h => h)
                          · exact absurd rfl hne
                          · exact Po.kept hfu kN (fun _ _ h => h)
                          · exact Po.kept hfu kN (fun _ _ h => h)
                        obtain ⟨g7, rfl⟩ : ∃ g, v7 = .slice (some ⟨g, 0, none⟩) 1 1 := hv
                        simp only [Act.put, List.setIfInBounds_toArray, List.set_cons_zero, List.set_cons_succ]
                        refine wpPar_adds rfl (by rfl) (fun W hW hd => ?_) (fun v8 hv => ?_)
                        · have hO : Po 4 73 W w9.heap.size (.slice a3 n3 c3) (knosC (out.take i)) := hd 3 (List.Mem.head _)
                          obtain ⟨g, hgg, hg3⟩ : ∃ g, Value.slice (some ⟨g7, 0, none⟩) 1 1 = .slice (some ⟨g, 0, none⟩) 1 1 ∧ Blk W g #[.string e.n, .int .i64 e.v, .int .u64 (e.k : Int), .int .i64 p] 73 := hd 7 (List.Mem.tail _ (List.Mem.head _))
                          obtain rfl : g7 = g := by simpa using hgg
                          have hu : Ps 4 W 0 W.heap.size (.slice (some ⟨g7, 0, none⟩) 1 1) (knosC [⟨e, p⟩]) := ps_blk (x := knoC ⟨e, p⟩) hg3 rfl
                          refine gives_append_po _ _ 33 rfl rtKnown (by decide) rfl rfl hO hu (knosC_one _) (by rw [knosC_len, knosC_len]; have := HLN.out; simp; omega) hW.size ?_
                          intro a' n' c' W' hP kS o9
                          have kN : True := trivial
                          rw [← knosC_app] at hP
                          refine ⟨hW.then kS (fun i hi h => by have := (hO.own i h).1; omega), ⟨_, _, _, rfl⟩, hP, keeps_of fun f hf hs hl hne u hfu => ?_⟩
                          simp only [List.mem_cons, List.not_mem_nil, or_false] at hf
                          rcases hf with rfl | rfl | rfl | rfl
                          · exact absurd (List.Mem.head _) hs
                          · exact absurd (List.Mem.tail _ (List.Mem.head _)) hs
                          · exact absurd rfl hne
                          · exact absurd (List.Mem.head _) hl
                        obtain ⟨a8, n8, c8, rfl⟩ : ∃ a n c, v8 = .slice a n c := hv
                        simp only [Act.put, List.setIfInBounds_toArray, List.set_cons_zero, List.set_cons_succ]
                        iterate 2 (refine wpPar_pure rfl (by rfl) _ (fun W hW => by
                            go_simp
                            exact rfl) ?_; simp only [Act.put, List.setIfInBounds_toArray, List.set_cons_zero, List.set_cons_succ])
                        refine wpPar_pure rfl (by rfl) (.slice aD (no - i) (co - i)) (fun W hW => by have q := HSL.out.2.2.1 W; go_simp) ?_; simp only [Act.put, List.setIfInBounds_toArray, List.set_cons_zero, List.set_cons_succ]
                        refine wpPar_adds rfl (by rfl) (fun W hW hd => ?_) (fun v12 hv => ?_)
                        · have hO : Po 4 73 W w9.heap.size (.slice a8 n8 c8) (knosC (out.take i ++ [⟨e, p⟩])) := hd 8 (List.Mem.head _)
                          refine gives_append_po _ _ 33 rfl rtKnown (by decide) rfl rfl hO (HSL.out.2.2.2.kept hW (fun _ _ _ h => h)) (knosC_one _) (by rw [knosC_len, knosC_len, List.length_append]; have := HLN.out; simp; omega) hW.size ?_
                          intro a' n' c' W' hP kS o9
                          have kN : True := trivial
                          rw [← knosC_app, List.append_assoc, List.singleton_append] at hP
                          refine ⟨hW.then kS (fun i hi h => by have := (hO.own i h).1; omega), ⟨_, _, _, rfl⟩, hP, keeps_of fun f hf hs hl hne u hfu => ?_⟩
                          simp only [List.mem_cons, List.not_mem_nil, or_false] at hf
                          rcases hf with rfl | rfl | rfl | rfl
                          · exact absurd (List.Mem.tail _ (List.Mem.head _)) hs
                          · exact absurd (List.Mem.tail _ (List.Mem.tail _ (List.Mem.head _))) hs
                          · exact absurd (List.Mem.head _) hs
                          · exact absurd rfl hne
                        obtain ⟨a12, n12, c12, rfl⟩ : ∃ a n c, v12 = .slice a n c := hv
                        simp only [Act.put, List.setIfInBounds_toArray, List.set_cons_zero, List.set_cons_succ]
                        iterate 1 (refine wpPar_pure rfl (by rfl) _ (fun W hW => by
                            go_simp
                            exact rfl) ?_; simp only [Act.put, List.setIfInBounds_toArray, List.set_cons_zero, List.set_cons_succ])
                        refine wpPar_nil (fun W hW hG => ?_)
                        have bz : Po 4 73 W w9.heap.size (.slice a12 n12 c12) (knosC (out.take i ++ ⟨e, p⟩ :: out.drop i)) := hG 12
                        have HKW := hid (K10.out.trans hW)
                        have HOW : Hid (Ps 4 W w.heap.size W.heap.size (.slice a12 n12 c12) (knosC (insK out ⟨e, p⟩))) := hid (by
                          have h1 := (bz.ps (Nat.le_refl _)).wider K10.out.size (Nat.le_refl _)
                          unfold insK
                          rw [← HPL.out.2.2.2]
                          exact h1)
                        have HTW : Hid (addN l p b (j + 1) = some (insK out ⟨e, p⟩) ∧ (insK out ⟨e, p⟩).length ≤ n + (j + 1)) := hid ⟨HADD.out, by rw [insK_len]; have := HT.out.2; omega⟩
                        clear hG bz hW K10 E10 HSL
                        go_wp2
                        go_roundg (m - (j + 1))
                        case measure => omega
                        case rel => exact ⟨j + 1, insK out ⟨e, p⟩, _, _, _, by go_num, rfl, by omega, Nat.le_refl _, HKW, HOW, HTW⟩
              · have hb1 : (ev != xx) = true := by simpa using hvx
                have hb2 : (ev == xx) = false := by simpa using hvx
                have hq := HSTOP.out (by rw [HMAY.out, ← HXV.out.1, ← HXV.out.2.1, ← HXV.out.2.2, decide_eq_false hvx]; simp)
                have HQ2 := hid hq
                clear hq hvx
                go_wp2_with (first | go_skip | fail)
                go_ret2
                exact ⟨.slice a n cap, by rw [HQ2.out]; rfl, K7.out, by rw [HQ2.out]; exact HV.out.2 _ K7.out⟩
          · have hz : ¬ (k : Int) < (m : Int) := by omega
            obtain rfl : k = m := by omega
            have hq : RS = (out, true) := by
              have h1 := HT.out.1
              rw [HN.out.2.1] at h1
              rw [HQ.out, h1]
              rfl
            have HQ2 := hid hq
            clear hq
            go_wp2
            go_ret2
            exact ⟨.slice ao no co, by rw [HQ2.out]; rfl, HK.out, by rw [HQ2.out]; exact ⟨_, _, HO.out, .inr (Nat.le_refl _)⟩⟩
end R16
end Go.Proofs.Ytibkijloibnkfaa

namespace Go.Pm
open Go Go.RowKit
def itemK (x : Kno) : It := ⟨indexH x.e.n, valueH x.e.v x.e.k⟩
/-- The items of an epoch, as they stand. -/
def itemsF (l : List Kno) (p : Int) : List It := (l.filter (fun x => decide (x.p ≤ p))).map itemK
theorem itemK_len (x : Kno) : (itemK x).i.length = 32 ∧ (itemK x).v.length = 32 := ⟨indexH_len _, valueH_len _ _⟩
theorem itemsF_len (l : List Kno) (p : Int) : (itemsF l p).length ≤ l.length := by
  unfold itemsF
  rw [List.length_map]
  exact List.length_filter_le _ _
theorem itemsF_take (l : List Kno) (p : Int) (k : Nat) (h : k < l.length) : itemsF (l.take (k + 1)) p = itemsF (l.take k) p ++ (if l[k].p ≤ p then [itemK l[k]] else []) := by
  unfold itemsF
  rw [List.take_succ_eq_append_getElem h, List.filter_append, List.map_append]
  congr 1
  by_cases hp : l[k].p ≤ p
  · rw [if_pos hp, List.filter_cons_of_pos (by simpa using hp)]
    rfl
  · rw [if_neg hp, List.filter_cons_of_neg (by simpa using hp)]
    rfl
end Go.Pm
namespace Go.Proofs.Ytibkijloibnkfaa
open Go.RowKit Go.Pm
namespace R16
set_option maxRecDepth 100000 in
set_option maxHeartbeats 8000000 in
/-- Items. -/
theorem items (v : Value) (lo hi : Nat) (l : List Kno) (p : Int) (w : World) (hv : Ps 4 w lo hi v (knosC l)) (hok : KOk l) (hlen : l.length ≤ 549755813888) :
    Calls Try.prog 88 #[v, .int .i64 p] w fun e w' => ∃ u, e = .returned u ∧ Ito 139 w' w.heap.size u (setI (itemsF l p)) ∧ Kept None w w' := by
  obtain ⟨a, cap, rfl, g1, g2, g3⟩ := hv.form
  rw [knosC_len] at g1 hv ⊢
  obtain ⟨n, hn⟩ : ∃ n, n = l.length := ⟨_, rfl⟩
  rw [← hn] at g1 hlen hv ⊢
  have HV := hid hv
  have HN := hid (And.intro hn (And.intro hlen hok))
  clear hv hn hok g3
  have K0 := hid (Kept.refl None w)
  go_enter Try.func88, Try.ntmps88
  go_wp2
  go_loopg [5, 6] n (fun kx s5 s6 wr => ∃ (k : Nat) (ao : Option Addr) (no co : Nat), s6 = .int .i64 k ∧ s5 = .slice ao no co ∧ k ≤ n ∧ n - k ≤ kx ∧ Hid (Kept None w wr) ∧ Hid (Ito 139 wr w.heap.size (.slice ao no co) (itemsF (l.take k) p)))
  case atStart => exact ⟨0, _, _, _, rfl, rfl, Nat.zero_le _, Nat.le_refl _, K0, hid (Ito.nil _ _ _)⟩
  case round =>
    obtain ⟨k, ao, no, co, rfl, rfl, hk, hkx, HK, HO⟩ := hrel
    by_cases hlt : k < n
    · have hz : (k : Int) < (n : Int) := by omega
      have wk : IntKind.i64.wrap ((k : Int) + 1) = (k : Int) + 1 := by rw [IntKind.wrap_i64]; have := HN.out.2.1; omega
      have kl : k < l.length := by have := HN.out.1; omega
      obtain ⟨bb, o, q1, hc⟩ := (HV.out.kept HK.out (fun _ _ _ h => h)).kno (by omega)
      obtain rfl := q1
      obtain ⟨_, _, _, c3, _, rE⟩ := hc k kl
      have htk := itemsF_take l p k kl
      have hxo := HN.out.2.2 _ (List.getElem_mem kl)
      obtain ⟨x, hx⟩ : ∃ x, x = l[k] := ⟨_, rfl⟩
      rw [← hx] at c3 rE htk hxo
      obtain ⟨x3, hx3⟩ : ∃ y, y = x.p := ⟨_, rfl⟩
      rw [← hx3] at c3 htk
      have hle : (itemsF (l.take k) p).length ≤ k := by
        have := itemsF_len (l.take k) p
        rw [List.length_take] at this
        omega
      have HTK := hid (And.intro htk hle)
      clear hc hx htk hx3 hle
      by_cases hp : x3 ≤ p
      · have h64 := itC_len (itemK_len x)
        have hI := fun W => RTr.item x.e.n x.e.v x.e.k W hxo.1 hxo.2
        rw [show itemV ⟨indexH x.e.n, valueH x.e.v x.e.k⟩ = .agg (itC (itemK x)).toArray by show Value.agg ((indexH x.e.n ++ valueH x.e.v x.e.k).map u8v).toArray = _; rw [List.map_append]; rfl] at hI
        have hO := fun W => Its.one W 139 (itemK x) (itemK_len x)
        obtain ⟨XA, hXA⟩ : ∃ X, X = (itC (itemK x)).toArray := ⟨_, rfl⟩
        rw [← hXA] at hI hO
        have hXs : XA.size = 64 := by rw [hXA]; simpa using h64
        have HI := hid (And.intro hI (And.intro hO hXs))
        have hp' : itemsF (l.take (k + 1)) p = itemsF (l.take k) p ++ [itemK x] := by rw [HTK.out.1, if_pos hp]
        have HP := hid hp'
        clear hI hO hXA hXs hp' h64 hxo
        go_wp2_with (first | (refine wpList_load_at (.refl _) _ _ rfl rfl rE Up.aEnt ?_) | fail)
        refine (HI.out.1 wr).mono ?_
        rintro e w3 ⟨rfl, kn⟩
        have k3 := HK.out.trans kn
        have o3 := HO.out.kept kn (fun _ _ h => h)
        have k4 : Kept None w (w3.alloc (.cells XA 139)) := k3.alloc _
        have o4 := o3.alloc (.cells XA 139)
        have s4 := k4.size
        have hX := HI.out.2.2
        have hO4 := HI.out.2.1 w3
        clear kn k3 o3 rE HK HO
        go_wp2_with (first | (refine wpList_one_item (.refl _) _ _ rfl RTr.rtItems (by decide) rfl hX ?_) | (at_builtin; refine wpList_append_ito (v := .slice ao no co) (u := .slice (some ⟨w3.heap.size, 0, none⟩) 1 1) (.refl _) _ _ 126 rfl RTr.rtItems rfl rfl o4 hO4 (by have := HTK.out.2; have := HN.out.2.1; simp; omega) s4 ?_; intro a5 n5 c5 w5 o5 k5 _) | fail)
        have HK5 := hid (Kept.own k4 k5 (fun q hq => (o4.own q hq).1))
        rw [← HP.out] at o5
        have HO5 := hid o5
        clear k4 k5 o4 o5 hO4
        go_roundg (n - (k + 1))
        case measure => omega
        case rel => exact ⟨k + 1, _, _, _, by go_num, rfl, by omega, Nat.le_refl _, HK5, HO5⟩
      · have hp' : itemsF (l.take (k + 1)) p = itemsF (l.take k) p := by rw [HTK.out.1, if_neg hp, List.append_nil]
        have HO5 : Hid (Ito 139 wr w.heap.size (.slice ao no co) (itemsF (l.take (k + 1)) p)) := hid (hp' ▸ HO.out)
        clear hp' HO rE hxo
        go_wp2
        go_roundg (n - (k + 1))
        case measure => omega
        case rel => exact ⟨k + 1, _, _, _, by go_num, rfl, by omega, Nat.le_refl _, HK, HO5⟩
    · have hz : ¬ (k : Int) < (n : Int) := by omega
      obtain rfl : k = n := by omega
      have hO := HO.out
      rw [HN.out.1, List.take_length] at hO
      have iO := hO.its (Nat.le_refl _)
      have hS := RTr.set (.slice ao no co) (.slice none 0 0) _ _ 0 0 (itemsF l p) [] wr iO (Its.nil wr 0 0) (by have := itemsF_len l p; have := HN.out; simp; omega)
      rw [List.append_nil] at hS
      have HS := hid hS
      clear hO iO hS HO
      go_wp2_with fail
      refine HS.out.mono ?_
      rintro e w5 ⟨u, rfl, oU, kn⟩
      have k5 := HK.out.trans kn
      have oW := oU.base HK.out.size
      obtain ⟨au, cu, rfl⟩ := oU.form
      clear kn oU HS
      go_wp2
      go_ret
      exact ⟨_, rfl, oW, k5⟩
end R16
end Go.Proofs.Ytibkijloibnkfaa
