/- Slices of pieces of k cells each (items: 64). Program-independent. -/
import Derived.Test.YtibkijloibnkfaaItem6
import Derived.Deep.MidRow
import Derived.Laws.OwnMore
import Derived.Great.BuildSlice
namespace Go.Pm
open Go Go.RowKit

/-- The slice value v holds n pieces of k cells, which read as the cells xs; they lie in blocks from lo on, below hi. -/
def Fs (k : Nat) (w : World) (lo hi : Nat) (v : Value) (n : Nat) (xs : List Value) : Prop :=
  xs.length = n * k ∧ ∃ a cap, v = .slice a n cap ∧ n ≤ cap ∧ cap ≤ maxLen ∧ (a = none → cap = 0) ∧ ∀ ad, a = some ad → ∀ i x, xs[i]? = some x → lo ≤ ad.block ∧ ad.block < hi ∧ w.cell? (ad.add i) = some x
theorem Fs.kept {k : Nat} {S : Nat → Prop} {w w' : World} {lo hi : Nat} {v : Value} {n : Nat} {xs : List Value} (h : Fs k w lo hi v n xs) (hk : Kept S w w') (hs : ∀ k, lo ≤ k → k < hi → ¬ S k) : Fs k w' lo hi v n xs := by
  obtain ⟨h0, a, cap, hv, h1, h2, h3, h4⟩ := h
  refine ⟨h0, a, cap, hv, h1, h2, h3, fun ad had i x hx => ?_⟩
  obtain ⟨q1, q2, q3⟩ := h4 ad had i x hx
  refine ⟨q1, q2, ?_⟩
  rw [hk.cell (block_lt_of_cell q3) (by rw [add_block]; exact hs _ q1 q2)]
  exact q3
theorem Fs.wider {k : Nat} {w : World} {lo hi lo' hi' : Nat} {v : Value} {n : Nat} {xs : List Value} (h : Fs k w lo hi v n xs) (h1 : lo' ≤ lo) (h2 : hi ≤ hi') : Fs k w lo' hi' v n xs := by
  obtain ⟨h0, a, cap, hv, g1, g2, g3, g4⟩ := h
  exact ⟨h0, a, cap, hv, g1, g2, g3, fun ad had i x hx => ⟨Nat.le_trans h1 (g4 ad had i x hx).1, Nat.lt_of_lt_of_le (g4 ad had i x hx).2.1 h2, (g4 ad had i x hx).2.2⟩⟩
theorem Fs.nil (k : Nat) (w : World) (lo hi : Nat) : Fs k w lo hi (.slice none 0 0) 0 [] := ⟨by simp, none, 0, rfl, Nat.le_refl _, Nat.zero_le _, fun _ => rfl, fun ad h => by cases h⟩
theorem Fs.lt {k : Nat} {w : World} {lo hi : Nat} {v : Value} {n : Nat} {xs : List Value} (h : Fs k w lo hi v n xs) : Fs k w lo (min hi w.heap.size) v n xs := by
  obtain ⟨h0, a, cap, hv, g1, g2, g3, g4⟩ := h
  refine ⟨h0, a, cap, hv, g1, g2, g3, fun ad had i x hx => ?_⟩
  obtain ⟨q1, q2, q3⟩ := g4 ad had i x hx
  have := block_lt_of_cell q3
  rw [add_block] at this
  exact ⟨q1, by omega, q3⟩
/-- A row that the call owns. -/
theorem Fs.ofRow {k : Nat} {w : World} {base : Nat} {e : TypeId} {v : Value} {n : Nat} {xs : List Value} (h : w.ownsRow base e k v n xs) {hi : Nat} (hh : w.heap.size ≤ hi) : Fs k w base hi v n xs := by
  obtain ⟨h1, h2⟩ := h
  rcases h2 with ⟨rfl, rfl⟩ | ⟨g, cap, cur, rfl, hb, hg, hnc, hcm, hcs, ht⟩
  · have : xs = [] := List.eq_nil_of_length_eq_zero (by simpa using h1)
    subst this
    exact Fs.nil k w _ _
  · refine ⟨h1, some ⟨g, 0, none⟩, cap, rfl, hnc, hcm, (fun h => by cases h), ?_⟩
    intro ad had i x hx
    simp at had
    subst had
    have hlt := lt_of_block hg
    refine ⟨hb, by show g < hi; omega, ?_⟩
    rw [Addr.add_lit, Nat.zero_add, cell_of_row w g i cur e (0, 0) hg]
    rw [← ht, List.getElem?_take] at hx
    split at hx
    · simpa using hx
    · cases hx
/-- What an append at pieces of k cells wants of the program. -/
structure RowTyK (P : Program) (t e : TypeId) (z : Value) (k bytes : Nat) : Prop where
  sl : P.underlying t = some (.slice e)
  info : ∃ i, P.info? e = some i ∧ i.zero = some z ∧ i.size = k ∧ i.bytes = bytes
  cells : z.cells.size = k
  pos : 0 < k
theorem run_append_fs {P : Program} {w : World} {t ty e : TypeId} {z : Value} {k bytes : Nat} (hT : RowTyK P t e z k bytes) {base : Nat} {v : Value} {n : Nat} {xs : List Value} (hown : w.ownsRow base e k v n xs)
    {lo hi : Nat} {u : Value} {m : Nat} {news : List Value} (hu : Fs k w lo hi u m news) (h1 : ∀ x ∈ news, x.oneCell' = true) (h63 : n + m ≤ maxLen) (hbytes : (n + m) * bytes ≤ 140737488355328) (hbase : base ≤ w.heap.size) :
    ∃ v' w', (Builtin.append_ #[t, t] ty #[v, u]).run P w = .ok v' w' ∧ w'.ownsRow base e k v' (n + m) (xs ++ news) ∧ w.grownBy w' v.ownBlock := by
  obtain ⟨i, hi, hz, hs, hb⟩ := hT.info
  obtain ⟨h0, a, cap, rfl, g1, g2, g3, g4⟩ := hu
  cases a with
  | none =>
    have hc := g3 rfl
    subst hc
    obtain rfl : m = 0 := by omega
    have hn : news = [] := List.eq_nil_of_length_eq_zero (by simpa using h0)
    subst hn
    exact ⟨v, w, run_append_owned_none (w := w) base t ty e i k hT.sl hi v n xs hown, by simpa using hown, World.grownBy.refl _ _⟩
  | some ad =>
    obtain ⟨v', w', r1, r2, r3, _⟩ := run_append_own (P := P) w base t ty e i z k bytes hT.sl hi hz hs hb hT.cells hT.pos v n xs hown ad m cap news h0 (fun j u hj => (g4 ad rfl j u hj).2.2) h1 h63 hbytes hbase
    exact ⟨v', w', r1, r2, r3⟩
/-- An append, where the row lies afterwards: in its old block, or in a new one. -/
theorem append_blockK {P : Program} {w w' : World} {t ty e : TypeId} {z : Value} {k bytes : Nat} (hT : RowTyK P t e z k bytes) {base : Nat} {v v' : Value} {n : Nat} {xs : List Value} (hown : w.ownsRow base e k v n xs)
    {lo hi : Nat} {u : Value} {m : Nat} {news : List Value} (hu : Fs k w lo hi u m news) (h1 : ∀ x ∈ news, x.oneCell' = true) (h63 : n + m ≤ maxLen) (hbytes : (n + m) * bytes ≤ 140737488355328)
    (hr : (Builtin.append_ #[t, t] ty #[v, u]).run P w = .ok v' w') : v'.ownBlock = v.ownBlock ∨ v'.ownBlock = some w.heap.size := by
  obtain ⟨i, hi, hz, hs, hb⟩ := hT.info
  obtain ⟨h0, a, cap, rfl, g1, g2, g3, g4⟩ := hu
  cases a with
  | none =>
    have hc := g3 rfl
    subst hc
    obtain rfl : m = 0 := by omega
    rw [run_append_owned_none (w := w) base t ty e i k hT.sl hi v n xs hown] at hr
    simp only [Result.ok.injEq] at hr
    rw [← hr.1]
    exact .inl rfl
  | some ad =>
    have hnews : ∀ j u, news[j]? = some u → w.cell? (ad.add j) = some u := fun j u hj => (g4 ad rfl j u hj).2.2
    have hlen : n + m ≤ 9223372036854775807 := by unfold maxLen at h63; omega
    subst hs
    rcases hown.2 with ⟨rfl, rfl⟩ | ⟨g, cap', cur, rfl, hbg, hg, hnc, hcm, hcs, htake⟩
    · by_cases hm : m = 0
      · subst hm
        simp [Builtin.append_, run_underlying hT.sl, sizeOf, typeInfo, hi, Builtin.lenOf, Builtin.firstCells, loadCells, loadCellsFrom] at hr
        rw [← hr.1]
        exact .inl rfl
      · have h2 := run_append_nil (P := P) w t ty e i z hT.sl hi hz ad m cap news h0 hnews (by omega) (by omega) (by rw [hb]; have hb' := hbytes; simp only [Nat.zero_add] at hb'; omega)
        rw [h2] at hr
        simp only [Result.ok.injEq] at hr
        rw [← hr.1]
        exact .inr rfl
    · by_cases hroom : n + m ≤ cap'
      · have h2 := run_append_room (P := P) w t ty e i hT.sl hi g n cap' cur hg ad m cap news h0 hnews h1 hroom (by rw [h0, hcs, ← Nat.add_mul]; exact Nat.mul_le_mul_right _ hroom)
        rw [h2] at hr
        simp only [Result.ok.injEq] at hr
        rw [← hr.1]
        exact .inl rfl
      · have holds : ∀ j u, xs[j]? = some u → w.cell? ((⟨g, 0, none⟩ : Addr).add j) = some u := hown.cells (g := g) rfl
        have h2 := run_append_grow (P := P) w t ty e i z hT.sl hi hz ⟨g, 0, none⟩ n cap' xs hown.1 holds ad m cap news h0 hnews (by omega) (by omega) (by rw [hb]; exact growslice_fits (by omega) hbytes)
        rw [h2] at hr
        simp only [Result.ok.injEq] at hr
        rw [← hr.1]
        exact .inr rfl

/-! ### Items -/
def itC (x : It) : List Value := x.i.map u8v ++ x.v.map u8v
def Full (l : List It) : Prop := ∀ x ∈ l, x.i.length = 32 ∧ x.v.length = 32
def itsC (l : List It) : List Value := l.flatMap itC
theorem itC_len {x : It} (h : x.i.length = 32 ∧ x.v.length = 32) : (itC x).length = 64 := by simp [itC, h.1, h.2]
theorem itsC_len : ∀ {l : List It}, Full l → (itsC l).length = l.length * 64
  | [], _ => by simp [itsC]
  | x :: l, h => by
    have h1 := itC_len (h x (List.mem_cons_self ..))
    have h2 := itsC_len (l := l) (fun y hy => h y (List.mem_cons_of_mem _ hy))
    unfold itsC at h2 ⊢
    simp only [List.flatMap_cons, List.length_append, List.length_cons, h1, h2]
    omega
theorem itsC_get : ∀ {l : List It}, Full l → ∀ {i : Nat} {x : It}, l[i]? = some x → ∀ {j : Nat} {c : Value}, (itC x)[j]? = some c → (itsC l)[i * 64 + j]? = some c
  | [], _, i, x, h, _, _, _ => by simp at h
  | y :: l, h, 0, x, hx, j, c, hc => by
    obtain rfl : y = x := by simpa using hx
    have hj : j < (itC y).length := (List.getElem?_eq_some_iff.1 hc).1
    unfold itsC
    rw [List.flatMap_cons, List.getElem?_append_left (by omega)]
    simpa using hc
  | y :: l, h, i + 1, x, hx, j, c, hc => by
    have h1 := itC_len (h y (List.mem_cons_self ..))
    have h2 := itsC_get (l := l) (fun z hz => h z (List.mem_cons_of_mem _ hz)) (i := i) (x := x) (by simpa using hx) hc
    unfold itsC at h2 ⊢
    rw [List.flatMap_cons, List.getElem?_append_right (by omega), h1, show (i + 1) * 64 + j - 64 = i * 64 + j by omega]
    exact h2
theorem itsC_append (a b : List It) : itsC (a ++ b) = itsC a ++ itsC b := by simp [itsC]
theorem itsC_one (l : List It) : ∀ x ∈ itsC l, x.oneCell' = true := by
  intro x hx
  unfold itsC at hx
  obtain ⟨y, _, hy⟩ := List.mem_flatMap.1 hx
  unfold itC at hy
  rcases List.mem_append.1 hy with h | h
  · exact u8v_one _ x h
  · exact u8v_one _ x h
/-- The []api.Item v reads as the items l. -/
def Its (w : World) (lo hi : Nat) (v : Value) (l : List It) : Prop := Full l ∧ Fs 64 w lo hi v l.length (itsC l)
/-- .. that the call owns. -/
def Ito (e : TypeId) (w : World) (base : Nat) (v : Value) (l : List It) : Prop := Full l ∧ w.ownsRow base e 64 v l.length (itsC l)
theorem Its.kept {S : Nat → Prop} {w w' : World} {lo hi : Nat} {v : Value} {l : List It} (h : Its w lo hi v l) (hk : Kept S w w') (hs : ∀ k, lo ≤ k → k < hi → ¬ S k) : Its w' lo hi v l := ⟨h.1, h.2.kept hk hs⟩
theorem Its.wider {w : World} {lo hi lo' hi' : Nat} {v : Value} {l : List It} (h : Its w lo hi v l) (h1 : lo' ≤ lo) (h2 : hi ≤ hi') : Its w lo' hi' v l := ⟨h.1, h.2.wider h1 h2⟩
theorem Its.nil (w : World) (lo hi : Nat) : Its w lo hi (.slice none 0 0) [] := ⟨fun _ h => by simp at h, Fs.nil ..⟩
theorem Ito.nil (e : TypeId) (w : World) (base : Nat) : Ito e w base (.slice none 0 0) [] := ⟨fun _ h => by simp at h, World.ownsRow_nil w base e 64⟩
theorem Ito.its {e : TypeId} {w : World} {base : Nat} {v : Value} {l : List It} (h : Ito e w base v l) {hi : Nat} (hh : w.heap.size ≤ hi) : Its w base hi v l := ⟨h.1, Fs.ofRow h.2 hh⟩
theorem Its.form {w : World} {lo hi : Nat} {v : Value} {l : List It} (h : Its w lo hi v l) : ∃ a cap, v = .slice a l.length cap ∧ l.length ≤ cap ∧ cap ≤ maxLen ∧ (a = none → cap = 0) := by
  obtain ⟨_, _, a, cap, hv, h1, h2, h3, _⟩ := h
  exact ⟨a, cap, hv, h1, h2, h3⟩
/-- The cells of one of them. -/
theorem Its.cells {w : World} {lo hi : Nat} {ad : Addr} {n cap : Nat} {l : List It} (h : Its w lo hi (.slice (some ad) n cap) l) {i : Nat} {x : It} (hx : l[i]? = some x) {j : Nat} {c : Value} (hc : (itC x)[j]? = some c) :
    lo ≤ ad.block ∧ ad.block < hi ∧ w.cell? (ad.add (i * 64 + j)) = some c := by
  obtain ⟨hf, _, a, cap', hv, _, _, _, h4⟩ := h
  cases hv
  exact h4 ad rfl _ c (itsC_get hf hx hc)
/-- One of them, loaded. -/
theorem Its.load {P : Program} {ty : TypeId} {w : World} {lo hi : Nat} {ad : Addr} {n cap : Nat} {l : List It} (h : Its w lo hi (.slice (some ad) n cap) l) (hT : AggTy P ty 64) {i : Nat} {x : It} (hx : l[i]? = some x) :
    (Instr.loadAt ty (.pointer (some (ad.add (i * 64))))).run P w = .ok (.agg (itC x).toArray) w := by
  have h64 : (itC x).length = 64 := itC_len (h.1 x (List.mem_of_getElem? hx))
  have hl := run_loadCells_list (P := P) w (ad.add (i * 64)) (itC x) (fun j v hv => by rw [add_add']; exact (h.cells hx hv).2.2)
  obtain ⟨d, hu, hd⟩ := hT.ag
  have hi := hT.size
  cases hq : P.info? ty with
  | none => simp [hq] at hi
  | some inf =>
    have hs : inf.size = (itC x).length := by rw [hq] at hi; simpa [h64] using hi
    have hagg : (isAgg ty).run P w = .ok true w := by
      unfold isAgg
      rw [Sem.run_bind, run_underlying hu w]
      cases d <;> simp_all [aggD]
    simp [Instr.loadAt, Instr.sureAddr, loadVar, Sem.run_bind, hagg, sizeOf, typeInfo, hq, hs, hl]
/-! ### Items of the call's own -/
theorem Ito.form {e : TypeId} {w : World} {base : Nat} {v : Value} {l : List It} (h : Ito e w base v l) : ∃ a cap, v = .slice a l.length cap := by
  rcases h.2.2 with ⟨rfl, h0⟩ | ⟨g, cap, cur, rfl, _⟩
  · exact ⟨none, 0, by rw [h0]⟩
  · exact ⟨_, _, rfl⟩
theorem Ito.kept {e : TypeId} {w w' : World} {base : Nat} {v : Value} {l : List It} {S : Nat → Prop} (h : Ito e w base v l) (hk : Kept S w w') (hs : ∀ k, v.ownBlock = some k → ¬ S k) : Ito e w' base v l := by
  refine ⟨h.1, h.2.1, ?_⟩
  rcases h.2.2 with h2 | ⟨g, cap, cur, hv, hb, hg, r⟩
  · exact .inl h2
  · refine .inr ⟨g, cap, cur, hv, hb, ?_, r⟩
    rw [hk.block g (lt_of_block hg) (hs g (by rw [hv]; rfl))]
    exact hg
theorem Ito.base {e : TypeId} {w : World} {base base' : Nat} {v : Value} {l : List It} (h : Ito e w base v l) (hb : base' ≤ base) : Ito e w base' v l := by
  refine ⟨h.1, h.2.1, ?_⟩
  rcases h.2.2 with h2 | ⟨g, cap, cur, hv, hg, r⟩
  · exact .inl h2
  · exact .inr ⟨g, cap, cur, hv, Nat.le_trans hb hg, r⟩
theorem Ito.own {e : TypeId} {w : World} {base : Nat} {v : Value} {l : List It} (h : Ito e w base v l) : ∀ k, v.ownBlock = some k → base ≤ k ∧ k < w.heap.size := World.ownsRow.lt h.2
theorem Ito.alloc {e : TypeId} {w : World} {base : Nat} {v : Value} {l : List It} (h : Ito e w base v l) (o : Obj) : Ito e (w.alloc o) base v l := ⟨h.1, World.ownsRow.alloc h.2 o⟩
/-- An append of items to items of the call's own. -/
theorem run_append_ito {P : Program} {w : World} {t ty e : TypeId} {z : Value} (hT : RowTyK P t e z 64 64) {base : Nat} {v : Value} {l : List It} (hown : Ito e w base v l) {lo hi : Nat} {u : Value} {m : List It} (hu : Its w lo hi u m)
    (h63 : l.length + m.length ≤ 1099511627776) (hbase : base ≤ w.heap.size) :
    ∃ a' n' c' w', (Builtin.append_ #[t, t] ty #[v, u]).run P w = .ok (.slice a' n' c') w' ∧ Ito e w' base (.slice a' n' c') (l ++ m) ∧ Kept (Of v) w w' ∧ (∀ k, (Value.slice a' n' c').ownBlock = some k → v.ownBlock = some k ∨ k = w.heap.size) := by
  obtain ⟨v', w', hr, r2, r3⟩ := run_append_fs (w := w) (ty := ty) hT hown.2 hu.2 (itsC_one m) (by unfold maxLen; omega) (by omega) hbase
  have hblk := append_blockK hT hown.2 hu.2 (itsC_one m) (by unfold maxLen; omega) (by omega) hr
  have hb : Ito e w' base v' (l ++ m) := ⟨fun x hx => (List.mem_append.1 hx).elim (hown.1 x) (hu.1 x), by rw [List.length_append, itsC_append]; exact r2⟩
  obtain ⟨a', cap', rfl⟩ := hb.form
  refine ⟨_, _, _, w', hr, hb, Kept.ofGrown r3, fun k hk => ?_⟩
  rcases hblk with h | h
  · left; rw [← h]; exact hk
  · right; rw [h] at hk; exact (Option.some.inj hk).symm
/-- A new row of one item ('append(a, x)'). -/
theorem Its.one (w : World) (t : TypeId) (x : It) (h : x.i.length = 32 ∧ x.v.length = 32) : Its (w.alloc (.cells (itC x).toArray t)) w.heap.size (w.heap.size + 1) (.slice (some ⟨w.heap.size, 0, none⟩) 1 1) [x] := by
  refine ⟨by simpa [Full] using h, by simp [itsC, itC_len h], some ⟨w.heap.size, 0, none⟩, 1, rfl, Nat.le_refl _, by unfold maxLen; omega, (fun h => by cases h), ?_⟩
  intro ad had i c hc
  simp only [Option.some.injEq] at had
  subst had
  refine ⟨Nat.le_refl _, by simp, ?_⟩
  rw [Addr.add_lit, Nat.zero_add, World.cell?_alloc_new]
  simpa [itsC] using hc
/-- Where they lie. -/
theorem Its.ne {w : World} {lo hi : Nat} {a : Option Addr} {n cap : Nat} {l : List It} (h : Its w lo hi (.slice a n cap) l) (hn : 0 < l.length) :
    ∃ b o, a = some ⟨b, o, none⟩ ∧ lo ≤ b ∧ b < hi ∧ b < w.heap.size ∧ ∀ (i : Nat) (x : It), l[i]? = some x → w.rangeAt b (o + i * 64) (itC x) := by
  obtain ⟨hf, hl, a', cap', hv, g1, g2, g3, g4⟩ := h
  injection hv with e1 e2 e3
  subst e1 e2 e3
  cases a with
  | none => have := g3 rfl; omega
  | some ad =>
    obtain ⟨b, o, sp⟩ := ad
    have h0 := g4 _ rfl 0 _ (List.getElem?_eq_getElem (by omega))
    have hsp : sp = none := by
      have h2 := h0.2.2
      simp only [Addr.add_zero'] at h2
      unfold World.cell? at h2
      split at h2
      · cases sp with
        | none => rfl
        | some s => simp at h2
      · cases h2
    subst hsp
    refine ⟨b, o, rfl, h0.1, h0.2.1, by simpa [add_block] using block_lt_of_cell h0.2.2, fun i x hx j c hc => ?_⟩
    have h1 := (g4 _ rfl _ c (itsC_get hf hx hc)).2.2
    rw [Addr.add_mid] at h1
    rw [Nat.add_assoc]
    exact h1
theorem rangeAt_take {w : World} {b o : Nat} {cs : List Value} (h : w.rangeAt b o cs) (n : Nat) : w.rangeAt b o (cs.take n) := fun j v hv => h j v (by
  rw [List.getElem?_take] at hv
  split at hv
  · exact hv
  · cases hv)
/-- An append of items, for the walk. -/
theorem wpList_append_ito {P : Program} {ops : Array Oper} {rest : List Oper} {o : Oper} {a : Act} {w : World} {Q : Exit → Act → World → Prop} (hgd : o.guard = none) (s x : Operand) (t : TypeId)
    (ho : o.op = .call { callee := .builtin .append, args := #[s, x], argTypes := #[t, t] }) {e : TypeId} {z : Value} (hT : RowTyK P t e z 64 64)
    {v : Value} (hs : a.eval s = v) {u : Value} (hx : a.eval x = u) {base : Nat} {l : List It} (hown : Ito e w base v l) {lo hi : Nat} {m : List It} (hu : Its w lo hi u m)
    (h63 : l.length + m.length ≤ 1099511627776) (hbase : base ≤ w.heap.size)
    (h : ∀ a' n' cap' w', Ito e w' base (.slice a' n' cap') (l ++ m) → Kept (Of v) w w' → (∀ k, (Value.slice a' n' cap').ownBlock = some k → v.ownBlock = some k ∨ k = w.heap.size) → wpList P ops Q rest (a.put o.dst (.slice a' n' cap')) w') : wpList P ops Q (o :: rest) a w := by
  refine wpList_plain hgd fun K hK' => ?_
  obtain ⟨a', n', c', w', hr, r2, r3, r4⟩ := run_append_ito (w := w) (ty := o.type) hT hown hu h63 hbase
  unfold Oper.wp
  simp only [execOp, ho, resolve, invoke, builtin, Sem.run_bind, Sem.run_pure, Result.andThen_ok, List.map_toArray, List.map_cons, List.map_nil, hs, hx, hr]
  exact hK' _ _ (h a' n' c' w' r2 r3 r4)
theorem rangeAt_kept {w w' : World} {b o : Nat} {cs : List Value} (h : w.rangeAt b o cs) (hk : Kept None w w') : w'.rangeAt b o cs := fun j v hv => by
  have h1 := h j v hv
  rw [hk.cell (block_lt_of_cell h1) (fun h => h)]
  exact h1
/-- Cells in the midst of a row, loaded. -/
theorem wpList_load_at {P : Program} {ops : Array Oper} {rest : List Oper} {op : Oper} {a : Act} {w : World} {Q : Exit → Act → World → Prop} (hgd : op.guard = none) (ty : TypeId) (x : Operand) (ho : op.op = .load ty x)
    {b o : Nat} (hx : a.eval x = .pointer (some ⟨b, o, none⟩)) {cs : List Value} (hc : w.rangeAt b o cs) (hT : AggTy P ty cs.length)
    (h : wpList P ops Q rest (a.put op.dst (.agg cs.toArray)) w) : wpList P ops Q (op :: rest) a w := by
  obtain ⟨d, hu, hd⟩ := hT.ag
  exact wpList_load_mid hgd ty x ho b o hx cs d hc hu (by cases d <;> first | rfl | exact hd) hT.size h
theorem fill_one (k : Nat) (z A : Array Value) (hz : z.size = k) (hA : A.size = k) : Instr.fill (fun i => some (i * k, k)) z [(0, .agg A)] = some A := by
  have ha := fold_put 0 A.toList 0 z (by simp; omega)
  have e1 : A.zipIdx.foldl (fun cs (c, j) => cs.setIfInBounds (0 + j) c) z = A := by
    rw [← Array.foldl_toList, Array.toList_zipIdx]
    refine ha.trans ?_
    apply Array.ext'
    simp [hA, hz]
  rw [fill_cons (v := .agg A) (off := 0) (size := k) (by simp) (show (Value.agg A).cells.size = k from hA) (by show 0 + A.size ≤ z.size; omega)]
  rw [show (Value.agg A).cells = A from rfl, e1]
  rfl
/-- A new row of one item, for the walk. -/
theorem wpList_one_item {P : Program} {ops : Array Oper} {rest : List Oper} {o : Oper} {a : Act} {w : World} {Q : Exit → Act → World → Prop} (hg : o.guard = none) (t : TypeId) (y : Operand) (ho : o.op = .buildSlice t 1 #[(0, y)])
    {e : TypeId} {z : Value} {k bytes : Nat} (hT : RowTyK P t e z k bytes) (hk : k ≤ 16777216) {A : Array Value} (hy : a.eval y = .agg A) (hA : A.size = k)
    (h : wpList P ops Q rest (a.put o.dst (.slice (some ⟨w.heap.size, 0, none⟩) 1 1)) (w.alloc (.cells A e))) : wpList P ops Q (o :: rest) a w := by
  obtain ⟨i, hi, hz, hs, hb⟩ := hT.info
  have hp := hT.pos
  refine wpList_buildSlice hg t e 1 #[(0, y)] ho A i z hT.sl hi hz (by omega) (by omega) ?_ h
  rw [hs, show ((#[(0, y)] : Array (Nat × Operand)).map fun (i, x) => (i, a.eval x)).toList = [(0, .agg A)] by simp [hy]]
  exact fill_one k _ A (by simp) hA
/-! ### One of them, stored over -/
theorem kept_setCells {S : Nat → Prop} {a : World} {b : Nat} (hb : b < a.heap.size → S b) : ∀ (cs : List Value) (o : Nat) (w : World), Kept S a w → Kept S a (w.setCells b o cs)
  | [], _, _, h => h
  | c :: cs, o, _w, h => kept_setCells hb cs (o + 1) _ (h.setCell (p := ⟨b, o, none⟩) hb c)
theorem Blk.setCells {g : Nat} {t : TypeId} : ∀ (cs : List Value) (o : Nat) (w : World) (cur : Array Value), Blk w g cur t → o + cs.length ≤ cur.size →
    Blk (w.setCells g o cs) g (cur.toList.take o ++ cs ++ cur.toList.drop (o + cs.length)).toArray t
  | [], o, w, cur, h, _ => by simpa [World.setCells] using h
  | c :: cs, o, w, cur, h, hl => by
    simp only [List.length_cons] at hl
    have h1 := Blk.setCells cs (o + 1) (w.setCell ⟨g, o, none⟩ c) (cur.setIfInBounds o c) (h.set o c) (by simp; omega)
    rw [World.setCells]
    have e : (cur.setIfInBounds o c).toList.take (o + 1) ++ cs ++ (cur.setIfInBounds o c).toList.drop (o + 1 + cs.length) = cur.toList.take o ++ c :: cs ++ cur.toList.drop (o + (cs.length + 1)) := by
      rw [Array.toList_setIfInBounds, List.take_succ_eq_append_getElem (by simp; omega), List.getElem_set_self, List.take_set_of_le (Nat.le_refl _), List.drop_set_of_lt (by omega)]
      simp [Nat.add_assoc, Nat.add_comm 1 cs.length]
    rw [e] at h1
    simpa using h1
theorem itsC_set : ∀ {l : List It}, Full l → ∀ {k : Nat} (x : It), k < l.length → x.i.length = 32 ∧ x.v.length = 32 → itsC (l.set k x) = (itsC l).take (k * 64) ++ itC x ++ (itsC l).drop (k * 64 + 64)
  | [], _, k, x, hk, _ => by simp at hk
  | y :: l, h, 0, x, _, hx => by
    have h1 := itC_len (h y (List.mem_cons_self ..))
    simp [itsC, List.drop_left' h1]
  | y :: l, h, k + 1, x, hk, hx => by
    have h1 := itC_len (h y (List.mem_cons_self ..))
    have h2 := itsC_set (l := l) (fun z hz => h z (List.mem_cons_of_mem _ hz)) (k := k) x (by simpa using hk) hx
    have t1 : (itC y).take ((k + 1) * 64) = itC y := List.take_of_length_le (by omega)
    have d1 : (itC y).drop ((k + 1) * 64 + 64) = [] := List.drop_of_length_le (by omega)
    unfold itsC at h2 ⊢
    rw [List.set_cons_succ, List.flatMap_cons, h2, List.flatMap_cons, List.take_append, List.drop_append, t1, d1, h1,
      show (k + 1) * 64 - 64 = k * 64 by omega, show (k + 1) * 64 + 64 - 64 = k * 64 + 64 by omega]
    simp
/-- One of the call's own items, stored over, for the walk. -/
theorem wpList_store_item {P : Program} {ops : Array Oper} {rest : List Oper} {op : Oper} {a : Act} {w : World} {Q : Exit → Act → World → Prop} (hgd : op.guard = none) (ty : TypeId) (x y : Operand) (ho : op.op = .store ty x y)
    {e : TypeId} {base g n cap : Nat} {l : List It} (hown : Ito e w base (.slice (some ⟨g, 0, none⟩) n cap) l) {k : Nat} (hk : k < l.length) {v : It} (hv : v.i.length = 32 ∧ v.v.length = 32)
    (hx : a.eval x = .pointer (some ⟨g, k * 64, none⟩)) (hy : a.eval y = .agg (itC v).toArray) (hT : AggTy P ty 64)
    (h : ∀ w', Ito e w' base (.slice (some ⟨g, 0, none⟩) n cap) (l.set k v) → Kept (Just g) w w' → wpList P ops Q rest (a.put op.dst undef) w') : wpList P ops Q (op :: rest) a w := by
  have h64 := itC_len hv
  obtain ⟨hf, hlen, h2⟩ := hown
  rcases h2 with ⟨h3, _⟩ | ⟨g', cap', cur, hvv, hb, hg, hnc, hcm, hcs, htake⟩
  · cases h3
  injection hvv with e1 e2 e3
  obtain rfl : g = g' := by simpa using e1
  subst e2 e3
  have hblk : Blk w g cur e := hg
  have hL := itsC_len hf
  have hfit : k * 64 + 64 ≤ cur.size := by omega
  refine wpList_store_mid hgd ty x y ho g (k * 64) (itC v).toArray hx hy (fun j hj => ?_) (by simpa [h64] using hT.size) (all_oneCell_toArray (fun c hc => itsC_one [v] c (by simpa [itsC] using hc))) ?_
  · simp only [List.size_toArray, h64] at hj
    refine ⟨?_, hblk.free _⟩
    rw [hblk.cell]
    simp [show k * 64 + j < cur.size by omega]
  · refine h _ ⟨?_, ?_, ?_⟩ (kept_setCells (S := Just g) (fun _ => rfl) _ _ _ (Kept.refl _ _))
    · intro z hz
      rcases List.mem_or_eq_of_mem_set hz with h | rfl
      · exact hf z h
      · exact hv
    · rw [itsC_len (fun z hz => by
        rcases List.mem_or_eq_of_mem_set hz with h | rfl
        · exact hf z h
        · exact hv)]
    · refine .inr ⟨g, cap, _, by simp, hb, Blk.setCells (itC v) (k * 64) w cur hblk (by omega), by simpa using hnc, hcm, ?_, ?_⟩
      · simp only [List.size_toArray, List.length_append, List.length_take, List.length_drop, Array.length_toList, h64]
        omega
      · rw [itsC_set hf v hk hv, ← htake, List.length_set]
        have q1 : (cur.toList.take (l.length * 64)).take (k * 64) = cur.toList.take (k * 64) := by rw [List.take_take, Nat.min_eq_left (by omega)]
        rw [q1, h64, List.append_assoc, List.take_append, List.append_assoc, List.take_of_length_le (by simp; omega)]
        congr 1
        rw [List.take_append, List.take_of_length_le (by simp [h64]; omega)]
        congr 1
        rw [List.take_drop]
        congr 2
        simp [h64]
        omega
/-! ### Cuts -/
theorem Fs.sliced {k : Nat} {w : World} {lo hi : Nat} {a : Option Addr} {n cap : Nat} {xs : List Value} (h : Fs k w lo hi (.slice a n cap) n xs) (l m : Nat) (hl : l ≤ m) (hm : m ≤ n) :
    Fs k w lo hi (.slice (if cap = l then a else a.map (·.add (l * k))) (m - l) (cap - l)) (m - l) ((xs.take (m * k)).drop (l * k)) := by
  obtain ⟨h0, a', cap', hv, g1, g2, g3, g4⟩ := h
  injection hv with e1 e2 e3
  subst e1 e3
  have h1 : l * k ≤ m * k := Nat.mul_le_mul_right _ hl
  have h2 : m * k ≤ n * k := Nat.mul_le_mul_right _ hm
  refine ⟨by rw [List.length_drop, List.length_take, h0, Nat.min_eq_left h2, Nat.sub_mul], _, cap - l, rfl, by omega, by omega, ?_, ?_⟩
  · intro hn
    have hnone : a = none := by
      by_cases hc : cap = l
      · rw [if_pos hc] at hn; exact hn
      · rw [if_neg hc] at hn; cases a with
        | none => rfl
        | some ad => simp at hn
    have := g3 hnone
    omega
  · intro ad had i x hx
    have hi : l * k + i < m * k ∧ xs[l * k + i]? = some x := by
      rw [List.getElem?_drop, List.getElem?_take] at hx
      split at hx
      · exact ⟨by assumption, hx⟩
      · cases hx
    have hne : ¬ cap = l := by
      intro e
      have : m ≤ l := by omega
      have := Nat.mul_le_mul_right k this
      omega
    rw [if_neg hne] at had
    cases a with
    | none => simp at had
    | some ad0 =>
      simp at had
      subst had
      obtain ⟨q1, q2, q3⟩ := g4 ad0 rfl (l * k + i) x hi.2
      rw [add_block, add_add']
      exact ⟨q1, q2, q3⟩
theorem itsC_take : ∀ {l : List It}, Full l → ∀ (m : Nat), itsC (l.take m) = (itsC l).take (m * 64)
  | [], _, m => by simp [itsC]
  | x :: l, _, 0 => by simp [itsC]
  | x :: l, h, m + 1 => by
    have h1 := itC_len (h x (List.mem_cons_self ..))
    have h2 := itsC_take (l := l) (fun z hz => h z (List.mem_cons_of_mem _ hz)) m
    have t1 : (itC x).take ((m + 1) * 64) = itC x := List.take_of_length_le (by omega)
    unfold itsC at h2 ⊢
    rw [List.take_succ_cons, List.flatMap_cons, h2, List.flatMap_cons, List.take_append, t1, h1, show (m + 1) * 64 - 64 = m * 64 by omega]
theorem itsC_drop : ∀ {l : List It}, Full l → ∀ (m : Nat), itsC (l.drop m) = (itsC l).drop (m * 64)
  | [], _, m => by simp [itsC]
  | x :: l, _, 0 => by simp [itsC]
  | x :: l, h, m + 1 => by
    have h1 := itC_len (h x (List.mem_cons_self ..))
    have h2 := itsC_drop (l := l) (fun z hz => h z (List.mem_cons_of_mem _ hz)) m
    have d1 : (itC x).drop ((m + 1) * 64) = [] := List.drop_of_length_le (by omega)
    unfold itsC at h2 ⊢
    rw [List.drop_succ_cons, h2, List.flatMap_cons, List.drop_append, d1, h1, show (m + 1) * 64 - 64 = m * 64 by omega]
    simp
/-- 's[l:h]' at items. -/
theorem Its.sliced {w : World} {lo hi : Nat} {a : Option Addr} {n cap : Nat} {xs : List It} (h : Its w lo hi (.slice a n cap) xs) (l m : Nat) (hl : l ≤ m) (hm : m ≤ n) :
    Its w lo hi (.slice (if cap = l then a else a.map (·.add (l * 64))) (m - l) (cap - l)) ((xs.take m).drop l) := by
  obtain ⟨a', c', hv, _⟩ := h.form
  injection hv with e1 e2 e3
  subst e2
  have hf : Full (xs.take m) := fun z hz => h.1 z (List.mem_of_mem_take hz)
  refine ⟨fun z hz => hf z (List.mem_of_mem_drop hz), ?_⟩
  have h1 := Fs.sliced h.2 l m hl hm
  rw [itsC_drop hf, itsC_take h.1]
  have e : ((xs.take m).drop l).length = m - l := by simp; omega
  rw [e]
  exact h1
/-- A load, of a known range. -/
theorem exec_load_at {P : Program} {o : Oper} {ev : Operand → Value} {W : World} {ty : TypeId} {x : Operand} {b off : Nat} {cs : List Value} (ho : o.op = .load ty x) (hx : ev x = .pointer (some ⟨b, off, none⟩)) (hc : W.rangeAt b off cs) (hT : AggTy P ty cs.length) : (execOp ev o).run P W = .ok (.value (.agg cs.toArray)) W := by
  obtain ⟨d, hu, hd⟩ := hT.ag
  unfold execOp
  simp only [ho, hx, Instr.loadAt, Instr.sureAddr, Sem.run_bind, Sem.run_pure, Result.andThen_ok, run_loadVar_mid W b off ty cs d hc hu (by cases d <;> first | rfl | exact hd) hT.size]
theorem exec_one_item {P : Program} {o : Oper} {ev : Operand → Value} {w : World} (t : TypeId) (y : Operand) (ho : o.op = .buildSlice t 1 #[(0, y)])
    {e : TypeId} {z : Value} {k bytes : Nat} (hT : RowTyK P t e z k bytes) (hk : k ≤ 16777216) {A : Array Value} (hy : ev y = .agg A) (hA : A.size = k) :
    (execOp ev o).run P w = .ok (.value (.slice (some ⟨w.heap.size, 0, none⟩) 1 1)) (w.alloc (.cells A e)) := by
  obtain ⟨i, hi, hz, hs, hb⟩ := hT.info
  have hp := hT.pos
  have hr := run_buildSlice (P := P) w t e 1 #[(0, .agg A)] A i z hT.sl hi hz (by omega) (by omega) (by rw [hs]; exact fill_one k _ A (by simp) hA)
  unfold execOp
  simp only [ho, Sem.run_bind]
  rw [show (#[(0, y)] : Array (Nat × Operand)).map (fun (i, x) => (i, ev x)) = #[(0, .agg A)] by simp [hy]]
  rw [hr]
  rfl
end Go.Pm
