/- Appends to rows that are full: 'append([]T{x}, l...)'. Program-independent. -/
import Derived.Test.YtibkijloibnkfaaNm7
namespace Go.Pm
open Go Go.RowKit

/-- A block whose cells begin with a list, as a slice. -/
theorem Fs.ofBlk {k : Nat} {w : World} {g : Nat} {cs : Array Value} {e : TypeId} (h : Blk w g cs e) {n c : Nat} {l : List Value} (hl : l.length = n * k) (hn : n ≤ c) (hc : c ≤ maxLen) (hp : ∀ (i : Nat) (x : Value), l[i]? = some x → cs[i]? = some x) :
    Fs k w g (g + 1) (.slice (some ⟨g, 0, none⟩) n c) n l := by
  refine ⟨hl, some ⟨g, 0, none⟩, c, rfl, hn, hc, (fun h => by cases h), fun ad had i x hx => ?_⟩
  obtain rfl := Option.some.inj had
  refine ⟨Nat.le_refl _, Nat.lt_succ_self _, ?_⟩
  rw [Addr.add_lit, Nat.zero_add, h.cell]
  exact hp i x hx
/-- 'append(v, u..)' where v is full: nothing that was there is touched. -/
theorem run_append_full {P : Program} {w : World} {t ty e : TypeId} {z : Value} {k bytes : Nat} (hT : RowTyK P t e z k bytes) {g n : Nat} {cs : Array Value} {e' : TypeId} (hv : Blk w g cs e') (hcs : cs.size = n * k) (h0 : 0 < n)
    {lo' hi' : Nat} {u : Value} {m : Nat} {news : List Value} (hu : Fs k w lo' hi' u m news) (h63 : n + m ≤ 1099511627776) (hbytes : bytes ≤ 128) :
    ∃ a c w', (Builtin.append_ #[t, t] ty #[.slice (some ⟨g, 0, none⟩) n n, u]).run P w = .ok (.slice a (n + m) c) w' ∧ (∃ hi, Fs k w' g hi (.slice a (n + m) c) (n + m) (cs.toList ++ news)) ∧ Kept None w w' := by
  obtain ⟨i, hi, hz, hs, hb⟩ := hT.info
  obtain ⟨hlen, au, c, rfl, g1, g2, g3, g4⟩ := hu
  have hn : n ≤ maxLen := by unfold maxLen; omega
  by_cases hm : m = 0
  · subst hm
    have hnews : news = [] := List.eq_nil_of_length_eq_zero (by simpa using hlen)
    subst hnews
    refine ⟨_, _, w, ?_, ⟨g + 1, by simpa using Fs.ofBlk hv (n := n) (c := n) (l := cs.toList) (by simpa using hcs) (Nat.le_refl _) hn (fun i x h => by simpa using h)⟩, Kept.refl _ _⟩
    cases au with
    | none =>
      simp [Builtin.append_, run_underlying hT.sl, sizeOf, typeInfo, hi, Builtin.lenOf, Builtin.firstCells, storeCells]
    | some au =>
      simp [Builtin.append_, run_underlying hT.sl, sizeOf, typeInfo, hi, Builtin.lenOf, Builtin.firstCells, storeCells, loadCells, loadCellsFrom]
  · cases au with
    | none => have := g3 rfl; omega
    | some au =>
      have hr := run_append_grow (P := P) w t ty e i z hT.sl hi hz ⟨g, 0, none⟩ n n cs.toList (by simpa [hs] using hcs) (fun j v hj => by rw [Addr.add_lit, Nat.zero_add, hv.cell]; simpa using hj) au m c news (by rw [hs]; exact hlen) (fun j v hj => (g4 au rfl j v hj).2.2) (by omega) (by omega)
        (by rw [hb]; exact growslice_fits (by omega) (Nat.le_trans (Nat.mul_le_mul h63 hbytes) (by decide)))
      refine ⟨_, _, _, hr, ⟨w.heap.size + 1, ?_⟩, ((Kept.refl None w).drew).alloc _⟩
      refine Fs.wider (Fs.ofBlk (Blk.new w.drew _ e) (by simp [hcs, hlen, Nat.add_mul]) (grownCap_ge _ _ _ _) (grownCap_le_maxLen _ _ _ _ (by unfold maxLen; omega)) (fun i x hx => ?_)) (Nat.le_of_lt hv.lt) (Nat.le_refl _)
      have hi := (List.getElem?_eq_some_iff.1 hx).1
      rw [Array.getElem?_append_left (by simpa using hi), ← Array.getElem?_toList]
      simpa using hx
theorem Fs.vs {w : World} {lo hi : Nat} {v : Value} {n : Nat} {xs : List Value} (h : Fs 1 w lo hi v n xs) : Vs w lo hi v xs := by
  obtain ⟨h0, a, cap, rfl, g1, g2, g3, g4⟩ := h
  obtain rfl : n = xs.length := by omega
  exact ⟨a, cap, rfl, g1, g2, g3, g4⟩
theorem Vs.fs {w : World} {lo hi : Nat} {v : Value} {xs : List Value} (h : Vs w lo hi v xs) : Fs 1 w lo hi v xs.length xs := by
  obtain ⟨a, cap, rfl, g1, g2, g3, g4⟩ := h
  exact ⟨by simp, a, cap, rfl, g1, g2, g3, g4⟩

/-! ### What reads as bytes, as lists of bytes, as hashes, in blocks from lo on -/
def Rb (lo : Nat) (w : World) (v : Value) (l : List UInt8) : Prop := ∃ hi, Bs w lo hi v l
def Rl (lo : Nat) (w : World) (v : Value) (ls : List (List UInt8)) : Prop := ∃ hi, Bss w lo hi lo w.heap.size v ls
def Rh (lo : Nat) (w : World) (v : Value) (hs : List (List UInt8)) : Prop := ∃ hi, Hs w lo hi v hs
theorem Bs.most {w : World} {lo hi : Nat} {v : Value} {l : List UInt8} (h : Bs w lo hi v l) : Bs w lo w.heap.size v l := Vs.wider (Vs.lt h) (Nat.le_refl _) (Nat.min_le_right _ _)
theorem Rb.most {lo : Nat} {w : World} {v : Value} {l : List UInt8} (h : Rb lo w v l) : Bs w lo w.heap.size v l := by
  obtain ⟨hi, h⟩ := h
  exact h.most
theorem Rb.keptS {S : Nat → Prop} {lo : Nat} {w w' : World} {v : Value} {l : List UInt8} (h : Rb lo w v l) (hk : Kept S w w') (hs : ∀ k, lo ≤ k → ¬ S k) : Rb lo w' v l := by
  obtain ⟨hi, h⟩ := h
  exact ⟨hi, h.kept hk (fun k h1 _ => hs k h1)⟩
theorem Rl.keptS {S : Nat → Prop} {lo : Nat} {w w' : World} {v : Value} {ls : List (List UInt8)} (h : Rl lo w v ls) (hk : Kept S w w') (hs : ∀ k, lo ≤ k → ¬ S k) : Rl lo w' v ls := by
  obtain ⟨hi, h⟩ := h
  obtain ⟨xs, h1, h2, h3⟩ := h.kept hk (fun k h1 _ => hs k h1) (fun k h1 _ => hs k h1)
  exact ⟨hi, xs, h1, h2, fun i x l a b => (h3 i x l a b).most⟩
theorem Rh.keptS {S : Nat → Prop} {lo : Nat} {w w' : World} {v : Value} {hs : List (List UInt8)} (h : Rh lo w v hs) (hk : Kept S w w') (hh : ∀ k, lo ≤ k → ¬ S k) : Rh lo w' v hs := by
  obtain ⟨hi, h⟩ := h
  exact ⟨hi, h.kept hk (fun k h1 _ => hh k h1)⟩
theorem Rb.kept {lo : Nat} {w w' : World} {v : Value} {l : List UInt8} (h : Rb lo w v l) (hk : Kept None w w') : Rb lo w' v l := h.keptS hk (fun _ _ h => h)
theorem Rl.kept {lo : Nat} {w w' : World} {v : Value} {ls : List (List UInt8)} (h : Rl lo w v ls) (hk : Kept None w w') : Rl lo w' v ls := h.keptS hk (fun _ _ h => h)
theorem Rh.kept {lo : Nat} {w w' : World} {v : Value} {hs : List (List UInt8)} (h : Rh lo w v hs) (hk : Kept None w w') : Rh lo w' v hs := h.keptS hk (fun _ _ h => h)
theorem Rb.mono {lo lo' : Nat} {w : World} {v : Value} {l : List UInt8} (h : Rb lo w v l) (hl : lo' ≤ lo) : Rb lo' w v l := by
  obtain ⟨hi, h⟩ := h
  exact ⟨hi, h.wider hl (Nat.le_refl _)⟩
theorem Rl.mono {lo lo' : Nat} {w : World} {v : Value} {ls : List (List UInt8)} (h : Rl lo w v ls) (hl : lo' ≤ lo) : Rl lo' w v ls := by
  obtain ⟨hi, xs, h1, h2, h3⟩ := h
  exact ⟨hi, xs, h1.wider hl (Nat.le_refl _), h2, fun i x l a b => (h3 i x l a b).wider hl (Nat.le_refl _)⟩
theorem Rh.mono {lo lo' : Nat} {w : World} {v : Value} {hs : List (List UInt8)} (h : Rh lo w v hs) (hl : lo' ≤ lo) : Rh lo' w v hs := by
  obtain ⟨hi, h1, h2⟩ := h
  exact ⟨hi, h1, h2.wider hl (Nat.le_refl _)⟩
theorem Rb.all {lo : Nat} {w : World} {v : Value} {l : List UInt8} (h : Rb lo w v l) : Bs w 0 w.heap.size v l := by
  obtain ⟨hi, h⟩ := h
  exact h.all
theorem Rb.form {lo : Nat} {w : World} {v : Value} {l : List UInt8} (h : Rb lo w v l) : ∃ a c, v = .slice a l.length c := by
  obtain ⟨hi, h⟩ := h
  obtain ⟨a, c, rfl, _⟩ := h.shape
  exact ⟨a, c, rfl⟩
theorem Rl.form {lo : Nat} {w : World} {v : Value} {ls : List (List UInt8)} (h : Rl lo w v ls) : ∃ a c, v = .slice a ls.length c := by
  obtain ⟨hi, h⟩ := h
  obtain ⟨a, c, rfl, _⟩ := h.shape
  exact ⟨a, c, rfl⟩
theorem Rh.form {lo : Nat} {w : World} {v : Value} {hs : List (List UInt8)} (h : Rh lo w v hs) : ∃ a c, v = .slice a hs.length c := by
  obtain ⟨hi, h⟩ := h
  obtain ⟨a, c, rfl, _⟩ := h.form
  exact ⟨a, c, rfl⟩
theorem Rh.ok {lo : Nat} {w : World} {v : Value} {hs : List (List UInt8)} (h : Rh lo w v hs) : H32 hs := by
  obtain ⟨hi, h⟩ := h
  exact h.1
theorem Rh.nil (lo : Nat) (w : World) : Rh lo w (.slice none 0 0) [] := ⟨0, Hs.nil ..⟩
theorem Rb.nil (lo : Nat) (w : World) : Rb lo w (.slice none 0 0) [] := ⟨0, Bs.nil _ _ _⟩
theorem Rl.nil (lo : Nat) (w : World) : Rl lo w (.slice none 0 0) [] := ⟨0, [], Vs.nil _ _ _, rfl, fun i x l h => by simp at h⟩
theorem Bo.rb {e : TypeId} {w : World} {base : Nat} {v : Value} {l : List UInt8} (h : Bo e w base v l) : Rb base w v l := ⟨_, h.bs (Nat.le_refl _)⟩
theorem Ho.rh {e : TypeId} {w : World} {base : Nat} {v : Value} {hs : List (List UInt8)} (h : Ho e w base v hs) : Rh base w v hs := ⟨_, h.hs (Nat.le_refl _)⟩
theorem Rl.of {lo : Nat} {w : World} {hi : Nat} {v : Value} {xs : List Value} {ls : List (List UInt8)} (h : Vs w lo hi v xs) (hl : xs.length = ls.length) (hx : ∀ (i : Nat) (x : Value) (l : List UInt8), xs[i]? = some x → ls[i]? = some l → Rb lo w x l) : Rl lo w v ls :=
  ⟨hi, xs, h, hl, fun i x l h1 h2 => (hx i x l h1 h2).most⟩
/-- A new row of one list. -/
theorem Rl.one {lo : Nat} (w : World) (hlo : lo ≤ w.heap.size) (t : TypeId) {y : Value} {l : List UInt8} (h : Rb lo w y l) : Rl lo (w.alloc (.cells #[y] t)) (.slice (some ⟨w.heap.size, 0, none⟩) 1 1) [l] := by
  refine Rl.of (hi := w.heap.size + 1) (Vs.wider (Vs.new w #[y] t 1 (Nat.le_refl _) (by decide)) hlo (Nat.le_refl _)) rfl (fun i x m h1 h2 => ?_)
  cases i with
  | zero =>
    simp at h1 h2
    subst h1 h2
    exact h.kept ((Kept.refl _ _).alloc _)
  | succ i => simp at h1
/-- One of them. -/
theorem Rl.at {lo : Nat} {w : World} {a : Option Addr} {n c : Nat} {ls : List (List UInt8)} (h : Rl lo w (.slice a n c) ls) {i : Nat} (hi : i < ls.length) : ∃ b o a' c', a = some ⟨b, o, none⟩ ∧ w.cell? ⟨b, o + i, none⟩ = some (.slice a' ls[i].length c') ∧ Rb lo w (.slice a' ls[i].length c') ls[i] := by
  obtain ⟨hi2, h⟩ := h
  obtain ⟨b, o, rfl, _, _, _, hr⟩ := h.at (by omega)
  obtain ⟨a', c', h1, h2⟩ := hr i hi
  exact ⟨b, o, a', c', rfl, h1, _, h2⟩
/-- 'append([][]byte{y}, u...)'. -/
theorem run_append_rl {P : Program} {w : World} {t ty e : TypeId} {z : Value} {bytes : Nat} (hT : RowTyK P t e z 1 bytes) (hb : bytes ≤ 128) {lo g : Nat} (hg : lo ≤ g) {y : Value} {e' : TypeId} (hv : Blk w g #[y] e') {l : List UInt8} (hy : Rb lo w y l) {u : Value} {ls : List (List UInt8)} (hu : Rl lo w u ls) (hl : ls.length ≤ 1000000) :
    ∃ a c w', (Builtin.append_ #[t, t] ty #[.slice (some ⟨g, 0, none⟩) 1 1, u]).run P w = .ok (.slice a (l :: ls).length c) w' ∧ Rl lo w' (.slice a (l :: ls).length c) (l :: ls) ∧ Kept None w w' := by
  obtain ⟨hi, xs, hxs, hlen, hx⟩ := hu
  have hf := hxs.fs
  rw [hlen] at hf
  obtain ⟨a, c, w', hr, ⟨hi1, h1⟩, k⟩ := run_append_full (ty := ty) hT hv (n := 1) rfl (by decide) hf (by omega) hb
  have e1 : (l :: ls).length = 1 + ls.length := by rw [List.length_cons]; omega
  refine ⟨a, c, w', by rw [e1]; exact hr, ?_, k⟩
  rw [e1]
  refine Rl.of (h1.vs.wider hg (Nat.le_refl _)) (by simp [hlen]) (fun i x m hxi hmi => ?_)
  cases i with
  | zero =>
    simp at hxi hmi
    subst hxi hmi
    exact hy.kept k
  | succ i =>
    have h2 : xs[i]? = some x := by simpa using hxi
    have h3 : ls[i]? = some m := by simpa using hmi
    exact Rb.kept ⟨_, hx i x m h2 h3⟩ k
/-- 'append([]api.Hash{y}, u...)'. -/
theorem run_append_rh {P : Program} {w : World} {t ty e : TypeId} {z : Value} {bytes : Nat} (hT : RowTyK P t e z 32 bytes) (hb : bytes ≤ 128) {lo g : Nat} (hg : lo ≤ g) {h : List UInt8} {e' : TypeId} (hv : Blk w g (h.map u8v).toArray e') (h32 : h.length = 32) {lo' : Nat} {u : Value} {hs : List (List UInt8)} (hu : Rh lo' w u hs) (hl : hs.length ≤ 1000000) :
    ∃ a c w', (Builtin.append_ #[t, t] ty #[.slice (some ⟨g, 0, none⟩) 1 1, u]).run P w = .ok (.slice a (h :: hs).length c) w' ∧ Rh lo w' (.slice a (h :: hs).length c) (h :: hs) ∧ Kept None w w' := by
  obtain ⟨hi, hh, he, hu⟩ := hu
  rw [hsC_len] at hu
  obtain ⟨a, c, w', hr, ⟨hi1, h1⟩, k⟩ := run_append_full (ty := ty) hT hv (n := 1) (by simp [h32]) (by decide) hu (by omega) hb
  have e1 : (h :: hs).length = 1 + hs.length := by rw [List.length_cons]; omega
  refine ⟨a, c, w', by rw [e1]; exact hr, ?_, k⟩
  have hH : H32 (h :: hs) := H32.cons h32 hh
  refine ⟨hi1, hH, hsC_each hH, ?_⟩
  rw [hsC_len, e1]
  have h2 := h1.wider hg (Nat.le_refl _)
  simpa [hsC] using h2
theorem gives_append_rl {P : Program} {o : Oper} {a : Act} {w : World} {X : Value → World → Prop} (s x : Operand) (t : TypeId)
    (ho : o.op = .call { callee := .builtin .append, args := #[s, x], argTypes := #[t, t] }) {e : TypeId} {z : Value} {bytes : Nat} (hT : RowTyK P t e z 1 bytes) (hb : bytes ≤ 128)
    {lo g : Nat} (hg : lo ≤ g) (hs : a.eval s = .slice (some ⟨g, 0, none⟩) 1 1) {u : Value} (hx : a.eval x = u) {y : Value} {e' : TypeId} (hv : Blk w g #[y] e') {l : List UInt8} (hy : Rb lo w y l) {ls : List (List UInt8)} (hu : Rl lo w u ls) (hl : ls.length ≤ 1000000)
    (h : ∀ a' c' w', Rl lo w' (.slice a' (l :: ls).length c') (l :: ls) → Kept None w w' → X (.slice a' (l :: ls).length c') w') : Gives P o a w X := by
  obtain ⟨a', c', w', hr, r2, r3⟩ := run_append_rl (ty := o.type) hT hb hg hv hy hu hl
  exact gives_append s x t ho hs hx hr (h a' c' w' r2 r3)
theorem gives_append_rh {P : Program} {o : Oper} {a : Act} {w : World} {X : Value → World → Prop} (s x : Operand) (t : TypeId)
    (ho : o.op = .call { callee := .builtin .append, args := #[s, x], argTypes := #[t, t] }) {e : TypeId} {z : Value} {bytes : Nat} (hT : RowTyK P t e z 32 bytes) (hb : bytes ≤ 128)
    {lo g : Nat} (hg : lo ≤ g) (hs : a.eval s = .slice (some ⟨g, 0, none⟩) 1 1) {u : Value} (hx : a.eval x = u) {q : List UInt8} {e' : TypeId} (hv : Blk w g (q.map u8v).toArray e') (h32 : q.length = 32) {lo' : Nat} {ls : List (List UInt8)} (hu : Rh lo' w u ls) (hl : ls.length ≤ 1000000)
    (h : ∀ a' c' w', Rh lo w' (.slice a' (q :: ls).length c') (q :: ls) → Kept None w w' → X (.slice a' (q :: ls).length c') w') : Gives P o a w X := by
  obtain ⟨a', c', w', hr, r2, r3⟩ := run_append_rh (ty := o.type) hT hb hg hv h32 hu hl
  exact gives_append s x t ho hs hx hr (h a' c' w' r2 r3)
theorem wpList_append_run {P : Program} {ops : Array Oper} {rest : List Oper} {o : Oper} {a : Act} {w : World} {Q : Exit → Act → World → Prop} (hgd : o.guard = none) (s x : Operand) (t : TypeId)
    (ho : o.op = .call { callee := .builtin .append, args := #[s, x], argTypes := #[t, t] }) {v u : Value} (hs : a.eval s = v) (hx : a.eval x = u) {r : Value} {w' : World} (hr : (Builtin.append_ #[t, t] o.type #[v, u]).run P w = .ok r w')
    (h : wpList P ops Q rest (a.put o.dst r) w') : wpList P ops Q (o :: rest) a w := by
  refine wpList_plain hgd fun K hK' => ?_
  unfold Oper.wp
  simp only [execOp, ho, resolve, invoke, builtin, Sem.run_bind, Sem.run_pure, Result.andThen_ok, List.map_toArray, List.map_cons, List.map_nil, hs, hx, hr]
  exact hK' _ _ h
theorem wpList_append_rl {P : Program} {ops : Array Oper} {rest : List Oper} {o : Oper} {a : Act} {w : World} {Q : Exit → Act → World → Prop} (hgd : o.guard = none) (s x : Operand) (t : TypeId)
    (ho : o.op = .call { callee := .builtin .append, args := #[s, x], argTypes := #[t, t] }) {e : TypeId} {z : Value} {bytes : Nat} (hT : RowTyK P t e z 1 bytes) (hb : bytes ≤ 128)
    {lo g : Nat} (hg : lo ≤ g) (hs : a.eval s = .slice (some ⟨g, 0, none⟩) 1 1) {u : Value} (hx : a.eval x = u) {y : Value} {e' : TypeId} (hv : Blk w g #[y] e') {l : List UInt8} (hy : Rb lo w y l) {ls : List (List UInt8)} (hu : Rl lo w u ls) (hl : ls.length ≤ 1000000)
    (h : ∀ a' c' w', Rl lo w' (.slice a' (l :: ls).length c') (l :: ls) → Kept None w w' → wpList P ops Q rest (a.put o.dst (.slice a' (l :: ls).length c')) w') : wpList P ops Q (o :: rest) a w := by
  obtain ⟨a', c', w', hr, r2, r3⟩ := run_append_rl (ty := o.type) hT hb hg hv hy hu hl
  exact wpList_append_run hgd s x t ho hs hx hr (h a' c' w' r2 r3)

/-! ### Facts of a plan -/
abbrev Fct.rl (k lo : Nat) (ls : List (List UInt8)) (uses : List Nat := []) : Fct := { k := k, uses := uses, pure := fun u => ∃ a c, u = .slice a ls.length c, fact := fun u W => Rl lo W u ls }
abbrev Fct.rb (k lo : Nat) (l : List UInt8) (uses : List Nat := []) : Fct := { k := k, uses := uses, pure := fun u => ∃ a c, u = .slice a l.length c, fact := fun u W => Rb lo W u l }
abbrev Fct.rh (k lo : Nat) (hs : List (List UInt8)) (uses : List Nat := []) : Fct := { k := k, uses := uses, pure := fun u => ∃ a c, u = .slice a hs.length c, fact := fun u W => Rh lo W u hs }
/-- It lays a row of one list. -/
abbrev Fct.row1 (k lo : Nat) (e : TypeId) (l : List UInt8) (uses : List Nat := []) : Fct := { k := k, uses := uses, pure := fun u => ∃ g, u = .slice (some ⟨g, 0, none⟩) 1 1, fact := fun u W => ∃ g y, u = .slice (some ⟨g, 0, none⟩) 1 1 ∧ lo ≤ g ∧ Blk W g #[y] e ∧ Rb lo W y l }
/-- It lays a row of one hash. -/
abbrev Fct.hash1 (k lo : Nat) (e : TypeId) (q : List UInt8) (uses : List Nat := []) : Fct := { k := k, uses := uses, pure := fun u => ∃ g, u = .slice (some ⟨g, 0, none⟩) 1 1, fact := fun u W => ∃ g, u = .slice (some ⟨g, 0, none⟩) 1 1 ∧ lo ≤ g ∧ Blk W g (q.map u8v).toArray e }
section
variable {l : List Fct} {k lo : Nat} {us : List Nat}
theorem Steady.rl {ls : List (List UInt8)} (h : Steady l) : Steady (.rl k lo ls us :: l) := .cons ⟨_, none, 0, rfl⟩ (fun _ _ _ hk hb => Rl.kept hb hk) h
theorem Steady.rb {m : List UInt8} (h : Steady l) : Steady (.rb k lo m us :: l) := .cons ⟨_, none, 0, rfl⟩ (fun _ _ _ hk hb => Rb.kept hb hk) h
theorem Steady.rh {hs : List (List UInt8)} (h : Steady l) : Steady (.rh k lo hs us :: l) := .cons ⟨_, none, 0, rfl⟩ (fun _ _ _ hk hb => Rh.kept hb hk) h
theorem Steady.row1 {e : TypeId} {m : List UInt8} (h : Steady l) : Steady (.row1 k lo e m us :: l) := .cons ⟨_, 0, rfl⟩ (fun _ _ _ hk ⟨g, y, h1, h4, h2, h3⟩ => ⟨g, y, h1, h4, h2.kept hk (fun h => h), h3.kept hk⟩) h
theorem Steady.hash1 {e : TypeId} {m : List UInt8} (h : Steady l) : Steady (.hash1 k lo e m us :: l) := .cons ⟨_, 0, rfl⟩ (fun _ _ _ hk ⟨g, h1, h4, h2⟩ => ⟨g, h1, h4, h2.kept hk (fun h => h)⟩) h
end

/-! ### The value of a proof -/
def pfC (s : Value) (p : Pf) : List Value := s :: .int .i64 p.e :: itC p.x
abbrev pfV (s : Value) (p : Pf) : Value := .agg (pfC s p).toArray
/-- The value v reads as the proof p. -/
def Prf (w : World) (v : Value) (p : Pf) : Prop := p.Ok ∧ ∃ s, v = pfV s p ∧ Rh 0 w s p.path
theorem Prf.kept {w w' : World} {v : Value} {p : Pf} (h : Prf w v p) (hk : Kept None w w') : Prf w' v p := by
  obtain ⟨h0, s, h1, h2⟩ := h
  exact ⟨h0, s, h1, h2.kept hk⟩
theorem pfC_len (s : Value) {p : Pf} (h : p.Ok) : (pfC s p).length = 66 := by
  unfold pfC
  simp [itC_len h.2]
/-- Proofs in a block: their parts. -/
theorem pf_c0 {w : World} {g : Nat} {s : Value} {p : Pf} {t : TypeId} (h : Blk w g (pfC s p).toArray t) : w.cell? ⟨g, 0, none⟩ = some s := by rw [h.cell]; rfl
theorem pf_c1 {w : World} {g : Nat} {s : Value} {p : Pf} {t : TypeId} (h : Blk w g (pfC s p).toArray t) : w.cell? ⟨g, 1, none⟩ = some (.int .i64 p.e) := by rw [h.cell]; rfl
theorem pf_rx {w : World} {g : Nat} {s : Value} {p : Pf} {t : TypeId} (h : Blk w g (pfC s p).toArray t) : w.rangeAt g 2 (itC p.x) := fun j v hj => by
  rw [h.cell, show 2 + j = j + 1 + 1 by omega]
  simpa [pfC] using hj
theorem pf_ri {w : World} {g : Nat} {s : Value} {p : Pf} {t : TypeId} (h : Blk w g (pfC s p).toArray t) (hp : p.Ok) : w.rangeAt g 2 (p.x.i.map u8v) := by
  have h1 := rangeAt_take (pf_rx h) 32
  rwa [show (itC p.x).take 32 = p.x.i.map u8v from List.take_left' (by simp [hp.2.1])] at h1
theorem pf_rv {w : World} {g : Nat} {s : Value} {p : Pf} {t : TypeId} (h : Blk w g (pfC s p).toArray t) (hp : p.Ok) : w.rangeAt g 34 (p.x.v.map u8v) := fun j v hj => by
  have h1 := pf_rx h (32 + j) v (by
    unfold itC
    rw [List.getElem?_append_right (by simp [hp.2.1]), List.length_map, hp.2.1, Nat.add_sub_cancel_left]
    exact hj)
  rwa [show 2 + (32 + j) = 34 + j by omega] at h1
/-- A range of a block, as bytes. -/
theorem range_bs {w : World} {g o n : Nat} {l : List UInt8} (h : w.rangeAt g o (l.map u8v)) (hn : l.length = n) (hm : n ≤ 9223372036854775807) : Rb g w (.slice (some ⟨g, o, none⟩) n n) l := by
  subst hn
  refine ⟨g + 1, some ⟨g, o, none⟩, l.length, by simp, by simp, by unfold maxLen; omega, (fun h => by cases h), fun ad had i x hx => ?_⟩
  obtain rfl := Option.some.inj had
  refine ⟨?_, ?_, ?_⟩
  · exact Nat.le_refl _
  · exact Nat.lt_succ_self _
  · rw [Addr.add_lit]; exact h i x hx
theorem pfC_one {lo : Nat} {w : World} {s : Value} {p : Pf} (h : Rh lo w s p.path) : (pfC s p).toArray.all (·.oneCell') = true := by
  obtain ⟨a, c, rfl⟩ := h.form
  refine all_oneCell_toArray (fun c hc => ?_)
  unfold pfC at hc
  rcases List.mem_cons.1 hc with rfl | hc
  · rfl
  · rcases List.mem_cons.1 hc with rfl | hc
    · rfl
    · exact itsC_one [p.x] c (by simpa [itsC] using hc)
/-- Two results, the first one in a cell. -/
theorem res_cell_tmp {P : Program} {fn : Func} {p q : Tmp} {ty : TypeId} (h : fn.results = #[.cell p ty, .tmp q]) (tmps : Array Value) {w : World} {g : Nat} {t : TypeId} {cs : Array Value} (hp : tmps.getD p undef = .pointer (some ⟨g, 0, none⟩)) {x : Value} (hq : tmps.getD q undef = x) (hb : Blk w g cs t)
    (hT : AggTy P ty cs.size) : (results fn tmps).run P w = .ok (.tuple #[.agg cs, x]) w := by
  obtain ⟨d, hu, hd⟩ := hT.ag
  have hp' : tmps[p]?.getD undef = .pointer (some ⟨g, 0, none⟩) := by simpa using hp
  have hq' : tmps[q]?.getD undef = x := by simpa using hq
  have hl := run_loadVar_row w g t ty cs (0, 0) d hb hu (by cases d <;> first | rfl | exact hd) hT.size
  simp [results, h, hp', hq', asAddr, hl]
theorem res_cell_tmp2 {P : Program} {fn : Func} {p q q2 : Tmp} {ty : TypeId} (h : fn.results = #[.cell p ty, .tmp q, .tmp q2]) (tmps : Array Value) {w : World} {g : Nat} {t : TypeId} {cs : Array Value} (hp : tmps.getD p undef = .pointer (some ⟨g, 0, none⟩)) {x y : Value} (hq : tmps.getD q undef = x) (hq2 : tmps.getD q2 undef = y) (hb : Blk w g cs t)
    (hT : AggTy P ty cs.size) : (results fn tmps).run P w = .ok (.tuple #[.agg cs, x, y]) w := by
  obtain ⟨d, hu, hd⟩ := hT.ag
  have hp' : tmps[p]?.getD undef = .pointer (some ⟨g, 0, none⟩) := by simpa using hp
  have hq' : tmps[q]?.getD undef = x := by simpa using hq
  have hq2' : tmps[q2]?.getD undef = y := by simpa using hq2
  have hl := run_loadVar_row w g t ty cs (0, 0) d hb hu (by cases d <;> first | rfl | exact hd) hT.size
  simp [results, h, hp', hq', hq2', asAddr, hl]
end Go.Pm
