/- Slices of pieces of k cells each, whatever they are (hashes: 32 bytes). Program-independent. -/
import Derived.Test.YtibkijloibnkfaaRows6
namespace Go.Pm
open Go Go.RowKit

/-- Each piece has k cells. -/
def Each (k : Nat) (xs : List (List Value)) : Prop := ∀ x ∈ xs, x.length = k
theorem Each.nil (k : Nat) : Each k [] := fun _ h => by simp at h
theorem Each.one {k : Nat} {x : List Value} (h : x.length = k) : Each k [x] := fun y hy => by simp at hy; subst hy; exact h
theorem Each.append {k : Nat} {a b : List (List Value)} (ha : Each k a) (hb : Each k b) : Each k (a ++ b) := fun x hx => (List.mem_append.1 hx).elim (ha x) (hb x)
theorem Each.tail {k : Nat} {x : List Value} {a : List (List Value)} (h : Each k (x :: a)) : Each k a := fun y hy => h y (List.mem_cons_of_mem _ hy)
theorem Each.take {k : Nat} {a : List (List Value)} (h : Each k a) (n : Nat) : Each k (a.take n) := fun y hy => h y (List.mem_of_mem_take hy)
theorem Each.drop {k : Nat} {a : List (List Value)} (h : Each k a) (n : Nat) : Each k (a.drop n) := fun y hy => h y (List.mem_of_mem_drop hy)
theorem flat_len {k : Nat} : ∀ {xs : List (List Value)}, Each k xs → xs.flatten.length = xs.length * k
  | [], _ => by simp
  | x :: xs, h => by
    have h1 := h x (List.mem_cons_self ..)
    have h2 := flat_len h.tail
    simp only [List.flatten_cons, List.length_append, List.length_cons, h1, h2, Nat.add_mul]
    omega
theorem flat_get {k : Nat} : ∀ {xs : List (List Value)}, Each k xs → ∀ {i : Nat} {x : List Value}, xs[i]? = some x → ∀ {j : Nat} {c : Value}, x[j]? = some c → xs.flatten[i * k + j]? = some c
  | [], _, i, x, h, _, _, _ => by simp at h
  | y :: xs, h, 0, x, hx, j, c, hc => by
    obtain rfl : y = x := by simpa using hx
    have hj : j < y.length := (List.getElem?_eq_some_iff.1 hc).1
    rw [List.flatten_cons, List.getElem?_append_left (by omega)]
    simpa using hc
  | y :: xs, h, i + 1, x, hx, j, c, hc => by
    have h1 := h y (List.mem_cons_self ..)
    have h2 := flat_get h.tail (i := i) (x := x) (by simpa using hx) hc
    rw [List.flatten_cons, List.getElem?_append_right (by rw [h1, Nat.add_mul]; omega), h1, show (i + 1) * k + j - k = i * k + j by rw [Nat.add_mul]; omega]
    exact h2
theorem flat_take {k : Nat} : ∀ {xs : List (List Value)}, Each k xs → ∀ m, (xs.take m).flatten = xs.flatten.take (m * k)
  | [], _, m => by simp
  | x :: xs, _, 0 => by simp
  | x :: xs, h, m + 1 => by
    have h1 := h x (List.mem_cons_self ..)
    have h2 := flat_take h.tail m
    have e : (m + 1) * k = m * k + k := by rw [Nat.add_mul]; omega
    rw [List.take_succ_cons, List.flatten_cons, h2, List.flatten_cons, List.take_append, List.take_of_length_le (l := x) (by omega), h1, e, Nat.add_sub_cancel]
theorem flat_drop {k : Nat} : ∀ {xs : List (List Value)}, Each k xs → ∀ m, (xs.drop m).flatten = xs.flatten.drop (m * k)
  | [], _, m => by simp
  | x :: xs, _, 0 => by simp
  | x :: xs, h, m + 1 => by
    have h1 := h x (List.mem_cons_self ..)
    have h2 := flat_drop h.tail m
    have e : (m + 1) * k = m * k + k := by rw [Nat.add_mul]; omega
    rw [List.drop_succ_cons, h2, List.flatten_cons, List.drop_append, List.drop_of_length_le (l := x) (by omega), h1, e, Nat.add_sub_cancel, List.nil_append]

/-- The slice v holds the pieces xs; they lie in blocks from lo on, below hi. -/
def Ps (k : Nat) (w : World) (lo hi : Nat) (v : Value) (xs : List (List Value)) : Prop := Each k xs ∧ Fs k w lo hi v xs.length xs.flatten
/-- .. that the call owns. -/
def Po (k : Nat) (e : TypeId) (w : World) (base : Nat) (v : Value) (xs : List (List Value)) : Prop := Each k xs ∧ w.ownsRow base e k v xs.length xs.flatten
theorem Ps.kept {k : Nat} {S : Nat → Prop} {w w' : World} {lo hi : Nat} {v : Value} {xs : List (List Value)} (h : Ps k w lo hi v xs) (hk : Kept S w w') (hs : ∀ k, lo ≤ k → k < hi → ¬ S k) : Ps k w' lo hi v xs := ⟨h.1, h.2.kept hk hs⟩
theorem Ps.wider {k : Nat} {w : World} {lo hi lo' hi' : Nat} {v : Value} {xs : List (List Value)} (h : Ps k w lo hi v xs) (h1 : lo' ≤ lo) (h2 : hi ≤ hi') : Ps k w lo' hi' v xs := ⟨h.1, h.2.wider h1 h2⟩
theorem Ps.lt {k : Nat} {w : World} {lo hi : Nat} {v : Value} {xs : List (List Value)} (h : Ps k w lo hi v xs) : Ps k w lo (min hi w.heap.size) v xs := ⟨h.1, h.2.lt⟩
theorem Ps.nil (k : Nat) (w : World) (lo hi : Nat) : Ps k w lo hi (.slice none 0 0) [] := ⟨Each.nil k, Fs.nil ..⟩
theorem Po.nil (k : Nat) (e : TypeId) (w : World) (base : Nat) : Po k e w base (.slice none 0 0) [] := ⟨Each.nil k, World.ownsRow_nil w base e k⟩
theorem Po.ps {k : Nat} {e : TypeId} {w : World} {base : Nat} {v : Value} {xs : List (List Value)} (h : Po k e w base v xs) {hi : Nat} (hh : w.heap.size ≤ hi) : Ps k w base hi v xs := ⟨h.1, Fs.ofRow h.2 hh⟩
theorem Ps.form {k : Nat} {w : World} {lo hi : Nat} {v : Value} {xs : List (List Value)} (h : Ps k w lo hi v xs) : ∃ a cap, v = .slice a xs.length cap ∧ xs.length ≤ cap ∧ cap ≤ 9223372036854775807 ∧ (a = none → cap = 0) := by
  obtain ⟨_, _, a, cap, hv, h1, h2, h3, _⟩ := h
  exact ⟨a, cap, hv, h1, h2, h3⟩
theorem Po.form {k : Nat} {e : TypeId} {w : World} {base : Nat} {v : Value} {xs : List (List Value)} (h : Po k e w base v xs) : ∃ a cap, v = .slice a xs.length cap := by
  rcases h.2.2 with ⟨rfl, h0⟩ | ⟨g, cap, cur, rfl, _⟩
  · exact ⟨none, 0, by rw [h0]⟩
  · exact ⟨_, _, rfl⟩
theorem Po.kept {k : Nat} {e : TypeId} {w w' : World} {base : Nat} {v : Value} {xs : List (List Value)} {S : Nat → Prop} (h : Po k e w base v xs) (hk : Kept S w w') (hs : ∀ k, v.ownBlock = some k → ¬ S k) : Po k e w' base v xs := by
  refine ⟨h.1, h.2.1, ?_⟩
  rcases h.2.2 with h2 | ⟨g, cap, cur, hv, hb, hg, r⟩
  · exact .inl h2
  · refine .inr ⟨g, cap, cur, hv, hb, ?_, r⟩
    rw [hk.block g (lt_of_block hg) (hs g (by rw [hv]; rfl))]
    exact hg
theorem Po.base {k : Nat} {e : TypeId} {w : World} {base base' : Nat} {v : Value} {xs : List (List Value)} (h : Po k e w base v xs) (hb : base' ≤ base) : Po k e w base' v xs := by
  refine ⟨h.1, h.2.1, ?_⟩
  rcases h.2.2 with h2 | ⟨g, cap, cur, hv, hg, r⟩
  · exact .inl h2
  · exact .inr ⟨g, cap, cur, hv, Nat.le_trans hb hg, r⟩
theorem Po.own {k : Nat} {e : TypeId} {w : World} {base : Nat} {v : Value} {xs : List (List Value)} (h : Po k e w base v xs) : ∀ k, v.ownBlock = some k → base ≤ k ∧ k < w.heap.size := World.ownsRow.lt h.2
theorem Po.alloc {k : Nat} {e : TypeId} {w : World} {base : Nat} {v : Value} {xs : List (List Value)} (h : Po k e w base v xs) (o : Obj) : Po k e (w.alloc o) base v xs := ⟨h.1, World.ownsRow.alloc h.2 o⟩
/-- Where they lie. -/
theorem Ps.ne {k : Nat} (hk : 0 < k) {w : World} {lo hi : Nat} {a : Option Addr} {n cap : Nat} {xs : List (List Value)} (h : Ps k w lo hi (.slice a n cap) xs) (hn : 0 < xs.length) :
    ∃ b o, a = some ⟨b, o, none⟩ ∧ lo ≤ b ∧ b < hi ∧ b < w.heap.size ∧ ∀ (i : Nat) (x : List Value), xs[i]? = some x → w.rangeAt b (o + i * k) x := by
  obtain ⟨hf, hl, a', cap', hv, g1, g2, g3, g4⟩ := h
  injection hv with e1 e2 e3
  subst e1 e2 e3
  cases a with
  | none => have := g3 rfl; omega
  | some ad =>
    obtain ⟨b, o, sp⟩ := ad
    have hp : 0 < xs.flatten.length := by rw [hl]; exact Nat.mul_pos hn hk
    have h0 := g4 _ rfl 0 _ (List.getElem?_eq_getElem hp)
    have hsp : sp = none := by
      have h2 := h0.2.2
      simp only [Addr.add_zero'] at h2
      unfold World.cell? at h2
      split at h2
      · cases sp with
        | none => rfl
        | some s => simp at h2
      · cases h2
    subst hsp
    refine ⟨b, o, rfl, h0.1, h0.2.1, by simpa [add_block] using block_lt_of_cell h0.2.2, fun i x hx j c hc => ?_⟩
    have h1 := (g4 _ rfl _ c (flat_get hf hx hc)).2.2
    rw [Addr.add_mid] at h1
    rw [Nat.add_assoc]
    exact h1
/-- An append of pieces to pieces of the call's own. -/
theorem run_append_po {P : Program} {w : World} {t ty e : TypeId} {z : Value} {k bytes : Nat} (hT : RowTyK P t e z k bytes) {base : Nat} {v : Value} {l : List (List Value)} (hown : Po k e w base v l) {lo hi : Nat} {u : Value} {m : List (List Value)} (hu : Ps k w lo hi u m)
    (h1 : ∀ x ∈ m, ∀ c ∈ x, c.oneCell' = true) (h63 : l.length + m.length ≤ 1099511627776) (hb : bytes ≤ 128) (hbase : base ≤ w.heap.size) :
    ∃ a' n' c' w', (Builtin.append_ #[t, t] ty #[v, u]).run P w = .ok (.slice a' n' c') w' ∧ Po k e w' base (.slice a' n' c') (l ++ m) ∧ Kept (Of v) w w' ∧ (∀ k, (Value.slice a' n' c').ownBlock = some k → v.ownBlock = some k ∨ k = w.heap.size) := by
  have hone : ∀ x ∈ m.flatten, x.oneCell' = true := fun x hx => by
    obtain ⟨y, hy, hxy⟩ := List.mem_flatten.1 hx
    exact h1 y hy x hxy
  have hbb : (l.length + m.length) * bytes ≤ 140737488355328 := Nat.le_trans (Nat.mul_le_mul h63 hb) (by decide)
  obtain ⟨v', w', hr, r2, r3⟩ := run_append_fs (w := w) (ty := ty) hT hown.2 hu.2 hone (by unfold maxLen; omega) hbb hbase
  have hblk := append_blockK hT hown.2 hu.2 hone (by unfold maxLen; omega) hbb hr
  have hb : Po k e w' base v' (l ++ m) := ⟨hown.1.append hu.1, by rw [List.length_append, List.flatten_append]; exact r2⟩
  obtain ⟨a', cap', rfl⟩ := hb.form
  refine ⟨_, _, _, w', hr, hb, Kept.ofGrown r3, fun k hk => ?_⟩
  rcases hblk with h | h
  · left; rw [← h]; exact hk
  · right; rw [h] at hk; exact (Option.some.inj hk).symm
/-- .. for the walk. -/
theorem wpList_append_po {P : Program} {ops : Array Oper} {rest : List Oper} {o : Oper} {a : Act} {w : World} {Q : Exit → Act → World → Prop} (hgd : o.guard = none) (s x : Operand) (t : TypeId)
    (ho : o.op = .call { callee := .builtin .append, args := #[s, x], argTypes := #[t, t] }) {e : TypeId} {z : Value} {k bytes : Nat} (hT : RowTyK P t e z k bytes) (hb : bytes ≤ 128)
    {v : Value} (hs : a.eval s = v) {u : Value} (hx : a.eval x = u) {base : Nat} {l : List (List Value)} (hown : Po k e w base v l) {lo hi : Nat} {m : List (List Value)} (hu : Ps k w lo hi u m)
    (h1 : ∀ x ∈ m, ∀ c ∈ x, c.oneCell' = true) (h63 : l.length + m.length ≤ 1099511627776) (hbase : base ≤ w.heap.size)
    (h : ∀ a' n' cap' w', Po k e w' base (.slice a' n' cap') (l ++ m) → Kept (Of v) w w' → (∀ k, (Value.slice a' n' cap').ownBlock = some k → v.ownBlock = some k ∨ k = w.heap.size) → wpList P ops Q rest (a.put o.dst (.slice a' n' cap')) w') : wpList P ops Q (o :: rest) a w := by
  refine wpList_plain hgd fun K hK' => ?_
  obtain ⟨a', n', c', w', hr, r2, r3, r4⟩ := run_append_po (w := w) (ty := o.type) hT hown hu h1 h63 hb hbase
  unfold Oper.wp
  simp only [execOp, ho, resolve, invoke, builtin, Sem.run_bind, Sem.run_pure, Result.andThen_ok, List.map_toArray, List.map_cons, List.map_nil, hs, hx, hr]
  exact hK' _ _ (h a' n' c' w' r2 r3 r4)
/-- .. in a drawn region. -/
theorem gives_append_po {P : Program} {o : Oper} {a : Act} {w : World} {X : Value → World → Prop} (s x : Operand) (t : TypeId)
    (ho : o.op = .call { callee := .builtin .append, args := #[s, x], argTypes := #[t, t] }) {e : TypeId} {z : Value} {k bytes : Nat} (hT : RowTyK P t e z k bytes) (hb : bytes ≤ 128)
    {v : Value} (hs : a.eval s = v) {u : Value} (hx : a.eval x = u) {base : Nat} {l : List (List Value)} (hown : Po k e w base v l) {lo hi : Nat} {m : List (List Value)} (hu : Ps k w lo hi u m)
    (h1 : ∀ x ∈ m, ∀ c ∈ x, c.oneCell' = true) (h63 : l.length + m.length ≤ 1099511627776) (hbase : base ≤ w.heap.size)
    (h : ∀ a' n' cap' w', Po k e w' base (.slice a' n' cap') (l ++ m) → Kept (Of v) w w' → (∀ k, (Value.slice a' n' cap').ownBlock = some k → v.ownBlock = some k ∨ k = w.heap.size) → X (.slice a' n' cap') w') : Gives P o a w X := by
  obtain ⟨a', n', c', w', hr, r2, r3, r4⟩ := run_append_po (w := w) (ty := o.type) hT hown hu h1 h63 hb hbase
  unfold Gives
  simp only [execOp, ho, resolve, invoke, builtin, Sem.run_bind, Sem.run_pure, Result.andThen_ok, List.map_toArray, List.map_cons, List.map_nil, hs, hx, hr]
  exact h a' n' c' w' r2 r3 r4
/-- A new row of one piece. -/
theorem Ps.one (k : Nat) (w : World) (t : TypeId) (x : List Value) (h : x.length = k) : Ps k (w.alloc (.cells x.toArray t)) w.heap.size (w.heap.size + 1) (.slice (some ⟨w.heap.size, 0, none⟩) 1 1) [x] := by
  refine ⟨Each.one h, by simp [h], some ⟨w.heap.size, 0, none⟩, 1, rfl, Nat.le_refl _, by unfold maxLen; omega, (fun h => by cases h), ?_⟩
  intro ad had i c hc
  simp only [Option.some.injEq] at had
  subst had
  refine ⟨Nat.le_refl _, by simp, ?_⟩
  rw [Addr.add_lit, Nat.zero_add, World.cell?_alloc_new]
  simpa using hc
/-- .. that the call owns. -/
theorem Po.one (k : Nat) (w : World) (t : TypeId) (x : List Value) (h : x.length = k) : Po k t (w.alloc (.cells x.toArray t)) w.heap.size (.slice (some ⟨w.heap.size, 0, none⟩) 1 1) [x] := by
  refine ⟨Each.one h, by simp [h], .inr ⟨w.heap.size, 1, x.toArray, rfl, Nat.le_refl _, heap_alloc_new w _, by simp, by unfold maxLen; omega, by simp [h], ?_⟩⟩
  simp [← h]
/-- 's[l:h]' at pieces. -/
theorem Ps.sliced {k : Nat} {w : World} {lo hi : Nat} {a : Option Addr} {n cap : Nat} {xs : List (List Value)} (h : Ps k w lo hi (.slice a n cap) xs) (l m : Nat) (hl : l ≤ m) (hm : m ≤ n) :
    Ps k w lo hi (.slice (if cap = l then a else a.map (·.add (l * k))) (m - l) (cap - l)) ((xs.take m).drop l) := by
  obtain ⟨a', c', hv, _⟩ := h.form
  injection hv with e1 e2 e3
  subst e2
  refine ⟨(h.1.take m).drop l, ?_⟩
  have h1 := Fs.sliced h.2 l m hl hm
  rw [flat_drop (h.1.take m), flat_take h.1]
  have e : ((xs.take m).drop l).length = m - l := by simp; omega
  rw [e]
  exact h1
/-- One of the pieces, loaded, in a drawn region or not: its cells. -/
theorem Ps.at {k : Nat} (hk : 0 < k) {w : World} {lo hi : Nat} {a : Option Addr} {n cap : Nat} {xs : List (List Value)} (h : Ps k w lo hi (.slice a n cap) xs) {i : Nat} (hi' : i < xs.length) :
    ∃ b o, a = some ⟨b, o, none⟩ ∧ w.rangeAt b (o + i * k) xs[i] := by
  obtain ⟨b, o, rfl, _, _, _, hr⟩ := h.ne hk (by omega)
  exact ⟨b, o, rfl, hr i _ (List.getElem?_eq_getElem hi')⟩

/-! ### Hashes -/
def hsC (hs : List (List UInt8)) : List (List Value) := hs.map (·.map u8v)
/-- Each has 32 bytes. -/
def H32 (hs : List (List UInt8)) : Prop := ∀ h ∈ hs, h.length = 32
theorem H32.nil : H32 [] := fun _ h => by simp at h
theorem H32.one {h : List UInt8} (hl : h.length = 32) : H32 [h] := fun y hy => by simp at hy; subst hy; exact hl
theorem H32.append {a b : List (List UInt8)} (ha : H32 a) (hb : H32 b) : H32 (a ++ b) := fun x hx => (List.mem_append.1 hx).elim (ha x) (hb x)
theorem H32.cons {h : List UInt8} {b : List (List UInt8)} (ha : h.length = 32) (hb : H32 b) : H32 (h :: b) := fun x hx => (List.mem_cons.1 hx).elim (fun e => e ▸ ha) (hb x)
theorem H32.head {h : List UInt8} {b : List (List UInt8)} (hb : H32 (h :: b)) : h.length = 32 := hb _ (List.mem_cons_self ..)
theorem H32.tail {h : List UInt8} {b : List (List UInt8)} (hb : H32 (h :: b)) : H32 b := fun y hy => hb y (List.mem_cons_of_mem _ hy)
theorem H32.take {a : List (List UInt8)} (h : H32 a) (n : Nat) : H32 (a.take n) := fun y hy => h y (List.mem_of_mem_take hy)
theorem hsC_each {hs : List (List UInt8)} (h : H32 hs) : Each 32 (hsC hs) := fun x hx => by
  obtain ⟨y, hy, rfl⟩ := List.mem_map.1 hx
  rw [List.length_map]
  exact h y hy
theorem hsC_len (hs : List (List UInt8)) : (hsC hs).length = hs.length := List.length_map _
theorem hsC_one (hs : List (List UInt8)) : ∀ x ∈ hsC hs, ∀ c ∈ x, c.oneCell' = true := fun x hx c hc => by
  obtain ⟨y, _, rfl⟩ := List.mem_map.1 hx
  exact u8v_one y c hc
theorem hsC_append (a b : List (List UInt8)) : hsC (a ++ b) = hsC a ++ hsC b := List.map_append
theorem hsC_snoc (a : List (List UInt8)) (h : List UInt8) : hsC (a ++ [h]) = hsC a ++ [h.map u8v] := List.map_append
/-- The []api.Hash v reads as the hashes hs. -/
abbrev Hs (w : World) (lo hi : Nat) (v : Value) (hs : List (List UInt8)) : Prop := H32 hs ∧ Ps 32 w lo hi v (hsC hs)
/-- .. that the call owns. -/
abbrev Ho (e : TypeId) (w : World) (base : Nat) (v : Value) (hs : List (List UInt8)) : Prop := H32 hs ∧ Po 32 e w base v (hsC hs)
theorem Hs.kept {S : Nat → Prop} {w w' : World} {lo hi : Nat} {v : Value} {hs : List (List UInt8)} (h : Hs w lo hi v hs) (hk : Kept S w w') (hh : ∀ k, lo ≤ k → k < hi → ¬ S k) : Hs w' lo hi v hs := ⟨h.1, h.2.kept hk hh⟩
theorem Hs.nil (w : World) (lo hi : Nat) : Hs w lo hi (.slice none 0 0) [] := ⟨H32.nil, Ps.nil ..⟩
theorem Ho.nil (e : TypeId) (w : World) (base : Nat) : Ho e w base (.slice none 0 0) [] := ⟨H32.nil, Po.nil ..⟩
theorem Ho.kept {e : TypeId} {w w' : World} {base : Nat} {v : Value} {hs : List (List UInt8)} {S : Nat → Prop} (h : Ho e w base v hs) (hk : Kept S w w') (hh : ∀ k, v.ownBlock = some k → ¬ S k) : Ho e w' base v hs := ⟨h.1, h.2.kept hk hh⟩
theorem Ho.base {e : TypeId} {w : World} {base base' : Nat} {v : Value} {hs : List (List UInt8)} (h : Ho e w base v hs) (hb : base' ≤ base) : Ho e w base' v hs := ⟨h.1, h.2.base hb⟩
theorem Ho.hs {e : TypeId} {w : World} {base : Nat} {v : Value} {hs : List (List UInt8)} (h : Ho e w base v hs) {hi : Nat} (hh : w.heap.size ≤ hi) : Hs w base hi v hs := ⟨h.1, h.2.ps hh⟩
theorem Hs.form {w : World} {lo hi : Nat} {v : Value} {hs : List (List UInt8)} (h : Hs w lo hi v hs) : ∃ a cap, v = .slice a hs.length cap ∧ hs.length ≤ cap ∧ cap ≤ 9223372036854775807 ∧ (a = none → cap = 0) := by
  have := h.2.form
  rwa [hsC_len] at this
theorem Ho.form {e : TypeId} {w : World} {base : Nat} {v : Value} {hs : List (List UInt8)} (h : Ho e w base v hs) : ∃ a cap, v = .slice a hs.length cap := by
  have := h.2.form
  rwa [hsC_len] at this
/-- One of them. -/
theorem Hs.at {w : World} {lo hi : Nat} {a : Option Addr} {n cap : Nat} {hs : List (List UInt8)} (h : Hs w lo hi (.slice a n cap) hs) {i : Nat} (hi' : i < hs.length) :
    ∃ b o, a = some ⟨b, o, none⟩ ∧ w.rangeAt b (o + i * 32) (hs[i].map u8v) := by
  obtain ⟨b, o, h1, h2⟩ := h.2.at (by decide) (i := i) (by rw [hsC_len]; exact hi')
  refine ⟨b, o, h1, ?_⟩
  simpa [hsC] using h2
theorem Hs.lo {w : World} {lo hi : Nat} {a : Option Addr} {n cap : Nat} {hs : List (List UInt8)} (h : Hs w lo hi (.slice a n cap) hs) (hn : 0 < hs.length) :
    ∃ b o, a = some ⟨b, o, none⟩ ∧ lo ≤ b ∧ b < hi ∧ b < w.heap.size ∧ ∀ i (hi' : i < hs.length), w.rangeAt b (o + i * 32) (hs[i].map u8v) := by
  obtain ⟨b, o, h1, h2, h3, h4, h5⟩ := h.2.ne (by decide) (by rw [hsC_len]; exact hn)
  refine ⟨b, o, h1, h2, h3, h4, fun i hi' => h5 i _ ?_⟩
  simp [hsC, List.getElem?_eq_getElem hi']
end Go.Pm
