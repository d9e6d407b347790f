/- Texts joined: App7, HkA8, RAdd16, Kno17, RtEnt16, RFind16, FieldMP, SgChk, RefChk, RUpChk. -/
import Derived.Test.YtdobmebhjmgkmaaPk2
import Derived.Deep.LoopGhost
import Derived.Deep.QuietTactic
import Derived.BigQuiet
import Derived.KernelRfl
import Derived.Deep.CutBlock
import Derived.Deep.DeepCutAuto
import Derived.Lib.Walk
import Derived.Test.YtdobmebhjmgkmaaPk3
import Derived.Test.YtdobmebhjmgkmaaPk4
import Derived.Test.YtdobmebhjmgkmaaProg
import Derived.Test.YtdobmebhjmgkmaaPk1
import Derived.Lib.Mul64
import Derived.Laws.Bits64b
namespace Go.Pm
open Go Go.RowKit

/-- A block whose cells begin with a list, as a slice. -/
theorem Fs.ofBlk {k : Nat} {w : World} {g : Nat} {cs : Array Value} {e : TypeId} (h : Blk w g cs e) {n c : Nat} {l : List Value} (hl : l.length = n * k) (hn : n ≤ c) (hc : c ≤ maxLen) (hp : ∀ (i : Nat) (x : Value), l[i]? = some x → cs[i]? = some x) :
    Fs k w g (g + 1) (.slice (some ⟨g, 0, none⟩) n c) n l := by
  refine ⟨hl, some ⟨g, 0, none⟩, c, rfl, hn, hc, (fun h => by cases h), fun ad had i x hx => ?_⟩
  obtain rfl := Option.some.inj had
  refine ⟨Nat.le_refl _, Nat.lt_succ_self _, ?_⟩
  rw [Addr.add_lit, Nat.zero_add, h.cell]
  exact hp i x hx
/-- 'append(v, u..)' where v is full: nothing that was there is touched. -/
theorem run_append_full {P : Program} {w : World} {t ty e : TypeId} {z : Value} {k bytes : Nat} (hT : RowTyK P t e z k bytes) {g n : Nat} {cs : Array Value} {e' : TypeId} (hv : Blk w g cs e') (hcs : cs.size = n * k) (h0 : 0 < n)
    {lo' hi' : Nat} {u : Value} {m : Nat} {news : List Value} (hu : Fs k w lo' hi' u m news) (h63 : n + m ≤ 1099511627776) (hbytes : bytes ≤ 128) :
    ∃ a c w', (Builtin.append_ #[t, t] ty #[.slice (some ⟨g, 0, none⟩) n n, u]).run P w = .ok (.slice a (n + m) c) w' ∧ (∃ hi, Fs k w' g hi (.slice a (n + m) c) (n + m) (cs.toList ++ news)) ∧ Kept None w w' := by
  obtain ⟨i, hi, hz, hs, hb⟩ := hT.info
  obtain ⟨hlen, au, c, rfl, g1, g2, g3, g4⟩ := hu
  have hn : n ≤ maxLen := by unfold maxLen; omega
  by_cases hm : m = 0
  · subst hm
    have hnews : news = [] := List.eq_nil_of_length_eq_zero (by simpa using hlen)
    subst hnews
    refine ⟨_, _, w, ?_, ⟨g + 1, by simpa using Fs.ofBlk hv (n := n) (c := n) (l := cs.toList) (by simpa using hcs) (Nat.le_refl _) hn (fun i x h => by simpa using h)⟩, Kept.refl _ _⟩
    cases au with
    | none =>
      simp [Builtin.append_, run_underlying hT.sl, sizeOf, typeInfo, hi, Builtin.lenOf, Builtin.firstCells, storeCells]
    | some au =>
      simp [Builtin.append_, run_underlying hT.sl, sizeOf, typeInfo, hi, Builtin.lenOf, Builtin.firstCells, storeCells, loadCells, loadCellsFrom]
  · cases au with
    | none => have := g3 rfl; omega
    | some au =>
      have hr := run_append_grow (P := P) w t ty e i z hT.sl hi hz ⟨g, 0, none⟩ n n cs.toList (by simpa [hs] using hcs) (fun j v hj => by rw [Addr.add_lit, Nat.zero_add, hv.cell]; simpa using hj) au m c news (by rw [hs]; exact hlen) (fun j v hj => (g4 au rfl j v hj).2.2) (by omega) (by omega)
        (by rw [hb]; exact growslice_fits (by omega) (Nat.le_trans (Nat.mul_le_mul h63 hbytes) (by decide)))
      refine ⟨_, _, _, hr, ⟨w.heap.size + 1, ?_⟩, ((Kept.refl None w).drew).alloc _⟩
      refine Fs.wider (Fs.ofBlk (Blk.new w.drew _ e) (by simp [hcs, hlen, Nat.add_mul]) (grownCap_ge _ _ _ _) (grownCap_le_maxLen _ _ _ _ (by unfold maxLen; omega)) (fun i x hx => ?_)) (Nat.le_of_lt hv.lt) (Nat.le_refl _)
      have hi := (List.getElem?_eq_some_iff.1 hx).1
      rw [Array.getElem?_append_left (by simpa using hi), ← Array.getElem?_toList]
      simpa using hx
theorem Fs.vs {w : World} {lo hi : Nat} {v : Value} {n : Nat} {xs : List Value} (h : Fs 1 w lo hi v n xs) : Vs w lo hi v xs := by
  obtain ⟨h0, a, cap, rfl, g1, g2, g3, g4⟩ := h
  obtain rfl : n = xs.length := by omega
  exact ⟨a, cap, rfl, g1, g2, g3, g4⟩
theorem Vs.fs {w : World} {lo hi : Nat} {v : Value} {xs : List Value} (h : Vs w lo hi v xs) : Fs 1 w lo hi v xs.length xs := by
  obtain ⟨a, cap, rfl, g1, g2, g3, g4⟩ := h
  exact ⟨by simp, a, cap, rfl, g1, g2, g3, g4⟩

/-! ### What reads as bytes, as lists of bytes, as hashes, in blocks from lo on -/
def Rb (lo : Nat) (w : World) (v : Value) (l : List UInt8) : Prop := ∃ hi, Bs w lo hi v l
def Rl (lo : Nat) (w : World) (v : Value) (ls : List (List UInt8)) : Prop := ∃ hi, Bss w lo hi lo w.heap.size v ls
def Rh (lo : Nat) (w : World) (v : Value) (hs : List (List UInt8)) : Prop := ∃ hi, Hs w lo hi v hs
theorem Bs.most {w : World} {lo hi : Nat} {v : Value} {l : List UInt8} (h : Bs w lo hi v l) : Bs w lo w.heap.size v l := Vs.wider (Vs.lt h) (Nat.le_refl _) (Nat.min_le_right _ _)
theorem Rb.most {lo : Nat} {w : World} {v : Value} {l : List UInt8} (h : Rb lo w v l) : Bs w lo w.heap.size v l := by
  obtain ⟨hi, h⟩ := h
  exact h.most
theorem Rb.keptS {S : Nat → Prop} {lo : Nat} {w w' : World} {v : Value} {l : List UInt8} (h : Rb lo w v l) (hk : Kept S w w') (hs : ∀ k, lo ≤ k → ¬ S k) : Rb lo w' v l := by
  obtain ⟨hi, h⟩ := h
  exact ⟨hi, h.kept hk (fun k h1 _ => hs k h1)⟩
theorem Rl.keptS {S : Nat → Prop} {lo : Nat} {w w' : World} {v : Value} {ls : List (List UInt8)} (h : Rl lo w v ls) (hk : Kept S w w') (hs : ∀ k, lo ≤ k → ¬ S k) : Rl lo w' v ls := by
  obtain ⟨hi, h⟩ := h
  obtain ⟨xs, h1, h2, h3⟩ := h.kept hk (fun k h1 _ => hs k h1) (fun k h1 _ => hs k h1)
  exact ⟨hi, xs, h1, h2, fun i x l a b => (h3 i x l a b).most⟩
theorem Rh.keptS {S : Nat → Prop} {lo : Nat} {w w' : World} {v : Value} {hs : List (List UInt8)} (h : Rh lo w v hs) (hk : Kept S w w') (hh : ∀ k, lo ≤ k → ¬ S k) : Rh lo w' v hs := by
  obtain ⟨hi, h⟩ := h
  exact ⟨hi, h.kept hk (fun k h1 _ => hh k h1)⟩
theorem Rb.kept {lo : Nat} {w w' : World} {v : Value} {l : List UInt8} (h : Rb lo w v l) (hk : Kept None w w') : Rb lo w' v l := h.keptS hk (fun _ _ h => h)
theorem Rl.kept {lo : Nat} {w w' : World} {v : Value} {ls : List (List UInt8)} (h : Rl lo w v ls) (hk : Kept None w w') : Rl lo w' v ls := h.keptS hk (fun _ _ h => h)
theorem Rh.kept {lo : Nat} {w w' : World} {v : Value} {hs : List (List UInt8)} (h : Rh lo w v hs) (hk : Kept None w w') : Rh lo w' v hs := h.keptS hk (fun _ _ h => h)
theorem Rb.mono {lo lo' : Nat} {w : World} {v : Value} {l : List UInt8} (h : Rb lo w v l) (hl : lo' ≤ lo) : Rb lo' w v l := by
  obtain ⟨hi, h⟩ := h
  exact ⟨hi, h.wider hl (Nat.le_refl _)⟩
theorem Rl.mono {lo lo' : Nat} {w : World} {v : Value} {ls : List (List UInt8)} (h : Rl lo w v ls) (hl : lo' ≤ lo) : Rl lo' w v ls := by
  obtain ⟨hi, xs, h1, h2, h3⟩ := h
  exact ⟨hi, xs, h1.wider hl (Nat.le_refl _), h2, fun i x l a b => (h3 i x l a b).wider hl (Nat.le_refl _)⟩
theorem Rh.mono {lo lo' : Nat} {w : World} {v : Value} {hs : List (List UInt8)} (h : Rh lo w v hs) (hl : lo' ≤ lo) : Rh lo' w v hs := by
  obtain ⟨hi, h1, h2⟩ := h
  exact ⟨hi, h1, h2.wider hl (Nat.le_refl _)⟩
theorem Rb.all {lo : Nat} {w : World} {v : Value} {l : List UInt8} (h : Rb lo w v l) : Bs w 0 w.heap.size v l := by
  obtain ⟨hi, h⟩ := h
  exact h.all
theorem Rb.form {lo : Nat} {w : World} {v : Value} {l : List UInt8} (h : Rb lo w v l) : ∃ a c, v = .slice a l.length c := by
  obtain ⟨hi, h⟩ := h
  obtain ⟨a, c, rfl, _⟩ := h.shape
  exact ⟨a, c, rfl⟩
theorem Rl.form {lo : Nat} {w : World} {v : Value} {ls : List (List UInt8)} (h : Rl lo w v ls) : ∃ a c, v = .slice a ls.length c := by
  obtain ⟨hi, h⟩ := h
  obtain ⟨a, c, rfl, _⟩ := h.shape
  exact ⟨a, c, rfl⟩
theorem Rh.form {lo : Nat} {w : World} {v : Value} {hs : List (List UInt8)} (h : Rh lo w v hs) : ∃ a c, v = .slice a hs.length c := by
  obtain ⟨hi, h⟩ := h
  obtain ⟨a, c, rfl, _⟩ := h.form
  exact ⟨a, c, rfl⟩
theorem Rh.ok {lo : Nat} {w : World} {v : Value} {hs : List (List UInt8)} (h : Rh lo w v hs) : H32 hs := by
  obtain ⟨hi, h⟩ := h
  exact h.1
theorem Rh.nil (lo : Nat) (w : World) : Rh lo w (.slice none 0 0) [] := ⟨0, Hs.nil ..⟩
theorem Rb.nil (lo : Nat) (w : World) : Rb lo w (.slice none 0 0) [] := ⟨0, Bs.nil _ _ _⟩
theorem Rl.nil (lo : Nat) (w : World) : Rl lo w (.slice none 0 0) [] := ⟨0, [], Vs.nil _ _ _, rfl, fun i x l h => by simp at h⟩
theorem Bo.rb {e : TypeId} {w : World} {base : Nat} {v : Value} {l : List UInt8} (h : Bo e w base v l) : Rb base w v l := ⟨_, h.bs (Nat.le_refl _)⟩
theorem Ho.rh {e : TypeId} {w : World} {base : Nat} {v : Value} {hs : List (List UInt8)} (h : Ho e w base v hs) : Rh base w v hs := ⟨_, h.hs (Nat.le_refl _)⟩
theorem Rl.of {lo : Nat} {w : World} {hi : Nat} {v : Value} {xs : List Value} {ls : List (List UInt8)} (h : Vs w lo hi v xs) (hl : xs.length = ls.length) (hx : ∀ (i : Nat) (x : Value) (l : List UInt8), xs[i]? = some x → ls[i]? = some l → Rb lo w x l) : Rl lo w v ls :=
  ⟨hi, xs, h, hl, fun i x l h1 h2 => (hx i x l h1 h2).most⟩
/-- A new row of one list. -/
theorem Rl.one {lo : Nat} (w : World) (hlo : lo ≤ w.heap.size) (t : TypeId) {y : Value} {l : List UInt8} (h : Rb lo w y l) : Rl lo (w.alloc (.cells #[y] t)) (.slice (some ⟨w.heap.size, 0, none⟩) 1 1) [l] := by
  refine Rl.of (hi := w.heap.size + 1) (Vs.wider (Vs.new w #[y] t 1 (Nat.le_refl _) (by decide)) hlo (Nat.le_refl _)) rfl (fun i x m h1 h2 => ?_)
  cases i with
  | zero =>
    simp at h1 h2
    subst h1 h2
    exact h.kept ((Kept.refl _ _).alloc _)
  | succ i => simp at h1
/-- One of them. -/
theorem Rl.at {lo : Nat} {w : World} {a : Option Addr} {n c : Nat} {ls : List (List UInt8)} (h : Rl lo w (.slice a n c) ls) {i : Nat} (hi : i < ls.length) : ∃ b o a' c', a = some ⟨b, o, none⟩ ∧ w.cell? ⟨b, o + i, none⟩ = some (.slice a' ls[i].length c') ∧ Rb lo w (.slice a' ls[i].length c') ls[i] := by
  obtain ⟨hi2, h⟩ := h
  obtain ⟨b, o, rfl, _, _, _, hr⟩ := h.at (by omega)
  obtain ⟨a', c', h1, h2⟩ := hr i hi
  exact ⟨b, o, a', c', rfl, h1, _, h2⟩
/-- 'append([][]byte{y}, u...)'. -/
theorem run_append_rl {P : Program} {w : World} {t ty e : TypeId} {z : Value} {bytes : Nat} (hT : RowTyK P t e z 1 bytes) (hb : bytes ≤ 128) {lo g : Nat} (hg : lo ≤ g) {y : Value} {e' : TypeId} (hv : Blk w g #[y] e') {l : List UInt8} (hy : Rb lo w y l) {u : Value} {ls : List (List UInt8)} (hu : Rl lo w u ls) (hl : ls.length ≤ 1000000) :
    ∃ a c w', (Builtin.append_ #[t, t] ty #[.slice (some ⟨g, 0, none⟩) 1 1, u]).run P w = .ok (.slice a (l :: ls).length c) w' ∧ Rl lo w' (.slice a (l :: ls).length c) (l :: ls) ∧ Kept None w w' := by
  obtain ⟨hi, xs, hxs, hlen, hx⟩ := hu
  have hf := hxs.fs
  rw [hlen] at hf
  obtain ⟨a, c, w', hr, ⟨hi1, h1⟩, k⟩ := run_append_full (ty := ty) hT hv (n := 1) rfl (by decide) hf (by omega) hb
  have e1 : (l :: ls).length = 1 + ls.length := by rw [List.length_cons]; omega
  refine ⟨a, c, w', by rw [e1]; exact hr, ?_, k⟩
  rw [e1]
  refine Rl.of (h1.vs.wider hg (Nat.le_refl _)) (by simp [hlen]) (fun i x m hxi hmi => ?_)
  cases i with
  | zero =>
    simp at hxi hmi
    subst hxi hmi
    exact hy.kept k
  | succ i =>
    have h2 : xs[i]? = some x := by simpa using hxi
    have h3 : ls[i]? = some m := by simpa using hmi
    exact Rb.kept ⟨_, hx i x m h2 h3⟩ k
/-- 'append([]api.Hash{y}, u...)'. -/
theorem run_append_rh {P : Program} {w : World} {t ty e : TypeId} {z : Value} {bytes : Nat} (hT : RowTyK P t e z 32 bytes) (hb : bytes ≤ 128) {lo g : Nat} (hg : lo ≤ g) {h : List UInt8} {e' : TypeId} (hv : Blk w g (h.map u8v).toArray e') (h32 : h.length = 32) {lo' : Nat} {u : Value} {hs : List (List UInt8)} (hu : Rh lo' w u hs) (hl : hs.length ≤ 1000000) :
    ∃ a c w', (Builtin.append_ #[t, t] ty #[.slice (some ⟨g, 0, none⟩) 1 1, u]).run P w = .ok (.slice a (h :: hs).length c) w' ∧ Rh lo w' (.slice a (h :: hs).length c) (h :: hs) ∧ Kept None w w' := by
  obtain ⟨hi, hh, he, hu⟩ := hu
  rw [hsC_len] at hu
  obtain ⟨a, c, w', hr, ⟨hi1, h1⟩, k⟩ := run_append_full (ty := ty) hT hv (n := 1) (by simp [h32]) (by decide) hu (by omega) hb
  have e1 : (h :: hs).length = 1 + hs.length := by rw [List.length_cons]; omega
  refine ⟨a, c, w', by rw [e1]; exact hr, ?_, k⟩
  have hH : H32 (h :: hs) := H32.cons h32 hh
  refine ⟨hi1, hH, hsC_each hH, ?_⟩
  rw [hsC_len, e1]
  have h2 := h1.wider hg (Nat.le_refl _)
  simpa [hsC] using h2
theorem gives_append_rl {P : Program} {o : Oper} {a : Act} {w : World} {X : Value → World → Prop} (s x : Operand) (t : TypeId)
    (ho : o.op = .call { callee := .builtin .append, args := #[s, x], argTypes := #[t, t] }) {e : TypeId} {z : Value} {bytes : Nat} (hT : RowTyK P t e z 1 bytes) (hb : bytes ≤ 128)
    {lo g : Nat} (hg : lo ≤ g) (hs : a.eval s = .slice (some ⟨g, 0, none⟩) 1 1) {u : Value} (hx : a.eval x = u) {y : Value} {e' : TypeId} (hv : Blk w g #[y] e') {l : List UInt8} (hy : Rb lo w y l) {ls : List (List UInt8)} (hu : Rl lo w u ls) (hl : ls.length ≤ 1000000)
    (h : ∀ a' c' w', Rl lo w' (.slice a' (l :: ls).length c') (l :: ls) → Kept None w w' → X (.slice a' (l :: ls).length c') w') : Gives P o a w X := by
  obtain ⟨a', c', w', hr, r2, r3⟩ := run_append_rl (ty := o.type) hT hb hg hv hy hu hl
  exact gives_append s x t ho hs hx hr (h a' c' w' r2 r3)
theorem gives_append_rh {P : Program} {o : Oper} {a : Act} {w : World} {X : Value → World → Prop} (s x : Operand) (t : TypeId)
    (ho : o.op = .call { callee := .builtin .append, args := #[s, x], argTypes := #[t, t] }) {e : TypeId} {z : Value} {bytes : Nat} (hT : RowTyK P t e z 32 bytes) (hb : bytes ≤ 128)
    {lo g : Nat} (hg : lo ≤ g) (hs : a.eval s = .slice (some ⟨g, 0, none⟩) 1 1) {u : Value} (hx : a.eval x = u) {q : List UInt8} {e' : TypeId} (hv : Blk w g (q.map u8v).toArray e') (h32 : q.length = 32) {lo' : Nat} {ls : List (List UInt8)} (hu : Rh lo' w u ls) (hl : ls.length ≤ 1000000)
    (h : ∀ a' c' w', Rh lo w' (.slice a' (q :: ls).length c') (q :: ls) → Kept None w w' → X (.slice a' (q :: ls).length c') w') : Gives P o a w X := by
  obtain ⟨a', c', w', hr, r2, r3⟩ := run_append_rh (ty := o.type) hT hb hg hv h32 hu hl
  exact gives_append s x t ho hs hx hr (h a' c' w' r2 r3)
theorem wpList_append_run {P : Program} {ops : Array Oper} {rest : List Oper} {o : Oper} {a : Act} {w : World} {Q : Exit → Act → World → Prop} (hgd : o.guard = none) (s x : Operand) (t : TypeId)
    (ho : o.op = .call { callee := .builtin .append, args := #[s, x], argTypes := #[t, t] }) {v u : Value} (hs : a.eval s = v) (hx : a.eval x = u) {r : Value} {w' : World} (hr : (Builtin.append_ #[t, t] o.type #[v, u]).run P w = .ok r w')
    (h : wpList P ops Q rest (a.put o.dst r) w') : wpList P ops Q (o :: rest) a w := by
  refine wpList_plain hgd fun K hK' => ?_
  unfold Oper.wp
  simp only [execOp, ho, resolve, invoke, builtin, Sem.run_bind, Sem.run_pure, Result.andThen_ok, List.map_toArray, List.map_cons, List.map_nil, hs, hx, hr]
  exact hK' _ _ h
theorem wpList_append_rl {P : Program} {ops : Array Oper} {rest : List Oper} {o : Oper} {a : Act} {w : World} {Q : Exit → Act → World → Prop} (hgd : o.guard = none) (s x : Operand) (t : TypeId)
    (ho : o.op = .call { callee := .builtin .append, args := #[s, x], argTypes := #[t, t] }) {e : TypeId} {z : Value} {bytes : Nat} (hT : RowTyK P t e z 1 bytes) (hb : bytes ≤ 128)
    {lo g : Nat} (hg : lo ≤ g) (hs : a.eval s = .slice (some ⟨g, 0, none⟩) 1 1) {u : Value} (hx : a.eval x = u) {y : Value} {e' : TypeId} (hv : Blk w g #[y] e') {l : List UInt8} (hy : Rb lo w y l) {ls : List (List UInt8)} (hu : Rl lo w u ls) (hl : ls.length ≤ 1000000)
    (h : ∀ a' c' w', Rl lo w' (.slice a' (l :: ls).length c') (l :: ls) → Kept None w w' → wpList P ops Q rest (a.put o.dst (.slice a' (l :: ls).length c')) w') : wpList P ops Q (o :: rest) a w := by
  obtain ⟨a', c', w', hr, r2, r3⟩ := run_append_rl (ty := o.type) hT hb hg hv hy hu hl
  exact wpList_append_run hgd s x t ho hs hx hr (h a' c' w' r2 r3)

/-! ### Facts of a plan -/
abbrev Fct.rl (k lo : Nat) (ls : List (List UInt8)) (uses : List Nat := []) : Fct := { k := k, uses := uses, pure := fun u => ∃ a c, u = .slice a ls.length c, fact := fun u W => Rl lo W u ls }
abbrev Fct.rb (k lo : Nat) (l : List UInt8) (uses : List Nat := []) : Fct := { k := k, uses := uses, pure := fun u => ∃ a c, u = .slice a l.length c, fact := fun u W => Rb lo W u l }
abbrev Fct.rh (k lo : Nat) (hs : List (List UInt8)) (uses : List Nat := []) : Fct := { k := k, uses := uses, pure := fun u => ∃ a c, u = .slice a hs.length c, fact := fun u W => Rh lo W u hs }
/-- It lays a row of one list. -/
abbrev Fct.row1 (k lo : Nat) (e : TypeId) (l : List UInt8) (uses : List Nat := []) : Fct := { k := k, uses := uses, pure := fun u => ∃ g, u = .slice (some ⟨g, 0, none⟩) 1 1, fact := fun u W => ∃ g y, u = .slice (some ⟨g, 0, none⟩) 1 1 ∧ lo ≤ g ∧ Blk W g #[y] e ∧ Rb lo W y l }
/-- It lays a row of one hash. -/
abbrev Fct.hash1 (k lo : Nat) (e : TypeId) (q : List UInt8) (uses : List Nat := []) : Fct := { k := k, uses := uses, pure := fun u => ∃ g, u = .slice (some ⟨g, 0, none⟩) 1 1, fact := fun u W => ∃ g, u = .slice (some ⟨g, 0, none⟩) 1 1 ∧ lo ≤ g ∧ Blk W g (q.map u8v).toArray e }
section
variable {l : List Fct} {k lo : Nat} {us : List Nat}
theorem Steady.rl {ls : List (List UInt8)} (h : Steady l) : Steady (.rl k lo ls us :: l) := .cons ⟨_, none, 0, rfl⟩ (fun _ _ _ hk hb => Rl.kept hb hk) h
theorem Steady.rb {m : List UInt8} (h : Steady l) : Steady (.rb k lo m us :: l) := .cons ⟨_, none, 0, rfl⟩ (fun _ _ _ hk hb => Rb.kept hb hk) h
theorem Steady.rh {hs : List (List UInt8)} (h : Steady l) : Steady (.rh k lo hs us :: l) := .cons ⟨_, none, 0, rfl⟩ (fun _ _ _ hk hb => Rh.kept hb hk) h
theorem Steady.row1 {e : TypeId} {m : List UInt8} (h : Steady l) : Steady (.row1 k lo e m us :: l) := .cons ⟨_, 0, rfl⟩ (fun _ _ _ hk ⟨g, y, h1, h4, h2, h3⟩ => ⟨g, y, h1, h4, h2.kept hk (fun h => h), h3.kept hk⟩) h
theorem Steady.hash1 {e : TypeId} {m : List UInt8} (h : Steady l) : Steady (.hash1 k lo e m us :: l) := .cons ⟨_, 0, rfl⟩ (fun _ _ _ hk ⟨g, h1, h4, h2⟩ => ⟨g, h1, h4, h2.kept hk (fun h => h)⟩) h
end

/-! ### The value of a proof -/
def pfC (s : Value) (p : Pf) : List Value := s :: .int .i64 p.e :: itC p.x
abbrev pfV (s : Value) (p : Pf) : Value := .agg (pfC s p).toArray
/-- The value v reads as the proof p. -/
def Prf (w : World) (v : Value) (p : Pf) : Prop := p.Ok ∧ ∃ s, v = pfV s p ∧ Rh 0 w s p.path
theorem Prf.kept {w w' : World} {v : Value} {p : Pf} (h : Prf w v p) (hk : Kept None w w') : Prf w' v p := by
  obtain ⟨h0, s, h1, h2⟩ := h
  exact ⟨h0, s, h1, h2.kept hk⟩
theorem pfC_len (s : Value) {p : Pf} (h : p.Ok) : (pfC s p).length = 66 := by
  unfold pfC
  simp [itC_len h.2]
/-- Proofs in a block: their parts. -/
theorem pf_c0 {w : World} {g : Nat} {s : Value} {p : Pf} {t : TypeId} (h : Blk w g (pfC s p).toArray t) : w.cell? ⟨g, 0, none⟩ = some s := by rw [h.cell]; rfl
theorem pf_c1 {w : World} {g : Nat} {s : Value} {p : Pf} {t : TypeId} (h : Blk w g (pfC s p).toArray t) : w.cell? ⟨g, 1, none⟩ = some (.int .i64 p.e) := by rw [h.cell]; rfl
theorem pf_rx {w : World} {g : Nat} {s : Value} {p : Pf} {t : TypeId} (h : Blk w g (pfC s p).toArray t) : w.rangeAt g 2 (itC p.x) := fun j v hj => by
  rw [h.cell, show 2 + j = j + 1 + 1 by omega]
  simpa [pfC] using hj
theorem pf_ri {w : World} {g : Nat} {s : Value} {p : Pf} {t : TypeId} (h : Blk w g (pfC s p).toArray t) (hp : p.Ok) : w.rangeAt g 2 (p.x.i.map u8v) := by
  have h1 := rangeAt_take (pf_rx h) 32
  rwa [show (itC p.x).take 32 = p.x.i.map u8v from List.take_left' (by simp [hp.2.1])] at h1
theorem pf_rv {w : World} {g : Nat} {s : Value} {p : Pf} {t : TypeId} (h : Blk w g (pfC s p).toArray t) (hp : p.Ok) : w.rangeAt g 34 (p.x.v.map u8v) := fun j v hj => by
  have h1 := pf_rx h (32 + j) v (by
    unfold itC
    rw [List.getElem?_append_right (by simp [hp.2.1]), List.length_map, hp.2.1, Nat.add_sub_cancel_left]
    exact hj)
  rwa [show 2 + (32 + j) = 34 + j by omega] at h1
/-- A range of a block, as bytes. -/
theorem range_bs {w : World} {g o n : Nat} {l : List UInt8} (h : w.rangeAt g o (l.map u8v)) (hn : l.length = n) (hm : n ≤ 9223372036854775807) : Rb g w (.slice (some ⟨g, o, none⟩) n n) l := by
  subst hn
  refine ⟨g + 1, some ⟨g, o, none⟩, l.length, by simp, by simp, by unfold maxLen; omega, (fun h => by cases h), fun ad had i x hx => ?_⟩
  obtain rfl := Option.some.inj had
  refine ⟨?_, ?_, ?_⟩
  · exact Nat.le_refl _
  · exact Nat.lt_succ_self _
  · rw [Addr.add_lit]; exact h i x hx
theorem pfC_one {lo : Nat} {w : World} {s : Value} {p : Pf} (h : Rh lo w s p.path) : (pfC s p).toArray.all (·.oneCell') = true := by
  obtain ⟨a, c, rfl⟩ := h.form
  refine all_oneCell_toArray (fun c hc => ?_)
  unfold pfC at hc
  rcases List.mem_cons.1 hc with rfl | hc
  · rfl
  · rcases List.mem_cons.1 hc with rfl | hc
    · rfl
    · exact itsC_one [p.x] c (by simpa [itsC] using hc)
/-- Two results, the first one in a cell. -/
theorem res_cell_tmp {P : Program} {fn : Func} {p q : Tmp} {ty : TypeId} (h : fn.results = #[.cell p ty, .tmp q]) (tmps : Array Value) {w : World} {g : Nat} {t : TypeId} {cs : Array Value} (hp : tmps.getD p undef = .pointer (some ⟨g, 0, none⟩)) {x : Value} (hq : tmps.getD q undef = x) (hb : Blk w g cs t)
    (hT : AggTy P ty cs.size) : (results fn tmps).run P w = .ok (.tuple #[.agg cs, x]) w := by
  obtain ⟨d, hu, hd⟩ := hT.ag
  have hp' : tmps[p]?.getD undef = .pointer (some ⟨g, 0, none⟩) := by simpa using hp
  have hq' : tmps[q]?.getD undef = x := by simpa using hq
  have hl := run_loadVar_row w g t ty cs (0, 0) d hb hu (by cases d <;> first | rfl | exact hd) hT.size
  simp [results, h, hp', hq', asAddr, hl]
theorem res_cell_tmp2 {P : Program} {fn : Func} {p q q2 : Tmp} {ty : TypeId} (h : fn.results = #[.cell p ty, .tmp q, .tmp q2]) (tmps : Array Value) {w : World} {g : Nat} {t : TypeId} {cs : Array Value} (hp : tmps.getD p undef = .pointer (some ⟨g, 0, none⟩)) {x y : Value} (hq : tmps.getD q undef = x) (hq2 : tmps.getD q2 undef = y) (hb : Blk w g cs t)
    (hT : AggTy P ty cs.size) : (results fn tmps).run P w = .ok (.tuple #[.agg cs, x, y]) w := by
  obtain ⟨d, hu, hd⟩ := hT.ag
  have hp' : tmps[p]?.getD undef = .pointer (some ⟨g, 0, none⟩) := by simpa using hp
  have hq' : tmps[q]?.getD undef = x := by simpa using hq
  have hq2' : tmps[q2]?.getD undef = y := by simpa using hq2
  have hl := run_loadVar_row w g t ty cs (0, 0) d hb hu (by cases d <;> first | rfl | exact hd) hT.size
  simp [results, h, hp', hq', hq2', asAddr, hl]
end Go.Pm
namespace Go.Proofs.Ytdobmebhjmgkmaa
open Go.RowKit Go.Pm
namespace Hk
theorem rtyK {P : Program} {t e : TypeId} {z : Value} {k bytes : Nat} (h1 : P.underlying t = some (.slice e)) (h2 : (P.info? e).map (fun i => (i.zero, i.size, i.bytes)) = some (some z, k, bytes)) (h3 : z.cells.size = k) (h4 : 0 < k) : RowTyK P t e z k bytes := by
  refine ⟨h1, ?_, h3, h4⟩
  cases hi : P.info? e with
  | none => rw [hi] at h2; cases h2
  | some i =>
    rw [hi] at h2
    simp only [Option.map_some, Option.some.injEq, Prod.mk.injEq] at h2
    exact ⟨i, rfl, h2.1, h2.2.1, h2.2.2⟩
end Hk
end Go.Proofs.Ytdobmebhjmgkmaa
namespace Go.Proofs.Ytdobmebhjmgkmaa
open Go.RowKit Go.Pm
namespace R16
theorem rtKnown : RowTyK Try.prog 29 50 (.agg #[.string ⟨#[]⟩, .int .i64 0, .int .u64 0, .int .i64 0]) 4 40 := Hk.rtyK (by kernel_rfl) (by kernel_rfl) (by rfl) (by decide)
theorem elKnown : Try.prog.elem 29 = 50 := by kernel_rfl
theorem tKnown : Try.prog.underlying 29 = some (.slice (Try.prog.elem 29)) := by rw [elKnown]; kernel_rfl
theorem zKnown : ∀ W, (sizeOf (Try.prog.elem 29)).run Try.prog W = .ok 4 W := by rw [elKnown]; intro W; kernel_rfl
/-- A block of one piece, as a row. -/
theorem ps_blk {k : Nat} {w : World} {g : Nat} {t : TypeId} {x : List Value} (h : Blk w g x.toArray t) (hx : x.length = k) : Ps k w 0 w.heap.size (.slice (some ⟨g, 0, none⟩) 1 1) [x] := by
  refine ⟨Each.one hx, by simp [hx], some ⟨g, 0, none⟩, 1, rfl, Nat.le_refl _, by unfold maxLen; omega, (fun h => by cases h), ?_⟩
  intro ad had i c hc
  simp only [Option.some.injEq] at had
  subst had
  refine ⟨Nat.zero_le _, h.lt, ?_⟩
  rw [Addr.add_lit, Nat.zero_add, h.cell]
  simpa using hc
theorem ent_all (x : Ent) : (entC x).toArray.all (·.oneCell') = true := all_oneCell_toArray (entC_one x)
set_option maxRecDepth 100000 in
set_option maxHeartbeats 16000000 in
/-- Add. -/
theorem add (v u : Value) (lo hi lo' hi' : Nat) (l : List Kno) (p : Int) (b : List Ent) (w : World) (hv : Ps 4 w lo hi v (knosC l)) (hu : Ps 3 w lo' hi' u (entsC b)) (hl : l.length ≤ 274877906944) (hb : b.length ≤ 274877906944) :
    Calls Try.prog 18 #[v, .int .i64 p, u] w fun e w' => ∃ r, e = .returned (.tuple #[r, .bool (addF l p b).2]) ∧ Kept None w w' ∧ Off 4 w lo hi w' r (knosC (addF l p b).1) := by
  have hvv : ∀ W, Kept None w W → Off 4 w lo hi W v (knosC l) := fun W hW => Off.of w (hv.kept hW (fun _ _ _ h => h))
  obtain ⟨a, cap, rfl, g1, g2, g3⟩ := hv.form
  rw [knosC_len] at g1 hv hvv ⊢
  obtain ⟨au, cu, rfl, gu1, gu2, gu3⟩ := hu.form
  rw [entsC_len] at gu1 hu ⊢
  obtain ⟨n, hn⟩ : ∃ n, n = l.length := ⟨_, rfl⟩
  obtain ⟨m, hm⟩ : ∃ m, m = b.length := ⟨_, rfl⟩
  rw [← hn] at g1 hl hv hvv ⊢
  rw [← hm] at gu1 hb hu ⊢
  have bad1 : p < 1 → addF l p b = (l, false) := fun h => by unfold addF; rw [if_pos h]
  have bad2 : ∀ k (hk : k < l.length), ¬ p < 1 → p ≤ l[k].p → addF l p b = (l, false) := fun k hk h h2 => by
    unfold addF
    rw [if_neg h, if_pos (List.any_eq_true.2 ⟨l[k], List.getElem_mem hk, by simpa using h2⟩)]
  have good : ¬ p < 1 → (∀ k (hk : k < l.length), ¬ p ≤ l[k].p) → addF l p b = addR l (addN l p b b.length) := fun h h2 => by
    have h5 : ¬ (l.any fun y => decide (p ≤ y.p)) = true := fun h3 => by
      obtain ⟨y, hy, h4⟩ := List.any_eq_true.1 h3
      obtain ⟨k, hk, rfl⟩ := List.getElem_of_mem hy
      exact h2 k hk (by simpa using h4)
    unfold addF
    rw [if_neg h, if_neg h5]
  obtain ⟨RS, hRS⟩ : ∃ r, r = addF l p b := ⟨_, rfl⟩
  rw [← hRS] at bad1 bad2 good ⊢
  have HV := hid (And.intro hv hvv)
  have HU := hid hu
  have HN := hid (And.intro hn (And.intro hm (And.intro hl hb)))
  have HBAD := hid (And.intro bad1 bad2)
  have HGOOD := hid good
  clear hv hvv hu hn hm bad1 bad2 good hRS g3 gu3
  have K0 := hid (Kept.refl None w)
  by_cases hp1 : p < 1
  · have hq := HBAD.out.1 hp1
    have HQ := hid hq
    clear hq
    go_enter Try.func18, Try.ntmps18
    go_wp2
    go_ret2
    exact ⟨.slice a n cap, by rw [HQ.out]; rfl, Kept.refl _ _, by rw [HQ.out]; exact HV.out.2 w (Kept.refl _ _)⟩
  go_enter Try.func18, Try.ntmps18
  go_wp2
  go_loopg [8] n (fun kx s8 wr => ∃ k : Nat, s8 = .int .i64 k ∧ k ≤ n ∧ n - k ≤ kx ∧ Hid (Kept None w wr) ∧ Hid (∀ j (_ : j < k) (hj : j < l.length), ¬ p ≤ l[j].p))
  case atStart => exact ⟨0, rfl, Nat.zero_le _, Nat.le_refl _, K0, hid (fun j hj => absurd hj (by omega))⟩
  case round =>
    obtain ⟨k, rfl, hk, hkx, HK, HT⟩ := hrel
    by_cases hlt : k < n
    · have hz : (k : Int) < (n : Int) := by omega
      have wk : IntKind.i64.wrap ((k : Int) + 1) = (k : Int) + 1 := by rw [IntKind.wrap_i64]; have := HN.out.2.2.1; omega
      have kl : k < l.length := by have := HN.out.1; omega
      obtain ⟨bb, o, q1, hc⟩ := (HV.out.1.kept HK.out (fun _ _ _ h => h)).kno (by omega)
      obtain rfl := q1
      obtain ⟨_, _, _, c3, _, _⟩ := hc k kl
      obtain ⟨x3, hx3⟩ : ∃ x, x = l[k].p := ⟨_, rfl⟩
      rw [← hx3] at c3
      have HX := hid hx3
      clear hc hx3
      by_cases hpx : p ≤ x3
      · have hq := HBAD.out.2 k kl hp1 (HX.out ▸ hpx)
        have HQ := hid hq
        clear hq
        go_wp2
        go_ret2
        exact ⟨.slice (some ⟨bb, o, none⟩) n cap, by rw [HQ.out]; rfl, HK.out, by rw [HQ.out]; exact HV.out.2 _ HK.out⟩
      · have HT2 : Hid (∀ j (_ : j < k + 1) (hj : j < l.length), ¬ p ≤ l[j].p) := hid (fun j hj hjl => by
          by_cases hjk : j = k
          · subst hjk
            rw [← HX.out]
            exact hpx
          · exact HT.out j (by omega) hjl)
        go_wp2
        go_roundg (n - (k + 1))
        case measure => omega
        case rel => exact ⟨k + 1, by go_num, by omega, Nat.le_refl _, HK, HT2⟩
    · have hz : ¬ (k : Int) < (n : Int) := by omega
      have hq := HGOOD.out hp1 (fun j hj => by have := HT.out j (by have := HN.out.1; omega) hj; omega)
      have HQ := hid hq
      clear hq HT HGOOD hlt hk hkx
      have i1 := HV.out.1.kept HK.out (fun _ _ _ h => h)
      have hall := knosC_one l
      go_wp2_with (first | (at_builtin; refine wpList_append_po (v := .slice none 0 0) (l := []) (m := knosC l) (base := wr.heap.size) rfl _ _ 29 rfl rtKnown (by decide) rfl rfl (Po.nil _ _ _ _) i1 hall (by rw [knosC_len]; have := HN.out; simp; omega) (Nat.le_refl _) ?k4) | fail)
      case k4 =>
        intro a4 n4 c4 w4 b4 k4 _
        have k04 := HK.out.trans (k4.mono (fun _ _ h => by cases h))
        have b4' : Ps 4 w4 w.heap.size w4.heap.size (.slice a4 n4 c4) (knosC l) := (by simpa using b4 : Po 4 50 w4 wr.heap.size (.slice a4 n4 c4) (knosC l)).ps (Nat.le_refl _) |>.wider HK.out.size (Nat.le_refl _)
        have K4 := hid k04
        have B4 := hid b4'
        clear b4 b4' k4 k04 i1 hall HK
        go_wp2
        go_loopg [9, 10] m (fun kx s9 s10 wr => ∃ (k : Nat) (out : List Kno) (ao : Option Addr) (no co : Nat), s10 = .int .i64 k ∧ s9 = .slice ao no co ∧ k ≤ m ∧ m - k ≤ kx ∧ Hid (Kept None w wr) ∧ Hid (Ps 4 wr w.heap.size wr.heap.size (.slice ao no co) (knosC out)) ∧ Hid (addN l p b k = some out ∧ out.length ≤ n + k))
        case atStart => exact ⟨0, l, _, _, _, rfl, rfl, Nat.zero_le _, Nat.le_refl _, K4, B4, hid ⟨rfl, by have := HN.out.1; omega⟩⟩
        case round =>
          obtain ⟨k, out, ao, no, co, rfl, rfl, hk, hkx, HK, HO, HT⟩ := hrel
          by_cases hlt : k < m
          · have hz : (k : Int) < (m : Int) := by omega
            have wk : IntKind.i64.wrap ((k : Int) + 1) = (k : Int) + 1 := by rw [IntKind.wrap_i64]; have := HN.out.2.2.2; omega
            have kb : k < b.length := by have := HN.out.2.1; omega
            obtain ⟨bb, oo, q1, hc⟩ := (HU.out.kept HK.out (fun _ _ _ h => h)).ent (by omega)
            obtain rfl := q1
            obtain ⟨_, _, _, rE⟩ := hc k kb
            obtain ⟨e, he⟩ : ∃ e, e = b[k] := ⟨_, rfl⟩
            rw [← he] at rE
            have HEE := hid he
            have kW : Kept None w (wr.alloc (.cells (entC e).toArray 48)) := HK.out.alloc _
            have eW : Blk (wr.alloc (.cells (entC e).toArray 48)) wr.heap.size (entC e).toArray 48 := Blk.new _ _ _
            have hLat := fun W hW => latest (.slice a n cap) lo hi l e.n W (HV.out.1.kept hW (fun _ _ _ h => h)) (by have := HN.out; omega)
            obtain ⟨X, hX⟩ : ∃ X, X = latF l e.n := ⟨_, rfl⟩
            rw [← hX] at hLat
            have HX := hid hX
            have HL := hid hLat
            have hER := fun W => RUp.entryRight e.n e.v e.k W
            have HER := hid hER
            clear hc he hX hLat hER
            go_wp2_with (first | (refine wpList_load_at (.refl _) _ _ rfl rfl rE Up.aEnt ?_) | fail)
            refine (HL.out _ kW).mono ?_
            rintro ee w5 ⟨rfl, kn⟩
            have k5 := kW.trans kn
            have e5 := eW.kept kn (fun h => h)
            have k6 : Kept None w (w5.alloc (.cells #[.string X.1.e.n, .int .i64 X.1.e.v, .int .u64 (X.1.e.k : Int), .int .i64 X.1.p] 50)) := k5.alloc _
            have e6 : Blk (w5.alloc (.cells #[.string X.1.e.n, .int .i64 X.1.e.v, .int .u64 (X.1.e.k : Int), .int .i64 X.1.p] 50)) wr.heap.size (entC e).toArray 48 := e5.alloc _
            have x6 : Blk (w5.alloc (.cells #[.string X.1.e.n, .int .i64 X.1.e.v, .int .u64 (X.1.e.k : Int), .int .i64 X.1.p] 50)) w5.heap.size (knoC X.1).toArray 50 := Blk.new _ _ _
            have o6 := (HO.out.kept ((((Kept.refl None wr).alloc (.cells (entC e).toArray 48)).trans kn).alloc (.cells #[.string X.1.e.n, .int .i64 X.1.e.v, .int .u64 (X.1.e.k : Int), .int .i64 X.1.p] 50)) (fun _ _ _ h => h))
            clear kW eW kn k5 e5 rE HO
            go_wp2_with (first | (refine wpList_load_blk rfl _ _ rfl rfl e6 Up.aEnt ?_) | fail)
            refine (HER.out _).mono ?_
            rintro ee w7 ⟨rfl, kn⟩
            have k7 := k6.trans kn
            have e7 := e6.kept kn (fun h => h)
            have x7 := x6.kept kn (fun h => h)
            have o7 := o6.kept kn (fun _ _ _ h => h)
            have K7 := hid k7
            have E7 := hid e7
            have O7 := hid o7
            have c1 : w7.cell? ⟨wr.heap.size, 1, none⟩ = some (.int .i64 e.v) := e7.cell 1
            have d1 : w7.cell? ⟨w5.heap.size, 1, none⟩ = some (.int .i64 X.1.e.v) := x7.cell 1
            have hstop : mayE l (b.take k) e = false → RS = (l, false) := fun h => by
              rw [HQ.out, addN_stop (addN_bad HT.out.1 kb (HEE.out ▸ h)) (by omega)]
              rfl
            have HSTOP := hid hstop
            have hmay : mayE l (b.take k) e = ((entR e.n.size e.v e.k && decide (e.v = IntKind.i64.wrap (X.1.e.v + 1))) && !((b.take k).any (fun y => eqN y.n e.n))) := by
              rw [HX.out]
              rfl
            have HMAY := hid hmay
            obtain ⟨ER, hERb⟩ : ∃ r, r = entR e.n.size e.v e.k := ⟨_, rfl⟩
            have HERB := hid hERb
            rw [← hERb]
            obtain ⟨kv, hkv⟩ : ∃ x, x = X.1.e.v := ⟨_, rfl⟩
            obtain ⟨ev, hev⟩ : ∃ x, x = e.v := ⟨_, rfl⟩
            rw [← hkv] at d1
            rw [← hev] at c1
            obtain ⟨xx, hxx⟩ : ∃ x, x = IntKind.i64.wrap (kv + 1) := ⟨_, rfl⟩
            have hxw := hxx.symm
            have HXV := hid (And.intro hkv (And.intro hev hxx))
            clear hstop hmay hERb hkv hev hxx k6 e6 x6 o6 kn k7 e7 x7 o7 HL HER
            cases ER with
            | false =>
              have hq := HSTOP.out (by rw [HMAY.out, ← HERB.out]; rfl)
              have HQ2 := hid hq
              clear hq hxw
              go_wp2_with (first | go_skip | fail)
              go_ret2
              exact ⟨.slice a n cap, by rw [HQ2.out]; rfl, K7.out, by rw [HQ2.out]; exact HV.out.2 _ K7.out⟩
            | true =>
              by_cases hvx : ev = xx
              · have HVX := hid hvx
                obtain rfl := hvx
                go_wp2_with (first | go_skip | fail)
                clear c1 d1 hxw
                obtain ⟨eb, hebd⟩ : ∃ eb, eb = wr.heap.size := ⟨_, rfl⟩
                rw [← hebd]
                have HEB := hid hebd
                clear hebd
                have hno : no = out.length ∧ no ≤ co := by
                  obtain ⟨q1, q2, q3, q4, _, _⟩ := O7.out.form
                  rw [knosC_len] at q3 q4
                  injection q3 with _ r2 r3
                  omega
                have HNO := hid hno
                clear hno
                go_loopg [14] k (fun kx3 s14 wr => ∃ j : Nat, s14 = .int .i64 j ∧ j ≤ k ∧ k - j ≤ kx3 ∧ Hid (Kept None w7 wr) ∧ Hid ((b.take j).any (fun y => eqN y.n e.n) = false))
                case atStart => exact ⟨0, rfl, Nat.zero_le _, Nat.le_refl _, hid (Kept.refl _ _), hid (by simp)⟩
                case round =>
                  obtain ⟨j, rfl, hj, hjx, HK3, HT3⟩ := hrel
                  have E3 := hid (E7.out.kept HK3.out (fun h => h))
                  have d0 : wr.cell? ⟨eb, 0, none⟩ = some (.string e.n) := by rw [HEB.out]; exact E3.out.cell 0
                  by_cases hlt3 : j < k
                  · have hz3 : (j : Int) < (k : Int) := by omega
                    have hz4 : (j : Int) < (m : Int) := by omega
                    have wj : IntKind.i64.wrap ((j : Int) + 1) = (j : Int) + 1 := by rw [IntKind.wrap_i64]; have := HN.out.2.2.2; omega
                    have jb : j < b.length := by omega
                    obtain ⟨b2, o2, q2, hc2⟩ := (HU.out.kept (K7.out.trans HK3.out) (fun _ _ _ h => h)).ent (by omega)
                    obtain ⟨rfl, rfl⟩ : bb = b2 ∧ oo = o2 := by simpa using q2
                    obtain ⟨c0, _, _, _⟩ := hc2 j jb
                    obtain ⟨y0, hy0⟩ : ∃ y, y = b[j].n := ⟨_, rfl⟩
                    rw [← hy0] at c0
                    have htk : (b.take (j + 1)).any (fun y => eqN y.n e.n) = ((b.take j).any (fun y => eqN y.n e.n) || eqN y0 e.n) := by
                      rw [List.take_succ_eq_append_getElem jb, List.any_append, hy0]
                      simp
                    have HTK := hid htk
                    obtain ⟨EQ, hEQ⟩ : ∃ q, q = eqN y0 e.n := ⟨_, rfl⟩
                    obtain ⟨e0, he0⟩ : ∃ x, x = e.n := ⟨_, rfl⟩
                    have hEQ' : (y0.toList == e0.toList) = EQ := by rw [he0, hEQ]; rfl
                    rw [← he0] at d0
                    have HEQ := hid hEQ
                    clear hc2 q2 htk hEQ hy0 he0
                    cases EQ with
                    | true =>
                      have hq := HSTOP.out (by
                        rw [HMAY.out]
                        have h3 : ((b.take k).any fun y => eqN y.n e.n) = true := by
                          have h4 : ((b.take (j + 1)).any fun y => eqN y.n e.n) = true := by rw [HTK.out, ← HEQ.out]; simp
                          obtain ⟨y, hy, hyt⟩ := List.any_eq_true.1 h4
                          exact List.any_eq_true.2 ⟨y, List.take_subset_take_left b (by omega) hy, hyt⟩
                        rw [h3]
                        simp)
                      have HQ2 := hid hq
                      clear hq
                      go_wp2_with fail
                      go_quiet (fail)
                      obtain ⟨w8, hw8⟩ : ∃ w8, w8 = wr.drewN nq := ⟨_, rfl⟩
                      have k8 : Kept None w w8 := (K7.out.trans HK3.out).trans (hw8 ▸ Kept.toDrewN _ _ _)
                      rw [← hw8]
                      clear hw8 c0 d0
                      go_wp2
                      go_ret2
                      exact ⟨.slice a n cap, by rw [HQ2.out]; rfl, k8, by rw [HQ2.out]; exact HV.out.2 _ k8⟩
                    | false =>
                      have HT4 : Hid ((b.take (j + 1)).any (fun y => eqN y.n e.n) = false) := hid (by rw [HTK.out, HT3.out, ← HEQ.out]; rfl)
                      go_wp2_with fail
                      go_quiet (fail)
                      obtain ⟨w8, hw8⟩ : ∃ w8, w8 = wr.drewN nq := ⟨_, rfl⟩
                      have HK4 : Hid (Kept None w7 w8) := hid (HK3.out.trans (hw8 ▸ Kept.toDrewN _ _ _))
                      rw [← hw8]
                      clear hw8 c0 d0 E3
                      go_wp2
                      go_roundg (k - (j + 1))
                      case measure => omega
                      case rel => exact ⟨j + 1, by go_num, by omega, Nat.le_refl _, HK4, HT4⟩
                  · have hz3 : ¬ (j : Int) < (k : Int) := by omega
                    obtain rfl : j = k := by omega
                    have hgood : mayE l (b.take j) e = true := by
                      rw [HMAY.out, HT3.out, ← HERB.out, ← HXV.out.1, ← HXV.out.2.1, ← HXV.out.2.2, decide_eq_true rfl]
                      rfl
                    have hadd := addN_good (p := p) HT.out.1 kb (by rw [← HEE.out]; exact hgood)
                    rw [← HEE.out] at hadd
                    have HADD := hid hadd
                    have K9 := hid (K7.out.trans HK3.out)
                    have O9 := hid (O7.out.kept HK3.out (fun _ _ _ h => h))
                    have hpl := place_le out e
                    have hplt := fun i (h : i < place out e) hi => place_lt (e := e) h hi
                    have hpat := fun hi => place_at (l := out) (e := e) hi
                    obtain ⟨pl, hpd⟩ : ∃ pl, pl = place out e := ⟨_, rfl⟩
                    rw [← hpd] at hpl hplt hpat
                    have HPL := hid (And.intro hpl (And.intro hplt (And.intro hpat hpd)))
                    clear hgood hadd hpl hplt hpat hpd d0 HSTOP HMAY HT3 hz3
                    obtain ⟨wo, hwo⟩ : ∃ wo, wo = wr := ⟨_, rfl⟩
                    rw [← hwo] at K9 O9 E3 ⊢
                    clear hwo HK3
                    go_wp2
                    go_loopg [15] no (fun kx4 s15 wr => ∃ i : Nat, s15 = .int .i64 i ∧ i ≤ pl ∧ no - i ≤ kx4 ∧ Hid (Kept None wo wr))
                    case atStart => exact ⟨0, rfl, Nat.zero_le _, Nat.le_refl _, hid (Kept.refl _ _)⟩
                    case round =>
                      obtain ⟨i, rfl, hi, hix, HK4⟩ := hrel
                      have K5 := hid ((K9.out.trans HK4.out))
                      have E4 := hid (E3.out.kept HK4.out (fun h => h))
                      have f0 : wr.cell? ⟨eb, 0, none⟩ = some (.string e.n) := by rw [HEB.out]; exact E4.out.cell 0
                      have f1 : wr.cell? ⟨eb, 1, none⟩ = some (.int .i64 ev) := by rw [HEB.out, HXV.out.2.1]; exact E4.out.cell 1
                      obtain ⟨e0, he0⟩ : ∃ x, x = e.n := ⟨_, rfl⟩
                      rw [← he0] at f0
                      by_cases hin : i < no
                      · have hzi : (i : Int) < (no : Int) := by omega
                        have wi : IntKind.i64.wrap ((i : Int) + 1) = (i : Int) + 1 := by rw [IntKind.wrap_i64]; have := HNO.out; have := HT.out.2; have := HN.out; omega
                        have hio : i < out.length := by have := HNO.out; omega
                        obtain ⟨b4, o4, q4, hc4⟩ := (O9.out.kept HK4.out (fun _ _ _ h => h)).kno (by omega)
                        obtain rfl := q4
                        obtain ⟨c0, c1, _, _, _, _⟩ := hc4 i hio
                        obtain ⟨y0, hy0⟩ : ∃ y, y = out[i].e.n := ⟨_, rfl⟩
                        obtain ⟨y1, hy1⟩ : ∃ y, y = out[i].e.v := ⟨_, rfl⟩
                        rw [← hy0] at c0
                        rw [← hy1] at c1
                        have hah : aheadK out[i] e = (ltN y0 e0 || (eqN y0 e0 && decide (y1 < ev))) := by rw [hy0, hy1, he0, HXV.out.2.1]; rfl
                        have hbel : i < pl → aheadK out[i] e = true := fun h => HPL.out.2.1 i h hio
                        have habv : i = pl → aheadK out[i] e = false := fun h => by
                          subst h
                          exact HPL.out.2.2.1 hio
                        rw [hah] at hbel habv
                        obtain ⟨LT, hLT⟩ : ∃ q, q = ltN y0 e0 := ⟨_, rfl⟩
                        obtain ⟨EQ, hEQ⟩ : ∃ q, q = eqN y0 e0 := ⟨_, rfl⟩
                        obtain ⟨VL, hVL⟩ : ∃ q, q = decide (y1 < ev) := ⟨_, rfl⟩
                        rw [← hLT, ← hEQ, ← hVL] at hbel habv
                        have gLT : Go.Op.bytesLess y0.toList e0.toList = LT := by rw [hLT]; rfl
                        have gEQ : (y0.toList == e0.toList) = EQ := by rw [hEQ]; rfl
                        have gVL : decide (y1 < ev) = VL := hVL.symm
                        have HB := hid (And.intro hbel habv)
                        clear hLT hEQ hVL hbel habv hah hc4 hy0 hy1 he0
                        have hcs : (i < pl ∧ LT = true) ∨ (i < pl ∧ LT = false ∧ EQ = true ∧ VL = true) ∨ (i = pl ∧ LT = false ∧ EQ = false) ∨ (i = pl ∧ LT = false ∧ EQ = true ∧ VL = false) := by
                          have h1 := HB.out.1
                          have h2 := HB.out.2
                          by_cases hp : i < pl
                          · have h3 := h1 hp
                            cases LT
                            · right; left
                              simp only [Bool.false_or, Bool.and_eq_true] at h3
                              exact ⟨hp, rfl, h3.1, h3.2⟩
                            · left; exact ⟨hp, rfl⟩
                          · have hpe : i = pl := by omega
                            have h3 := h2 hpe
                            cases LT
                            · right; right
                              cases EQ
                              · left; exact ⟨hpe, rfl, rfl⟩
                              · right
                                simp only [Bool.false_or, Bool.true_and] at h3
                                exact ⟨hpe, rfl, rfl, h3⟩
                            · simp at h3
                        clear HB
                        rcases hcs with ⟨hp, rfl⟩ | ⟨hp, rfl, rfl, rfl⟩ | ⟨hp, rfl, rfl⟩ | ⟨hp, rfl, rfl, rfl⟩
                        · have HP := hid hp
                          go_wp2_with fail
                          go_quiet (fail)
                          obtain ⟨w9, hw9⟩ : ∃ w9, w9 = wr.drewN nq := ⟨_, rfl⟩
                          have k9 : Kept None wr w9 := hw9 ▸ Kept.toDrewN _ _ _
                          rw [← hw9]
                          clear hw9 f0 f1 c0 c1
                          have HK6 := hid (HK4.out.trans k9)
                          clear k9
                          go_wp2
                          go_roundg (no - (i + 1))
                          case measure => omega
                          case rel => exact ⟨i + 1, by go_num, by omega, Nat.le_refl _, HK6⟩
                        · have HP := hid hp
                          go_wp2_with fail
                          go_quiet (fail)
                          obtain ⟨w9, hw9⟩ : ∃ w9, w9 = wr.drewN nq := ⟨_, rfl⟩
                          have k9 : Kept None wr w9 := hw9 ▸ Kept.toDrewN _ _ _
                          rw [← hw9]
                          clear hw9 f0 f1 c0 c1
                          have HK6 := hid (HK4.out.trans k9)
                          clear k9
                          go_wp2
                          go_roundg (no - (i + 1))
                          case measure => omega
                          case rel => exact ⟨i + 1, by go_num, by omega, Nat.le_refl _, HK6⟩
                        · have HP := hid hp
                          clear hp
                          go_wp2_with fail
                          go_quiet (fail)
                          obtain ⟨w9, hw9⟩ : ∃ w9, w9 = wr.drewN nq := ⟨_, rfl⟩
                          have k9 : Kept None wr w9 := hw9 ▸ Kept.toDrewN _ _ _
                          rw [← hw9]
                          clear hw9 f0 f1 c0 c1
                          obtain rfl := HP.out
                          have hino : i ≤ no := by have := HPL.out.1; have := HNO.out; omega
                          have K10 := hid ((K9.out.trans HK4.out).trans k9)
                          have o10 := (O9.out.kept HK4.out (fun _ _ _ h => h)).kept k9 (fun _ _ _ h => h)
                          have E10 : Hid (Blk w9 eb #[.string e.n, .int .i64 e.v, .int .u64 (e.k : Int)] 48) := hid (by rw [HEB.out]; exact ((E3.out.kept HK4.out (fun h => h)).kept k9 (fun h => h)))
                          obtain ⟨aT, sT, pT⟩ := ps_to tKnown zKnown o10 .i64 i (by omega)
                          obtain ⟨aD, sD, pD⟩ := ps_from tKnown zKnown o10 .i64 i (by omega)
                          rw [← knosC_take] at pT
                          rw [← knosC_drop] at pD
                          have HSL := hid (And.intro sT (And.intro pT (And.intro sD pD)))
                          have HLN : Hid ((out.take i).length = i ∧ (out.drop i).length = no - i ∧ out.length ≤ 549755813888) := hid (by rw [List.length_take, List.length_drop]; have := HNO.out; have := HT.out.2; have := HN.out; omega)
                          clear o10 sT pT sD pD k9 HK4
                          go_wp2_with fail
                          refine wp_region_plan (Kept None w9) [{ k := 3, uses := [], pure := fun u => ∃ a n c, u = .slice a n c, fact := fun u W => Po 4 50 W w9.heap.size u (knosC (out.take i)) }, { k := 7, uses := [], pure := fun u => ∃ g, u = .slice (some ⟨g, 0, none⟩) 1 1, fact := fun u W => ∃ g, u = .slice (some ⟨g, 0, none⟩) 1 1 ∧ Blk W g #[.string e.n, .int .i64 e.v, .int .u64 (e.k : Int), .int .i64 p] 50 }, { k := 8, uses := [3, 7], spends := [3, 7], later := [12], pure := fun u => ∃ a n c, u = .slice a n c, fact := fun u W => Po 4 50 W w9.heap.size u (knosC (out.take i ++ [⟨e, p⟩])) }, { k := 12, uses := [8, 3, 7], spends := [8, 3, 7], pure := fun u => ∃ a n c, u = .slice a n c, fact := fun u W => Po 4 50 W w9.heap.size u (knosC (out.take i ++ ⟨e, p⟩ :: out.drop i)) }] [] (by kernel_rfl) (by kernel_rfl) (by kernel_rfl) (by rfl) ?pures1 ((Kept.refl _ w9).drew) ?starts1 ?walk1
                          case pures1 =>
                            intro f hf
                            simp only [List.mem_cons, List.not_mem_nil, or_false] at hf
                            rcases hf with rfl | rfl | rfl | rfl
                            · exact ⟨_, none, 0, 0, rfl⟩
                            · exact ⟨_, 0, rfl⟩
                            · exact ⟨_, none, 0, 0, rfl⟩
                            · exact ⟨_, none, 0, 0, rfl⟩
                          case starts1 =>
                            intro k hk
                            cases hk
                          iterate 2 (refine wpPar_pure rfl (by rfl) _ (fun W hW => by
                              go_simp
                              exact rfl) ?_; simp only [Act.put, List.setIfInBounds_toArray, List.set_cons_zero, List.set_cons_succ])
                          refine wpPar_pure rfl (by rfl) (.slice aT i co) (fun W hW => by have q := HSL.out.1 W; go_simp) ?_; simp only [Act.put, List.setIfInBounds_toArray, List.set_cons_zero, List.set_cons_succ]
                          refine wpPar_adds rfl (by rfl) (fun W hW hd => ?_) (fun v3 hv => ?_)
                          · refine gives_append_po _ _ 29 rfl rtKnown (by decide) rfl rfl (Po.nil 4 50 W w9.heap.size) (HSL.out.2.1.kept hW (fun _ _ _ h => h)) (knosC_one _) (by rw [knosC_len]; have := HLN.out; simp; omega) hW.size ?_
                            intro a' n' c' W' hP kO o9
                            have kN : Kept None W W' := (Kept.refl None W).then kO (fun i hi h => by cases h)
                            have hP' : Po 4 50 W' w9.heap.size (.slice a' n' c') (knosC (out.take i)) := by simpa using hP
                            refine ⟨hW.then kN (fun _ _ h => h.elim), ⟨_, _, _, rfl⟩, hP', keeps_of fun f hf hs hl hne u hfu => ?_⟩
                            simp only [List.mem_cons, List.not_mem_nil, or_false] at hf
                            rcases hf with rfl | rfl | rfl | rfl
                            · exact absurd rfl hne
                            · (obtain ⟨g, e1, e3⟩ := hfu; exact ⟨g, e1, e3.kept kN (fun h => h)⟩)
                            · exact Po.kept hfu kN (fun _ _ h => h)
                            · exact Po.kept hfu kN (fun _ _ h => h)
                          obtain ⟨a3, n3, c3, rfl⟩ : ∃ a n c, v3 = .slice a n c := hv
                          simp only [Act.put, List.setIfInBounds_toArray, List.set_cons_zero, List.set_cons_succ]
                          refine wpPar_pure rfl (by rfl) _ (fun W hW => by first | exact exec_load_blk _ _ rfl rfl (E10.out.kept hW (fun h => h)) Up.aEnt | (go_simp; exact rfl)) ?_; simp only [Act.put, List.setIfInBounds_toArray, List.set_cons_zero, List.set_cons_succ]
                          iterate 2 (refine wpPar_pure rfl (by rfl) _ (fun W hW => by
                              go_simp
                              exact rfl) ?_; simp only [Act.put, List.setIfInBounds_toArray, List.set_cons_zero, List.set_cons_succ])
                          refine wpPar_adds rfl (by rfl) (fun W hW hd => ?_) (fun v7 hv => ?_)
                          · unfold Gives
                            rw [exec_one_item 29 (.tmp 124) rfl rtKnown (by decide) (A := #[.string e.n, .int .i64 e.v, .int .u64 (e.k : Int), .int .i64 p]) rfl rfl]
                            have kN : Kept None W (W.alloc (.cells #[.string e.n, .int .i64 e.v, .int .u64 (e.k : Int), .int .i64 p] 50)) := (Kept.refl None W).alloc _
                            refine ⟨hW.then kN (fun _ _ h => h.elim), ⟨_, rfl⟩, ⟨_, rfl, Blk.new _ _ _⟩, keeps_of fun f hf hs hl hne u hfu => ?_⟩
                            simp only [List.mem_cons, List.not_mem_nil, or_false] at hf
                            rcases hf with rfl | rfl | rfl | rfl
                            · exact Po.kept hfu kN (fun _ _ h => h)
                            · exact absurd rfl hne
                            · exact Po.kept hfu kN (fun _ _ h => h)
                            · exact Po.kept hfu kN (fun _ _ h => h)
                          obtain ⟨g7, rfl⟩ : ∃ g, v7 = .slice (some ⟨g, 0, none⟩) 1 1 := hv
                          simp only [Act.put, List.setIfInBounds_toArray, List.set_cons_zero, List.set_cons_succ]
                          refine wpPar_adds rfl (by rfl) (fun W hW hd => ?_) (fun v8 hv => ?_)
                          · have hO : Po 4 50 W w9.heap.size (.slice a3 n3 c3) (knosC (out.take i)) := hd 3 (List.Mem.head _)
                            obtain ⟨g, hgg, hg3⟩ : ∃ g, Value.slice (some ⟨g7, 0, none⟩) 1 1 = .slice (some ⟨g, 0, none⟩) 1 1 ∧ Blk W g #[.string e.n, .int .i64 e.v, .int .u64 (e.k : Int), .int .i64 p] 50 := hd 7 (List.Mem.tail _ (List.Mem.head _))
                            obtain rfl : g7 = g := by simpa using hgg
                            have hu : Ps 4 W 0 W.heap.size (.slice (some ⟨g7, 0, none⟩) 1 1) (knosC [⟨e, p⟩]) := ps_blk (x := knoC ⟨e, p⟩) hg3 rfl
                            refine gives_append_po _ _ 29 rfl rtKnown (by decide) rfl rfl hO hu (knosC_one _) (by rw [knosC_len, knosC_len]; have := HLN.out; simp; omega) hW.size ?_
                            intro a' n' c' W' hP kS o9
                            have kN : True := trivial
                            rw [← knosC_app] at hP
                            refine ⟨hW.then kS (fun i hi h => by have := (hO.own i h).1; omega), ⟨_, _, _, rfl⟩, hP, keeps_of fun f hf hs hl hne u hfu => ?_⟩
                            simp only [List.mem_cons, List.not_mem_nil, or_false] at hf
                            rcases hf with rfl | rfl | rfl | rfl
                            · exact absurd (List.Mem.head _) hs
                            · exact absurd (List.Mem.tail _ (List.Mem.head _)) hs
                            · exact absurd rfl hne
                            · exact absurd (List.Mem.head _) hl
                          obtain ⟨a8, n8, c8, rfl⟩ : ∃ a n c, v8 = .slice a n c := hv
                          simp only [Act.put, List.setIfInBounds_toArray, List.set_cons_zero, List.set_cons_succ]
                          iterate 2 (refine wpPar_pure rfl (by rfl) _ (fun W hW => by
                              go_simp
                              exact rfl) ?_; simp only [Act.put, List.setIfInBounds_toArray, List.set_cons_zero, List.set_cons_succ])
                          refine wpPar_pure rfl (by rfl) (.slice aD (no - i) (co - i)) (fun W hW => by have q := HSL.out.2.2.1 W; go_simp) ?_; simp only [Act.put, List.setIfInBounds_toArray, List.set_cons_zero, List.set_cons_succ]
                          refine wpPar_adds rfl (by rfl) (fun W hW hd => ?_) (fun v12 hv => ?_)
                          · have hO : Po 4 50 W w9.heap.size (.slice a8 n8 c8) (knosC (out.take i ++ [⟨e, p⟩])) := hd 8 (List.Mem.head _)
                            refine gives_append_po _ _ 29 rfl rtKnown (by decide) rfl rfl hO (HSL.out.2.2.2.kept hW (fun _ _ _ h => h)) (knosC_one _) (by rw [knosC_len, knosC_len, List.length_append]; have := HLN.out; simp; omega) hW.size ?_
                            intro a' n' c' W' hP kS o9
                            have kN : True := trivial
                            rw [← knosC_app, List.append_assoc, List.singleton_append] at hP
                            refine ⟨hW.then kS (fun i hi h => by have := (hO.own i h).1; omega), ⟨_, _, _, rfl⟩, hP, keeps_of fun f hf hs hl hne u hfu => ?_⟩
                            simp only [List.mem_cons, List.not_mem_nil, or_false] at hf
                            rcases hf with rfl | rfl | rfl | rfl
                            · exact absurd (List.Mem.tail _ (List.Mem.head _)) hs
                            · exact absurd (List.Mem.tail _ (List.Mem.tail _ (List.Mem.head _))) hs
                            · exact absurd (List.Mem.head _) hs
                            · exact absurd rfl hne
                          obtain ⟨a12, n12, c12, rfl⟩ : ∃ a n c, v12 = .slice a n c := hv
                          simp only [Act.put, List.setIfInBounds_toArray, List.set_cons_zero, List.set_cons_succ]
                          iterate 1 (refine wpPar_pure rfl (by rfl) _ (fun W hW => by
                              go_simp
                              exact rfl) ?_; simp only [Act.put, List.setIfInBounds_toArray, List.set_cons_zero, List.set_cons_succ])
                          refine wpPar_nil (fun W hW hG => ?_)
                          have bz : Po 4 50 W w9.heap.size (.slice a12 n12 c12) (knosC (out.take i ++ ⟨e, p⟩ :: out.drop i)) := hG 12
                          have HKW := hid (K10.out.trans hW)
                          have HOW : Hid (Ps 4 W w.heap.size W.heap.size (.slice a12 n12 c12) (knosC (insK out ⟨e, p⟩))) := hid (by
                            have h1 := (bz.ps (Nat.le_refl _)).wider K10.out.size (Nat.le_refl _)
                            unfold insK
                            rw [← HPL.out.2.2.2]
                            exact h1)
                          have HTW : Hid (addN l p b (j + 1) = some (insK out ⟨e, p⟩) ∧ (insK out ⟨e, p⟩).length ≤ n + (j + 1)) := hid ⟨HADD.out, by rw [insK_len]; have := HT.out.2; omega⟩
                          clear hG bz hW K10 E10 HSL
                          go_wp2
                          go_roundg (m - (j + 1))
                          case measure => omega
                          case rel => exact ⟨j + 1, insK out ⟨e, p⟩, _, _, _, by go_num, rfl, by omega, Nat.le_refl _, HKW, HOW, HTW⟩
                        · have HP := hid hp
                          clear hp
                          go_wp2_with fail
                          go_quiet (fail)
                          obtain ⟨w9, hw9⟩ : ∃ w9, w9 = wr.drewN nq := ⟨_, rfl⟩
                          have k9 : Kept None wr w9 := hw9 ▸ Kept.toDrewN _ _ _
                          rw [← hw9]
                          clear hw9 f0 f1 c0 c1
                          obtain rfl := HP.out
                          have hino : i ≤ no := by have := HPL.out.1; have := HNO.out; omega
                          have K10 := hid ((K9.out.trans HK4.out).trans k9)
                          have o10 := (O9.out.kept HK4.out (fun _ _ _ h => h)).kept k9 (fun _ _ _ h => h)
                          have E10 : Hid (Blk w9 eb #[.string e.n, .int .i64 e.v, .int .u64 (e.k : Int)] 48) := hid (by rw [HEB.out]; exact ((E3.out.kept HK4.out (fun h => h)).kept k9 (fun h => h)))
                          obtain ⟨aT, sT, pT⟩ := ps_to tKnown zKnown o10 .i64 i (by omega)
                          obtain ⟨aD, sD, pD⟩ := ps_from tKnown zKnown o10 .i64 i (by omega)
                          rw [← knosC_take] at pT
                          rw [← knosC_drop] at pD
                          have HSL := hid (And.intro sT (And.intro pT (And.intro sD pD)))
                          have HLN : Hid ((out.take i).length = i ∧ (out.drop i).length = no - i ∧ out.length ≤ 549755813888) := hid (by rw [List.length_take, List.length_drop]; have := HNO.out; have := HT.out.2; have := HN.out; omega)
                          clear o10 sT pT sD pD k9 HK4
                          go_wp2_with fail
                          refine wp_region_plan (Kept None w9) [{ k := 3, uses := [], pure := fun u => ∃ a n c, u = .slice a n c, fact := fun u W => Po 4 50 W w9.heap.size u (knosC (out.take i)) }, { k := 7, uses := [], pure := fun u => ∃ g, u = .slice (some ⟨g, 0, none⟩) 1 1, fact := fun u W => ∃ g, u = .slice (some ⟨g, 0, none⟩) 1 1 ∧ Blk W g #[.string e.n, .int .i64 e.v, .int .u64 (e.k : Int), .int .i64 p] 50 }, { k := 8, uses := [3, 7], spends := [3, 7], later := [12], pure := fun u => ∃ a n c, u = .slice a n c, fact := fun u W => Po 4 50 W w9.heap.size u (knosC (out.take i ++ [⟨e, p⟩])) }, { k := 12, uses := [8, 3, 7], spends := [8, 3, 7], pure := fun u => ∃ a n c, u = .slice a n c, fact := fun u W => Po 4 50 W w9.heap.size u (knosC (out.take i ++ ⟨e, p⟩ :: out.drop i)) }] [] (by kernel_rfl) (by kernel_rfl) (by kernel_rfl) (by rfl) ?pures2 ((Kept.refl _ w9).drew) ?starts2 ?walk2
                          case pures2 =>
                            intro f hf
                            simp only [List.mem_cons, List.not_mem_nil, or_false] at hf
                            rcases hf with rfl | rfl | rfl | rfl
                            · exact ⟨_, none, 0, 0, rfl⟩
                            · exact ⟨_, 0, rfl⟩
                            · exact ⟨_, none, 0, 0, rfl⟩
                            · exact ⟨_, none, 0, 0, rfl⟩
                          case starts2 =>
                            intro k hk
                            cases hk
                          iterate 2 (refine wpPar_pure rfl (by rfl) _ (fun W hW => by
                              go_simp
                              exact rfl) ?_; simp only [Act.put, List.setIfInBounds_toArray, List.set_cons_zero, List.set_cons_succ])
                          refine wpPar_pure rfl (by rfl) (.slice aT i co) (fun W hW => by have q := HSL.out.1 W; go_simp) ?_; simp only [Act.put, List.setIfInBounds_toArray, List.set_cons_zero, List.set_cons_succ]
                          refine wpPar_adds rfl (by rfl) (fun W hW hd => ?_) (fun v3 hv => ?_)
                          · refine gives_append_po _ _ 29 rfl rtKnown (by decide) rfl rfl (Po.nil 4 50 W w9.heap.size) (HSL.out.2.1.kept hW (fun _ _ _ h => h)) (knosC_one _) (by rw [knosC_len]; have := HLN.out; simp; omega) hW.size ?_
                            intro a' n' c' W' hP kO o9
                            have kN : Kept None W W' := (Kept.refl None W).then kO (fun i hi h => by cases h)
                            have hP' : Po 4 50 W' w9.heap.size (.slice a' n' c') (knosC (out.take i)) := by simpa using hP
                            refine ⟨hW.then kN (fun _ _ h => h.elim), ⟨_, _, _, rfl⟩, hP', keeps_of fun f hf hs hl hne u hfu => ?_⟩
                            simp only [List.mem_cons, List.not_mem_nil, or_false] at hf
                            rcases hf with rfl | rfl | rfl | rfl
                            · exact absurd rfl hne
                            · (obtain ⟨g, e1, e3⟩ := hfu; exact ⟨g, e1, e3.kept kN (fun h => h)⟩)
                            · exact Po.kept hfu kN (fun _ _ h => h)
                            · exact Po.kept hfu kN (fun _ _ h => h)
                          obtain ⟨a3, n3, c3, rfl⟩ : ∃ a n c, v3 = .slice a n c := hv
                          simp only [Act.put, List.setIfInBounds_toArray, List.set_cons_zero, List.set_cons_succ]
                          refine wpPar_pure rfl (by rfl) _ (fun W hW => by first | exact exec_load_blk _ _ rfl rfl (E10.out.kept hW (fun h => h)) Up.aEnt | (go_simp; exact rfl)) ?_; simp only [Act.put, List.setIfInBounds_toArray, List.set_cons_zero, List.set_cons_succ]
                          iterate 2 (refine wpPar_pure rfl (by rfl) _ (fun W hW => by
                              go_simp
                              exact rfl) ?_; simp only [Act.put, List.setIfInBounds_toArray, List.set_cons_zero, List.set_cons_succ])
                          refine wpPar_adds rfl (by rfl) (fun W hW hd => ?_) (fun v7 hv => ?_)
                          · unfold Gives
                            rw [exec_one_item 29 (.tmp 124) rfl rtKnown (by decide) (A := #[.string e.n, .int .i64 e.v, .int .u64 (e.k : Int), .int .i64 p]) rfl rfl]
                            have kN : Kept None W (W.alloc (.cells #[.string e.n, .int .i64 e.v, .int .u64 (e.k : Int), .int .i64 p] 50)) := (Kept.refl None W).alloc _
                            refine ⟨hW.then kN (fun _ _ h => h.elim), ⟨_, rfl⟩, ⟨_, rfl, Blk.new _ _ _⟩, keeps_of fun f hf hs hl hne u hfu => ?_⟩
                            simp only [List.mem_cons, List.not_mem_nil, or_false] at hf
                            rcases hf with rfl | rfl | rfl | rfl
                            · exact Po.kept hfu kN (fun _ _ h => h)
                            · exact absurd rfl hne
                            · exact Po.kept hfu kN (fun _ _ h => h)
                            · exact Po.kept hfu kN (fun _ _ h => h)
                          obtain ⟨g7, rfl⟩ : ∃ g, v7 = .slice (some ⟨g, 0, none⟩) 1 1 := hv
                          simp only [Act.put, List.setIfInBounds_toArray, List.set_cons_zero, List.set_cons_succ]
                          refine wpPar_adds rfl (by rfl) (fun W hW hd => ?_) (fun v8 hv => ?_)
                          · have hO : Po 4 50 W w9.heap.size (.slice a3 n3 c3) (knosC (out.take i)) := hd 3 (List.Mem.head _)
                            obtain ⟨g, hgg, hg3⟩ : ∃ g, Value.slice (some ⟨g7, 0, none⟩) 1 1 = .slice (some ⟨g, 0, none⟩) 1 1 ∧ Blk W g #[.string e.n, .int .i64 e.v, .int .u64 (e.k : Int), .int .i64 p] 50 := hd 7 (List.Mem.tail _ (List.Mem.head _))
                            obtain rfl : g7 = g := by simpa using hgg
                            have hu : Ps 4 W 0 W.heap.size (.slice (some ⟨g7, 0, none⟩) 1 1) (knosC [⟨e, p⟩]) := ps_blk (x := knoC ⟨e, p⟩) hg3 rfl
                            refine gives_append_po _ _ 29 rfl rtKnown (by decide) rfl rfl hO hu (knosC_one _) (by rw [knosC_len, knosC_len]; have := HLN.out; simp; omega) hW.size ?_
                            intro a' n' c' W' hP kS o9
                            have kN : True := trivial
                            rw [← knosC_app] at hP
                            refine ⟨hW.then kS (fun i hi h => by have := (hO.own i h).1; omega), ⟨_, _, _, rfl⟩, hP, keeps_of fun f hf hs hl hne u hfu => ?_⟩
                            simp only [List.mem_cons, List.not_mem_nil, or_false] at hf
                            rcases hf with rfl | rfl | rfl | rfl
                            · exact absurd (List.Mem.head _) hs
                            · exact absurd (List.Mem.tail _ (List.Mem.head _)) hs
                            · exact absurd rfl hne
                            · exact absurd (List.Mem.head _) hl
                          obtain ⟨a8, n8, c8, rfl⟩ : ∃ a n c, v8 = .slice a n c := hv
                          simp only [Act.put, List.setIfInBounds_toArray, List.set_cons_zero, List.set_cons_succ]
                          iterate 2 (refine wpPar_pure rfl (by rfl) _ (fun W hW => by
                              go_simp
                              exact rfl) ?_; simp only [Act.put, List.setIfInBounds_toArray, List.set_cons_zero, List.set_cons_succ])
                          refine wpPar_pure rfl (by rfl) (.slice aD (no - i) (co - i)) (fun W hW => by have q := HSL.out.2.2.1 W; go_simp) ?_; simp only [Act.put, List.setIfInBounds_toArray, List.set_cons_zero, List.set_cons_succ]
                          refine wpPar_adds rfl (by rfl) (fun W hW hd => ?_) (fun v12 hv => ?_)
                          · have hO : Po 4 50 W w9.heap.size (.slice a8 n8 c8) (knosC (out.take i ++ [⟨e, p⟩])) := hd 8 (List.Mem.head _)
                            refine gives_append_po _ _ 29 rfl rtKnown (by decide) rfl rfl hO (HSL.out.2.2.2.kept hW (fun _ _ _ h => h)) (knosC_one _) (by rw [knosC_len, knosC_len, List.length_append]; have := HLN.out; simp; omega) hW.size ?_
                            intro a' n' c' W' hP kS o9
                            have kN : True := trivial
                            rw [← knosC_app, List.append_assoc, List.singleton_append] at hP
                            refine ⟨hW.then kS (fun i hi h => by have := (hO.own i h).1; omega), ⟨_, _, _, rfl⟩, hP, keeps_of fun f hf hs hl hne u hfu => ?_⟩
                            simp only [List.mem_cons, List.not_mem_nil, or_false] at hf
                            rcases hf with rfl | rfl | rfl | rfl
                            · exact absurd (List.Mem.tail _ (List.Mem.head _)) hs
                            · exact absurd (List.Mem.tail _ (List.Mem.tail _ (List.Mem.head _))) hs
                            · exact absurd (List.Mem.head _) hs
                            · exact absurd rfl hne
                          obtain ⟨a12, n12, c12, rfl⟩ : ∃ a n c, v12 = .slice a n c := hv
                          simp only [Act.put, List.setIfInBounds_toArray, List.set_cons_zero, List.set_cons_succ]
                          iterate 1 (refine wpPar_pure rfl (by rfl) _ (fun W hW => by
                              go_simp
                              exact rfl) ?_; simp only [Act.put, List.setIfInBounds_toArray, List.set_cons_zero, List.set_cons_succ])
                          refine wpPar_nil (fun W hW hG => ?_)
                          have bz : Po 4 50 W w9.heap.size (.slice a12 n12 c12) (knosC (out.take i ++ ⟨e, p⟩ :: out.drop i)) := hG 12
                          have HKW := hid (K10.out.trans hW)
                          have HOW : Hid (Ps 4 W w.heap.size W.heap.size (.slice a12 n12 c12) (knosC (insK out ⟨e, p⟩))) := hid (by
                            have h1 := (bz.ps (Nat.le_refl _)).wider K10.out.size (Nat.le_refl _)
                            unfold insK
                            rw [← HPL.out.2.2.2]
                            exact h1)
                          have HTW : Hid (addN l p b (j + 1) = some (insK out ⟨e, p⟩) ∧ (insK out ⟨e, p⟩).length ≤ n + (j + 1)) := hid ⟨HADD.out, by rw [insK_len]; have := HT.out.2; omega⟩
                          clear hG bz hW K10 E10 HSL
                          go_wp2
                          go_roundg (m - (j + 1))
                          case measure => omega
                          case rel => exact ⟨j + 1, insK out ⟨e, p⟩, _, _, _, by go_num, rfl, by omega, Nat.le_refl _, HKW, HOW, HTW⟩
                      · have hzi : ¬ (i : Int) < (no : Int) := by omega
                        have hip : i = pl := by have := HPL.out.1; have := HNO.out; omega
                        have HIP := hid hip
                        clear hip he0
                        go_wp2_with fail
                        go_quiet (fail)
                        obtain ⟨w9, hw9⟩ : ∃ w9, w9 = wr.drewN nq := ⟨_, rfl⟩
                        have k9 : Kept None wr w9 := hw9 ▸ Kept.toDrewN _ _ _
                        rw [← hw9]
                        clear hw9 f0 f1
                        obtain rfl := HIP.out
                        have hino : i ≤ no := by have := HPL.out.1; have := HNO.out; omega
                        have K10 := hid ((K9.out.trans HK4.out).trans k9)
                        have o10 := (O9.out.kept HK4.out (fun _ _ _ h => h)).kept k9 (fun _ _ _ h => h)
                        have E10 : Hid (Blk w9 eb #[.string e.n, .int .i64 e.v, .int .u64 (e.k : Int)] 48) := hid (by rw [HEB.out]; exact ((E3.out.kept HK4.out (fun h => h)).kept k9 (fun h => h)))
                        obtain ⟨aT, sT, pT⟩ := ps_to tKnown zKnown o10 .i64 i (by omega)
                        obtain ⟨aD, sD, pD⟩ := ps_from tKnown zKnown o10 .i64 i (by omega)
                        rw [← knosC_take] at pT
                        rw [← knosC_drop] at pD
                        have HSL := hid (And.intro sT (And.intro pT (And.intro sD pD)))
                        have HLN : Hid ((out.take i).length = i ∧ (out.drop i).length = no - i ∧ out.length ≤ 549755813888) := hid (by rw [List.length_take, List.length_drop]; have := HNO.out; have := HT.out.2; have := HN.out; omega)
                        clear o10 sT pT sD pD k9 HK4
                        go_wp2_with fail
                        refine wp_region_plan (Kept None w9) [{ k := 3, uses := [], pure := fun u => ∃ a n c, u = .slice a n c, fact := fun u W => Po 4 50 W w9.heap.size u (knosC (out.take i)) }, { k := 7, uses := [], pure := fun u => ∃ g, u = .slice (some ⟨g, 0, none⟩) 1 1, fact := fun u W => ∃ g, u = .slice (some ⟨g, 0, none⟩) 1 1 ∧ Blk W g #[.string e.n, .int .i64 e.v, .int .u64 (e.k : Int), .int .i64 p] 50 }, { k := 8, uses := [3, 7], spends := [3, 7], later := [12], pure := fun u => ∃ a n c, u = .slice a n c, fact := fun u W => Po 4 50 W w9.heap.size u (knosC (out.take i ++ [⟨e, p⟩])) }, { k := 12, uses := [8, 3, 7], spends := [8, 3, 7], pure := fun u => ∃ a n c, u = .slice a n c, fact := fun u W => Po 4 50 W w9.heap.size u (knosC (out.take i ++ ⟨e, p⟩ :: out.drop i)) }] [] (by kernel_rfl) (by kernel_rfl) (by kernel_rfl) (by rfl) ?pures0 ((Kept.refl _ w9).drew) ?starts0 ?walk0
                        case pures0 =>
                          intro f hf
                          simp only [List.mem_cons, List.not_mem_nil, or_false] at hf
                          rcases hf with rfl | rfl | rfl | rfl
                          · exact ⟨_, none, 0, 0, rfl⟩
                          · exact ⟨_, 0, rfl⟩
                          · exact ⟨_, none, 0, 0, rfl⟩
                          · exact ⟨_, none, 0, 0, rfl⟩
                        case starts0 =>
                          intro k hk
                          cases hk
                        iterate 2 (refine wpPar_pure rfl (by rfl) _ (fun W hW => by
                            go_simp
                            exact rfl) ?_; simp only [Act.put, List.setIfInBounds_toArray, List.set_cons_zero, List.set_cons_succ])
                        refine wpPar_pure rfl (by rfl) (.slice aT i co) (fun W hW => by have q := HSL.out.1 W; go_simp) ?_; simp only [Act.put, List.setIfInBounds_toArray, List.set_cons_zero, List.set_cons_succ]
                        refine wpPar_adds rfl (by rfl) (fun W hW hd => ?_) (fun v3 hv => ?_)
                        · refine gives_append_po _ _ 29 rfl rtKnown (by decide) rfl rfl (Po.nil 4 50 W w9.heap.size) (HSL.out.2.1.kept hW (fun _ _ _ h => h)) (knosC_one _) (by rw [knosC_len]; have := HLN.out; simp; omega) hW.size ?_
                          intro a' n' c' W' hP kO o9
                          have kN : Kept None W W' := (Kept.refl None W).then kO (fun i hi h => by cases h)
                          have hP' : Po 4 50 W' w9.heap.size (.slice a' n' c') (knosC (out.take i)) := by simpa using hP
                          refine ⟨hW.then kN (fun _ _ h => h.elim), ⟨_, _, _, rfl⟩, hP', keeps_of fun f hf hs hl hne u hfu => ?_⟩
                          simp only [List.mem_cons, List.not_mem_nil, or_false] at hf
                          rcases hf with rfl | rfl | rfl | rfl
                          · exact absurd rfl hne
                          · (obtain ⟨g, e1, e3⟩ := hfu; exact ⟨g, e1, e3.kept kN (fun h => h)⟩)
                          · exact Po.kept hfu kN (fun _ _ h => h)
                          · exact Po.kept hfu kN (fun _ _ h => h)
                        obtain ⟨a3, n3, c3, rfl⟩ : ∃ a n c, v3 = .slice a n c := hv
                        simp only [Act.put, List.setIfInBounds_toArray, List.set_cons_zero, List.set_cons_succ]
                        refine wpPar_pure rfl (by rfl) _ (fun W hW => by first | exact exec_load_blk _ _ rfl rfl (E10.out.kept hW (fun h => h)) Up.aEnt | (go_simp; exact rfl)) ?_; simp only [Act.put, List.setIfInBounds_toArray, List.set_cons_zero, List.set_cons_succ]
                        iterate 2 (refine wpPar_pure rfl (by rfl) _ (fun W hW => by
                            go_simp
                            exact rfl) ?_; simp only [Act.put, List.setIfInBounds_toArray, List.set_cons_zero, List.set_cons_succ])
                        refine wpPar_adds rfl (by rfl) (fun W hW hd => ?_) (fun v7 hv => ?_)
                        · unfold Gives
                          rw [exec_one_item 29 (.tmp 124) rfl rtKnown (by decide) (A := #[.string e.n, .int .i64 e.v, .int .u64 (e.k : Int), .int .i64 p]) rfl rfl]
                          have kN : Kept None W (W.alloc (.cells #[.string e.n, .int .i64 e.v, .int .u64 (e.k : Int), .int .i64 p] 50)) := (Kept.refl None W).alloc _
                          refine ⟨hW.then kN (fun _ _ h => h.elim), ⟨_, rfl⟩, ⟨_, rfl, Blk.new _ _ _⟩, keeps_of fun f hf hs hl hne u hfu => ?_⟩
                          simp only [List.mem_cons, List.not_mem_nil, or_false] at hf
                          rcases hf with rfl | rfl | rfl | rfl
                          · exact Po.kept hfu kN (fun _ _ h => h)
                          · exact absurd rfl hne
                          · exact Po.kept hfu kN (fun _ _ h => h)
                          · exact Po.kept hfu kN (fun _ _ h => h)
                        obtain ⟨g7, rfl⟩ : ∃ g, v7 = .slice (some ⟨g, 0, none⟩) 1 1 := hv
                        simp only [Act.put, List.setIfInBounds_toArray, List.set_cons_zero, List.set_cons_succ]
                        refine wpPar_adds rfl (by rfl) (fun W hW hd => ?_) (fun v8 hv => ?_)
                        · have hO : Po 4 50 W w9.heap.size (.slice a3 n3 c3) (knosC (out.take i)) := hd 3 (List.Mem.head _)
                          obtain ⟨g, hgg, hg3⟩ : ∃ g, Value.slice (some ⟨g7, 0, none⟩) 1 1 = .slice (some ⟨g, 0, none⟩) 1 1 ∧ Blk W g #[.string e.n, .int .i64 e.v, .int .u64 (e.k : Int), .int .i64 p] 50 := hd 7 (List.Mem.tail _ (List.Mem.head _))
                          obtain rfl : g7 = g := by simpa using hgg
                          have hu : Ps 4 W 0 W.heap.size (.slice (some ⟨g7, 0, none⟩) 1 1) (knosC [⟨e, p⟩]) := ps_blk (x := knoC ⟨e, p⟩) hg3 rfl
                          refine gives_append_po _ _ 29 rfl rtKnown (by decide) rfl rfl hO hu (knosC_one _) (by rw [knosC_len, knosC_len]; have := HLN.out; simp; omega) hW.size ?_
                          intro a' n' c' W' hP kS o9
                          have kN : True := trivial
                          rw [← knosC_app] at hP
                          refine ⟨hW.then kS (fun i hi h => by have := (hO.own i h).1; omega), ⟨_, _, _, rfl⟩, hP, keeps_of fun f hf hs hl hne u hfu => ?_⟩
                          simp only [List.mem_cons, List.not_mem_nil, or_false] at hf
                          rcases hf with rfl | rfl | rfl | rfl
                          · exact absurd (List.Mem.head _) hs
                          · exact absurd (List.Mem.tail _ (List.Mem.head _)) hs
                          · exact absurd rfl hne
                          · exact absurd (List.Mem.head _) hl
                        obtain ⟨a8, n8, c8, rfl⟩ : ∃ a n c, v8 = .slice a n c := hv
                        simp only [Act.put, List.setIfInBounds_toArray, List.set_cons_zero, List.set_cons_succ]
                        iterate 2 (refine wpPar_pure rfl (by rfl) _ (fun W hW => by
                            go_simp
                            exact rfl) ?_; simp only [Act.put, List.setIfInBounds_toArray, List.set_cons_zero, List.set_cons_succ])
                        refine wpPar_pure rfl (by rfl) (.slice aD (no - i) (co - i)) (fun W hW => by have q := HSL.out.2.2.1 W; go_simp) ?_; simp only [Act.put, List.setIfInBounds_toArray, List.set_cons_zero, List.set_cons_succ]
                        refine wpPar_adds rfl (by rfl) (fun W hW hd => ?_) (fun v12 hv => ?_)
                        · have hO : Po 4 50 W w9.heap.size (.slice a8 n8 c8) (knosC (out.take i ++ [⟨e, p⟩])) := hd 8 (List.Mem.head _)
                          refine gives_append_po _ _ 29 rfl rtKnown (by decide) rfl rfl hO (HSL.out.2.2.2.kept hW (fun _ _ _ h => h)) (knosC_one _) (by rw [knosC_len, knosC_len, List.length_append]; have := HLN.out; simp; omega) hW.size ?_
                          intro a' n' c' W' hP kS o9
                          have kN : True := trivial
                          rw [← knosC_app, List.append_assoc, List.singleton_append] at hP
                          refine ⟨hW.then kS (fun i hi h => by have := (hO.own i h).1; omega), ⟨_, _, _, rfl⟩, hP, keeps_of fun f hf hs hl hne u hfu => ?_⟩
                          simp only [List.mem_cons, List.not_mem_nil, or_false] at hf
                          rcases hf with rfl | rfl | rfl | rfl
                          · exact absurd (List.Mem.tail _ (List.Mem.head _)) hs
                          · exact absurd (List.Mem.tail _ (List.Mem.tail _ (List.Mem.head _))) hs
                          · exact absurd (List.Mem.head _) hs
                          · exact absurd rfl hne
                        obtain ⟨a12, n12, c12, rfl⟩ : ∃ a n c, v12 = .slice a n c := hv
                        simp only [Act.put, List.setIfInBounds_toArray, List.set_cons_zero, List.set_cons_succ]
                        iterate 1 (refine wpPar_pure rfl (by rfl) _ (fun W hW => by
                            go_simp
                            exact rfl) ?_; simp only [Act.put, List.setIfInBounds_toArray, List.set_cons_zero, List.set_cons_succ])
                        refine wpPar_nil (fun W hW hG => ?_)
                        have bz : Po 4 50 W w9.heap.size (.slice a12 n12 c12) (knosC (out.take i ++ ⟨e, p⟩ :: out.drop i)) := hG 12
                        have HKW := hid (K10.out.trans hW)
                        have HOW : Hid (Ps 4 W w.heap.size W.heap.size (.slice a12 n12 c12) (knosC (insK out ⟨e, p⟩))) := hid (by
                          have h1 := (bz.ps (Nat.le_refl _)).wider K10.out.size (Nat.le_refl _)
                          unfold insK
                          rw [← HPL.out.2.2.2]
                          exact h1)
                        have HTW : Hid (addN l p b (j + 1) = some (insK out ⟨e, p⟩) ∧ (insK out ⟨e, p⟩).length ≤ n + (j + 1)) := hid ⟨HADD.out, by rw [insK_len]; have := HT.out.2; omega⟩
                        clear hG bz hW K10 E10 HSL
                        go_wp2
                        go_roundg (m - (j + 1))
                        case measure => omega
                        case rel => exact ⟨j + 1, insK out ⟨e, p⟩, _, _, _, by go_num, rfl, by omega, Nat.le_refl _, HKW, HOW, HTW⟩
              · have hb1 : (ev != xx) = true := by simpa using hvx
                have hb2 : (ev == xx) = false := by simpa using hvx
                have hq := HSTOP.out (by rw [HMAY.out, ← HXV.out.1, ← HXV.out.2.1, ← HXV.out.2.2, decide_eq_false hvx]; simp)
                have HQ2 := hid hq
                clear hq hvx
                go_wp2_with (first | go_skip | fail)
                go_ret2
                exact ⟨.slice a n cap, by rw [HQ2.out]; rfl, K7.out, by rw [HQ2.out]; exact HV.out.2 _ K7.out⟩
          · have hz : ¬ (k : Int) < (m : Int) := by omega
            obtain rfl : k = m := by omega
            have hq : RS = (out, true) := by
              have h1 := HT.out.1
              rw [HN.out.2.1] at h1
              rw [HQ.out, h1]
              rfl
            have HQ2 := hid hq
            clear hq
            go_wp2
            go_ret2
            exact ⟨.slice ao no co, by rw [HQ2.out]; rfl, HK.out, by rw [HQ2.out]; exact ⟨_, _, HO.out, .inr (Nat.le_refl _)⟩⟩
end R16
end Go.Proofs.Ytdobmebhjmgkmaa
namespace Go.Proofs.Ytdobmebhjmgkmaa
open Go.RowKit Go.Pm
namespace P17
open Ad
def nA : ByteArray := ⟨#[97]⟩
def pA : List Pn := storyP [] [0] 1
theorem rtK17 : RowTyK Try.prog 30 52 (.agg #[.string ⟨#[]⟩, .int .i64 0, .int .u64 0, .int .i64 0, .int .u64 0, .int .u64 0, .int .i64 0, .int .i64 0, .bool false]) 9 80 := Hk.rtyK (by kernel_rfl) (by kernel_rfl) (by rfl) (by decide)
theorem rt_nil : RtK [] := ⟨(fun _ h => by cases h), List.Pairwise.nil, (fun _ h => by cases h)⟩
theorem ok_nil : KOk [] := fun _ h => by cases h
theorem stA : StQ [] 0 (cnt []) := storyK_q [] 0 (Nat.le_refl _) (by decide)
theorem wtA0 : WtQ [] [] (cnt []) (cnt []) := storyP_q stA [] (fun _ => Nat.zero_le _) (by decide) 0 (Nat.le_refl _)
theorem wtA : WtQ [] pA (cnt []) (cnt [0]) := storyP_q stA [0] (fun _ => Nat.zero_le _) (by decide) 1 (Nat.le_refl _)
theorem cntA : cnt [0] nA = 1 := by
  show (List.filter (fun x : UInt8 => eqN (Seat.nameS x.toNat) nA) [0]).length = 1
  decide +kernel
theorem cntN : cnt [] nA = 0 := rfl
theorem nextA0 : nextP [] [] nA = (1, 0) := by
  rw [nextP_q wtA0 nA (by rw [cntN]; decide), cntN]
  rfl
theorem pA_eq : pA = [⟨Seat.req nA 1 0 0, 0, 0, false⟩] := by
  show [penS [] [] 0 0] = _
  have e : Seat.nameS (0 : UInt8).toNat = nA := rfl
  unfold penS
  rw [e, nextA0]
  rfl
theorem sizeA : 1 ≤ nA.size ∧ nA.size ≤ 32 := by decide
theorem decA1 : decP [] [] (Seat.req nA 1 0 0) = (0, 0) := by
  have h := dec_fresh stA wtA0 nA 0 sizeA (by rw [cntN]; decide)
  rw [cntN] at h
  exact h
theorem decA2 : decP [] pA (Seat.req nA 1 0 0) = (1, 0) := by
  have hr := req_right nA (v := 1) 0 0 sizeA ⟨by decide, by decide⟩ (by decide)
  have h := dec_waits stA wtA (x := ⟨Seat.req nA 1 0 0, 0, 0, false⟩) (by rw [pA_eq]; exact List.mem_singleton.2 rfl) (u := Seat.req nA 1 0 0) hr rfl rfl
  rw [h]
  unfold keyP
  rw [if_pos rfl]
theorem decA3 : decP [] pA (Seat.req nA 3 0 0) = (0, 27) := by
  have hr := req_right nA (v := 3) 0 0 sizeA ⟨by decide, by decide⟩ (by decide)
  refine dec_gap stA wtA (u := Seat.req nA 3 0 0) hr ?_ ?_
  · show ((cnt [] nA + cnt [0] nA : Nat) : Int) + 1 < 3
    rw [cntN, cntA]
    decide
  · show cnt [] nA + cnt [0] nA ≤ 100000
    rw [cntN, cntA]
    decide
theorem decA4 : decP [] pA (Seat.req nA 2 0 0) = (0, 0) := by
  have h := dec_fresh stA wtA nA 0 sizeA (by rw [cntN, cntA]; decide)
  rw [cntN, cntA] at h
  exact h
theorem key_one17 (n : ByteArray) : keyOf n (0 + 1) = (Seat.req n 1 0 0).k := rfl
theorem nextA : nextP [] pA nA = (2, (Seat.req nA 1 0 0).k) := by
  rw [nextP_q wtA nA (by rw [cntN, cntA]; decide), cntN, cntA, key_one17]
  exact Prod.ext (by show (((0 + 1 : Nat) : Int) + 1) = 2; decide) rfl
theorem fitsA : ∀ x ∈ pA, x.u.Fits := fun x hx => by
  rw [pA_eq] at hx
  rw [List.mem_singleton.1 hx]
  exact req_fits nA (by decide) (by decide) 0 0
set_option maxRecDepth 100000 in
set_option maxHeartbeats 8000000 in
theorem known (hN : NextC) (hD : DecideC) (w : World) : Calls Try.prog 8 #[] w fun e w' => e = .returned (.bool true) ∧ Kept None w w' := by
  have f1 := req_fits nA (v := 1) (by decide) (by decide) 0 0
  have f2 := req_fits nA (v := 2) (by decide) (by decide) 0 0
  have f3 := req_fits nA (v := 3) (by decide) (by decide) 0 0
  have hU1 : ∀ W, Calls Try.prog 12 #[.string ⟨#[97]⟩, .int .i64 1, .int .u8 0, .int .u8 0] W fun e w' => e = .returned (Seat.req nA 1 0 0).V ∧ Kept None W w' := fun W => Seat.update nA 1 0 0 W (by decide) (by decide) (by decide)
  have hU2 : ∀ W, Calls Try.prog 12 #[.string ⟨#[97]⟩, .int .i64 2, .int .u8 0, .int .u8 0] W fun e w' => e = .returned (Seat.req nA 2 0 0).V ∧ Kept None W w' := fun W => Seat.update nA 2 0 0 W (by decide) (by decide) (by decide)
  have hU3 : ∀ W, Calls Try.prog 12 #[.string ⟨#[97]⟩, .int .i64 3, .int .u8 0, .int .u8 0] W fun e w' => e = .returned (Seat.req nA 3 0 0).V ∧ Kept None W w' := fun W => Seat.update nA 3 0 0 W (by decide) (by decide) (by decide)
  have hD1 := fun W => hD (.slice none 0 0) (.slice none 0 0) 0 0 0 0 [] [] (Seat.req nA 1 0 0) W (Ps.nil 4 W 0 0) (Ps.nil 9 W 0 0) rt_nil ok_nil .nil f1 (by decide) (by decide) (by decide)
  have hD2 := fun v' lo hi W h => hD (.slice none 0 0) v' 0 0 lo hi [] pA (Seat.req nA 1 0 0) W (Ps.nil 4 W 0 0) h rt_nil ok_nil (wtA.pok fitsA) f1 (by decide) (by decide) (by rw [pA_eq]; decide)
  have hD3 := fun v' lo hi W h => hD (.slice none 0 0) v' 0 0 lo hi [] pA (Seat.req nA 3 0 0) W (Ps.nil 4 W 0 0) h rt_nil ok_nil (wtA.pok fitsA) f3 (by decide) (by decide) (by rw [pA_eq]; decide)
  have hD4 := fun v' lo hi W h => hD (.slice none 0 0) v' 0 0 lo hi [] pA (Seat.req nA 2 0 0) W (Ps.nil 4 W 0 0) h rt_nil ok_nil (wtA.pok fitsA) f2 (by decide) (by decide) (by rw [pA_eq]; decide)
  have hN1 := fun v' lo hi W h => hN (.slice none 0 0) v' 0 0 lo hi [] pA nA W (Ps.nil 4 W 0 0) h rt_nil ok_nil (wtA.pok fitsA) (by decide) (by rw [pA_eq]; decide)
  rw [nextA] at hN1
  simp only [decA1, decA2, decA3, decA4] at hD1 hD2 hD3 hD4
  rw [pA_eq] at hN1 hD2 hD3 hD4
  obtain ⟨⟨rn, rv, rk, rc, rr, rs⟩, hR1⟩ : ∃ r, r = Seat.req nA 1 0 0 := ⟨_, rfl⟩
  obtain ⟨⟨sn, sv, sk, sc, sr, ss⟩, hR2⟩ : ∃ r, r = Seat.req nA 2 0 0 := ⟨_, rfl⟩
  obtain ⟨⟨tn, tv, tk, tc, tr, ts⟩, hR3⟩ : ∃ r, r = Seat.req nA 3 0 0 := ⟨_, rfl⟩
  rw [← hR1] at hU1 hD1 hD2 hD3 hD4 hN1
  rw [← hR2] at hU2 hD4
  rw [← hR3] at hU3 hD3
  unfold Req.V updV at hU1 hU2 hU3 hD1 hD2 hD3 hD4
  simp only at hU1 hU2 hU3 hD1 hD2 hD3 hD4 hN1
  have HU1 := hid hU1
  have HU2 := hid hU2
  have HU3 := hid hU3
  have HD1 := hid hD1
  have HD2 := hid hD2
  have HD3 := hid hD3
  have HD4 := hid hD4
  have HN := hid hN1
  clear hU1 hU2 hU3 hD1 hD2 hD3 hD4 hN1 hR1 hR2 hR3 f1 f2 f3 hN hD
  go_enter Try.func8, Try.ntmps8
  go_wp2_with fail
  refine (HU1.out w).mono ?_
  rintro e w1 ⟨rfl, k1⟩
  have K2 := hid (k1.alloc (.cells #[.string rn, .int .i64 rv, .int .u64 (rk : Int), .int .i64 rc, .int .u64 (rr : Int), .int .u64 (rs : Int)] 27))
  have B2 := hid (Blk.new w1 #[.string rn, .int .i64 rv, .int .u64 (rk : Int), .int .i64 rc, .int .u64 (rr : Int), .int .u64 (rs : Int)] 27)
  clear k1 HU1
  go_upto_region 2 with fail
  obtain ⟨w2, hw2⟩ : ∃ z, z = w1.alloc (.cells #[.string rn, .int .i64 rv, .int .u64 (rk : Int), .int .i64 rc, .int .u64 (rr : Int), .int .u64 (rs : Int)] 27) := ⟨_, rfl⟩
  obtain ⟨g2, hg2⟩ : ∃ z, z = w1.heap.size := ⟨_, rfl⟩
  rw [← hw2] at K2 B2 ⊢
  rw [← hg2] at B2 ⊢
  clear hw2 hg2
  have b2 := B2.out
  go_wp2_with (first | (refine wpList_load_blk rfl _ _ rfl rfl b2 Up.aUpd ?_) | fail)
  refine (HD1.out w2).mono ?_
  rintro e w3 ⟨rfl, k3⟩
  have K3 := hid (K2.out.trans k3)
  have B3 := hid (B2.out.kept k3 (fun h => h))
  clear k3 K2 B2 b2 HD1
  have b3 := B3.out
  have K4 := hid (K3.out.alloc (.cells #[.string rn, .int .i64 rv, .int .u64 (rk : Int), .int .i64 rc, .int .u64 (rr : Int), .int .u64 (rs : Int), .int .i64 0, .int .i64 0, .bool false] 52))
  have B4 := hid (B3.out.alloc (.cells #[.string rn, .int .i64 rv, .int .u64 (rk : Int), .int .i64 rc, .int .u64 (rr : Int), .int .u64 (rs : Int), .int .i64 0, .int .i64 0, .bool false] 52))
  have P4 := hid (R16.ps_blk (k := 9) (x := [.string rn, .int .i64 rv, .int .u64 (rk : Int), .int .i64 rc, .int .u64 (rr : Int), .int .u64 (rs : Int), .int .i64 0, .int .i64 0, .bool false]) (Blk.new w3 #[.string rn, .int .i64 rv, .int .u64 (rk : Int), .int .i64 rc, .int .u64 (rr : Int), .int .u64 (rs : Int), .int .i64 0, .int .i64 0, .bool false] 52) rfl)
  go_upto_region 4 with (first | (refine wpList_load_blk rfl _ _ rfl rfl b3 Up.aUpd ?_) | (refine wpList_one_item rfl _ _ rfl rtK17 (by decide) rfl rfl ?_) | fail)
  obtain ⟨w4, hw4⟩ : ∃ z, z = w3.alloc (.cells #[.string rn, .int .i64 rv, .int .u64 (rk : Int), .int .i64 rc, .int .u64 (rr : Int), .int .u64 (rs : Int), .int .i64 0, .int .i64 0, .bool false] 52) := ⟨_, rfl⟩
  obtain ⟨g4, hg4⟩ : ∃ z, z = w3.heap.size := ⟨_, rfl⟩
  rw [← hw4] at K4 B4 P4 ⊢
  rw [← hg4] at P4 ⊢
  clear hw4 hg4 K3 B3 b3
  have b4 := B4.out
  go_wp2_with (first | (refine wpList_load_blk rfl _ _ rfl rfl b4 Up.aUpd ?_) | fail)
  refine (HD2.out _ _ _ w4 P4.out).mono ?_
  rintro e w5 ⟨rfl, k5⟩
  have K5 := hid (K4.out.trans k5)
  have B5 := hid (B4.out.kept k5 (fun h => h))
  have P5 := hid (P4.out.kept k5 (fun _ _ _ h => h))
  clear k5 K4 B4 P4 b4 HD2
  go_wp2_with fail
  refine (HU3.out w5).mono ?_
  rintro e w6 ⟨rfl, k6⟩
  have K6 := hid (K5.out.trans k6)
  have B6 := hid (B5.out.kept k6 (fun h => h))
  have P6 := hid (P5.out.kept k6 (fun _ _ _ h => h))
  clear k6 K5 B5 P5 HU3
  go_wp2_with fail
  refine (HD3.out _ _ _ w6 P6.out).mono ?_
  rintro e w7 ⟨rfl, k7⟩
  have K7 := hid (K6.out.trans k7)
  have B7 := hid (B6.out.kept k7 (fun h => h))
  have P7 := hid (P6.out.kept k7 (fun _ _ _ h => h))
  clear k7 K6 B6 P6 HD3
  go_wp2_with fail
  refine (HU2.out w7).mono ?_
  rintro e w8 ⟨rfl, k8⟩
  have K8 := hid (K7.out.trans k8)
  have B8 := hid (B7.out.kept k8 (fun h => h))
  have P8 := hid (P7.out.kept k8 (fun _ _ _ h => h))
  clear k8 K7 B7 P7 HU2
  go_wp2_with fail
  refine (HD4.out _ _ _ w8 P8.out).mono ?_
  rintro e w9 ⟨rfl, k9⟩
  have K9 := hid (K8.out.trans k9)
  have B9 := hid (B8.out.kept k9 (fun h => h))
  have P9 := hid (P8.out.kept k9 (fun _ _ _ h => h))
  clear k9 K8 B8 P8 HD4
  go_wp2_with fail
  refine (HN.out _ _ _ w9 P9.out).mono ?_
  rintro e w10 ⟨rfl, k10⟩
  have K10 := hid (K9.out.trans k10)
  have c2 : w10.cell? ⟨g2, 2, none⟩ = some (.int .u64 (rk : Int)) := (B9.out.kept k10 (fun h => h)).cell 2
  clear k10 K9 B9 P9 HN
  go_wp2_with (first | go_skip | fail)
  go_ret
  exact ⟨by first | rfl | simp, K10.out⟩
end P17
end Go.Proofs.Ytdobmebhjmgkmaa
namespace Go.Proofs.Ytdobmebhjmgkmaa
open Go.RowKit Go.Pm
namespace Es
theorem rtEnt16 : RowTyK Try.prog 60 48 (.agg #[.string ⟨#[]⟩, .int .i64 0, .int .u64 0]) 3 32 := Hk.rtyK (by kernel_rfl) (by kernel_rfl) (by rfl) (by decide)
theorem aEnt16 : AggTy Try.prog 48 3 := Sg.AggTy.of (by kernel_rfl) (by kernel_rfl)
end Es
end Go.Proofs.Ytdobmebhjmgkmaa
namespace Go.Pm
open Go Go.RowKit
def hitK (nm : ByteArray) (v : Int) (x : Kno) : Bool := eqN x.e.n nm && decide (x.e.v = v)
theorem finK_at {l : List Kno} {nm : ByteArray} {v : Int} {k : Nat} (hk : k < l.length) (h0 : ∀ j (h : j < l.length), j < k → hitK nm v l[j] = false) (h1 : hitK nm v l[k] = true) : finK l nm v = (l[k], true) := by
  unfold finK
  rw [show l.find? (fun x => eqN x.e.n nm && decide (x.e.v = v)) = some l[k] from List.find?_eq_some_iff_getElem.2 ⟨h1, k, hk, rfl, fun j hj => by
    have := h0 j (by omega) hj
    unfold hitK at this
    rw [this]
    rfl⟩]
theorem finK_end {l : List Kno} {nm : ByteArray} {v : Int} (h0 : ∀ j (h : j < l.length), hitK nm v l[j] = false) : finK l nm v = (Kno.none, false) := by
  refine finK_none (fun x hx hn hv => ?_)
  obtain ⟨j, hj, rfl⟩ := List.getElem_of_mem hx
  have := h0 j hj
  unfold hitK at this
  rw [eqN_iff.2 hn, decide_eq_true hv] at this
  cases this
theorem hit_step {l : List Kno} {nm : ByteArray} {v : Int} {k : Nat} (h0 : ∀ j (h : j < l.length), j < k → hitK nm v l[j] = false) (hk : k < l.length) (h1 : hitK nm v l[k] = false) : ∀ j (h : j < l.length), j < k + 1 → hitK nm v l[j] = false := fun j h hj => by
  rcases Nat.lt_or_ge j k with g | g
  · exact h0 j h g
  · obtain rfl : j = k := by omega
    exact h1
end Go.Pm
namespace Go.Proofs.Ytdobmebhjmgkmaa
open Go.RowKit Go.Pm
namespace R16
set_option maxRecDepth 100000 in
set_option maxHeartbeats 8000000 in
/-- Find. -/
theorem find (v : Value) (lo hi : Nat) (l : List Kno) (nm : ByteArray) (ver : Int) (w : World) (hv : Ps 4 w lo hi v (knosC l)) (hlen : l.length ≤ 1099511627776) :
    Calls Try.prog 29 #[v, .string nm, .int .i64 ver] w fun e w' => e = .returned (.tuple #[(finK l nm ver).1.V, .bool (finK l nm ver).2]) ∧ Kept None w w' := by
  obtain ⟨a, cap, rfl, g1, g2, g3⟩ := hv.form
  rw [knosC_len] at g1 hv ⊢
  obtain ⟨n, hn⟩ : ∃ n, n = l.length := ⟨_, rfl⟩
  rw [← hn] at g1 hlen hv ⊢
  have k0 : Kept None w (w.alloc (.cells #[.string ⟨#[]⟩, .int .i64 0, .int .u64 0, .int .i64 0] 50)) := (Kept.refl _ _).alloc _
  have z0 : Blk (w.alloc (.cells #[.string ⟨#[]⟩, .int .i64 0, .int .u64 0, .int .i64 0] 50)) w.heap.size (knoC Kno.none).toArray 50 := Blk.new w _ _
  have HV := hid hv
  have HN := hid (And.intro hn hlen)
  clear hv hn g3
  have K0 := hid k0
  have Z0 := hid z0
  clear k0 z0
  go_enter Try.func29, Try.ntmps29
  go_wp2
  go_loopg [8] n (fun kx s8 wr => ∃ (k : Nat), s8 = .int .i64 k ∧ k ≤ n ∧ n - k ≤ kx ∧ Hid (Kept None w wr) ∧ Hid (Blk wr w.heap.size (knoC Kno.none).toArray 50) ∧ Hid (∀ j (h : j < l.length), j < k → hitK nm ver l[j] = false))
  case atStart => exact ⟨0, rfl, Nat.zero_le _, Nat.le_refl _, K0, Z0, hid (fun j _ h => absurd h (Nat.not_lt_zero j))⟩
  case round =>
    obtain ⟨k, rfl, hk, hkx, HK, HZ, HT⟩ := hrel
    by_cases hlt : k < n
    · have hz : (k : Int) < (n : Int) := by omega
      have wk : IntKind.i64.wrap ((k : Int) + 1) = (k : Int) + 1 := by rw [IntKind.wrap_i64]; have := HN.out.2; omega
      have kl : k < l.length := by have := HN.out.1; omega
      obtain ⟨bb, o, q1, hc⟩ := (HV.out.kept HK.out (fun _ _ _ h => h)).kno (by omega)
      obtain rfl := q1
      obtain ⟨c0, c1, _, _, rx, _⟩ := hc k kl
      have HR := hid rx
      obtain ⟨E, hE⟩ : ∃ E, E = eqN l[k].e.n nm := ⟨_, rfl⟩
      obtain ⟨G, hG⟩ : ∃ G, G = decide (l[k].e.v = ver) := ⟨_, rfl⟩
      have hit : hitK nm ver l[k] = (E && G) := by rw [hE, hG]; rfl
      obtain ⟨x0, hx0⟩ : ∃ x, x = l[k].e.n := ⟨_, rfl⟩
      obtain ⟨x1, hx1⟩ : ∃ x, x = l[k].e.v := ⟨_, rfl⟩
      rw [← hx0] at c0
      rw [← hx1] at c1
      have hE' : (x0.toList == nm.toList) = E := by rw [hx0, hE]; rfl
      have hG' : (x1 == ver) = G := by rw [hx1, hG]; rfl
      have hG2 : decide (x1 = ver) = G := by rw [hx1, hG]
      have HX := hid hit
      clear rx hc hit hE hG hx0 hx1
      have HS : Hid (hitK nm ver l[k] = false → ∀ j (h : j < l.length), j < k + 1 → hitK nm ver l[j] = false) := hid (fun h => hit_step HT.out kl h)
      cases E with
      | false =>
        have HT2 := hid (HS.out HX.out)
        clear HS HX
        go_wp2_with fail
        go_roundg (n - (k + 1))
        case measure => omega
        case rel => exact ⟨k + 1, by go_num, by omega, Nat.le_refl _, HK, HZ, HT2⟩
      | true =>
        cases G with
        | false =>
          have HT2 := hid (HS.out HX.out)
          clear HS HX
          go_wp2_with fail
          go_roundg (n - (k + 1))
          case measure => omega
          case rel => exact ⟨k + 1, by go_num, by omega, Nat.le_refl _, HK, HZ, HT2⟩
        | true =>
          have HF := hid (finK_at kl HT.out HX.out)
          have rx := HR.out
          have z6 := HZ.out
          clear HS HX HT
          go_wp2_with (first | (refine wpList_load_at (.refl _) _ _ rfl rfl rx aKno ?_) | (refine wpList_store_blk rfl _ _ _ rfl rfl rfl z6 aKno rfl (kno_all _) ?_; intro w7 z7 k7) | fail)
          exact bodyPost_ret (v := .tuple #[(l[k]).V, .bool true]) (res_ct rfl _ rfl rfl z7 aKno) rfl ⟨by rw [HF.out], HK.out.then k7 (fun i hi (h : i = w.heap.size) => by omega)⟩
    · have hz : ¬ (k : Int) < (n : Int) := by omega
      obtain rfl : k = n := by omega
      have HF : Hid (finK l nm ver = (Kno.none, false)) := hid (finK_end (fun j h => HT.out j h (by have := HN.out.1; omega)))
      have z6 := HZ.out
      clear HT
      go_wp2_with (first | (refine wpList_store_blk rfl _ _ _ rfl rfl rfl z6 aKno rfl (kno_all Kno.none) ?_; intro w7 z7 k7) | fail)
      exact bodyPost_ret (v := .tuple #[Kno.none.V, .bool false]) (res_ct rfl _ rfl rfl z7 aKno) rfl ⟨by rw [HF.out], HK.out.then k7 (fun i hi (h : i = w.heap.size) => by omega)⟩
end R16
end Go.Proofs.Ytdobmebhjmgkmaa
namespace Go.Proofs.Ytdobmebhjmgkmaa
open Go.RowKit Go.Pm
namespace Bt
theorem mask32 (a : Nat) (ha : a < 18446744073709551616) : bits .and .u64 (a : Int) 4294967295 = ((a % 4294967296 : Nat) : Int) := by
  have h := bits_and_u64_nat a 4294967295 ha (by omega)
  rw [show a &&& 4294967295 = a % 4294967296 from Nat.and_two_pow_sub_one_eq_mod a 32] at h
  exact h

set_option maxRecDepth 100000 in
theorem len (m : Nat) (hm : m = prime61 ∨ m = order61) (w : World) : Calls Try.prog 78 #[.int .u64 m] w fun e w' => e = .returned (.int .i64 61) ∧ w = w' := by
  rcases hm with h | h
  · rw [h]
    show Calls Try.prog 78 #[.int .u64 2305843009213693951] w _
    go_enter Try.func78, Try.ntmps78
    go_wp2
    go_ret
    exact ⟨by kernel_rfl, rfl⟩
  · rw [h]
    show Calls Try.prog 78 #[.int .u64 2305843009213693950] w _
    go_enter Try.func78, Try.ntmps78
    go_wp2
    go_ret
    exact ⟨by kernel_rfl, rfl⟩
theorem leading (m : Nat) (hm : m = prime61 ∨ m = order61) (w : World) : Calls Try.prog 75 #[.int .u64 m] w fun e w' => e = .returned (.int .i64 3) ∧ w = w' := by
  go_enter Try.func75, Try.ntmps75
  go_wp2_with fail
  refine (len m hm _).mono ?_
  rintro e w1 ⟨rfl, rfl⟩
  go_wp2
  go_ret
  exact ⟨rfl, rfl⟩

theorem wrapM (a : Nat) : IntKind.u64.wrap (a : Int) = ((a % 18446744073709551616 : Nat) : Int) := by rw [IntKind.wrap_u64]; omega
theorem wrapN (a : Nat) (ha : a < 18446744073709551616) : IntKind.u64.wrap (a : Int) = (a : Int) := by rw [IntKind.wrap_u64]; omega
theorem div32 (a : Nat) : (a : Int) / 4294967296 = ((a / 4294967296 : Nat) : Int) := by omega
set_option maxHeartbeats 1000000 in
theorem mul64 (x y : Nat) (hx : x < 18446744073709551616) (hy : y < 18446744073709551616) (w : World) :
    Calls Try.prog 64 #[.int .u64 x, .int .u64 y] w fun e w' => e = .returned (.tuple #[.int .u64 (x * y / 18446744073709551616 : Nat), .int .u64 (x * y % 18446744073709551616 : Nat)]) ∧ w = w' := by
  obtain ⟨bd, bt, bw, hhi⟩ := Lib.mul64_hi x y hx hy
  have ba := Lib.half_mul_le (a := x / 4294967296) (b := y / 4294967296) (by omega) (by omega)
  have bb := Lib.half_mul_le (a := x / 4294967296) (b := y % 4294967296) (by omega) (by omega)
  have bc := Lib.half_mul_le (a := x % 4294967296) (b := y / 4294967296) (by omega) (by omega)
  obtain ⟨p, hp⟩ : ∃ p, p = x / 4294967296 * (y / 4294967296) := ⟨_, rfl⟩
  obtain ⟨q, hq⟩ : ∃ q, q = x / 4294967296 * (y % 4294967296) := ⟨_, rfl⟩
  obtain ⟨r, hr⟩ : ∃ r, r = x % 4294967296 * (y / 4294967296) := ⟨_, rfl⟩
  obtain ⟨s, hs⟩ : ∃ s, s = x % 4294967296 * (y % 4294967296) := ⟨_, rfl⟩
  simp only [← hp, ← hq, ← hr, ← hs] at ba bb bc bd bt bw hhi
  go_enter Try.func64, Try.ntmps64
  go_wp2
  simp only [mask32 x hx, mask32 y hy, div32, ← Int.natCast_mul, ← hp, ← hq, ← hr, ← hs]
  simp only [wrapN p (by omega), wrapN q (by omega), wrapN r (by omega), wrapN s (by omega), div32, ← Int.natCast_add, wrapN _ bt, mask32 _ bt, wrapN _ bw, wrapM (x * y)]
  rw [wrapN (p + (q + s / 4294967296) / 4294967296) (by omega), ← Int.natCast_add, hhi, wrapN _ (by rw [← hhi]; omega)]
  go_ret2
  exact ⟨rfl, rfl⟩

theorem or8 (hi lo : Nat) (h0 : hi < 2305843009213693952) (h1 : lo < 18446744073709551616) : bits .or .u64 ((hi : Int) * 8) ((lo : Int) / 2305843009213693952) = ((hi * 8 + lo / 2305843009213693952 : Nat) : Int) := by
  have e1 : ((hi : Int) * 8) = ((hi * 8 : Nat) : Int) := by omega
  have e2 : ((lo : Int) / 2305843009213693952) = ((lo / 2305843009213693952 : Nat) : Int) := by omega
  rw [e1, e2, bits_or_u64_nat _ _ (by omega) (by omega)]
  congr 1
  have := Nat.shiftLeft_add_eq_or_of_lt (i := 3) (b := lo / 2305843009213693952) (by omega) hi
  rw [Nat.shiftLeft_eq] at this
  exact this.symm

set_option maxRecDepth 100000 in
set_option maxHeartbeats 4000000 in
theorem div64 (hi lo m : Nat) (hm : m = prime61 ∨ m = order61) (h0 : hi < m) (h1 : lo < 18446744073709551616) (w : World) :
    Calls Try.prog 70 #[.int .u64 hi, .int .u64 lo, .int .u64 m] w fun e w' => (∃ q, e = .returned (.tuple #[.int .u64 q, .int .u64 ((hi * 18446744073709551616 + lo) % m : Nat)])) ∧ Kept None w w' := by
  have hl := leading m hm
  have m0 : 1152921504606846976 ≤ m := by rcases hm with h | h <;> rw [h] <;> decide
  have m1 : m < 2305843009213693952 := by rcases hm with h | h <;> rw [h] <;> decide
  clear hm
  go_enter Try.func70, Try.ntmps70
  by_cases hz : hi = 0
  · subst hz
    have t1 : (lo : Int).tmod m = (lo : Int) % m := Int.tmod_eq_emod_of_nonneg (by omega)
    have t2 : (lo : Int).tdiv m = (lo : Int) / m := Int.tdiv_eq_ediv_of_nonneg (by omega)
    go_wp2_with fail
    go_quiet (fail)
    go_wp2
    go_ret2
    refine ⟨⟨IntKind.u64.wrap ((lo : Int) / m), ?_⟩, Kept.toDrewN _ _ _⟩
    rw [Nat.zero_mul, Nat.zero_add, Int.natCast_emod]
    rfl
  · go_wp2_with fail
    refine (hl _).mono ?_
    rintro e w1 ⟨rfl, rfl⟩
    go_upto_block 0 with fail
    -- the halves
    obtain ⟨y, hy⟩ : ∃ y, y = m * 8 := ⟨_, rfl⟩
    obtain ⟨u, hu⟩ : ∃ u, u = hi * 8 + lo / 2305843009213693952 := ⟨_, rfl⟩
    obtain ⟨l, hl'⟩ : ∃ l, l = lo * 8 % 18446744073709551616 := ⟨_, rfl⟩
    have eu := or8 hi lo (by omega) h1
    rw [← hu] at eu
    have ey : ((m : Int) * 8) = (y : Int) := by omega
    have el : IntKind.u64.wrap ((lo : Int) * 8) = (l : Int) := by rw [IntKind.wrap_u64]; omega
    have hY : Halved y (y / 4294967296) (y % 4294967296) := ⟨by omega, by omega, by omega⟩
    have huy : u < y := by omega
    have hyy : y < 18446744073709551616 := by omega
    have hll : l < 18446744073709551616 := by omega
    have hfin : ((u * 4294967296 + l / 4294967296) % y * 4294967296 + l % 4294967296) % y / 8 = (hi * 18446744073709551616 + lo) % m := by
      rw [two_digits (by omega), ← rem_shift (hi * 18446744073709551616 + lo) m, hy]
      congr 2
      omega
    have HF := hid hfin
    obtain ⟨g1, g2, g3⟩ := Guess.first hY huy (show l / 4294967296 < 4294967296 by omega)
    have er := first_r (u := u) (y1 := y / 4294967296) (by omega)
    have eq0 := first_q (u := u) (y1 := y / 4294967296) (by omega)
    simp only [eu, ey, el, mask32 y hyy, mask32 l hll, div32, eq0, er]
    clear hfin eu ey el hl' hy hu eq0 er
    obtain ⟨y1, hy1⟩ : ∃ y1, y1 = y / 4294967296 := ⟨_, rfl⟩
    obtain ⟨y0, hy0⟩ : ∃ y0, y0 = y % 4294967296 := ⟨_, rfl⟩
    obtain ⟨d1, hd1⟩ : ∃ d1, d1 = l / 4294967296 := ⟨_, rfl⟩
    obtain ⟨d0, hd0⟩ : ∃ d0, d0 = l % 4294967296 := ⟨_, rfl⟩
    obtain ⟨q0, hq0⟩ : ∃ q0, q0 = u / y1 := ⟨_, rfl⟩
    obtain ⟨r0, hr0⟩ : ∃ r0, r0 = u % y1 := ⟨_, rfl⟩
    rw [← hy1] at hY g1 g2 g3
    rw [← hy0] at hY
    rw [← hd1] at g1
    rw [← hq0] at g1 g2
    rw [← hr0] at g1 g3
    have b1 : y1 < 4294967296 := by omega
    have b0 : y0 < 4294967296 := by omega
    have bd1 : d1 < 4294967296 := by omega
    have bd0 : d0 < 4294967296 := by omega
    rw [← hd1, ← hd0] at HF
    simp only [← hy1, ← hy0, ← hd1, ← hd0, ← hq0, ← hr0]
    clear hy1 hy0 hd1 hd0 hq0 hr0
    obtain ⟨Q, hQe⟩ : ∃ Q, Q = (u * 4294967296 + d1) / y := ⟨_, rfl⟩
    have HQ := hid hQe
    clear hQe
    go_cut [15] (fun a wx => a = .int .u64 Q ∧ wx = w)
    case first =>
      go_wp2_with fail
      go_loopg [15, 16] q0 (fun g a b wr => ∃ q r : Nat, q = g ∧ a = .int .u64 q ∧ b = .int .u64 r ∧ Guess y y1 u d1 q r ∧ r < 4294967296 ∧ q ≤ 4294967297 ∧ wr = w)
      case atStart => exact ⟨q0, r0, rfl, rfl, rfl, g1, by omega, g2, rfl⟩
      case round =>
        obtain ⟨q, r, rfl, rfl, rfl, hg, hr, hq, rfl⟩ := hrel
        obtain ⟨p, hp⟩ : ∃ p, p = q * y0 := ⟨_, rfl⟩
        have em : IntKind.u64.wrap (4294967296 * (r : Int)) = 4294967296 * (r : Int) := by rw [IntKind.wrap_u64]; omega
        have ea : IntKind.u64.wrap (4294967296 * (r : Int) + (d1 : Int)) = 4294967296 * (r : Int) + (d1 : Int) := by rw [IntKind.wrap_u64]; omega
        by_cases hB : 4294967296 ≤ q
        · have hb : decide ((4294967296 : Int) ≤ (q : Int)) = true := decide_eq_true (by omega)
          have hs := hg.step hY huy bd1 (.inl hB)
          clear hp em ea
          obtain ⟨h1q, hs⟩ := hs
          have e2 : IntKind.u64.wrap ((r : Int) + (y1 : Int)) = (r : Int) + (y1 : Int) := by rw [IntKind.wrap_u64]; omega
          have e1 : IntKind.u64.wrap ((q : Int) - 1) = ((q - 1 : Nat) : Int) := by rw [IntKind.wrap_u64]; omega
          by_cases hC : 4294967296 ≤ r + y1
          · have hc : decide ((4294967296 : Int) ≤ (r : Int) + (y1 : Int)) = true := decide_eq_true (by omega)
            have hQ := hs.broke hY huy hC (by omega)
            rw [← HQ.out] at hQ
            have HH := hid hQ
            clear hB hC h1q hs hr hq hyy hll h1 b1 b0 bd1 bd0 huy hY hg g1 g2 g3 m0 m1 h0 hz hQ
            go_wp2
            go_meet
            exact ⟨by rw [HH.out], rfl⟩
          · have hc : decide ((4294967296 : Int) ≤ (r : Int) + (y1 : Int)) = false := decide_eq_false (by omega)
            have HH := hid (And.intro hs (And.intro hC (And.intro hq h1q)))
            clear hB hC hs hr hq h1q hyy hll h1 b1 b0 bd1 bd0 huy hY hg g1 g2 g3 m0 m1 h0 hz
            go_wp2
            go_roundg (q - 1)
            case measure => have := HH.out.2.2.2; omega
            case rel => exact ⟨q - 1, r + y1, rfl, rfl, by go_num, HH.out.1, by have := HH.out.2.1; omega, by have := HH.out.2.2.1; omega, rfl⟩
        · have hb : decide ((4294967296 : Int) ≤ (q : Int)) = false := decide_eq_false (by omega)
          have ep : IntKind.u64.wrap ((q : Int) * (y0 : Int)) = (p : Int) := by
            have := Nat.mul_le_mul (show q ≤ 4294967295 by omega) (show y0 ≤ 4294967295 by omega)
            rw [← Int.natCast_mul, ← hp, IntKind.wrap_u64]
            omega
          by_cases hL : 4294967296 * r + d1 < p
          · have hl2 : decide (4294967296 * (r : Int) + (d1 : Int) < (p : Int)) = true := decide_eq_true (by omega)
            have hs := hg.step hY huy bd1 (.inr (by rw [← hp]; exact hL))
            clear hp
            obtain ⟨h1q, hs⟩ := hs
            have e2 : IntKind.u64.wrap ((r : Int) + (y1 : Int)) = (r : Int) + (y1 : Int) := by rw [IntKind.wrap_u64]; omega
            have e1 : IntKind.u64.wrap ((q : Int) - 1) = ((q - 1 : Nat) : Int) := by rw [IntKind.wrap_u64]; omega
            by_cases hC : 4294967296 ≤ r + y1
            · have hc : decide ((4294967296 : Int) ≤ (r : Int) + (y1 : Int)) = true := decide_eq_true (by omega)
              have hQ := hs.broke hY huy hC (by omega)
              rw [← HQ.out] at hQ
              have HH := hid hQ
              clear hB hC h1q hs hr hq hyy hll h1 b1 b0 bd1 bd0 huy hY hg g1 g2 g3 m0 m1 h0 hz hQ
              go_wp2
              go_meet
              exact ⟨by rw [HH.out], rfl⟩
            · have hc : decide ((4294967296 : Int) ≤ (r : Int) + (y1 : Int)) = false := decide_eq_false (by omega)
              have HH := hid (And.intro hs (And.intro hC (And.intro hq h1q)))
              clear hB hC hs hr hq h1q hyy hll h1 b1 b0 bd1 bd0 huy hY hg g1 g2 g3 m0 m1 h0 hz
              go_wp2
              go_roundg (q - 1)
              case measure => have := HH.out.2.2.2; omega
              case rel => exact ⟨q - 1, r + y1, rfl, rfl, by go_num, HH.out.1, by have := HH.out.2.1; omega, by have := HH.out.2.2.1; omega, rfl⟩
          · have hl2 : decide (4294967296 * (r : Int) + (d1 : Int) < (p : Int)) = false := decide_eq_false (by omega)
            have hQ := hg.done hY huy (by rw [← hp]; omega)
            rw [← HQ.out] at hQ
            have HH := hid hQ
            clear hB hL hr hq hyy hll h1 b1 b0 bd1 bd0 huy hY hg g1 g2 g3 m0 m1 h0 hz hQ hp
            go_wp2
            go_meet
            exact ⟨by rw [HH.out], rfl⟩
    case rest =>
      obtain ⟨rfl, rfl⟩ := hcut
      have hR := Nat.mod_lt (u * 4294967296 + d1) (show 0 < y by omega)
      have e6 := digit_rest hY huy bd1 hyy
      rw [← HQ.out] at e6
      obtain ⟨R, hRe⟩ : ∃ R, R = (u * 4294967296 + d1) % y := ⟨_, rfl⟩
      rw [← hRe] at hR e6 HF
      obtain ⟨g1', g2', g3'⟩ := Guess.first hY hR bd0
      have e7 := first_q2 (u := R) (y1 := y1) (by omega)
      have e8 := first_r (u := R) (y1 := y1) (by omega)
      obtain ⟨q1, hq1⟩ : ∃ q1, q1 = R / y1 := ⟨_, rfl⟩
      obtain ⟨r1, hr1⟩ : ∃ r1, r1 = R % y1 := ⟨_, rfl⟩
      rw [← hq1] at g1' g2' e7 e8
      rw [← hr1] at g1' g3' e8
      clear hq1 hr1 hRe
      have e9b : ¬ y1 = 0 := by have := hY.2.2; omega
      have e9 : ((y1 : Int) == 0) = false := by
        have := hY.2.2
        simp only [beq_eq_false_iff_ne, ne_eq]
        omega
      obtain ⟨Q2, hQe⟩ : ∃ Q2, Q2 = (R * 4294967296 + d0) / y := ⟨_, rfl⟩
      have HQ2 := hid hQe
      have e10 := digit_rest hY hR bd0 hyy
      rw [← hQe] at e10
      obtain ⟨R2, hR2⟩ : ∃ R2, R2 = (R * 4294967296 + d0) % y := ⟨_, rfl⟩
      rw [← hR2] at e10 HF
      clear hQe hR2
      have HE := hid e10
      have HH0 := hid (And.intro hY (And.intro huy (And.intro hyy (And.intro b1 (And.intro b0 (And.intro bd1 (And.intro bd0 (And.intro hR (And.intro g1' (And.intro g2' g3'))))))))))
      clear e10 hyy hll h1 b1 b0 bd1 bd0 huy hY g1 g2 g3 m0 m1 h0 hz hR g1' g2' g3'
      go_upto_block 2 with fail
      obtain ⟨hY, huy, hyy, b1, b0, bd1, bd0, hR, g1', g2', g3'⟩ := HH0.out
      go_cut [18] (fun a wx => a = .int .u64 Q2 ∧ wx = wc)
      case first =>
        go_wp2_with fail
        go_loopg [16, 18] q1 (fun g b a wr => ∃ q r : Nat, q = g ∧ a = .int .u64 q ∧ b = .int .u64 r ∧ Guess y y1 R d0 q r ∧ r < 4294967296 ∧ q ≤ 4294967297 ∧ wr = wc)
        case atStart => exact ⟨q1, r1, rfl, rfl, rfl, g1', by omega, g2', rfl⟩
        case round =>
          obtain ⟨q, r, rfl, rfl, rfl, hg, hr, hq, rfl⟩ := hrel
          obtain ⟨p, hp⟩ : ∃ p, p = q * y0 := ⟨_, rfl⟩
          have em : IntKind.u64.wrap (4294967296 * (r : Int)) = 4294967296 * (r : Int) := by rw [IntKind.wrap_u64]; omega
          have ea : IntKind.u64.wrap (4294967296 * (r : Int) + (d0 : Int)) = 4294967296 * (r : Int) + (d0 : Int) := by rw [IntKind.wrap_u64]; omega
          by_cases hB : 4294967296 ≤ q
          · have hb : decide ((4294967296 : Int) ≤ (q : Int)) = true := decide_eq_true (by omega)
            have hs := hg.step hY hR bd0 (.inl hB)
            clear hp em ea
            obtain ⟨h1q, hs⟩ := hs
            have e2 : IntKind.u64.wrap ((r : Int) + (y1 : Int)) = (r : Int) + (y1 : Int) := by rw [IntKind.wrap_u64]; omega
            have e1 : IntKind.u64.wrap ((q : Int) - 1) = ((q - 1 : Nat) : Int) := by rw [IntKind.wrap_u64]; omega
            by_cases hC : 4294967296 ≤ r + y1
            · have hc : decide ((4294967296 : Int) ≤ (r : Int) + (y1 : Int)) = true := decide_eq_true (by omega)
              have hQ := hs.broke hY hR hC (by omega)
              rw [← HQ2.out] at hQ
              have HH := hid hQ
              clear hR hB hC h1q hs hr hq hyy b1 b0 bd1 bd0 huy hY hg g1' g2' g3' hQ
              go_wp2
              go_meet
              exact ⟨by rw [HH.out], rfl⟩
            · have hc : decide ((4294967296 : Int) ≤ (r : Int) + (y1 : Int)) = false := decide_eq_false (by omega)
              have HH := hid (And.intro hs (And.intro hC (And.intro hq h1q)))
              clear hR hB hC hs hr hq h1q hyy b1 b0 bd1 bd0 huy hY hg g1' g2' g3'
              go_wp2
              go_roundg (q - 1)
              case measure => have := HH.out.2.2.2; omega
              case rel => exact ⟨q - 1, r + y1, rfl, rfl, by go_num, HH.out.1, by have := HH.out.2.1; omega, by have := HH.out.2.2.1; omega, rfl⟩
          · have hb : decide ((4294967296 : Int) ≤ (q : Int)) = false := decide_eq_false (by omega)
            have ep : IntKind.u64.wrap ((q : Int) * (y0 : Int)) = (p : Int) := by
              have := Nat.mul_le_mul (show q ≤ 4294967295 by omega) (show y0 ≤ 4294967295 by omega)
              rw [← Int.natCast_mul, ← hp, IntKind.wrap_u64]
              omega
            by_cases hL : 4294967296 * r + d0 < p
            · have hl2 : decide (4294967296 * (r : Int) + (d0 : Int) < (p : Int)) = true := decide_eq_true (by omega)
              have hs := hg.step hY hR bd0 (.inr (by rw [← hp]; exact hL))
              clear hp
              obtain ⟨h1q, hs⟩ := hs
              have e2 : IntKind.u64.wrap ((r : Int) + (y1 : Int)) = (r : Int) + (y1 : Int) := by rw [IntKind.wrap_u64]; omega
              have e1 : IntKind.u64.wrap ((q : Int) - 1) = ((q - 1 : Nat) : Int) := by rw [IntKind.wrap_u64]; omega
              by_cases hC : 4294967296 ≤ r + y1
              · have hc : decide ((4294967296 : Int) ≤ (r : Int) + (y1 : Int)) = true := decide_eq_true (by omega)
                have hQ := hs.broke hY hR hC (by omega)
                rw [← HQ2.out] at hQ
                have HH := hid hQ
                clear hR hB hC h1q hs hr hq hyy b1 b0 bd1 bd0 huy hY hg g1' g2' g3' hQ
                go_wp2
                go_meet
                exact ⟨by rw [HH.out], rfl⟩
              · have hc : decide ((4294967296 : Int) ≤ (r : Int) + (y1 : Int)) = false := decide_eq_false (by omega)
                have HH := hid (And.intro hs (And.intro hC (And.intro hq h1q)))
                clear hR hB hC hs hr hq h1q hyy b1 b0 bd1 bd0 huy hY hg g1' g2' g3'
                go_wp2
                go_roundg (q - 1)
                case measure => have := HH.out.2.2.2; omega
                case rel => exact ⟨q - 1, r + y1, rfl, rfl, by go_num, HH.out.1, by have := HH.out.2.1; omega, by have := HH.out.2.2.1; omega, rfl⟩
            · have hl2 : decide (4294967296 * (r : Int) + (d0 : Int) < (p : Int)) = false := decide_eq_false (by omega)
              have hQ := hg.done hY hR (by rw [← hp]; omega)
              rw [← HQ2.out] at hQ
              have HH := hid hQ
              clear hR hB hL hr hq hyy b1 b0 bd1 bd0 huy hY hg g1' g2' g3' hQ hp
              go_wp2
              go_meet
              exact ⟨by rw [HH.out], rfl⟩
      case rest =>
        obtain ⟨rfl, rfl⟩ := hcut
        have e11 := HE.out
        clear HH0 g1' g2' g3' hR bd0 bd1 b0 b1 hyy huy hY
        go_wp2
        go_ret2
        refine ⟨⟨IntKind.u64.wrap (IntKind.u64.wrap ((Q : Int) * 4294967296) + Q2), ?_⟩, Kept.refl _ _⟩
        rw [← HF.out]
        rfl

theorem rem64 (hi lo m : Nat) (hm : m = prime61 ∨ m = order61) (h1 : lo < 18446744073709551616) (w : World) :
    Calls Try.prog 65 #[.int .u64 hi, .int .u64 lo, .int .u64 m] w fun e w' => e = .returned (.int .u64 ((hi * 18446744073709551616 + lo) % m : Nat)) ∧ Kept None w w' := by
  have mp : 0 < m := by rcases hm with h | h <;> rw [h] <;> decide
  have hd := fun w => div64 (hi % m) lo m hm (Nat.mod_lt _ mp) h1 w
  rw [rem_high] at hd
  obtain ⟨R, hR⟩ : ∃ R, R = (hi * 18446744073709551616 + lo) % m := ⟨_, rfl⟩
  simp only [← hR] at hd ⊢
  rw [Int.natCast_emod] at hd
  have HD := hid hd
  have m0 : ¬ m = 0 := by omega
  have hz : ((m : Int) == 0) = false := by simp only [beq_eq_false_iff_ne, ne_eq]; omega
  have t1 : (hi : Int).tmod m = (hi : Int) % m := Int.tmod_eq_emod_of_nonneg (by omega)
  clear hd hR hm h1 mp
  go_enter Try.func65, Try.ntmps65
  go_wp2_with fail
  refine (HD.out _).mono ?_
  rintro e w1 ⟨⟨q, rfl⟩, k1⟩
  go_wp2
  go_ret
  exact ⟨rfl, k1⟩
end Bt
end Go.Proofs.Ytdobmebhjmgkmaa
namespace Go.Proofs.Ytdobmebhjmgkmaa
open Go.RowKit Go.Pm
namespace Fd
theorem unfoldMod (m : Nat) : Ref.modOf m = if m = order61 then order61 else prime61 := rfl
theorem modulus (m : Nat) (w : World) : Calls Try.prog 66 #[.int .u64 m] w fun e w' => e = .returned (.int .u64 (Ref.modOf m : Nat)) ∧ w = w' := by
  by_cases h : m = order61
  · have e1 : Ref.modOf m = order61 := if_pos h
    rw [e1, h]
    go_enter Try.func66, Try.ntmps66
    go_wp2
    go_ret
    exact ⟨rfl, rfl⟩
  · have e1 : Ref.modOf m = prime61 := if_neg h
    rw [e1]
    have h2 : ((m : Int) == 2305843009213693950) = false := by
      simp only [beq_eq_false_iff_ne, ne_eq]
      intro e
      exact h (by unfold order61; omega)
    go_enter Try.func66, Try.ntmps66
    go_wp2
    go_ret
    exact ⟨rfl, rfl⟩

theorem mod_or (m : Nat) : Ref.modOf m = prime61 ∨ Ref.modOf m = order61 := by unfold Ref.modOf; split <;> simp
theorem mul (a b m : Nat) (w : World) (ha : a < 18446744073709551616) (hb : b < 18446744073709551616) : Calls Try.prog 52 #[.int .u64 a, .int .u64 b, .int .u64 m] w fun e w' => e = .returned (.int .u64 (a * b % Ref.modOf m : Nat)) ∧ Kept None w w' := by
  have hmul := fun w => Bt.mul64 a b ha hb w
  have hrem := fun w => Bt.rem64 (a * b / 18446744073709551616) (a * b % 18446744073709551616) (Ref.modOf m) (mod_or m) (Nat.mod_lt _ (by decide)) w
  rw [halves] at hrem
  have hmod := modulus m
  obtain ⟨M, hM⟩ : ∃ M, M = Ref.modOf m := ⟨_, rfl⟩
  obtain ⟨h, hh⟩ : ∃ h, h = a * b / 18446744073709551616 := ⟨_, rfl⟩
  obtain ⟨l, hl⟩ : ∃ l, l = a * b % 18446744073709551616 := ⟨_, rfl⟩
  obtain ⟨r, hr⟩ : ∃ r, r = a * b % M := ⟨_, rfl⟩
  simp only [← hM, ← hh, ← hl, ← hr] at hmul hrem hmod ⊢
  have HU := hid hmul
  have HR := hid hrem
  have HM := hid hmod
  clear hmul hrem hmod hM hh hl hr ha hb
  go_enter Try.func52, Try.ntmps52
  go_wp2_with fail
  refine (HU.out _).mono ?_
  rintro e w1 ⟨rfl, rfl⟩
  go_wp2_with fail
  refine (HM.out _).mono ?_
  rintro e w1 ⟨rfl, rfl⟩
  go_wp2_with fail
  refine (HR.out _).mono ?_
  rintro e w2 ⟨rfl, k2⟩
  go_wp2
  go_ret
  exact ⟨rfl, k2⟩

set_option maxHeartbeats 1000000 in
theorem pow (a n m : Nat) (w : World) (ha : a < 18446744073709551616) : Calls Try.prog 53 #[.int .u64 a, .int .u64 n, .int .u64 m] w fun e w' => e = .returned (.int .u64 (powm (Ref.modOf m) a n : Nat)) ∧ Kept None w w' := by
  have m0 := Ref.modOf_pos m
  have m1 := Ref.modOf_le m
  have m2 : 1 < Ref.modOf m := by rcases mod_or m with h | h <;> rw [h] <;> decide
  have hmul := fun a b => mul a b m
  obtain ⟨M, hM⟩ : ∃ M, M = Ref.modOf m := ⟨_, rfl⟩
  simp only [← hM] at m0 m1 m2 hmul ⊢
  have HU := hid hmul
  have HB := hid (And.intro m0 (And.intro m1 (And.intro m2 ha)))
  clear hmul m1 ha hM
  go_enter Try.func53, Try.ntmps53
  go_wp2
  go_loopw [0, 1, 7] (fun x y z wr => ∃ a' b' o : Nat, x = .int .u64 a' ∧ y = .int .u64 b' ∧ z = .int .u64 o ∧ o < M ∧ Hid (a' < 18446744073709551616) ∧ o * powm M a' b' % M = powm M a n ∧ Kept None w wr) (fun _ y _ _ => (intOf y).toNat)
  case atStart =>
    refine ⟨a, n, 1, rfl, rfl, rfl, m2, hid HB.out.2.2.2, ?_, Kept.refl _ _⟩
    rw [Nat.one_mul, Nat.mod_eq_of_lt (powm_lt M a n m0)]
  case round =>
    obtain ⟨x, y, o, rfl, rfl, rfl, ho, hx, he, hk⟩ := hrel
    have hx2 := hid (show x * x % M < 18446744073709551616 by have := Nat.mod_lt (x * x) m0; have := HB.out.2.1; omega)
    have ho2 := hid (show o < 18446744073709551616 by have := HB.out.2.1; omega)
    by_cases hy : 0 < y
    · have hand := Ref.and_one y
      rcases Nat.mod_two_eq_zero_or_one y with hp | hp
      · rw [hp] at hand
        have HE := hid ((pow_even M o x y hp).trans he)
        clear he hp
        go_wp2_with fail
        refine (HU.out x x _ hx.out hx.out).mono ?_
        rintro e w2 ⟨rfl, k2⟩
        have hk2 := hk.then k2 (fun _ _ h => h)
        go_wp2
        go_roundw
        case rel => exact ⟨x * x % M, y / 2, o, rfl, by simp, rfl, ho, hx2, HE.out, hk2⟩
        case measure => simp [intOf]; omega
      · rw [hp] at hand
        have HE := hid ((pow_odd M o x y hp).trans he)
        clear he hp
        go_wp2_with fail
        refine (HU.out o x _ ho2.out hx.out).mono ?_
        rintro e w2 ⟨rfl, k2⟩
        have hk2 := hk.then k2 (fun _ _ h => h)
        go_wp2_with fail
        refine (HU.out x x _ hx.out hx.out).mono ?_
        rintro e w3 ⟨rfl, k3⟩
        have hk3 := hk2.then k3 (fun _ _ h => h)
        go_wp2
        go_roundw
        case rel => exact ⟨x * x % M, y / 2, o * x % M, rfl, by simp, rfl, Nat.mod_lt _ m0, hx2, HE.out, hk3⟩
        case measure => simp [intOf]; omega
    · have hy0 : y = 0 := by omega
      subst hy0
      rw [powm_zero, Nat.mul_mod_mod, Nat.mul_one, Nat.mod_eq_of_lt ho] at he
      have HE := hid he
      clear he
      go_wp2
      go_ret
      rw [← HE.out]
      exact ⟨rfl, hk⟩
end Fd
end Go.Proofs.Ytdobmebhjmgkmaa
namespace Go.Proofs.Ytdobmebhjmgkmaa
open Go.RowKit Go.Pm
namespace Sg
theorem fits_lt (n : Nat) (h1 : 1 ≤ n) : ∀ z, z = n → decide ((z : Int) < 2305843009213693951) = fitsN n := by
  rintro z rfl
  unfold fitsN prime61
  rw [decide_eq_true h1, Bool.true_and, decide_eq_decide]
  omega
set_option maxRecDepth 100000 in
set_option maxHeartbeats 400000 in
theorem fits (n : Nat) (w : World) : Calls Try.prog 50 #[.int .u64 n] w fun e w' => e = .returned (.bool (fitsN n)) ∧ w = w' := by
  go_enter Try.func50, Try.ntmps50
  by_cases h1 : 1 ≤ n
  · have h2 := fits_lt n h1
    go_wp2
    go_ret
    exact ⟨rfl, rfl⟩
  · have e1 : fitsN n = false := by unfold fitsN; simp; omega
    rw [e1]
    clear e1
    go_wp2
    go_ret
    exact ⟨rfl, rfl⟩

theorem box_cell (w : World) (h : List UInt8) (t : TypeId) (i : Nat) (hi : i < h.length) : (w.alloc (.cells (h.map u8v).toArray t)).cell? ⟨w.heap.size, i, none⟩ = some (.int .u8 (bAt h i)) := by
  rw [World.cell?_alloc_new]
  simp [u8v, bAt, List.getD, List.getElem?_eq_getElem hi]
set_option maxRecDepth 100000 in
set_option maxHeartbeats 1000000 in
theorem number (h : List UInt8) (hl : h.length = 32) (w : World) : Calls Try.prog 62 #[hashV h] w fun e w' => e = .returned (.int .u64 (numB h : Nat)) ∧ Kept None w w' := by
  have hc := fun i (hi : i < 8) => box_cell w h 83 i (by omega)
  have k1 : Kept None w (w.alloc (.cells (h.map u8v).toArray 83)) := (Kept.refl _ _).alloc _
  have HC := hid hc
  have HE := hid (num_end h)
  clear hc
  go_enter Try.func62, Try.ntmps62
  go_wp2_with fail
  go_loop [3, 8] (fun x i => ∃ k : Nat, k ≤ 8 ∧ i = .int .i64 k ∧ x = .int .u64 (leV (h.take k))) (fun _ i => 8 - (intOf i).toNat)
  case atStart => exact ⟨0, Nat.zero_le _, rfl, by rw [leV_zero]⟩
  case round =>
    obtain ⟨k, hk, rfl, rfl⟩ := hrel
    by_cases hlt : k < 8
    · have hc' := HC.out k hlt
      have c0 := bAt_ge h k
      have c1 := bAt_lt h k
      have HS := hid (word_step h k hlt)
      generalize bAt h k = c at *
      go_wp2
      go_round
      case rel => exact ⟨k + 1, by omega, by go_num, by rw [HS.out]⟩
      case measure => simp [intOf]; omega
    · obtain rfl : k = 8 := by omega
      have g0 := leV_ge (h.take 8)
      go_wp2
      go_ret
      exact ⟨by rw [HE.out]; rfl, k1⟩

set_option maxRecDepth 100000 in
set_option maxHeartbeats 1000000 in
theorem challenge (r y : Nat) (v : Value) (lo hi : Nat) (m : List UInt8) (w : World) (hr : r < 18446744073709551616) (hy : y < 18446744073709551616) (hv : Bs w lo hi v m) (hl : m.length ≤ 549755813888) :
    Calls Try.prog 51 #[.int .u64 r, .int .u64 y, v] w fun e w' => e = .returned (.int .u64 (chN r y m : Nat)) ∧ Kept None w w' := by
  have ht := fun v lo hi lo' hi' w hv => Sp.tag 101 v lo hi lo' hi' [leB r, leB y, m] w (by decide) (by decide) hv (by simp) (by simp [total, leB_length]; omega)
  have hn := fun w => number (sumB (textB 101 [leB r, leB y, m])) (sumB_len _) w
  rw [show numB (sumB (textB 101 [leB r, leB y, m])) = chN r y m from rfl] at hn
  obtain ⟨h, hh⟩ : ∃ h, h = sumB (textB 101 [leB r, leB y, m]) := ⟨_, rfl⟩
  obtain ⟨c, hc⟩ : ∃ c, c = chN r y m := ⟨_, rfl⟩
  rw [← hh] at ht hn
  rw [← hc] at hn ⊢
  have HT := hid ht
  have HN := hid hn
  clear ht hn hh hc
  obtain ⟨a, cap, rfl, g1, g2, g3⟩ := hv.shape
  clear g3
  go_enter Try.func51, Try.ntmps51
  go_wp2_with fail
  refine (Bin.num r _ (by omega) (by omega)).mono ?_
  rintro e w1 ⟨v1, rfl, k1, b1⟩
  have b1' := b1.bs (Nat.le_refl _)
  obtain ⟨a1, c1, rfl⟩ := b1.form
  rw [leB_length] at b1' ⊢
  clear b1
  go_wp2_with fail
  refine (Bin.num y _ (by omega) (by omega)).mono ?_
  rintro e w2 ⟨v2, rfl, k2, b2⟩
  have b2' := b2.bs (Nat.le_refl _)
  obtain ⟨a2, c2, rfl⟩ := b2.form
  rw [leB_length] at b2' ⊢
  have b1'' := b1'.kept k2 (fun _ _ _ h => h)
  have hv2 := (hv.kept k1 (fun _ _ _ h => h)).kept k2 (fun _ _ _ h => h)
  have k02 := k1.trans k2
  clear b2 hv b1' k1 k2
  go_wp2_with fail
  have hbs := Bss.new w2 #[.slice a1 8 c1, .slice a2 8 c2, .slice a m.length cap] 22 [leB r, leB y, m] 3 rfl (by decide) ⟨b1''.all, b2'.all, hv2.all, trivial⟩
  refine (HT.out _ _ _ _ _ _ hbs).mono ?_
  rintro e w3 ⟨rfl, k3⟩
  have k03 := (k02.alloc _).then k3 (fun _ _ h => h)
  clear hbs k02 k3 b1'' b2' hv2
  go_wp2_with fail
  refine (HN.out _).mono ?_
  rintro e w4 ⟨rfl, k4⟩
  have k04 := k03.then k4 (fun _ _ h => h)
  go_wp2
  go_ret
  exact ⟨rfl, k04⟩

theorem fits_word {n : Nat} (h : fitsN n = true) : n < 18446744073709551616 := by
  unfold fitsN at h
  rw [Bool.and_eq_true] at h
  exact Nat.lt_trans (of_decide_eq_true h.2) (by decide)
theorem order_ge (s : Nat) (b : Bool) (h : decide (order61 ≤ s) = b) : ∀ z, z = s → decide ((2305843009213693950 : Int) ≤ (z : Int)) = b := by
  rintro z rfl
  rw [← h, decide_eq_decide]
  unfold order61
  omega
theorem nat_eq (a b : Nat) : ((a : Int) == (b : Int)) = (a == b) := by
  rw [Bool.eq_iff_iff, beq_iff_eq, beq_iff_eq]
  omega

set_option maxRecDepth 100000 in
set_option maxHeartbeats 2000000 in
theorem check (y r s : Nat) (v : Value) (lo hi : Nat) (m : List UInt8) (w : World) (hv : Bs w lo hi v m) (hl : m.length ≤ 549755813888) :
    Calls Try.prog 39 #[.int .u64 y, v, sigV r s] w fun e w' => e = .returned (.bool (checkN y m r s)) ∧ Kept None w w' := by
  have hfy := fun w => fits y w
  have hfr := fun w => fits r w
  have HV := hid hv
  obtain ⟨a, cap, rfl, g1, g2, g3⟩ := hv.shape
  clear hv g3
  cases hy : fitsN y
  · rw [check_y m r s hy]
    rw [hy] at hfy
    have HY := hid hfy
    clear hfy hfr hy
    go_enter Try.func39, Try.ntmps39
    go_wp2_with fail
    refine (HY.out _).mono ?_
    rintro e w1 ⟨rfl, rfl⟩
    go_wp2
    go_ret
    exact ⟨rfl, (Kept.refl _ _).alloc _⟩
  · cases hr : fitsN r
    · rw [check_r y m s hr]
      rw [hy] at hfy
      rw [hr] at hfr
      have HY := hid (And.intro hfy hfr)
      clear hfy hfr hy hr
      go_enter Try.func39, Try.ntmps39
      go_wp2_with fail
      refine (HY.out.1 _).mono ?_
      rintro e w1 ⟨rfl, rfl⟩
      go_wp2_with fail
      refine (HY.out.2 _).mono ?_
      rintro e w1 ⟨rfl, rfl⟩
      go_wp2
      go_ret
      exact ⟨rfl, (Kept.refl _ _).alloc _⟩
    · by_cases hs : order61 ≤ s
      · rw [check_s y m r hs]
        rw [hy] at hfy
        rw [hr] at hfr
        have HY := hid (And.intro hfy hfr)
        have hb := order_ge s true (decide_eq_true hs)
        clear hfy hfr hy hr hs
        go_enter Try.func39, Try.ntmps39
        go_wp2_with fail
        refine (HY.out.1 _).mono ?_
        rintro e w1 ⟨rfl, rfl⟩
        go_wp2_with fail
        refine (HY.out.2 _).mono ?_
        rintro e w1 ⟨rfl, rfl⟩
        go_wp2
        go_ret
        exact ⟨rfl, (Kept.refl _ _).alloc _⟩
      · have hb := order_ge s false (decide_eq_false hs)
        have hres : checkN y m r s = (powm prime61 7 s == r * powm prime61 y (chN r y m) % prime61) := by
          unfold checkN
          rw [hy, hr, decide_eq_true (by omega : s < order61)]
          rfl
        have hry : r < 18446744073709551616 ∧ y < 18446744073709551616 := ⟨fits_word hr, fits_word hy⟩
        have hc := fun w lo hi v hv => challenge r y v lo hi m w hry.1 hry.2 hv hl
        have hp := fun w => Fd.pow y (chN r y m) 2305843009213693951 w hry.2
        have hm := fun w => Fd.mul r (powm prime61 y (chN r y m)) 2305843009213693951 w hry.1 (Nat.lt_trans (powm_lt _ _ _ (by decide)) (by decide))
        have h7 := fun w => Fd.pow 7 s 2305843009213693951 w (by decide)
        rw [show Ref.modOf 2305843009213693951 = prime61 by decide] at hp hm h7
        rw [hres]
        rw [hy] at hfy
        rw [hr] at hfr
        obtain ⟨c, hcc⟩ : ∃ c, c = chN r y m := ⟨_, rfl⟩
        rw [← hcc] at hc hp hm ⊢
        obtain ⟨p, hpp⟩ : ∃ p, p = powm prime61 y c := ⟨_, rfl⟩
        rw [← hpp] at hp hm ⊢
        obtain ⟨q, hqq⟩ : ∃ q, q = r * p % prime61 := ⟨_, rfl⟩
        rw [← hqq] at hm ⊢
        obtain ⟨t, htt⟩ : ∃ t, t = powm prime61 7 s := ⟨_, rfl⟩
        rw [← htt] at h7 ⊢
        have HY := hid (And.intro hfy hfr)
        have HP := hid (And.intro hc (And.intro hp (And.intro hm h7)))
        clear hfy hfr hy hr hs hres hry hc hp hm h7 hcc hpp hqq htt
        go_enter Try.func39, Try.ntmps39
        go_wp2_with fail
        refine (HY.out.1 _).mono ?_
        rintro e w1 ⟨rfl, rfl⟩
        go_wp2_with fail
        refine (HY.out.2 _).mono ?_
        rintro e w1 ⟨rfl, rfl⟩
        have hB := Blk.new w #[.int .u64 (r : Int), .int .u64 (s : Int)] 25
        have k0 : Kept None w (w.alloc (.cells #[.int .u64 (r : Int), .int .u64 (s : Int)] 25)) := (Kept.refl _ _).alloc _
        have hv0 := HV.out.kept k0 (fun _ _ _ h => h)
        clear HV
        go_wp2_with fail
        refine (HP.out.1 _ _ _ _ hv0).mono ?_
        rintro e w1 ⟨rfl, k1⟩
        have hB1 := hB.kept k1 (fun h => h)
        have k01 := k0.trans k1
        clear hB k0 hv0 k1
        go_wp2_with fail
        have hc0 : ∀ W, Kept None w1 W → W.cell? ⟨w.heap.size, 0, none⟩ = some (.int .u64 (r : Int)) := fun W hW => (hB1.kept hW (fun h => h)).cell 0
        have hs : Steady [Fct.val 4 (.int .u64 (p : Int)), Fct.val 5 (.int .u64 (q : Int))] := Steady.val (Steady.val Steady.nil)
        refine wp_region_kn w1 _ hs (Kept.refl _ _) (by kernel_rfl) (by kernel_rfl) (by kernel_rfl) ?_
        iterate 4 (refine wpPar_pure rfl (by rfl) _ (fun W hW => by
            have c0 := hc0 W hW
            go_simp
            exact rfl) ?_; simp only [Act.put, List.setIfInBounds_toArray, List.set_cons_zero, List.set_cons_succ])
        refine wpKn_adds hs rfl (by rfl) (fun W hW hd => ?_) (fun v4 hv => ?_)
        · unfold Gives
          go_simp
          refine gives_call (HP.out.2.1 W) ?_
          rintro e w3 ⟨rfl, k3⟩
          exact ⟨_, rfl, k3, rfl, trivial⟩
        obtain rfl : v4 = .int .u64 (p : Int) := hv
        simp only [Act.put, List.setIfInBounds_toArray, List.set_cons_zero, List.set_cons_succ]
        refine wpKn_adds hs rfl (by rfl) (fun W hW hd => ?_) (fun v5 hv => ?_)
        · unfold Gives
          go_simp
          refine gives_call (HP.out.2.2.1 W) ?_
          rintro e w3 ⟨rfl, k3⟩
          exact ⟨_, rfl, k3, rfl, trivial⟩
        obtain rfl : v5 = .int .u64 (q : Int) := hv
        simp only [Act.put, List.setIfInBounds_toArray, List.set_cons_zero, List.set_cons_succ]
        iterate 1 (refine wpPar_pure rfl (by rfl) _ (fun W hW => by
            go_simp
            exact rfl) ?_; simp only [Act.put, List.setIfInBounds_toArray, List.set_cons_zero, List.set_cons_succ])
        refine wpPar_nil (fun W hW _ => ?_)
        have hB2 := hB1.kept hW (fun h => h)
        have k02 := k01.then hW (fun _ _ h => h)
        have c1 : W.cell? ⟨w.heap.size, 1, none⟩ = some (.int .u64 (s : Int)) := hB2.cell 1
        clear hc0 hs
        go_wp2_with fail
        refine (HP.out.2.2.2 _).mono ?_
        rintro e w3 ⟨rfl, k3⟩
        have k03 := k02.then k3 (fun _ _ h => h)
        have he := nat_eq t q
        go_wp2
        go_ret
        exact ⟨rfl, k03⟩
end Sg
end Go.Proofs.Ytdobmebhjmgkmaa
namespace Go.Proofs.Ytdobmebhjmgkmaa
open Go.RowKit Go.Pm
namespace Ref
theorem prime_ge (s : Nat) (b : Bool) (h : decide (prime61 ≤ s) = b) : ∀ z, z = s → decide ((2305843009213693951 : Int) ≤ (z : Int)) = b := by
  rintro z rfl
  rw [← h, decide_eq_decide]
  unfold prime61
  omega
theorem fits_under {n : Nat} (h : n < 1) : fitsN n = false := by
  have : n = 0 := by omega
  rw [this]
  exact fits_none

set_option maxRecDepth 100000 in
set_option maxHeartbeats 2000000 in
theorem check (y r s : Nat) (v : Value) (lo hi : Nat) (m : List UInt8) (w : World) (hv : Bs w lo hi v m) (hl : m.length ≤ 549755813888) :
    Calls Try.prog 41 #[.int .u64 y, v, Sg.sigV r s] w fun e w' => e = .returned (.bool (checkN y m r s)) ∧ Kept None w w' := by
  have HV := hid hv
  obtain ⟨a, cap, rfl, g1, g2, g3⟩ := hv.shape
  clear hv g3
  by_cases y0 : y < 1
  · rw [check_y m r s (fits_under y0)]
    go_enter Try.func41, Try.ntmps41
    go_wp2
    go_ret
    exact ⟨rfl, (Kept.refl _ _).alloc _⟩
  by_cases y1 : prime61 ≤ y
  · rw [check_y m r s (fits_great y1)]
    have hb1 := prime_ge y true (decide_eq_true y1)
    clear y1
    go_enter Try.func41, Try.ntmps41
    go_wp2
    go_ret
    exact ⟨rfl, (Kept.refl _ _).alloc _⟩
  have hb1 := prime_ge y false (decide_eq_false y1)
  by_cases r0 : r < 1
  · rw [check_r y m s (fits_under r0)]
    clear y1
    go_enter Try.func41, Try.ntmps41
    go_wp2
    go_ret
    exact ⟨rfl, (Kept.refl _ _).alloc _⟩
  by_cases r1 : prime61 ≤ r
  · rw [check_r y m s (fits_great r1)]
    have hb2 := prime_ge r true (decide_eq_true r1)
    clear y1 r1
    go_enter Try.func41, Try.ntmps41
    go_wp2
    go_ret
    exact ⟨rfl, (Kept.refl _ _).alloc _⟩
  have hb2 := prime_ge r false (decide_eq_false r1)
  by_cases s1 : order61 ≤ s
  · rw [check_s y m r s1]
    have hb3 := Sg.order_ge s true (decide_eq_true s1)
    clear y1 r1 s1
    go_enter Try.func41, Try.ntmps41
    go_wp2
    go_ret
    exact ⟨rfl, (Kept.refl _ _).alloc _⟩
  have hb3 := Sg.order_ge s false (decide_eq_false s1)
  have hres : checkN y m r s = (powm prime61 7 s == r * powm prime61 y (chN r y m) % prime61) := by
    unfold checkN fitsN
    rw [decide_eq_true (show 1 ≤ y by omega), decide_eq_true (show y < prime61 by omega), decide_eq_true (show 1 ≤ r by omega), decide_eq_true (show r < prime61 by omega), decide_eq_true (show s < order61 by omega)]
    rfl
  have hc := fun w lo hi v hv => point r y v lo hi m w (Nat.lt_trans (Nat.lt_of_not_le r1) (by decide)) (Nat.lt_trans (Nat.lt_of_not_le y1) (by decide)) hv hl
  have hp := fun w => pow y (chN r y m) 2305843009213693951 w
  have hm := fun w => mul r (powm prime61 y (chN r y m)) 2305843009213693951 w
  have h7 := fun w => pow 7 s 2305843009213693951 w
  rw [show modOf 2305843009213693951 = prime61 by decide] at hp hm h7
  rw [hres]
  obtain ⟨c, hcc⟩ : ∃ c, c = chN r y m := ⟨_, rfl⟩
  rw [← hcc] at hc hp hm ⊢
  obtain ⟨p, hpp⟩ : ∃ p, p = powm prime61 y c := ⟨_, rfl⟩
  rw [← hpp] at hp hm ⊢
  obtain ⟨q, hqq⟩ : ∃ q, q = r * p % prime61 := ⟨_, rfl⟩
  rw [← hqq] at hm ⊢
  obtain ⟨t, htt⟩ : ∃ t, t = powm prime61 7 s := ⟨_, rfl⟩
  rw [← htt] at h7 ⊢
  have HP := hid (And.intro hc (And.intro hp (And.intro hm h7)))
  clear y1 r1 s1 hres hc hp hm h7 hcc hpp hqq htt
  go_enter Try.func41, Try.ntmps41
  have hB := Blk.new w #[.int .u64 (r : Int), .int .u64 (s : Int)] 25
  have k0 : Kept None w (w.alloc (.cells #[.int .u64 (r : Int), .int .u64 (s : Int)] 25)) := (Kept.refl _ _).alloc _
  have hv0 := HV.out.kept k0 (fun _ _ _ h => h)
  clear HV
  go_wp2_with fail
  refine (HP.out.1 _ _ _ _ hv0).mono ?_
  rintro e w1 ⟨rfl, k1⟩
  have hB1 := hB.kept k1 (fun h => h)
  have k01 := k0.trans k1
  clear hB k0 hv0 k1
  go_wp2_with fail
  have hc0 : ∀ W, Kept None w1 W → W.cell? ⟨w.heap.size, 0, none⟩ = some (.int .u64 (r : Int)) := fun W hW => (hB1.kept hW (fun h => h)).cell 0
  have hc1 : ∀ W, Kept None w1 W → W.cell? ⟨w.heap.size, 1, none⟩ = some (.int .u64 (s : Int)) := fun W hW => (hB1.kept hW (fun h => h)).cell 1
  have he := Sg.nat_eq t q
  have hs : Steady [.val 2 (.int .u64 (t : Int)), .val 7 (.int .u64 (p : Int)), .val 8 (.int .u64 (q : Int))] := Steady.val (Steady.val (Steady.val (Steady.nil)))
  refine wp_region_kn w1 _ hs (Kept.refl _ _) (by kernel_rfl) (by kernel_rfl) (by kernel_rfl) ?_
  iterate 2 (refine wpPar_pure rfl (by rfl) _ (fun W hW => by
      have c0 := hc0 W hW
      have c1 := hc1 W hW
      go_simp
      exact rfl) ?_; simp only [Act.put, List.setIfInBounds_toArray, List.set_cons_zero, List.set_cons_succ])
  refine wpKn_adds hs rfl (by rfl) (fun W hW hd => ?_) (fun v2 hv => ?_)
  · unfold Gives
    go_simp
    refine gives_call (HP.out.2.2.2 W) ?_
    rintro e w3 ⟨rfl, k3⟩
    exact ⟨_, rfl, k3, rfl, trivial⟩
  obtain rfl : v2 = .int .u64 (t : Int) := hv
  simp only [Act.put, List.setIfInBounds_toArray, List.set_cons_zero, List.set_cons_succ]
  iterate 4 (refine wpPar_pure rfl (by rfl) _ (fun W hW => by
      have c0 := hc0 W hW
      have c1 := hc1 W hW
      go_simp
      exact rfl) ?_; simp only [Act.put, List.setIfInBounds_toArray, List.set_cons_zero, List.set_cons_succ])
  refine wpKn_adds hs rfl (by rfl) (fun W hW hd => ?_) (fun v7 hv => ?_)
  · unfold Gives
    go_simp
    refine gives_call (HP.out.2.1 W) ?_
    rintro e w3 ⟨rfl, k3⟩
    exact ⟨_, rfl, k3, rfl, trivial⟩
  obtain rfl : v7 = .int .u64 (p : Int) := hv
  simp only [Act.put, List.setIfInBounds_toArray, List.set_cons_zero, List.set_cons_succ]
  refine wpKn_adds hs rfl (by rfl) (fun W hW hd => ?_) (fun v8 hv => ?_)
  · unfold Gives
    go_simp
    refine gives_call (HP.out.2.2.1 W) ?_
    rintro e w3 ⟨rfl, k3⟩
    exact ⟨_, rfl, k3, rfl, trivial⟩
  obtain rfl : v8 = .int .u64 (q : Int) := hv
  simp only [Act.put, List.setIfInBounds_toArray, List.set_cons_zero, List.set_cons_succ]
  iterate 2 (refine wpPar_pure rfl (by rfl) _ (fun W hW => by
      go_simp
      exact rfl) ?_; simp only [Act.put, List.setIfInBounds_toArray, List.set_cons_zero, List.set_cons_succ])
  refine wpPar_nil (fun W hW _ => ?_)
  have k02 := k01.then hW (fun _ _ h => h)
  clear hc0 hc1 hs hB1 k01 hW
  go_wp2
  go_ret
  exact ⟨rfl, k02⟩
end Ref
end Go.Proofs.Ytdobmebhjmgkmaa
namespace Go.Proofs.Ytdobmebhjmgkmaa
open Go.RowKit Go.Pm
namespace RUp
set_option maxRecDepth 100000 in
set_option maxHeartbeats 4000000 in
/-- postmarkref5.Check. -/
theorem check (n : ByteArray) (v c : Int) (k r s y : Nat) (w : World) (hn : n.size ≤ 274877906944) (hk : k < 18446744073709551616) :
    Calls Try.prog 30 #[updV n v k c r s, .int .u64 y] w fun e w' => e = .returned (.bool (checkN y (msgB n v k) r s)) ∧ Kept None w w' := by
  have hs := fun v' lo hi w h => Ref.check y r s v' lo hi (msgB n v k) w h (by rw [msgB_len]; omega)
  have hm := fun w => message n v k w hn hk
  have he := fun w => entry n v c k r s w
  obtain ⟨M, hM⟩ : ∃ M, M = msgB n v k := ⟨_, rfl⟩
  rw [← hM] at hs hm ⊢
  obtain ⟨q, hq⟩ : ∃ q, q = checkN y M r s := ⟨_, rfl⟩
  rw [← hq] at hs ⊢
  have H := hid (And.intro hs (And.intro hm he))
  clear hs hm he hM hq hn hk
  go_enter Try.func30, Try.ntmps30
  go_wp2_with fail
  obtain ⟨w1, hw1⟩ : ∃ w1, w1 = w.alloc (.cells #[.string n, .int .i64 v, .int .u64 (k : Int), .int .i64 c, .int .u64 (r : Int), .int .u64 (s : Int)] 27) := ⟨_, rfl⟩
  have hB := Blk.new w #[.string n, .int .i64 v, .int .u64 (k : Int), .int .i64 c, .int .u64 (r : Int), .int .u64 (s : Int)] 27
  have k0 : Kept None w (w.alloc (.cells #[.string n, .int .i64 v, .int .u64 (k : Int), .int .i64 c, .int .u64 (r : Int), .int .u64 (s : Int)] 27)) := (Kept.refl _ _).alloc _
  rw [← hw1] at hB k0 ⊢
  clear hw1
  have hc0 : ∀ W, Kept None w1 W → W.cell? ⟨w.heap.size, 0, none⟩ = some (.string n) := fun W hW => (hB.kept hW (fun h => h)).cell 0
  have hc1 : ∀ W, Kept None w1 W → W.cell? ⟨w.heap.size, 1, none⟩ = some (.int .i64 v) := fun W hW => (hB.kept hW (fun h => h)).cell 1
  have hc2 : ∀ W, Kept None w1 W → W.cell? ⟨w.heap.size, 2, none⟩ = some (.int .u64 (k : Int)) := fun W hW => (hB.kept hW (fun h => h)).cell 2
  have hc3 : ∀ W, Kept None w1 W → W.cell? ⟨w.heap.size, 3, none⟩ = some (.int .i64 c) := fun W hW => (hB.kept hW (fun h => h)).cell 3
  have hc4 : ∀ W, Kept None w1 W → W.cell? ⟨w.heap.size, 4, none⟩ = some (.int .u64 (r : Int)) := fun W hW => (hB.kept hW (fun h => h)).cell 4
  have hc5 : ∀ W, Kept None w1 W → W.cell? ⟨w.heap.size, 5, none⟩ = some (.int .u64 (s : Int)) := fun W hW => (hB.kept hW (fun h => h)).cell 5
  clear hB
  have hs : Steady [.val 2 (entV n v k), .bytes 3 (M), .val 6 (.bool q) [3]] := Steady.val (Steady.bytes (Steady.val (Steady.nil)))
  refine wp_region_kn w1 _ hs (Kept.refl _ _) (by kernel_rfl) (by kernel_rfl) (by kernel_rfl) ?_
  iterate 2 (refine wpPar_pure rfl (by rfl) _ (fun W hW => by
      have c0 := hc0 W hW
      have c1 := hc1 W hW
      have c2 := hc2 W hW
      have c3 := hc3 W hW
      have c4 := hc4 W hW
      have c5 := hc5 W hW
      go_simp
      exact rfl) ?_; simp only [Act.put, List.setIfInBounds_toArray, List.set_cons_zero, List.set_cons_succ])
  refine wpKn_adds hs rfl (by rfl) (fun W hW hd => ?_) (fun v2 hv => ?_)
  · unfold Gives
    go_simp
    refine gives_call (H.out.2.2 W) ?_
    rintro e w3 ⟨rfl, k3⟩
    exact ⟨_, rfl, k3, rfl, trivial⟩
  obtain rfl : v2 = entV n v k := hv
  simp only [Act.put, List.setIfInBounds_toArray, List.set_cons_zero, List.set_cons_succ]
  refine wpKn_adds hs rfl (by rfl) (fun W hW hd => ?_) (fun v3 hv => ?_)
  · unfold Gives
    go_simp
    refine gives_call (H.out.2.1 W) ?_
    rintro e w3 ⟨u, rfl, k3, b3⟩
    exact ⟨_, rfl, k3, b3.form, _, _, b3.bs (Nat.le_refl _)⟩
  obtain ⟨a3, c3, rfl⟩ : ∃ a c, v3 = .slice a M.length c := hv
  simp only [Act.put, List.setIfInBounds_toArray, List.set_cons_zero, List.set_cons_succ]
  iterate 2 (refine wpPar_pure rfl (by rfl) _ (fun W hW => by
      have c0 := hc0 W hW
      have c1 := hc1 W hW
      have c2 := hc2 W hW
      have c3 := hc3 W hW
      have c4 := hc4 W hW
      have c5 := hc5 W hW
      go_simp
      exact rfl) ?_; simp only [Act.put, List.setIfInBounds_toArray, List.set_cons_zero, List.set_cons_succ])
  refine wpKn_adds hs rfl (by rfl) (fun W hW hd => ?_) (fun v6 hv => ?_)
  · unfold Gives
    obtain ⟨lo1, hi1, h1⟩ : ∃ lo hi, Bs W lo hi (.slice a3 M.length c3) M := hd 3 (List.Mem.head _)
    go_simp
    refine gives_call (H.out.1 _ _ _ W h1) ?_
    rintro e w3 ⟨rfl, k3⟩
    exact ⟨_, rfl, k3, rfl, trivial⟩
  obtain rfl : v6 = .bool q := hv
  simp only [Act.put, List.setIfInBounds_toArray, List.set_cons_zero, List.set_cons_succ]
  iterate 1 (refine wpPar_pure rfl (by rfl) _ (fun W hW => by
      go_simp
      exact rfl) ?_; simp only [Act.put, List.setIfInBounds_toArray, List.set_cons_zero, List.set_cons_succ])
  refine wpPar_nil (fun W hW hG => ?_)
  have k01 := k0.then hW (fun _ _ h => h)
  clear hG hc0 hc1 hc2 hc3 hc4 hc5 hs k0 hW
  go_wp2
  go_ret
  exact ⟨rfl, k01⟩

end RUp
end Go.Proofs.Ytdobmebhjmgkmaa
