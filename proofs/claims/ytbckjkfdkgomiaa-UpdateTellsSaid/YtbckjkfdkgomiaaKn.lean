/- Regions that draw their order and hold calls: what each operation that adds leaves known: a value, bytes, a list of bytes, a constant's row. Program-independent. -/
import Derived.Test.YtbckjkfdkgomiaaPar
namespace Go.Pm
open Go Go.RowKit

/-- All that was there reads as it did: only the run-time's marks may have turned. -/
structure Soft (w w' : World) : Prop where
  size : w.heap.size ≤ w'.heap.size
  cells : ∀ k, k < w.heap.size → ∀ cs e fr, w.heap[k]? = some (.cells cs e fr) → ∃ fr', w'.heap[k]? = some (.cells cs e fr')
theorem Kept.soft {w w' : World} (h : Kept None w w') : Soft w w' := ⟨h.size, fun k hk cs e fr hc => ⟨fr, by rw [h.block k hk (fun h => h)]; exact hc⟩⟩
theorem Soft.cell {w w' : World} (h : Soft w w') {a : Addr} {v : Value} (hc : w.cell? a = some v) : w'.cell? a = some v := by
  have hlt := block_lt_of_cell hc
  unfold World.cell? at hc ⊢
  split at hc
  · rename_i c e fr he
    obtain ⟨fr', h'⟩ := h.cells _ hlt _ _ _ he
    rw [h']
    exact hc
  · cases hc
theorem Vs.soft {w w' : World} {lo hi : Nat} {v : Value} {xs : List Value} (h : Vs w lo hi v xs) (hs : Soft w w') : Vs w' lo hi v xs := by
  obtain ⟨a, cap, hv, h1, h2, h3, h4⟩ := h
  exact ⟨a, cap, hv, h1, h2, h3, fun ad had i x hx => ⟨(h4 ad had i x hx).1, (h4 ad had i x hx).2.1, hs.cell (h4 ad had i x hx).2.2⟩⟩
theorem Bs.soft {w w' : World} {lo hi : Nat} {v : Value} {l : List UInt8} (h : Bs w lo hi v l) (hs : Soft w w') : Bs w' lo hi v l := Vs.soft h hs
theorem Bss.soft {w w' : World} {lo hi lo' hi' : Nat} {v : Value} {ls : List (List UInt8)} (h : Bss w lo hi lo' hi' v ls) (hs : Soft w w') : Bss w' lo hi lo' hi' v ls := by
  obtain ⟨xs, hv, hl, hx⟩ := h
  exact ⟨xs, hv.soft hs, hl, fun i x l a b => (hx i x l a b).soft hs⟩

theorem heap_freeze (w : World) (a : Addr) (n k : Nat) : (w.freeze a n).heap[k]? = w.heap[k]? ∨ k = a.block ∧ ∀ cs e fr, w.heap[k]? = some (.cells cs e fr) → ∃ fr', (w.freeze a n).heap[k]? = some (.cells cs e fr') := by
  unfold World.freeze
  split
  · exact .inl rfl
  · by_cases h : a.block = k
    · refine .inr ⟨h.symm, fun cs e fr hc => ?_⟩
      simp only [Array.getElem?_modify, h, if_true, hc, Option.map_some]
      exact ⟨_, rfl⟩
    · left
      simp only [Array.getElem?_modify, h, if_false]
theorem size_freeze (w : World) (a : Addr) (n : Nat) : (w.freeze a n).heap.size = w.heap.size := by
  unfold World.freeze
  split
  · rfl
  · simp
theorem soft_freeze (w : World) (a : Addr) (n : Nat) : Soft w (w.freeze a n) := by
  refine ⟨by rw [size_freeze]; exact Nat.le_refl _, fun k _ cs e fr hc => ?_⟩
  rcases heap_freeze w a n k with h | ⟨_, h⟩
  · exact ⟨fr, by rw [h]; exact hc⟩
  · exact h cs e fr hc
theorem Kept.freeze {S : Nat → Prop} {w0 w : World} (h : Kept S w0 w) (a : Addr) (n : Nat) (ha : w0.heap.size ≤ a.block) : Kept S w0 (w.freeze a n) := by
  refine ⟨?_, ?_, ?_, by rw [size_freeze]; exact h.size, fun k hk hs => ?_⟩
  · rw [show (w.freeze a n).os = w.os by unfold World.freeze; split <;> rfl]; exact h.os
  · rw [show (w.freeze a n).tape = w.tape by unfold World.freeze; split <;> rfl]; exact h.tape
  · rw [show (w.freeze a n).output = w.output by unfold World.freeze; split <;> rfl]; exact h.output
  · rcases heap_freeze w a n k with h' | ⟨e, _⟩
    · rw [h']; exact h.block k hk hs
    · omega

/-- The row of a constant's bytes, in a block from lo on. -/
def Raw (e : TypeId) (w : World) (lo : Nat) (v : Value) (l : List UInt8) : Prop := ∃ b fr, v = .slice (some ⟨b, 0, none⟩) l.length l.length ∧ lo ≤ b ∧ w.heap[b]? = some (.cells (l.map u8v).toArray e fr)
theorem Raw.soft {e : TypeId} {w w' : World} {lo : Nat} {v : Value} {l : List UInt8} (h : Raw e w lo v l) (hs : Soft w w') : Raw e w' lo v l := by
  obtain ⟨b, fr, hv, hb, hc⟩ := h
  obtain ⟨fr', h'⟩ := hs.cells b (lt_of_block hc) _ _ _ hc
  exact ⟨b, fr', hv, hb, h'⟩
theorem Raw.bs {e : TypeId} {w : World} {lo : Nat} {v : Value} {l : List UInt8} (h : Raw e w lo v l) (hl : l.length ≤ maxLen) : Bs w lo w.heap.size v l := by
  obtain ⟨b, fr, hv, hb, hc⟩ := h
  refine ⟨some ⟨b, 0, none⟩, l.length, by rw [hv, List.length_map], by rw [List.length_map]; exact Nat.le_refl _, hl, (fun h => by cases h), fun ad had i x hx => ?_⟩
  simp only [Option.some.injEq] at had
  subst had
  refine ⟨hb, lt_of_block hc, ?_⟩
  rw [Addr.add_lit, Nat.zero_add]
  unfold World.cell?
  simp only [hc]
  simpa using hx
theorem Raw.new (e : TypeId) (w : World) (lo : Nat) (l : List UInt8) (cs : Array Value) (hc : cs = (l.map u8v).toArray) (hb : lo ≤ w.heap.size) : Raw e (w.alloc (.cells cs e)) lo (.slice (some ⟨w.heap.size, 0, none⟩) l.length l.length) l :=
  ⟨w.heap.size, (0, 0), rfl, hb, by rw [heap_alloc_new, hc]⟩
/-- '[]byte("..")', wherever its row lies. -/
theorem run_convert_raw {P : Program} {w : World} {t e : TypeId} {lo : Nat} {v : Value} {l : List UInt8} (h : Raw e w lo v l) (ht : P.underlying t = some (.slice e)) (he : P.underlying e = some (.int .u8)) :
    ∃ a : Addr, lo ≤ a.block ∧ (convert t t v).run P w = .ok v (w.freeze a 1) := by
  obtain ⟨b, fr, rfl, hb, hc⟩ := h
  have hsh : w.shape? b = some (e, (l.map u8v).toArray.size) := by
    unfold World.shape?
    rw [hc]
  refine ⟨⟨b, (l.map u8v).toArray.size, none⟩, hb, ?_⟩
  simp [convert, run_underlying ht, run_underlying he, markStringish, hsh]

/-! ### What is said upfront of an operation -/
/-- It tells v. -/
abbrev Fct.val (k : Nat) (v : Value) (uses : List Nat := []) : Fct := { k := k, uses := uses, pure := fun u => u = v }
/-- It tells the bytes l. -/
abbrev Fct.bytes (k : Nat) (l : List UInt8) (uses : List Nat := []) : Fct := { k := k, uses := uses, pure := fun u => ∃ a c, u = .slice a l.length c, fact := fun u W => ∃ lo hi, Bs W lo hi u l }
/-- It tells lists of bytes. -/
abbrev Fct.lists (k : Nat) (ls : List (List UInt8)) (uses : List Nat := []) : Fct := { k := k, uses := uses, pure := fun u => ∃ a c, u = .slice a ls.length c, fact := fun u W => ∃ lo hi lo' hi', Bss W lo hi lo' hi' u ls }
/-- It lays a constant's row. -/
abbrev Fct.raw (e : TypeId) (k : Nat) (lo : Nat) (l : List UInt8) (uses : List Nat := []) : Fct := { k := k, uses := uses, pure := fun u => ∃ a c, u = .slice a l.length c, fact := fun u W => Raw e W lo u l }
/-- It tells bytes of the call's own. -/
abbrev Fct.own (e : TypeId) (k : Nat) (lo : Nat) (l : List UInt8) (uses : List Nat := []) (spends : List Nat := []) : Fct := { k := k, uses := uses, spends := spends, pure := fun u => ∃ a c, u = .slice a l.length c, fact := fun u W => Bo e W lo u l }

/-- Each may be so; none is undone by what makes new things. -/
def Steady (l : List Fct) : Prop := ∀ f ∈ l, (∃ v, f.pure v) ∧ ∀ u W W', Kept None W W' → f.fact u W → f.fact u W'
/-- Nor by the run-time's marks. -/
def Tame (l : List Fct) : Prop := ∀ f ∈ l, (∃ v, f.pure v) ∧ ∀ u W W', Soft W W' → f.fact u W → f.fact u W'
theorem Tame.steady {l : List Fct} (h : Tame l) : Steady l := fun f hf => ⟨(h f hf).1, fun u _ _ hk => (h f hf).2 u _ _ hk.soft⟩
theorem Steady.pure {l : List Fct} (h : Steady l) : ∀ f ∈ l, ∃ v, f.pure v := fun f hf => (h f hf).1
theorem Steady.nil : Steady [] := fun f hf => by cases hf
theorem Steady.cons {f : Fct} {l : List Fct} (h1 : ∃ v, f.pure v) (h2 : ∀ u W W', Kept None W W' → f.fact u W → f.fact u W') (h : Steady l) : Steady (f :: l) := fun g hg => by
  rcases List.mem_cons.1 hg with rfl | hg
  · exact ⟨h1, h2⟩
  · exact h g hg
theorem Tame.nil : Tame [] := fun f hf => by cases hf
theorem Tame.cons {f : Fct} {l : List Fct} (h1 : ∃ v, f.pure v) (h2 : ∀ u W W', Soft W W' → f.fact u W → f.fact u W') (h : Tame l) : Tame (f :: l) := fun g hg => by
  rcases List.mem_cons.1 hg with rfl | hg
  · exact ⟨h1, h2⟩
  · exact h g hg
section
variable {l : List Fct} {k : Nat} {us : List Nat}
theorem Steady.val {v : Value} (h : Steady l) : Steady (.val k v us :: l) := .cons ⟨v, rfl⟩ (fun _ _ _ _ h => h) h
theorem Steady.bytes {m : List UInt8} (h : Steady l) : Steady (.bytes k m us :: l) := .cons ⟨_, none, 0, rfl⟩ (fun _ _ _ hk ⟨lo, hi, hb⟩ => ⟨lo, hi, hb.kept hk (fun _ _ _ h => h)⟩) h
theorem Steady.lists {ms : List (List UInt8)} (h : Steady l) : Steady (.lists k ms us :: l) := .cons ⟨_, none, 0, rfl⟩ (fun _ _ _ hk ⟨lo, hi, lo', hi', hb⟩ => ⟨lo, hi, lo', hi', hb.kept hk (fun _ _ _ h => h) (fun _ _ _ h => h)⟩) h
theorem Steady.raw {e : TypeId} {lo : Nat} {m : List UInt8} (h : Steady l) : Steady (.raw e k lo m us :: l) := .cons ⟨_, none, 0, rfl⟩ (fun _ _ _ hk hb => Raw.soft hb hk.soft) h
theorem Steady.own {e : TypeId} {lo : Nat} {m : List UInt8} {sp : List Nat} (h : Steady l) : Steady (.own e k lo m us sp :: l) := .cons ⟨_, none, 0, rfl⟩ (fun _ _ _ hk hb => Bo.kept hb hk (fun _ _ h => h)) h
theorem Tame.val {v : Value} (h : Tame l) : Tame (.val k v us :: l) := .cons ⟨v, rfl⟩ (fun _ _ _ _ h => h) h
theorem Tame.bytes {m : List UInt8} (h : Tame l) : Tame (.bytes k m us :: l) := .cons ⟨_, none, 0, rfl⟩ (fun _ _ _ hk ⟨lo, hi, hb⟩ => ⟨lo, hi, hb.soft hk⟩) h
theorem Tame.lists {ms : List (List UInt8)} (h : Tame l) : Tame (.lists k ms us :: l) := .cons ⟨_, none, 0, rfl⟩ (fun _ _ _ hk ⟨lo, hi, lo', hi', hb⟩ => ⟨lo, hi, lo', hi', hb.soft hk⟩) h
theorem Tame.raw {e : TypeId} {lo : Nat} {m : List UInt8} (h : Tame l) : Tame (.raw e k lo m us :: l) := .cons ⟨_, none, 0, rfl⟩ (fun _ _ _ hk hb => Raw.soft hb hk) h
theorem Steady.keeps (h : Steady l) {base : World → Prop} {i : Nat} {W W' : World} (hk : Kept None W W') : (planOf base l).keeps i W W' := keeps_all fun f hf u hu => (h f hf).2 u _ _ hk hu
theorem Tame.keeps (h : Tame l) {base : World → Prop} {i : Nat} {W W' : World} (hk : Soft W W') : (planOf base l).keeps i W W' := keeps_all fun f hf u hu => (h f hf).2 u _ _ hk hu
end

/-- A region, by what is said upfront. -/
theorem wp_region_kn {P : Program} {id : Nat} {Q : Exit → Act → World → Prop} {a : Act} {w : World} {ops : List Oper} (w0 : World) (l : List Fct) (hs : Steady l) (hk : Kept None w0 w) (hm : P.follows .mixedOrders = true) (hB : Region.lexB .any ops.toArray = true) (hok : (planOf (Kept None w0) l).ok .any ops.toArray = true)
    (h : wpPar P (planOf (Kept None w0) l) ops.toArray (fun a' w' => Q .normal a' w') 0 ops a (starts (planOf (Kept None w0) l) [])) : (Code.region id ops.toArray true).wp P Q a w :=
  wp_region_plan (Kept None w0) l [] hm hB hok rfl hs.pure hk.drew (fun j hj => by cases hj) h

section
variable {P : Program} {ops : Array Oper} {w0 : World} {l : List Fct} {Q : Act → World → Prop} {k : Nat} {o : Oper} {rest : List Oper} {a : Act} {G : Nat → World → Prop}
theorem givesUpon_mono {X Y : Value → World → Prop} (h : ∀ v W', X v W' → Y v W') : ∀ {r : Result Next}, givesUpon P X r → givesUpon P Y r
  | .ok (.value _) _, hx => h _ _ hx
  | .ok .skip _, hx => h _ _ hx
  | .ok (.enter _ _) _, hx => Calls.mono hx fun _ _ ⟨v, he, hv⟩ => ⟨v, he, h _ _ hv⟩
  | .halt .., hx => hx.elim
/-- A call (or what else makes new things alone). -/
theorem wpKn_adds (hs : Steady l) (hR : (planOf (Kept None w0) l).adds k = true) (hw : Region.wanted o (yielded ops a.tmps) = true)
    (h1 : ∀ W, Kept None w0 W → (∀ j ∈ (planOf (Kept None w0) l).uses k, G j W) → Gives P o a W (fun v W' => Kept None W W' ∧ (planOf (Kept None w0) l).pure k v ∧ (planOf (Kept None w0) l).fact k v W'))
    (h2 : ∀ v, (planOf (Kept None w0) l).pure k v → wpPar P (planOf (Kept None w0) l) ops Q (k + 1) rest (a.put o.dst v) ((planOf (Kept None w0) l).after G k v)) : wpPar P (planOf (Kept None w0) l) ops Q k (o :: rest) a G :=
  wpPar_adds hR hw (fun W hW hd => by
    have h := h1 W hW hd
    unfold Gives at h ⊢
    exact givesUpon_mono (fun v W' ⟨k1, k2, k3⟩ => ⟨hW.then k1 (fun _ _ h => h), k2, k3, hs.keeps k1⟩) h) h2
/-- What turns a mark of a new thing alone. -/
theorem wpKn_mark (hs : Tame l) (hR : (planOf (Kept None w0) l).adds k = true) (hw : Region.wanted o (yielded ops a.tmps) = true)
    (h1 : ∀ W, Kept None w0 W → (∀ j ∈ (planOf (Kept None w0) l).uses k, G j W) → Gives P o a W (fun v W' => Kept None w0 W' ∧ Soft W W' ∧ (planOf (Kept None w0) l).pure k v ∧ (planOf (Kept None w0) l).fact k v W'))
    (h2 : ∀ v, (planOf (Kept None w0) l).pure k v → wpPar P (planOf (Kept None w0) l) ops Q (k + 1) rest (a.put o.dst v) ((planOf (Kept None w0) l).after G k v)) : wpPar P (planOf (Kept None w0) l) ops Q k (o :: rest) a G :=
  wpPar_adds hR hw (fun W hW hd => by
    have h := h1 W hW hd
    unfold Gives at h ⊢
    exact givesUpon_mono (fun v W' ⟨k0, k1, k2, k3⟩ => ⟨k0, k2, k3, hs.keeps k1⟩) h) h2
end
end Go.Pm
