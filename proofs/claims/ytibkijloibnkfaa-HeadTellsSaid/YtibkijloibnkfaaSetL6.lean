/- Set by a stable sort, as plain mathematics; the rows of a sort as items. Program-independent. -/
import Derived.Test.YtibkijloibnkfaaRows6
import Derived.Test.YtibkijloibnkfaaStab6
import Derived.Lib.Bytealg
import Derived.Shelf.SlSortCmp.KitK
namespace Go.Pm
open Go Go.RowKit Go.Sort Go.Proofs

/-- In the order of the Indexes, those of one Index as they were. -/
def Stable (l r : List It) : Prop := r.Perm l ∧ r.Pairwise (fun a b => Op.bytesLess b.i a.i = false) ∧ ∀ i, r.filter (fun x => decide (x.i = i)) = l.filter (fun x => decide (x.i = i))
/-- Of each Index the last one. -/
def lasts : List It → List It
  | [] => []
  | [x] => [x]
  | x :: y :: l => if y.i = x.i then lasts (y :: l) else x :: lasts (y :: l)
theorem lastI_filter (l : List It) (i : List UInt8) : lastI l i = (l.filter (fun x => decide (x.i = i))).getLast? := by
  unfold lastI
  rw [← List.head?_filter, List.filter_reverse, List.head?_reverse]
theorem lastI_cons (x : It) (l : List It) (i : List UInt8) : lastI (x :: l) i = (lastI l i).or (if x.i = i then some x else none) := by
  unfold lastI
  rw [List.reverse_cons, List.find?_append]
  by_cases h : x.i = i <;> simp [h]
theorem lastI_none {l : List It} {i : List UInt8} (h : ∀ x ∈ l, x.i ≠ i) : lastI l i = none := by
  unfold lastI
  exact List.find?_eq_none.2 fun x hx => by simpa using h x (List.mem_reverse.1 hx)
theorem lasts_sub : ∀ (r : List It) (z : It), z ∈ lasts r → z ∈ r
  | [], _, h => h
  | [x], _, h => h
  | x :: y :: l, z, h => by
    unfold lasts at h
    split at h
    · exact List.mem_cons_of_mem _ (lasts_sub (y :: l) z h)
    · rcases List.mem_cons.1 h with rfl | h
      · exact List.mem_cons_self ..
      · exact List.mem_cons_of_mem _ (lasts_sub (y :: l) z h)
theorem sorted_lt {x y : It} {l : List It} (h : (x :: y :: l).Pairwise (fun a b => Op.bytesLess b.i a.i = false)) (hne : y.i ≠ x.i) : ∀ z ∈ y :: l, Op.bytesLess x.i z.i = true := fun z hz => by
  obtain ⟨h1, h2⟩ := List.pairwise_cons.1 h
  have hxy : Op.bytesLess x.i y.i = true := by
    rcases less_total x.i y.i with h | h | h
    · exact h
    · exact absurd h.symm hne
    · have := h1 y (List.mem_cons_self ..); rw [h] at this; cases this
  rcases List.mem_cons.1 hz with rfl | hz
  · exact hxy
  · have h3 := (List.pairwise_cons.1 h2).1 z hz
    rcases less_total x.i z.i with h | h | h
    · exact h
    · rw [h, h3] at hxy; cases hxy
    · have := less_trans h hxy; rw [h3] at this; cases this
theorem srt_lasts : ∀ {r : List It}, r.Pairwise (fun a b => Op.bytesLess b.i a.i = false) → Srt (lasts r)
  | [], _ => List.Pairwise.nil
  | [x], _ => List.pairwise_singleton _ _
  | x :: y :: l, h => by
    have ih := srt_lasts (List.pairwise_cons.1 h).2
    unfold lasts
    split
    · exact ih
    · rename_i hne
      exact List.pairwise_cons.2 ⟨fun z hz => sorted_lt h hne z (lasts_sub _ z hz), ih⟩
theorem mem_lasts : ∀ {r : List It}, r.Pairwise (fun a b => Op.bytesLess b.i a.i = false) → ∀ z, z ∈ lasts r ↔ lastI r z.i = some z
  | [], _, z => by simp [lasts, lastI]
  | [x], _, z => by
    rw [lastI_cons, lastI_none (by simp)]
    by_cases h : x.i = z.i
    · simp [lasts, h, eq_comm]
    · simp only [lasts, List.mem_singleton, h, if_false, Option.none_or]
      constructor
      · rintro rfl; exact absurd rfl h
      · intro h; cases h
  | x :: y :: l, h, z => by
    have ih := mem_lasts (List.pairwise_cons.1 h).2 z
    rw [lastI_cons]
    unfold lasts
    split
    · rename_i hxy
      rw [ih]
      cases hl : lastI (y :: l) z.i with
      | some w => simp
      | none =>
        have hn : ¬ x.i = z.i := fun e => by
          unfold lastI at hl
          have := List.find?_eq_none.1 hl y (List.mem_reverse.2 (List.mem_cons_self ..))
          rw [hxy, e] at this
          simp at this
        simp [hn]
    · rename_i hne
      have hlt := sorted_lt h hne
      rw [List.mem_cons, ih]
      by_cases hz : x.i = z.i
      · have hnone : lastI (y :: l) z.i = none := lastI_none fun w hw e => by
          have := hlt w hw
          rw [e, hz, less_irrefl] at this
          cases this
        simp [hnone, hz, eq_comm]
      · constructor
        · rintro (rfl | h2)
          · exact absurd rfl hz
          · simp [h2]
        · intro h2
          right
          simpa [hz] using h2
/-- The last ones of what a stable sort has laid in order are the Set. -/
theorem set_stable {l r : List It} (h : Stable l r) : lasts r = setI l :=
  set_is (srt_lasts h.2.1) fun z => by rw [mem_lasts h.2.1, lastI_filter, h.2.2, ← lastI_filter]
/-- By place: what is kept of the first k, and the next. -/
def lastsTo (r : List It) (k : Nat) : List It := (List.range k).filterMap fun j => match r[j]? with
  | none => none
  | some x => match r[j + 1]? with
    | none => some x
    | some y => if y.i = x.i then none else some x
theorem lastsTo_zero (r : List It) : lastsTo r 0 = [] := rfl
theorem lastsTo_succ (r : List It) (k : Nat) : lastsTo r (k + 1) = lastsTo r k ++ (match r[k]? with
  | none => none
  | some x => match r[k + 1]? with
    | none => some x
    | some y => if y.i = x.i then none else some x).toList := by
  unfold lastsTo
  rw [List.range_succ, List.filterMap_append]
  congr 1
theorem lastsTo_len (r : List It) (k : Nat) : (lastsTo r k).length ≤ k := by
  unfold lastsTo
  have := List.length_filterMap_le (fun j => match r[j]? with
  | none => none
  | some x => match r[j + 1]? with
    | none => some x
    | some y => if y.i = x.i then none else some x) (List.range k)
  simpa using this
theorem lastsTo_all : ∀ r : List It, lastsTo r r.length = lasts r
  | [] => rfl
  | [x] => by
    rw [show [x].length = 0 + 1 from rfl, lastsTo_succ, lastsTo_zero]
    rfl
  | x :: y :: l => by
    have ih := lastsTo_all (y :: l)
    unfold lastsTo at ih ⊢
    rw [List.length_cons, List.range_succ_eq_map, List.filterMap_cons, List.filterMap_map]
    unfold lasts
    simp only [List.getElem?_cons_zero, List.getElem?_cons_succ, Nat.zero_add]
    by_cases h : y.i = x.i
    · simp only [h, if_true]
      exact ih
    · simp only [h, if_false]
      congr 1
theorem full_perm {l r : List It} (h : r.Perm l) (hf : Full l) : Full r := fun x hx => hf x (h.mem_iff.1 hx)
theorem full_lastsTo {r : List It} (hf : Full r) (k : Nat) : Full (lastsTo r k) := fun x hx => by
  unfold lastsTo at hx
  obtain ⟨j, _, hj⟩ := List.mem_filterMap.1 hx
  cases h1 : r[j]? with
  | none => rw [h1] at hj; cases hj
  | some a =>
    have hm := hf a (List.mem_of_getElem? h1)
    rw [h1] at hj
    cases h2 : r[j + 1]? with
    | none => rw [h2] at hj; simp only [Option.some.injEq] at hj; exact hj ▸ hm
    | some b =>
      rw [h2] at hj
      simp only at hj
      split at hj
      · cases hj
      · simp only [Option.some.injEq] at hj; exact hj ▸ hm

/-! ### A row as the sort sees it -/
/-- An item whose hashes are hashes. -/
abbrev Itf : Type := { x : It // x.i.length = 32 ∧ x.v.length = 32 }
instance : Inhabited Itf := ⟨⟨⟨List.replicate 32 0, List.replicate 32 0⟩, by simp⟩⟩
/-- Each item with its place. -/
def tagged (l : List It) (hf : Full l) : Array (Itf × Nat) := ((l.attach.map fun x => (⟨x.1, hf x.1 x.2⟩ : Itf)).zipIdx).toArray
def encT (p : Itf × Nat) : List Value := itC p.1.1
def cfT (p q : Itf × Nat) : Int := Lib.compareBytes p.1.1.i q.1.1.i
def ltT (x y : Itf) : Bool := Op.bytesLess x.1.i y.1.i
theorem tagged_size (l : List It) (hf : Full l) : (tagged l hf).size = l.length := by simp [tagged]
theorem tagged_fst (l : List It) (hf : Full l) : (tagged l hf).toList.map (fun p => p.1.1) = l := by
  unfold tagged
  rw [List.toList_toArray, show (fun p : Itf × Nat => p.1.1) = (fun x : Itf => x.1) ∘ Prod.fst from rfl, ← List.map_map, List.zipIdx_map_fst, List.map_map]
  exact List.attach_map_subtype_val l
theorem tagged_snd (l : List It) (hf : Full l) (x : Nat) (hx : x < (tagged l hf).size) : (tagged l hf)[x]!.2 = x := by
  have h : (tagged l hf).toList[x]? = some ((⟨l[x]'(by simpa [tagged_size] using hx), hf _ (List.getElem_mem _)⟩ : Itf), x) := by
    unfold tagged
    simp [show x < l.length by simpa [tagged_size] using hx]
  rw [getElem!_pos _ x hx]
  rw [Array.getElem?_toList, Array.getElem?_eq_getElem hx] at h
  exact congrArg Prod.snd (Option.some.inj h)
theorem tagged_rising (l : List It) (hf : Full l) : (tagged l hf).toList.Pairwise (fun p q => p.2 < q.2) := by
  unfold tagged
  rw [List.toList_toArray]
  refine List.pairwise_iff_getElem.2 fun i j hi hj hij => ?_
  rw [List.getElem_zipIdx, List.getElem_zipIdx]
  simpa using hij
theorem swo_ltT : SWO ltT where
  irrefl x := less_irrefl _
  trans x y z h1 h2 := less_trans h1 h2
  ntrans x y z h1 h2 := by
    unfold ltT at *
    cases h : Op.bytesLess x.1.i z.1.i with
    | false => rfl
    | true =>
      rcases less_total x.1.i y.1.i with h3 | h3 | h3
      · rw [h1] at h3; cases h3
      · rw [h3, h2] at h; cases h
      · have := less_trans h3 h; rw [h2] at this; cases this
theorem compare_less' : ∀ a b : List UInt8, decide (Lib.compareBytes a b < 0) = Op.bytesLess a b
  | [], [] => rfl
  | [], _ :: _ => rfl
  | _ :: _, [] => rfl
  | x :: a, y :: b => by
    unfold Lib.compareBytes Op.bytesLess
    by_cases h1 : x < y
    · simp [h1]
    · by_cases h2 : y < x
      · have : x ≠ y := fun e => by subst e; exact h1 h2
        simp [h1, h2, this]
      · have : x = y := by
          apply UInt8.toNat_inj.1
          have e1 : ¬ x.toNat < y.toNat := h1
          have e2 : ¬ y.toNat < x.toNat := h2
          omega
        subst this
        have ih := compare_less' a b
        simp [h1, ih]
theorem ltOf_cfT (p q : Itf × Nat) : ltOf cfT p q = ltT p.1 q.1 := compare_less' p.1.1.i q.1.1.i
theorem stable_of (l : List It) (hf : Full l) (d : Array (Itf × Nat)) (h : Mrgd (Stb ltT) 0 (tagged l hf).size (tagged l hf) d) : Stable l (d.toList.map fun p => p.1.1) := by
  have hsz : d.size = (tagged l hf).size := h.perm.1
  have hp : d.toList.Perm (tagged l hf).toList := by
    have h1 := h.perm.2.2
    rw [Array.extract_size] at h1
    rwa [← hsz, Array.extract_size] at h1
  have hs : d.toList.Pairwise (Stb ltT) := List.pairwise_iff_getElem.2 fun i j hi hj hij => by
    have h1 := h.sorted i j (Nat.zero_le _) hij (by simpa [hsz] using hj)
    rwa [getElem!_pos d i (by simpa using hi), getElem!_pos d j (by simpa using hj)] at h1
  refine ⟨?_, ?_, fun i => ?_⟩
  · have := hp.map (fun p => p.1.1)
    rwa [tagged_fst] at this
  · rw [List.pairwise_map]
    refine hs.imp fun {p q} hpq => ?_
    rcases hpq with h1 | ⟨h1, _⟩
    · exact swo_ltT.asymmA h1
    · exact h1
  · have e : ∀ D : List (Itf × Nat), (D.map fun p => p.1.1).filter (fun x => decide (x.i = i)) = (D.filter (fun p => decide (p.1.1.i = i))).map (fun p => p.1.1) := fun D => List.filter_map
    rw [e, ← tagged_fst l hf, e]
    congr 1
    refine List.Perm.eq_of_pairwise (le := fun p q => p.2 < q.2) (fun a b _ _ h1 h2 => by omega) ?_ ((tagged_rising l hf).filter _) (hp.filter _)
    refine (List.pairwise_iff_getElem.2 fun a b ha hb hab => ?_)
    have h1 := List.pairwise_iff_getElem.1 (hs.filter (fun p => decide (p.1.1.i = i))) a b ha hb hab
    have m1 := (List.mem_filter.1 (List.getElem_mem ha)).2
    have m2 := (List.mem_filter.1 (List.getElem_mem hb)).2
    simp only [decide_eq_true_eq] at m1 m2
    rcases h1 with h1 | ⟨_, h1⟩
    · unfold ltT at h1
      rw [m1, m2, less_irrefl] at h1
      cases h1
    · exact h1
/-- What the sort keeps. -/
theorem swk_kept {α : Type} [Inhabited α] {enc : α → List Value} {k : Nat} {w0 W : World} {blk off : Nat} {d : Array α} (h : SWK enc k w0 blk off d W) : Kept (Just blk) w0 W := by
  obtain ⟨n, os, rfl⟩ := h
  refine ⟨rfl, rfl, rfl, ?_, fun i hi hs => ?_⟩
  · unfold sortWorldK
    rw [size_grow, size_putRowK]
    exact Nat.le_add_right _ _
  · unfold sortWorldK
    rw [heap_grow_old _ _ (by rw [size_putRowK]; exact hi)]
    unfold putRowK putRow mapBlock
    simp only [Array.getElem?_modify]
    rw [if_neg (fun e => hs e.symm)]
    rfl
theorem swk_blk {α : Type} [Inhabited α] {enc : α → List Value} {k : Nat} {w0 W : World} {blk off : Nat} {d : Array α} (h : SWK enc k w0 blk off d W) {cur : Array Value} {e : TypeId} (hb : Blk w0 blk cur e) : Blk W blk (putCells id off (flatK enc k d) cur) e := by
  obtain ⟨n, os, rfl⟩ := h
  have hlt := hb.lt
  show (sortWorldK enc k w0 blk off n d os).heap[blk]? = _
  unfold sortWorldK
  rw [heap_grow_old _ _ (by rw [size_putRowK]; exact hlt)]
  unfold putRowK putRow mapBlock
  have hb' : (Sort.ahead w0 n).heap[blk]? = some (.cells cur e (0, 0)) := hb
  simp only [Array.getElem?_modify, if_true, hb', Option.map_some, onCells]
/-- The row's cells, one item behind another. -/
theorem flat_items : ∀ (D : List (Itf × Nat)) (t : Nat), t < D.length * 64 → (D.flatMap encT)[t]? = some ((encT (D[t / 64]!))[t % 64]!)
  | [], t, h => by simp at h
  | p :: D, t, h => by
    have h64 : (encT p).length = 64 := itC_len p.1.2
    rw [List.flatMap_cons]
    by_cases ht : t < 64
    · rw [List.getElem?_append_left (by omega), Nat.div_eq_of_lt ht, Nat.mod_eq_of_lt ht]
      rw [List.getElem?_eq_getElem (by omega), List.getElem!_cons_zero, getElem!_pos _ t (by omega)]
    · obtain ⟨u, rfl⟩ : ∃ u, t = u + 64 := ⟨t - 64, by omega⟩
      have ih := flat_items D u (by simp only [List.length_cons] at h; omega)
      rw [List.getElem?_append_right (by omega), h64, Nat.add_sub_cancel, ih, Nat.add_div_right _ (by decide), Nat.add_mod_right, List.getElem!_cons_succ]
theorem flatK_items (d : Array (Itf × Nat)) : (flatK encT 64 d).toList = itsC (d.toList.map fun p => p.1.1) := by
  have e : itsC (d.toList.map fun p => p.1.1) = d.toList.flatMap encT := by
    unfold itsC
    rw [List.flatMap_map]
    rfl
  rw [e]
  have hlen : ∀ D : List (Itf × Nat), (D.flatMap encT).length = D.length * 64 := fun D => by
    induction D with
    | nil => rfl
    | cons p D ih =>
      have h64 : (encT p).length = 64 := itC_len p.1.2
      rw [List.flatMap_cons, List.length_append, ih, h64, List.length_cons]; omega
  apply List.ext_getElem?
  intro t
  by_cases ht : t < d.size * 64
  · rw [flat_items d.toList t (by simpa using ht)]
    have h1 := get_flatK encT 64 d t ht
    rw [getElem!_pos _ t (by simpa using ht)] at h1
    rw [List.getElem?_eq_getElem (by simpa using ht), Array.getElem_toList, h1]
    congr 2
    simp [getElem!_def]
  · rw [List.getElem?_eq_none (by simpa using Nat.le_of_not_lt ht), List.getElem?_eq_none (by rw [hlen]; simpa using Nat.le_of_not_lt ht)]
theorem putCells_list (F cur : Array Value) (h : F.size ≤ cur.size) : (putCells id 0 F cur).toList = F.toList ++ cur.toList.drop F.size := by
  apply List.ext_getElem?
  intro t
  unfold putCells
  rw [Array.getElem?_toList, Array.getElem?_mapIdx]
  by_cases ht : t < F.size
  · rw [List.getElem?_append_left (by simpa using ht), Array.getElem?_eq_getElem (show t < cur.size by omega)]
    simp only [Nat.zero_le, Nat.zero_add, ht, and_self, if_true, Option.map_some, Nat.sub_zero, id]
    rw [getElem!_pos F t ht, Array.getElem?_toList, Array.getElem?_eq_getElem ht]
  · rw [List.getElem?_append_right (by simpa using Nat.le_of_not_lt ht), List.getElem?_drop]
    simp only [Nat.zero_le, Nat.zero_add, ht, and_false, if_false, Array.length_toList]
    rw [show F.size + (t - F.size) = t by omega, Array.getElem?_toList]
    cases cur[t]? <;> rfl
/-- The items, as the sort sees their row. -/
theorem ito_holds {e : TypeId} {w : World} {base g n cap : Nat} {l : List It} (h : Ito e w base (.slice (some ⟨g, 0, none⟩) n cap) l) : g < w.heap.size ∧ HoldsK encT 64 w g 0 (tagged l h.1) := by
  obtain ⟨hf, hlen, h2⟩ := h
  rcases h2 with ⟨h3, _⟩ | ⟨g', cap', cur, hvv, hb, hg, hnc, hcm, hcs, htake⟩
  · cases h3
  injection hvv with e1 e2 e3
  obtain rfl : g = g' := by simpa using e1
  have hblk : Blk w g cur e := hg
  refine ⟨hblk.lt, fun j hj => ⟨?_, hblk.free _⟩⟩
  have hj' : j < l.length * 64 := by simpa [tagged_size] using hj
  rw [Nat.zero_add, hblk.cell, getElem!_pos _ j hj, ← Array.getElem_toList (by simpa using hj)]
  have hfl := flatK_items (tagged l hf)
  rw [tagged_fst] at hfl
  have e1 : (flatK encT 64 (tagged l hf)).toList[j]? = (itsC l)[j]? := by rw [hfl]
  rw [List.getElem?_eq_getElem (by simpa using hj)] at e1
  rw [show id (flatK encT 64 (tagged l hf)).toList[j] = (flatK encT 64 (tagged l hf)).toList[j] from rfl, e1, ← htake, List.getElem?_take, if_pos hj', Array.getElem?_toList]
/-- .. and behind the sort. -/
theorem ito_sorted {e : TypeId} {w W : World} {base g n cap : Nat} {l : List It} (h : Ito e w base (.slice (some ⟨g, 0, none⟩) n cap) l) {d : Array (Itf × Nat)} (hs : SWK encT 64 w g 0 d W) (hm : Mrgd (Stb ltT) 0 (tagged l h.1).size (tagged l h.1) d) :
    ∃ r, Stable l r ∧ Ito e W base (.slice (some ⟨g, 0, none⟩) n cap) r ∧ Kept (Just g) w W := by
  have hst := stable_of l h.1 d hm
  have hds : d.size = l.length := by have := hm.perm.1; rwa [tagged_size] at this
  refine ⟨_, hst, ?_, swk_kept hs⟩
  obtain ⟨hf, hlen, h2⟩ := h
  rcases h2 with ⟨h3, _⟩ | ⟨g', cap', cur, hvv, hb, hg, hnc, hcm, hcs, htake⟩
  · cases h3
  injection hvv with e1 e2 e3
  obtain rfl : g = g' := by simpa using e1
  subst e2 e3
  have hrf := full_perm hst.1 hf
  have hrl : (d.toList.map fun p => p.1.1).length = l.length := hst.1.length_eq
  have hFs : (flatK encT 64 d).size = l.length * 64 := by rw [size_flatK, hds]
  have hle : (flatK encT 64 d).size ≤ cur.size := by rw [hFs, hcs]; exact Nat.mul_le_mul_right _ hnc
  refine ⟨hrf, by rw [itsC_len hrf], .inr ⟨g, cap, _, by rw [hrl], hb, swk_blk hs hg, by rw [hrl]; exact hnc, hcm, ?_, ?_⟩⟩
  · unfold putCells
    rw [Array.size_mapIdx]
    exact hcs
  · rw [putCells_list _ _ hle, hrl, List.take_left' (by simpa using hFs), flatK_items]
end Go.Pm
