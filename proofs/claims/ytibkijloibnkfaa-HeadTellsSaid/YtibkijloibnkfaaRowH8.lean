/- Arguments that are slices of hashes, opened; eight arguments. -/
import Derived.Test.YtibkijloibnkfaaRow6
import Derived.Test.YtibkijloibnkfaaHk8
namespace Go.Pm
open Go Go.RowKit Go.ChangeShapes Go.WideShapes Go.ChangeAt
section
variable {H : Type} {enc : TypeId × Value → H} {P : Program}
/-- Hashes by their cells. -/
theorem hsC_at : ∀ {l : List (List UInt8)}, H32 l → ∀ {i : Nat} {c : Value}, (hsC l).flatten[i]? = some c → ∃ x, l[i / 32]? = some x ∧ (x.map u8v)[i % 32]? = some c := fun {l} hf i c hc => by
  have hflat : (hsC l).flatten.length = l.length * 32 := by rw [flat_len (hsC_each hf), hsC_len]
  have hi : i < (hsC l).flatten.length := (List.getElem?_eq_some_iff.1 hc).1
  rw [hflat] at hi
  have hk : i / 32 < l.length := by omega
  have h32 := hf l[i / 32] (List.getElem_mem hk)
  refine ⟨l[i / 32], List.getElem?_eq_getElem hk, ?_⟩
  have hm : i % 32 < (l[i / 32].map u8v).length := by rw [List.length_map]; omega
  have h := flat_get (hsC_each hf) (i := i / 32) (x := l[i / 32].map u8v) (by unfold hsC; rw [List.getElem?_map, List.getElem?_eq_getElem hk]; rfl) (List.getElem?_eq_getElem hm)
  rw [show i / 32 * 32 + i % 32 = i by omega, hc] at h
  rw [List.getElem?_eq_getElem hm, ← Option.some.inj h]
/-- A []api.Hash argument. -/
theorem openHashes {W : World} {t e b : TypeId} {v : Value} {d : DataW H} {p : List MemPlace} {base : Nat} (ht : P.underlying t = some (.slice e)) (hh : P.underlying e = some (.array 32 b)) (hb : P.underlying b = some (.int .u8)) (cb : P.cellsOf b = 1) (ch : P.cellsOf e = 32)
    (hok : Value.okWide P W .any base t v) (hT : DataW.Trod enc P W 0 (fun _ => true) true t v d p) (hlt : ∀ x ∈ p, x.block < W.heap.size) : ∃ l, Rh 0 W v l := by
  obtain ⟨a0, len, cap, rfl⟩ := okWide_slice ht hok
  obtain ⟨fuel, hf⟩ := hT
  rcases Deep.open_slice ht hf with ⟨hcs, hx⟩ | ⟨a, len', cap', m, n, D, Pl, hcs, _, hl, hm, hmm, hx, hcell⟩
  · simp [Value.cells] at hcs
    obtain ⟨rfl, rfl, rfl⟩ := hcs
    exact ⟨[], 0, Hs.nil _ _ _⟩
  · simp [Value.cells] at hcs
    obtain ⟨rfl, rfl, rfl⟩ := hcs
    simp only [Prod.mk.injEq] at hx
    obtain ⟨_, rfl⟩ := hx
    simp only [if_true] at hmm
    subst hmm
    rw [ch] at hcell hlt
    have get : ∀ i, i < len → ∃ x : List UInt8, x.length = 32 ∧ ∀ j c, (x.map u8v)[j]? = some c → W.cell? (a.add (i * 32 + j)) = some c := fun i hi => by
      obtain ⟨cs', h1, h2⟩ := hcell i (by omega)
      obtain ⟨_, hlen, hc⟩ := World.cells?_some h1
      obtain ⟨l0, e0, q0⟩ := hashCells hh hb cb (by simp [hlen]) h2
      refine ⟨l0, q0, fun j c hj => ?_⟩
      have hj32 : j < 32 := by
        have := (List.getElem?_eq_some_iff.1 hj).1
        rwa [List.length_map, q0] at this
      rw [← add_add', hc j (by omega), e0]
      exact hj
    obtain ⟨l, hl2, hg⟩ := list_of (Q := fun i (x : List UInt8) => x.length = 32 ∧ ∀ j c, (x.map u8v)[j]? = some c → W.cell? (a.add (i * 32 + j)) = some c) len get
    have hfull : H32 l := fun x hx => by
      obtain ⟨i, hi, rfl⟩ := List.getElem_of_mem hx
      exact (hg i _ (List.getElem?_eq_getElem hi)).1
    have hflat : (hsC l).flatten.length = l.length * 32 := by rw [flat_len (hsC_each hfull), hsC_len]
    refine ⟨l, W.heap.size, hfull, hsC_each hfull, by rw [hflat, hsC_len], some a, m, by rw [hsC_len, hl2], by rw [hsC_len]; omega, hm, (fun h => by cases h), ?_⟩
    intro ad had i c hc
    obtain rfl := Option.some.inj had
    obtain ⟨x, hx, hxc⟩ := hsC_at hfull hc
    have hi : i < len * 32 := by
      have := (List.getElem?_eq_some_iff.1 hc).1
      rwa [hflat, hl2] at this
    have hcl := (hg (i / 32) x hx).2 (i % 32) c hxc
    rw [show i / 32 * 32 + i % 32 = i by omega] at hcl
    refine ⟨Nat.zero_le _, ?_, hcl⟩
    have := block_lt_of_cell hcl
    rwa [add_block] at this
theorem trodAll_eight {w : World} {base : Nat} {spare : Nat → Bool} {held : Bool} {t0 t1 t2 t3 t4 t5 t6 t7 : TypeId} {args : Array Value} {ds : List (DataW H)} {ps : List MemPlace} (h : DataW.TrodAll enc P w base spare held [t0, t1, t2, t3, t4, t5, t6, t7] args.toList ds ps) :
    ∃ v0 v1 v2 v3 v4 v5 v6 v7 d0 d1 d2 d3 d4 d5 d6 d7 p0 p1 p2 p3 p4 p5 p6 p7, args = #[v0, v1, v2, v3, v4, v5, v6, v7] ∧ ds = [d0, d1, d2, d3, d4, d5, d6, d7] ∧ ps = p0 ++ (p1 ++ (p2 ++ (p3 ++ (p4 ++ (p5 ++ (p6 ++ p7)))))) ∧
      DataW.Trod enc P w base spare held t0 v0 d0 p0 ∧ DataW.Trod enc P w base spare held t1 v1 d1 p1 ∧ DataW.Trod enc P w base spare held t2 v2 d2 p2 ∧ DataW.Trod enc P w base spare held t3 v3 d3 p3 ∧ DataW.Trod enc P w base spare held t4 v4 d4 p4 ∧ DataW.Trod enc P w base spare held t5 v5 d5 p5 ∧ DataW.Trod enc P w base spare held t6 v6 d6 p6 ∧ DataW.Trod enc P w base spare held t7 v7 d7 p7 := by
  obtain ⟨v0, l0, d0, e0, p0, q0, ha, rfl, rfl, h0, h⟩ := trodAll_cons h
  obtain ⟨v1, v2, v3, v4, v5, v6, v7, d1, d2, d3, d4, d5, d6, d7, p1, p2, p3, p4, p5, p6, p7, hb, rfl, rfl, h1, h2, h3, h4, h5, h6, h7⟩ := trodAll_seven (args := l0.toArray) (by simpa using h)
  refine ⟨v0, v1, v2, v3, v4, v5, v6, v7, d0, d1, d2, d3, d4, d5, d6, d7, p0, p1, p2, p3, p4, p5, p6, p7, ?_, rfl, by simp, h0, h1, h2, h3, h4, h5, h6, h7⟩
  apply Array.ext'
  rw [ha]
  have := congrArg Array.toList hb
  simp at this
  simp [this]
end
end Go.Pm
