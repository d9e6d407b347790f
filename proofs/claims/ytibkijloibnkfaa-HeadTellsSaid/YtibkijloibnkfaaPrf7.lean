/- Proofs of a tree, as plain mathematics: which one is made, what it comes to, its texts, its bytes. -/
import Derived.Test.YtibkijloibnkfaaPcs7
namespace Go.Pm
open Go Go.RowKit

structure Pf where
  path : List (List UInt8)
  e : Int
  x : It
  deriving DecidableEq
def zero32 : List UInt8 := List.replicate 32 0
def zeroIt : It := ⟨zero32, zero32⟩
def zeroPf : Pf := ⟨[], 0, zeroIt⟩
/-- Its hashes have 32 bytes. -/
def Pf.Ok (p : Pf) : Prop := H32 p.path ∧ p.x.i.length = 32 ∧ p.x.v.length = 32
theorem zero32_len : zero32.length = 32 := rfl
theorem zeroPf_ok : zeroPf.Ok := ⟨H32.nil, rfl, rfl⟩

/-! ### The way down -/
/-- The other sides' roots on the way of an index, and what is left at its end. -/
def downI : Nat → List It → List UInt8 → Nat → List (List UInt8) × List It
  | 0, l, _, _ => ([], l)
  | f + 1, l, i, j => if l.length < 2 then ([], l) else (rootI f (half l j (1 - bitI i j)) (j + 1) :: (downI f (half l j (bitI i j)) i (j + 1)).1, (downI f (half l j (bitI i j)) i (j + 1)).2)
theorem downI_few (f : Nat) {l : List It} (i : List UInt8) (j : Nat) (h : l.length < 2) : downI f l i j = ([], l) := by
  cases f
  · rfl
  · unfold downI; rw [if_pos h]
theorem downI_more (f : Nat) {l : List It} (i : List UInt8) (j : Nat) (h : 2 ≤ l.length) : downI (f + 1) l i j = (rootI f (half l j (1 - bitI i j)) (j + 1) :: (downI f (half l j (bitI i j)) i (j + 1)).1, (downI f (half l j (bitI i j)) i (j + 1)).2) := by
  conv => lhs; unfold downI
  rw [if_neg (by omega)]
/-- The proof of a way and what is left at its end. -/
def endI (p : List (List UInt8)) (r : List It) (i : List UInt8) : Pf :=
  match r with
  | [] => ⟨p, 1, zeroIt⟩
  | x :: _ => if x.i = i then ⟨p, 0, x⟩ else ⟨p, 2, x⟩
theorem endI_path (p : List (List UInt8)) (r : List It) (i : List UInt8) : (endI p r i).path = p := by
  unfold endI
  split
  · rfl
  · split <;> rfl
/-- Make. -/
def makeP (l : List It) (i : List UInt8) : Pf := endI (downI 256 (setI l) i 0).1 (downI 256 (setI l) i 0).2 i
theorem rootI_len' (f : Nat) (l : List It) (j : Nat) (h : Srt l) (hl : Len l) (ha : Agree l j) (hf : 256 ≤ f + j) : (rootI f l j).length = 32 := by
  match f, l with
  | 0, [] => exact sumB_len _
  | _ + 1, [] => exact sumB_len _
  | 0, [x] => exact sumB_len _
  | _ + 1, [x] => exact sumB_len _
  | 0, x :: y :: l => have := agree_lt h hl ha (by simp); omega
  | f + 1, x :: y :: l => exact sumB_len _
theorem half_len' (l : List It) (j b : Nat) : (half l j b).length ≤ l.length := List.length_filter_le _ _
theorem downI_h32 : ∀ (f : Nat) (l : List It) (i : List UInt8) (j : Nat), Srt l → Len l → Agree l j → 256 ≤ f + j → H32 (downI f l i j).1
  | 0, l, i, j, _, _, _, _ => H32.nil
  | f + 1, l, i, j, hs, hl, ha, hf => by
    by_cases h : l.length < 2
    · rw [downI_few _ _ _ h]; exact H32.nil
    · rw [downI_more f i j (by omega)]
      exact H32.cons (rootI_len' f _ _ (srt_half hs _ _) (len_half hl _ _) (agree_half ha _) (by omega)) (downI_h32 f _ i (j + 1) (srt_half hs _ _) (len_half hl _ _) (agree_half ha _) (by omega))
theorem downI_rest : ∀ (f : Nat) (l : List It) (i : List UInt8) (j : Nat), ∀ x ∈ (downI f l i j).2, x ∈ l ∧ ∀ k, k < (downI f l i j).1.length → bitI x.i (j + k) = bitI i (j + k)
  | 0, l, i, j => fun x hx => ⟨hx, fun k hk => by simp [downI] at hk⟩
  | f + 1, l, i, j => by
    by_cases h : l.length < 2
    · rw [downI_few _ _ _ h]; exact fun x hx => ⟨hx, fun k hk => by simp at hk⟩
    · rw [downI_more f i j (by omega)]
      intro x hx
      obtain ⟨h1, h2⟩ := downI_rest f _ i (j + 1) x hx
      obtain ⟨h3, h4⟩ := mem_half.1 h1
      refine ⟨h3, fun k hk => ?_⟩
      cases k with
      | zero => exact h4
      | succ k =>
        have := h2 k (by simpa using hk)
        rwa [show j + 1 + k = j + (k + 1) by omega] at this
theorem downI_few_left : ∀ (f : Nat) (l : List It) (i : List UInt8) (j : Nat), Srt l → Len l → Agree l j → 256 ≤ f + j → (downI f l i j).2.length < 2
  | 0, l, i, j, hs, hl, ha, hf => by
    show l.length < 2
    rcases Nat.lt_or_ge l.length 2 with h | h
    · exact h
    · have := agree_lt hs hl ha h; omega
  | f + 1, l, i, j, hs, hl, ha, hf => by
    by_cases h : l.length < 2
    · rw [downI_few _ _ _ h]; exact h
    · rw [downI_more f i j (by omega)]
      exact downI_few_left f _ i (j + 1) (srt_half hs _ _) (len_half hl _ _) (agree_half ha _) (by omega)
theorem downI_len : ∀ (f : Nat) (l : List It) (i : List UInt8) (j : Nat), (downI f l i j).1.length ≤ f
  | 0, l, i, j => Nat.le_refl _
  | f + 1, l, i, j => by
    by_cases h : l.length < 2
    · rw [downI_few _ _ _ h]; exact Nat.zero_le _
    · rw [downI_more f i j (by omega)]
      have := downI_len f (half l j (bitI i j)) i (j + 1)
      simp only [List.length_cons]
      omega
/-- Who has the index is left. -/
theorem downI_has : ∀ (f : Nat) (l : List It) (i : List UInt8) (j : Nat), ∀ x ∈ l, x.i = i → x ∈ (downI f l i j).2
  | 0, l, i, j => fun x hx _ => hx
  | f + 1, l, i, j => by
    by_cases h : l.length < 2
    · rw [downI_few _ _ _ h]; exact fun x hx _ => hx
    · rw [downI_more f i j (by omega)]
      exact fun x hx hi => downI_has f _ i (j + 1) x (mem_half.2 ⟨hx, by rw [hi]⟩) hi

/-! ### The way up -/
/-- The text of a proof's end. -/
def footB (p : Pf) : List UInt8 := if p.e = 1 then textB 122 [] else textB 108 [p.x.i, p.x.v]
/-- The texts from a place on. -/
def climbB (i foot : List UInt8) : List (List UInt8) → Nat → List (List UInt8)
  | [], _ => [foot]
  | r :: rs, j => (if bitI i j = 1 then textB 110 [r, sumB ((climbB i foot rs (j + 1)).headD [])] else textB 110 [sumB ((climbB i foot rs (j + 1)).headD []), r]) :: climbB i foot rs (j + 1)
theorem climbB_len (i foot : List UInt8) : ∀ (rs : List (List UInt8)) (j : Nat), (climbB i foot rs j).length = rs.length + 1
  | [], _ => rfl
  | r :: rs, j => by simp [climbB, climbB_len i foot rs (j + 1)]
/-- What they come to. -/
def climbH (i foot : List UInt8) (rs : List (List UInt8)) (j : Nat) : List UInt8 := sumB ((climbB i foot rs j).headD [])
theorem climbH_len (i foot : List UInt8) (rs : List (List UInt8)) (j : Nat) : (climbH i foot rs j).length = 32 := sumB_len _
theorem climbH_nil (i foot : List UInt8) (j : Nat) : climbH i foot [] j = sumB foot := rfl
theorem climbH_cons (i foot r : List UInt8) (rs : List (List UInt8)) (j : Nat) : climbH i foot (r :: rs) j = if bitI i j = 1 then nodeH r (climbH i foot rs (j + 1)) else nodeH (climbH i foot rs (j + 1)) r := by
  unfold climbH
  rw [climbB]
  split <;> rfl
def textsP (i : List UInt8) (p : Pf) : List (List UInt8) := climbB i (footB p) p.path 0
def rootP (i : List UInt8) (p : Pf) : List UInt8 := climbH i (footB p) p.path 0
theorem foot_end (p : List (List UInt8)) (r : List It) (i : List UInt8) (f j : Nat) (h : r.length < 2) : sumB (footB (endI p r i)) = rootI f r j := by
  match r, h with
  | [], _ => cases f <;> rfl
  | [x], _ =>
    have e : rootI f [x] j = leafH x := by cases f <;> rfl
    rw [e]
    unfold endI footB
    dsimp only
    split <;> rfl
theorem foot_of (p q : List (List UInt8)) (r : List It) (i : List UInt8) : footB (endI p r i) = footB (endI q r i) := by
  unfold endI footB
  cases r with
  | nil => rfl
  | cons x r => dsimp only; split <;> rfl
theorem rootI_of (f j : Nat) {l : List It} (h : 2 ≤ l.length) : rootI (f + 1) l j = nodeH (rootI f (half l j 0) (j + 1)) (rootI f (half l j 1) (j + 1)) := by
  match l, h with
  | x :: y :: l, _ => rfl
theorem climb_down : ∀ (f : Nat) (l : List It) (i : List UInt8) (j : Nat) (q : List (List UInt8)), Srt l → Len l → Agree l j → 256 ≤ f + j → climbH i (footB (endI q (downI f l i j).2 i)) (downI f l i j).1 j = rootI f l j
  | 0, l, i, j, q, hs, hl, ha, hf => by
    have h : l.length < 2 := downI_few_left 0 l i j hs hl ha hf
    rw [downI_few _ _ _ h, climbH_nil]
    exact foot_end q l i 0 j h
  | f + 1, l, i, j, q, hs, hl, ha, hf => by
    by_cases h : l.length < 2
    · rw [downI_few _ _ _ h, climbH_nil]
      exact foot_end q l i (f + 1) j h
    · have ih := climb_down f (half l j (bitI i j)) i (j + 1) q (srt_half hs _ _) (len_half hl _ _) (agree_half ha _) (by omega)
      rw [downI_more f i j (by omega), climbH_cons, rootI_of f j (by omega)]
      dsimp only
      rw [ih]
      rcases bitI_two i j with hb | hb <;> rw [hb]
      · simp
      · simp
/-- What is made comes to the root. -/
theorem root_make (l : List It) (hl : Len l) (i : List UInt8) : rootP i (makeP l i) = rootOf l := by
  have hL : Len (setI l) := fun x hx => hl x (find_some ((mem_setI x l).1 hx)).1
  unfold rootP makeP
  rw [endI_path]
  exact climb_down 256 (setI l) i 0 _ (srt_setI l) hL (fun _ _ _ _ k hk => by omega) (by omega)

/-! ### Which ones may be, and what they say -/
/-- The first n bits are alike. -/
def alikeB (a b : List UInt8) (n : Nat) : Bool := decide (∀ k, k < n → bitI a k = bitI b k)
/-- Right. -/
def rightP (i : List UInt8) (p : Pf) : Bool :=
  decide (p.path.length ≤ 256) && (if p.e = 0 then p.x.i == i else if p.e = 1 then p.x == zeroIt else if p.e = 2 then !(p.x.i == i) && alikeB p.x.i i p.path.length else false)
theorem rightP_len {i : List UInt8} {p : Pf} (h : rightP i p = true) : p.path.length ≤ 256 := by
  unfold rightP at h
  simp at h
  exact h.1
theorem right_make (l : List It) (hl : Len l) (i : List UInt8) : rightP i (makeP l i) = true := by
  have hL : Len (setI l) := fun x hx => hl x (find_some ((mem_setI x l).1 hx)).1
  have h1 := downI_len 256 (setI l) i 0
  have h2 := downI_rest 256 (setI l) i 0
  unfold rightP makeP
  rw [endI_path]
  generalize downI 256 (setI l) i 0 = d at *
  unfold endI
  cases hd : d.2 with
  | nil => simp [h1]
  | cons x r =>
    dsimp only
    by_cases hx : x.i = i
    · simp [h1, hx]
    · have h3 := (h2 x (by rw [hd]; exact List.mem_cons_self ..)).2
      simp only [Nat.zero_add] at h3
      simp [h1, hx, alikeB]
      exact h3
theorem ok_make (l : List It) (hl : Len l) (i : List UInt8) : (makeP l i).Ok := by
  have hL : Len (setI l) := fun x hx => hl x (find_some ((mem_setI x l).1 hx)).1
  have h1 := downI_h32 256 (setI l) i 0 (srt_setI l) hL (fun _ _ _ _ k hk => by omega) (by omega)
  have h2 := downI_rest 256 (setI l) i 0
  unfold makeP Pf.Ok
  rw [endI_path]
  refine ⟨h1, ?_⟩
  generalize downI 256 (setI l) i 0 = d at *
  unfold endI
  cases hd : d.2 with
  | nil => exact ⟨rfl, rfl⟩
  | cons x r =>
    have h3 := hL x (h2 x (by rw [hd]; exact List.mem_cons_self ..)).1
    dsimp only
    split <;> exact h3
/-- It says 'Here' just of who is there. -/
theorem here_make (l : List It) (i : List UInt8) (hl : Len l) : (makeP l i).e = 0 ↔ ∃ x ∈ l, x.i = i := by
  have hL : Len (setI l) := fun x hx => hl x (find_some ((mem_setI x l).1 hx)).1
  have h2 := downI_rest 256 (setI l) i 0
  have h3 := downI_has 256 (setI l) i 0
  have h4 := downI_few_left 256 (setI l) i 0 (srt_setI l) hL (fun _ _ _ _ k hk => by omega) (by omega)
  unfold makeP
  constructor
  · intro h
    unfold endI at h
    cases hd : (downI 256 (setI l) i 0).2 with
    | nil => rw [hd] at h; cases h
    | cons x r =>
      rw [hd] at h
      dsimp only at h
      by_cases hx : x.i = i
      · have hm := (h2 x (by rw [hd]; exact List.mem_cons_self ..)).1
        exact ⟨x, (find_some ((mem_setI x l).1 hm)).1, hx⟩
      · rw [if_neg hx] at h; cases h
  · rintro ⟨x, hx, hi⟩
    obtain ⟨z, hz, hzi⟩ : ∃ z ∈ setI l, z.i = i := by
      cases hf : lastI l i with
      | none =>
        unfold lastI at hf
        have := List.find?_eq_none.1 hf x (List.mem_reverse.2 hx)
        simp [hi] at this
      | some z =>
        have hzi := (find_some hf).2
        exact ⟨z, (mem_setI z l).2 (by rw [hzi]; exact hf), hzi⟩
    have hm := h3 z hz hzi
    match hd : (downI 256 (setI l) i 0).2, hm, h4 with
    | [y], hm, _ =>
      obtain rfl : z = y := by simpa [hd] using hm
      unfold endI
      dsimp only
      rw [if_pos hzi]
/-- Of who is there it says the item. -/
theorem item_make (l : List It) (hl : Len l) (hs : Srt l) {x : It} (hx : x ∈ l) : (makeP l x.i).e = 0 ∧ (makeP l x.i).x = x := by
  have e : setI l = l := set_srt hs
  have h3 := downI_has 256 l x.i 0 x hx rfl
  have h4 := downI_few_left 256 l x.i 0 hs hl (fun _ _ _ _ k hk => by omega) (by omega)
  unfold makeP
  rw [e]
  match hd : (downI 256 l x.i 0).2, h3, h4 with
  | [y], hm, _ =>
    obtain rfl : x = y := by simpa [hd] using hm
    unfold endI
    dsimp only
    rw [if_pos rfl]
    exact ⟨rfl, rfl⟩
/-- What a proof says. -/
def saysV (p : Pf) : List UInt8 := if p.e = 0 then p.x.v else zero32
def saysH (p : Pf) : Bool := decide (p.e = 0)
/-- Check. -/
def okP (root i : List UInt8) (p : Pf) : Bool := rightP i p && (rootP i p == root)
def checkV (root i : List UInt8) (p : Pf) : List UInt8 := if okP root i p then saysV p else zero32
def checkH (root i : List UInt8) (p : Pf) : Bool := okP root i p && saysH p
theorem saysV_len {p : Pf} (h : p.Ok) : (saysV p).length = 32 := by unfold saysV; split; exact h.2.2; rfl
theorem checkV_len {root i : List UInt8} {p : Pf} (h : p.Ok) : (checkV root i p).length = 32 := by unfold checkV; split; exact saysV_len h; rfl

/-! ### Clashes -/
def sameP (p q : Pf) : Bool := (saysV p == saysV q) && (saysH p == saysH q)
/-- Where two lists of texts part first. -/
def partB : List (List UInt8) → List (List UInt8) → Option (List UInt8 × List UInt8)
  | a :: l, b :: m => if a = b then partB l m else some (a, b)
  | _, _ => none
def clashP (i : List UInt8) (p q : Pf) : Option (List UInt8 × List UInt8) :=
  if rightP i p && rightP i q && !(sameP p q) && (rootP i p == rootP i q) then partB (textsP i p) (textsP i q) else none
theorem foot_tag (p : Pf) (a b : List UInt8) : footB p ≠ textB 110 [a, b] := fun e => by
  unfold footB at e
  split at e
  · have h : byteOf 122 = byteOf 110 := (List.cons.inj (show byteOf 122 :: _ = byteOf 110 :: _ from e)).1
    revert h; decide
  · have h : byteOf 108 = byteOf 110 := (List.cons.inj (by unfold textB at e; exact e)).1
    revert h; decide
theorem text_two {a b c d : List UInt8} (ha : a.length = 32) (hc : c.length = 32) (hb : b.length = 32) (hd : d.length = 32) (h : textB 110 [a, b] = textB 110 [c, d]) : a = c ∧ b = d := by
  unfold textB at h
  have h := (List.cons.inj h).2
  simp only [List.map_cons, List.map_nil, List.flatten_cons, List.flatten_nil, List.append_nil, lumpB, ha, hb, hc, hd] at h
  have h1 := List.append_inj h (by simp [ha, hc])
  exact ⟨(List.append_inj h1.1 rfl).2, (List.append_inj h1.2 rfl).2⟩
theorem partB_cons (a b : List UInt8) (l m : List (List UInt8)) : partB (a :: l) (b :: m) = if a = b then partB l m else some (a, b) := rfl
theorem climb_head (i foot r : List UInt8) (rs : List (List UInt8)) (j : Nat) : ∃ c d, climbB i foot (r :: rs) j = textB 110 [c, d] :: climbB i foot rs (j + 1) := by
  rw [climbB]
  split
  · exact ⟨_, _, rfl⟩
  · exact ⟨_, _, rfl⟩
theorem part_climb (i : List UInt8) (P Q : Pf) : ∀ (rs qs : List (List UInt8)) (j : Nat) (a b : List UInt8), H32 rs → H32 qs → climbH i (footB P) rs j = climbH i (footB Q) qs j → partB (climbB i (footB P) rs j) (climbB i (footB Q) qs j) = some (a, b) → a ≠ b ∧ sumB a = sumB b
  | [], [], j, a, b, _, _, hh, hp => by
    rw [climbB, climbB, partB_cons] at hp
    by_cases he : footB P = footB Q
    · rw [if_pos he] at hp; cases hp
    · rw [if_neg he] at hp
      simp only [Option.some.injEq, Prod.mk.injEq] at hp
      rw [← hp.1, ← hp.2]
      exact ⟨he, hh⟩
  | [], q :: qs, j, a, b, _, _, hh, hp => by
    obtain ⟨c, d, hc⟩ := climb_head i (footB Q) q qs j
    unfold climbH at hh
    rw [hc, climbB] at hh
    rw [hc, climbB, partB_cons, if_neg (foot_tag P c d)] at hp
    simp only [Option.some.injEq, Prod.mk.injEq] at hp
    rw [← hp.1, ← hp.2]
    exact ⟨foot_tag P c d, hh⟩
  | r :: rs, [], j, a, b, _, _, hh, hp => by
    obtain ⟨c, d, hc⟩ := climb_head i (footB P) r rs j
    unfold climbH at hh
    rw [hc, climbB] at hh
    rw [hc, climbB, partB_cons, if_neg (fun e => foot_tag Q c d e.symm)] at hp
    simp only [Option.some.injEq, Prod.mk.injEq] at hp
    rw [← hp.1, ← hp.2]
    exact ⟨fun e => foot_tag Q c d e.symm, hh⟩
  | r :: rs, q :: qs, j, a, b, h1, h2, hh, hp => by
    by_cases hb : bitI i j = 1
    · unfold climbH at hh
      rw [climbB, climbB, if_pos hb, if_pos hb] at hh
      rw [climbB, climbB, if_pos hb, if_pos hb, partB_cons] at hp
      split at hp
      · rename_i he
        exact part_climb i P Q rs qs (j + 1) a b h1.tail h2.tail (text_two h1.head h2.head (sumB_len _) (sumB_len _) he).2 hp
      · rename_i he
        simp only [Option.some.injEq, Prod.mk.injEq] at hp
        rw [← hp.1, ← hp.2]
        exact ⟨he, hh⟩
    · unfold climbH at hh
      rw [climbB, climbB, if_neg hb, if_neg hb] at hh
      rw [climbB, climbB, if_neg hb, if_neg hb, partB_cons] at hp
      split at hp
      · rename_i he
        exact part_climb i P Q rs qs (j + 1) a b h1.tail h2.tail (text_two (sumB_len _) (sumB_len _) h1.head h2.head he).1 hp
      · rename_i he
        simp only [Option.some.injEq, Prod.mk.injEq] at hp
        rw [← hp.1, ← hp.2]
        exact ⟨he, hh⟩
/-- Two texts that are unlike, with one sum. -/
theorem clash_is {i : List UInt8} {p q : Pf} (hp : p.Ok) (hq : q.Ok) {a b : List UInt8} (h : clashP i p q = some (a, b)) : a ≠ b ∧ sumB a = sumB b := by
  unfold clashP at h
  split at h
  · rename_i hc
    simp only [Bool.and_eq_true, beq_iff_eq] at hc
    exact part_climb i p q p.path q.path 0 a b hp.1 hq.1 hc.2 h
  · cases h
end Go.Pm
