/- A stable sort as plain mathematics: swaps of ranges, rotations, merges, blocks. Program-independent. -/
import Derived.Sort.LotA
namespace Go.Pm
open Go.Sort
variable {α : Type} [Inhabited α]

/-! ### Two ranges exchanged -/
structure SwapR (a b n : Nat) (d d' : Array α) : Prop where
  size : d'.size = d.size
  lo : ∀ x, a ≤ x → x < a + n → d'[x]! = d[x - a + b]!
  hi : ∀ x, b ≤ x → x < b + n → d'[x]! = d[x - b + a]!
  out : ∀ x, ¬ (a ≤ x ∧ x < a + n) → ¬ (b ≤ x ∧ x < b + n) → d'[x]! = d[x]!
  perm : ∀ p q, p ≤ a → p ≤ b → a + n ≤ q → b + n ≤ q → q ≤ d.size → PermIn p q d d'
theorem SwapR.start (a b : Nat) (d : Array α) : SwapR a b 0 d d :=
  ⟨rfl, fun x _ _ => by omega, fun x _ _ => by omega, fun _ _ _ => rfl, fun p q _ _ _ _ _ => permIn_refl d p q⟩
theorem SwapR.step {a b n : Nat} {d d' : Array α} (h : SwapR a b n d d') (hab : a + n < b) (hb : b + n < d.size) : SwapR a b (n + 1) d (swp d' (a + n) (b + n)) := by
  have g := swp_get d' (i := a + n) (j := b + n) (by rw [h.size]; omega) (by rw [h.size]; omega)
  refine ⟨by rw [swp_size, h.size], fun x h1 h2 => ?_, fun x h1 h2 => ?_, fun x h1 h2 => ?_, fun p q h1 h2 h3 h4 h5 => ?_⟩
  · rw [g, if_neg (by omega)]
    by_cases hx : x = a + n
    · rw [if_pos hx, h.out (b + n) (by omega) (by omega)]
      congr 1; omega
    · rw [if_neg hx, h.lo x h1 (by omega)]
  · rw [g]
    by_cases hx : x = b + n
    · rw [if_pos hx, h.out (a + n) (by omega) (by omega)]
      congr 1; omega
    · rw [if_neg hx, if_neg (by omega), h.hi x h1 (by omega)]
  · rw [g, if_neg (by omega), if_neg (by omega), h.out x (by omega) (by omega)]
  · exact permIn_trans _ _ _ p q (h.perm p q h1 h2 (by omega) (by omega) h5) (swp_permIn d' p q (a + n) (b + n) (by omega) (by omega) (by omega) (by omega) (by rw [h.size]; exact h5))

/-! ### Rotations -/
structure Rot (a m b : Nat) (d d' : Array α) : Prop where
  perm : PermIn a b d d'
  lo : ∀ x, a ≤ x → x < a + (b - m) → d'[x]! = d[x + (m - a)]!
  hi : ∀ x, a + (b - m) ≤ x → x < b → d'[x]! = d[x - (b - m)]!
theorem Rot.size {a m b : Nat} {d d' : Array α} (h : Rot a m b d d') : d'.size = d.size := h.perm.1
theorem Rot.out {a m b : Nat} {d d' : Array α} (h : Rot a m b d d') (x : Nat) (hx : x < a ∨ b ≤ x) : d'[x]! = d[x]! := h.perm.2.1 x hx
theorem Rot.none_left (m b : Nat) (d : Array α) : Rot m m b d d :=
  ⟨permIn_refl _ _ _, fun x _ _ => by rw [Nat.sub_self]; rfl, fun x h1 h2 => by omega⟩
theorem Rot.none_right (a m : Nat) (d : Array α) (_h : a ≤ m) : Rot a m m d d :=
  ⟨permIn_refl _ _ _, fun x h1 h2 => by omega, fun x h1 h2 => by rw [Nat.sub_self]; rfl⟩
theorem permIn_wide {a b a' b' : Nat} {d d' : Array α} (h : PermIn a b d d') (h1 : a' ≤ a) (h2 : b ≤ b') (h3 : b' ≤ d.size) : PermIn a' b' d d' := permIn_mono d d' a b a' b' h1 h2 h3 h
/-- One more to the right: the first one moves on. -/
theorem Rot.right {a k : Nat} {d d' : Array α} (h : Rot a (a + 1) (k + 1) d d') (hk : a ≤ k) (hs : k + 1 < d.size) : Rot a (a + 1) (k + 2) d (swp d' k (k + 1)) := by
  have g := swp_get d' (i := k) (j := k + 1) (by rw [h.size]; omega) (by rw [h.size]; omega)
  refine ⟨permIn_trans _ _ _ a (k + 2) (permIn_wide h.perm (Nat.le_refl _) (by omega) (by omega)) (swp_permIn d' a (k + 2) k (k + 1) (by omega) (by omega) (by omega) (by omega) (by rw [h.size]; omega)), fun x h1 h2 => ?_, fun x h1 h2 => ?_⟩
  · rw [g, if_neg (by omega)]
    by_cases hx : x = k
    · rw [if_pos hx, h.out (k + 1) (by omega)]
      congr 1; omega
    · rw [if_neg hx, h.lo x h1 (by omega)]
  · obtain rfl : x = k + 1 := by omega
    rw [g, if_pos rfl, h.hi k (by omega) (by omega)]
    congr 1; omega
/-- One more to the left: the last one moves on. -/
theorem Rot.left {k m : Nat} {d d' : Array α} (h : Rot (k + 1) m (m + 1) d d') (hk : k < m) (hs : m < d.size) : Rot k m (m + 1) d (swp d' (k + 1) k) := by
  have g := swp_get d' (i := k + 1) (j := k) (by rw [h.size]; omega) (by rw [h.size]; omega)
  refine ⟨permIn_trans _ _ _ k (m + 1) (permIn_wide h.perm (by omega) (Nat.le_refl _) (by omega)) (swp_permIn d' k (m + 1) (k + 1) k (by omega) (by omega) (by omega) (by omega) (by rw [h.size]; omega)), fun x h1 h2 => ?_, fun x h1 h2 => ?_⟩
  · obtain rfl : x = k := by omega
    rw [g, if_pos rfl, h.lo (x + 1) (by omega) (by omega)]
    congr 1; omega
  · rw [g, if_neg (by omega)]
    by_cases hx : x = k + 1
    · rw [if_pos hx, h.out k (by omega)]
      congr 1; omega
    · rw [if_neg hx, h.hi x (by omega) (by omega)]
/-- A rotation's last exchange. -/
theorem Rot.last {m i : Nat} {d d' : Array α} (h : SwapR (m - i) m i d d') (hi : i ≤ m) (hs : m + i ≤ d.size) : Rot (m - i) m (m + i) d d' := by
  refine ⟨h.perm _ _ (Nat.le_refl _) (by omega) (by omega) (Nat.le_refl _) hs, fun x h1 h2 => ?_, fun x h1 h2 => ?_⟩
  · rw [h.lo x h1 (by omega)]; congr 1; omega
  · rw [h.hi x (by omega) (by omega)]; congr 1; omega
/-- One exchange, where the left part is the longer one. -/
theorem Rot.more_left {m i j : Nat} {d d1 d' : Array α} (h : SwapR (m - i) m j d d1) (hij : j < i) (hi : i ≤ m) (hs : m + j ≤ d.size) (hr : Rot (m - (i - j)) m (m + j) d1 d') : Rot (m - i) m (m + j) d d' := by
  refine ⟨permIn_trans _ _ _ _ _ (h.perm _ _ (Nat.le_refl _) (by omega) (by omega) (Nat.le_refl _) hs) (permIn_wide hr.perm (by omega) (Nat.le_refl _) (by rw [h.size]; exact hs)), fun x h1 h2 => ?_, fun x h1 h2 => ?_⟩
  · rw [hr.out x (by omega), h.lo x h1 (by omega)]; congr 1; omega
  · by_cases hx : x < m - (i - j) + (m + j - m)
    · rw [hr.lo x (by omega) hx]
      by_cases hy : x + (m - (m - (i - j))) < m
      · rw [h.out _ (by omega) (by omega)]; congr 1; omega
      · rw [h.hi _ (by omega) (by omega)]; congr 1; omega
    · rw [hr.hi x (by omega) h2]
      by_cases hy : x - (m + j - m) < m
      · rw [h.out _ (by omega) (by omega)]
      · rw [h.hi _ (by omega) (by omega)]; congr 1; omega
/-- One exchange, where the right part is the longer one. -/
theorem Rot.more_right {m i j : Nat} {d d1 d' : Array α} (h : SwapR (m - i) (m + j - i) i d d1) (hij : i < j) (hi : i ≤ m) (hs : m + j ≤ d.size) (hr : Rot (m - i) m (m + (j - i)) d1 d') : Rot (m - i) m (m + j) d d' := by
  refine ⟨permIn_trans _ _ _ _ _ (h.perm _ _ (Nat.le_refl _) (by omega) (by omega) (by omega) hs) (permIn_wide hr.perm (Nat.le_refl _) (by omega) (by rw [h.size]; exact hs)), fun x h1 h2 => ?_, fun x h1 h2 => ?_⟩
  · by_cases hx : x < m - i + (m + (j - i) - m)
    · rw [hr.lo x h1 hx]
      by_cases hy : x + (m - (m - i)) < m + j - i
      · rw [h.out _ (by omega) (by omega)]
      · rw [h.hi _ (by omega) (by omega)]; congr 1; omega
    · by_cases hz : x < m + (j - i)
      · rw [hr.hi x (by omega) hz]
        rw [h.lo _ (by omega) (by omega)]; congr 1; omega
      · omega
  · by_cases hz : x < m + (j - i)
    · omega
    · rw [hr.out x (by omega), h.hi x (by omega) (by omega)]; congr 1; omega

/-! ### Where a test turns -/
def Srch (P : Nat → Bool) (lo hi i j : Nat) : Prop := lo ≤ i ∧ i ≤ j ∧ j ≤ hi ∧ (i = lo ∨ P (i - 1) = true) ∧ (j = hi ∨ P j = false)
theorem Srch.start (P : Nat → Bool) (lo hi : Nat) (h : lo ≤ hi) : Srch P lo hi lo hi := ⟨Nat.le_refl _, h, Nat.le_refl _, .inl rfl, .inl rfl⟩
theorem Srch.up {P : Nat → Bool} {lo hi i j : Nat} (h : Srch P lo hi i j) (hij : i < j) (hp : P ((i + j) / 2) = true) : Srch P lo hi ((i + j) / 2 + 1) j :=
  ⟨by have := h.1; omega, by omega, h.2.2.1, .inr (by simpa using hp), h.2.2.2.2⟩
theorem Srch.down {P : Nat → Bool} {lo hi i j : Nat} (h : Srch P lo hi i j) (hij : i < j) (hp : P ((i + j) / 2) = false) : Srch P lo hi i ((i + j) / 2) :=
  ⟨h.1, by omega, by have := h.2.2.1; omega, h.2.2.2.1, .inr hp⟩

/-! ### Merges -/
/-- Rising from a on, below b. -/
def SortS (s : α → α → Prop) (a b : Nat) (d : Array α) : Prop := ∀ i j, a ≤ i → i < j → j < b → s d[i]! d[j]!
/-- What 'less' says of one of the right part and one of the left part is the order. -/
def Cross (lt : α → α → Bool) (s : α → α → Prop) (a m b : Nat) (d : Array α) : Prop :=
  ∀ i j, a ≤ i → i < m → m ≤ j → j < b → (lt d[j]! d[i]! = true → s d[j]! d[i]!) ∧ (lt d[j]! d[i]! = false → s d[i]! d[j]!)
/-- What a merge is of. -/
structure Mrg (lt : α → α → Bool) (s : α → α → Prop) (a m b : Nat) (d : Array α) : Prop where
  left : SortS s a m d
  right : SortS s m b d
  cross : Cross lt s a m b d
/-- What it comes to. -/
structure Mrgd (s : α → α → Prop) (a b : Nat) (d d' : Array α) : Prop where
  perm : PermIn a b d d'
  sorted : SortS s a b d'
theorem SortS.sub {s : α → α → Prop} {a b a' b' : Nat} {d : Array α} (h : SortS s a b d) (h1 : a ≤ a') (h2 : b' ≤ b) : SortS s a' b' d := fun i j p q r => h i j (by omega) q (by omega)
theorem SortS.congr {s : α → α → Prop} {a b : Nat} {d d' : Array α} (h : SortS s a b d) (he : ∀ x, a ≤ x → x < b → d'[x]! = d[x]!) : SortS s a b d' := fun i j p q r => by
  rw [he i p (by omega), he j (by omega) r]; exact h i j p q r
variable {lt : α → α → Bool} {s : α → α → Prop}
/-- One at the left. -/
theorem mrg_one_left {a b i : Nat} {d d' : Array α} (hs : ∀ x y z, s x y → s y z → s x z) (h : Mrg lt s a (a + 1) b d) (hb : b ≤ d.size) (hi : Srch (fun k => lt d[k]! d[a]!) (a + 1) b i i) (hr : Rot a (a + 1) i d d') : Mrgd s a b d d' := by
  obtain ⟨h1, _, h3, h4, h5⟩ := hi
  refine ⟨permIn_wide hr.perm (Nat.le_refl _) h3 hb, fun p q h6 h7 h8 => ?_⟩
  have out : ∀ x, i ≤ x → d'[x]! = d[x]! := fun x hx => hr.out x (.inr hx)
  have lo : ∀ x, a ≤ x → x + 1 < i → d'[x]! = d[x + 1]! := fun x hx hx2 => by rw [hr.lo x hx (by omega)]; congr 1; omega
  have at_ : d'[i - 1]! = d[a]! := by rw [hr.hi (i - 1) (by omega) (by omega)]; congr 1; omega
  -- all of the right part ahead of i are ahead of the one
  have before : ∀ x, a + 1 ≤ x → x < i → s d[x]! d[a]! := fun x hx hx2 => by
    rcases h4 with h4 | h4
    · omega
    · have e := (h.cross a (i - 1) (Nat.le_refl _) (by omega) (by omega) (by omega)).1 h4
      by_cases hxi : x = i - 1
      · rw [hxi]; exact e
      · exact hs _ _ _ (h.right x (i - 1) hx (by omega) (by omega)) e
  have behind : ∀ x, i ≤ x → x < b → s d[a]! d[x]! := fun x hx hx2 => by
    rcases h5 with h5 | h5
    · omega
    · have e := (h.cross a i (Nat.le_refl _) (by omega) (by omega) (by omega)).2 h5
      by_cases hxi : x = i
      · rw [hxi]; exact e
      · exact hs _ _ _ e (h.right i x (by omega) (by omega) hx2)
  by_cases hp : p + 1 < i
  · rw [lo p h6 hp]
    by_cases hq : q + 1 < i
    · rw [lo q (by omega) hq]; exact h.right _ _ (by omega) (by omega) (by omega)
    · by_cases hq2 : q = i - 1
      · rw [hq2, at_]; exact before _ (by omega) hp
      · rw [out q (by omega)]; exact h.right _ _ (by omega) (by omega) h8
  · by_cases hp2 : p = i - 1
    · rw [hp2, at_, out q (by omega)]; exact behind q (by omega) h8
    · rw [out p (by omega), out q (by omega)]; exact h.right _ _ (by omega) h7 h8
/-- One at the right. -/
theorem mrg_one_right {a m i : Nat} {d d' : Array α} (hs : ∀ x y z, s x y → s y z → s x z) (h : Mrg lt s a m (m + 1) d) (hb : m + 1 ≤ d.size) (hi : Srch (fun k => !lt d[m]! d[k]!) a m i i) (hr : Rot i m (m + 1) d d') : Mrgd s a (m + 1) d d' := by
  obtain ⟨h1, _, h3, h4, h5⟩ := hi
  refine ⟨permIn_wide hr.perm h1 (Nat.le_refl _) hb, fun p q h6 h7 h8 => ?_⟩
  have out : ∀ x, x < i → d'[x]! = d[x]! := fun x hx => hr.out x (.inl hx)
  have hi' : ∀ x, i < x → x ≤ m → d'[x]! = d[x - 1]! := fun x hx hx2 => by rw [hr.hi x (by omega) (by omega)]; congr 1; omega
  have at_ : d'[i]! = d[m]! := by rw [hr.lo i (Nat.le_refl _) (by omega)]; congr 1; omega
  have before : ∀ x, a ≤ x → x < i → s d[x]! d[m]! := fun x hx hx2 => by
    rcases h4 with h4 | h4
    · omega
    · have e := (h.cross (i - 1) m (by omega) (by omega) (Nat.le_refl _) (by omega)).2 (by simpa using h4)
      by_cases hxi : x = i - 1
      · rw [hxi]; exact e
      · exact hs _ _ _ (h.left x (i - 1) hx (by omega) (by omega)) e
  have behind : ∀ x, i ≤ x → x < m → s d[m]! d[x]! := fun x hx hx2 => by
    rcases h5 with h5 | h5
    · omega
    · have e := (h.cross i m h1 (by omega) (Nat.le_refl _) (by omega)).1 (by simpa using h5)
      by_cases hxi : x = i
      · rw [hxi]; exact e
      · exact hs _ _ _ e (h.left i x h1 (by omega) hx2)
  by_cases hp : p < i
  · rw [out p hp]
    by_cases hq : q < i
    · rw [out q hq]; exact h.left _ _ h6 h7 (by omega)
    · by_cases hq2 : q = i
      · rw [hq2, at_]; exact before _ h6 hp
      · rw [hi' q (by omega) (by omega)]; exact h.left _ _ h6 (by omega) (by omega)
  · by_cases hp2 : p = i
    · rw [hp2, at_, hi' q (by omega) (by omega)]; exact behind _ (by omega) (by omega)
    · rw [hi' p (by omega) (by omega), hi' q (by omega) (by omega)]; exact h.left _ _ (by omega) (by omega) (by omega)
/-- The place where both parts are cut. -/
def cutLo (a m b : Nat) : Nat := if m > (a + b) / 2 then (a + b) / 2 + m - b else a
def cutHi (a m b : Nat) : Nat := if m > (a + b) / 2 then (a + b) / 2 else m
/-- Both halves, behind the rotation. -/
structure Parted (lt : α → α → Bool) (s : α → α → Prop) (a st mid en b : Nat) (d : Array α) : Prop where
  one : Mrg lt s a st mid d
  two : Mrg lt s mid en b d
  sep : ∀ i j, a ≤ i → i < mid → mid ≤ j → j < b → s d[i]! d[j]!
theorem mrg_cut {a m b st : Nat} {d d' : Array α} (hs : ∀ x y z, s x y → s y z → s x z) (h : Mrg lt s a m b d) (ham : a < m) (hmb : m < b)
    (hst : Srch (fun c => !lt d[(a + b) / 2 + m - 1 - c]! d[c]!) (cutLo a m b) (cutHi a m b) st st) (hr : Rot st m ((a + b) / 2 + m - st) d d') : Parted lt s a st ((a + b) / 2) ((a + b) / 2 + m - st) b d' := by
  obtain ⟨h1, _, h3, h4, h5⟩ := hst
  obtain ⟨mid, hmid⟩ : ∃ mid, mid = (a + b) / 2 := ⟨_, rfl⟩
  rw [← hmid] at h4 h5 hr ⊢
  have c1 : a ≤ st := by unfold cutLo at h1; split at h1 <;> omega
  have c2 : st ≤ m ∧ st ≤ mid := by unfold cutHi at h3; split at h3 <;> omega
  have c3 : mid + m - st ≤ b := by unfold cutLo at h1; split at h1 <;> omega
  obtain ⟨en, hen⟩ : ∃ en, en = mid + m - st := ⟨_, rfl⟩
  rw [← hen] at hr c3 ⊢
  -- the four pieces
  have L1 : ∀ x, x < st → d'[x]! = d[x]! := fun x hx => hr.out x (.inl hx)
  have R2 : ∀ x, en ≤ x → d'[x]! = d[x]! := fun x hx => hr.out x (.inr hx)
  have R1 : ∀ x, st ≤ x → x < mid → d'[x]! = d[x + (m - st)]! := fun x hx hx2 => hr.lo x hx (by omega)
  have L2 : ∀ x, mid ≤ x → x < en → d'[x]! = d[x - (en - m)]! := fun x hx hx2 => hr.hi x (by omega) hx2
  -- what the cut says
  have e1 : ∀ i j, a ≤ i → i < st → en ≤ j → j < b → s d[i]! d[j]! := fun i j p1 p2 p3 p4 => by
    rcases h4 with h4 | h4
    · unfold cutLo at h4; split at h4 <;> omega
    · have q := (h.cross (st - 1) (mid + m - 1 - (st - 1)) (by omega) (by omega) (by omega) (by omega)).2 (by simpa using h4)
      have e : mid + m - 1 - (st - 1) = en := by omega
      rw [e] at q
      have q1 : s d[i]! d[en]! := by
        by_cases hi : i = st - 1
        · rw [hi]; exact q
        · exact hs _ _ _ (h.left i (st - 1) p1 (by omega) (by omega)) q
      by_cases hj : j = en
      · rw [hj]; exact q1
      · exact hs _ _ _ q1 (h.right en j (by omega) (by omega) p4)
  have e2 : ∀ i j, m ≤ i → i < en → st ≤ j → j < m → s d[i]! d[j]! := fun i j p1 p2 p3 p4 => by
    rcases h5 with h5 | h5
    · unfold cutHi at h5; split at h5 <;> omega
    · have q := (h.cross st (mid + m - 1 - st) (by omega) (by omega) (by omega) (by omega)).1 (by simpa using h5)
      have e : mid + m - 1 - st = en - 1 := by omega
      rw [e] at q
      have q1 : s d[en - 1]! d[j]! := by
        by_cases hj : j = st
        · rw [hj]; exact q
        · exact hs _ _ _ q (h.left st j (by omega) (by omega) p4)
      by_cases hi : i = en - 1
      · rw [hi]; exact q1
      · exact hs _ _ _ (h.right i (en - 1) p1 (by omega) (by omega)) q1
  refine ⟨⟨fun i j p1 p2 p3 => ?_, fun i j p1 p2 p3 => ?_, fun i j p1 p2 p3 p4 => ?_⟩, ⟨fun i j p1 p2 p3 => ?_, fun i j p1 p2 p3 => ?_, fun i j p1 p2 p3 p4 => ?_⟩, fun i j p1 p2 p3 p4 => ?_⟩
  · rw [L1 i (by omega), L1 j (by omega)]; exact h.left _ _ p1 p2 (by omega)
  · rw [R1 i (by omega) (by omega), R1 j (by omega) (by omega)]; exact h.right _ _ (by omega) (by omega) (by omega)
  · rw [L1 i (by omega), R1 j (by omega) (by omega)]; exact h.cross _ _ p1 (by omega) (by omega) (by omega)
  · rw [L2 i (by omega) (by omega), L2 j (by omega) (by omega)]; exact h.left _ _ (by omega) (by omega) (by omega)
  · rw [R2 i (by omega), R2 j (by omega)]; exact h.right _ _ (by omega) (by omega) (by omega)
  · rw [L2 i (by omega) (by omega), R2 j (by omega)]; exact h.cross _ _ (by omega) (by omega) (by omega) (by omega)
  · by_cases hi : i < st
    · rw [L1 i hi]
      by_cases hj : j < en
      · rw [L2 j (by omega) hj]; exact h.left _ _ p1 (by omega) (by omega)
      · rw [R2 j (by omega)]; exact e1 _ _ p1 hi (by omega) p4
    · rw [R1 i (by omega) p2]
      by_cases hj : j < en
      · rw [L2 j (by omega) hj]; exact e2 _ _ (by omega) (by omega) (by omega) (by omega)
      · rw [R2 j (by omega)]; exact h.right _ _ (by omega) (by omega) p4
/-- A half that is not merged is merged. -/
theorem mrg_idle {a st mid : Nat} {d : Array α} (h : Mrg lt s a st mid d) (hn : ¬ (a < st ∧ st < mid)) (h1 : a ≤ st) (h2 : st ≤ mid) : Mrgd s a mid d d := by
  refine ⟨permIn_refl _ _ _, ?_⟩
  by_cases ha : a = st
  · rw [ha]; exact h.right
  · have : st = mid := by omega
    rw [← this]; exact h.left
/-- What was sure of the second half is so behind the first one. -/
theorem Parted.first {a st mid en b : Nat} {d d1 : Array α} (h : Parted lt s a st mid en b d) (hmb : mid ≤ d.size) (h1 : Mrgd s a mid d d1) (h2 : mid ≤ en) :
    Mrg lt s mid en b d1 ∧ ∀ i j, a ≤ i → i < mid → mid ≤ j → j < b → s d1[i]! d1[j]! := by
  have same : ∀ x, mid ≤ x → d1[x]! = d[x]! := fun x hx => h1.perm.2.1 x (.inr hx)
  refine ⟨⟨h.two.left.congr fun x p q => same x p, h.two.right.congr fun x p q => same x (by omega), fun i j p1 p2 p3 p4 => ?_⟩, fun i j p1 p2 p3 p4 => ?_⟩
  · rw [same i p1, same j (by omega)]; exact h.two.cross i j p1 p2 p3 p4
  · rw [same j p3]
    exact permIn_all d d1 a mid (fun x => s x d[j]!) hmb h1.perm (fun k k1 k2 => h.sep k j k1 k2 p3 p4) i p1 p2
theorem mrgd_both {a mid b : Nat} {d d1 d2 : Array α} (hm : a ≤ mid) (hmb : mid ≤ b) (hb : b ≤ d.size) (h1 : Mrgd s a mid d d1) (sep : ∀ i j, a ≤ i → i < mid → mid ≤ j → j < b → s d1[i]! d1[j]!) (h2 : Mrgd s mid b d1 d2) : Mrgd s a b d d2 := by
  have hs1 : d1.size = d.size := h1.perm.1
  have same : ∀ x, x < mid → d2[x]! = d1[x]! := fun x hx => h2.perm.2.1 x (.inl hx)
  refine ⟨permIn_trans _ _ _ _ _ (permIn_wide h1.perm (Nat.le_refl _) hmb hb) (permIn_wide h2.perm hm (Nat.le_refl _) (by omega)), fun i j p1 p2 p3 => ?_⟩
  by_cases hj : j < mid
  · rw [same i (by omega), same j hj]; exact h1.sorted i j p1 p2 hj
  · by_cases hi : i < mid
    · rw [same i hi]
      exact permIn_all d1 d2 mid b (fun x => s d1[i]! x) (by omega) h2.perm (fun k k1 k2 => sep i k p1 hi k1 k2) j (by omega) p3
    · exact h2.sorted i j (by omega) p2 p3

/-! ### The first blocks -/
structure InsS (lt : α → α → Bool) (s : α → α → Prop) (a j i : Nat) (d : Array α) : Prop where
  rest : ∀ p q, a ≤ p → p < q → q ≤ i → p ≠ j → q ≠ j → s d[p]! d[q]!
  right : ∀ q, j < q → q ≤ i → s d[j]! d[q]!
  cross : ∀ p, a ≤ p → p < j → (lt d[j]! d[p]! = true → s d[j]! d[p]!) ∧ (lt d[j]! d[p]! = false → s d[p]! d[j]!)
theorem InsS.stop (hs : ∀ x y z, s x y → s y z → s x z) {a j i : Nat} {d : Array α} (h : InsS lt s a j i d) (hst : j ≤ a ∨ lt d[j]! d[j - 1]! = false) : SortS s a (i + 1) d := by
  intro p q hap hpq hqi
  by_cases hq : q = j
  · subst hq
    rcases hst with hst | hst
    · omega
    · have e := (h.cross (q - 1) (by omega) (by omega)).2 hst
      by_cases hp : p = q - 1
      · subst hp; exact e
      · exact hs _ _ _ (h.rest p (q - 1) hap (by omega) (by omega) (by omega) (by omega)) e
  · by_cases hp : p = j
    · subst hp; exact h.right q hpq (by omega)
    · exact h.rest p q hap hpq (by omega) hp hq
theorem InsS.step {a j i : Nat} {d : Array α} (h : InsS lt s a (j + 1) i d) (hl : lt d[j + 1]! d[j]! = true) (haj : a ≤ j) (hsz : j + 1 < d.size) : InsS lt s a j i (swp d (j + 1) j) := by
  have g := swp_get d hsz (show j < d.size by omega)
  refine ⟨fun p q hap hpq hqi hp hq => ?_, fun q hjq hqi => ?_, fun p h1 h2 => ?_⟩
  · rw [g, g]
    by_cases hq1 : q = j + 1
    · subst hq1
      simp only [hq, hp, if_false, if_true, show p ≠ j + 1 by omega]
      exact h.rest p j hap (by omega) (by omega) (by omega) (by omega)
    · by_cases hp1 : p = j + 1
      · subst hp1
        simp only [hq, hp, hq1, if_false, if_true]
        exact h.rest j q haj (by omega) hqi (by omega) hq1
      · simp only [hq, hp, hq1, hp1, if_false]
        exact h.rest p q hap hpq hqi hp1 hq1
  · rw [g, g]
    by_cases hq1 : q = j + 1
    · subst hq1
      simpa [show j + 1 ≠ j by omega] using (h.cross j haj (by omega)).1 hl
    · simp only [if_true, show q ≠ j by omega, hq1, if_false]
      exact h.right q (by omega) hqi
  · rw [g, g, if_pos rfl, if_neg (by omega), if_neg (by omega)]
    exact h.cross p h1 (by omega)
theorem insInner_s (hs : ∀ x y z, s x y → s y z → s x z) (a b i : Nat) (hib : i < b) : ∀ (j : Nat) (d : Array α), a ≤ j → j ≤ i → b ≤ d.size → InsS lt s a j i d → PermIn a (i + 1) d (insInner lt a j d) ∧ SortS s a (i + 1) (insInner lt a j d)
  | 0, d, _, _, _, hI => by
    unfold insInner
    exact ⟨permIn_refl _ _ _, hI.stop hs (Or.inl (Nat.zero_le _))⟩
  | j + 1, d, haj, hji, hb, hI => by
    unfold insInner
    split
    · rename_i hc
      simp only [Bool.and_eq_true, decide_eq_true_eq] at hc
      have ih := insInner_s hs a b i hib j (swp d (j + 1) j) (by omega) (by omega) (by rw [swp_size]; exact hb) (hI.step hc.2 (by omega) (by omega))
      exact ⟨permIn_trans _ _ _ _ _ (swp_permIn d a (i + 1) (j + 1) j haj (by omega) (by omega) (by omega) (by omega)) ih.1, ih.2⟩
    · rename_i hc
      simp only [Bool.and_eq_true, decide_eq_true_eq, not_and, Bool.not_eq_true] at hc
      refine ⟨permIn_refl _ _ _, hI.stop hs ?_⟩
      by_cases h : j + 1 > a
      · exact Or.inr (by simpa using hc h)
      · exact Or.inl (by omega)
/-- Each against each one ahead of it. -/
def CrossAll (lt : α → α → Bool) (s : α → α → Prop) (a b : Nat) (d : Array α) : Prop :=
  ∀ i j, a ≤ i → i < j → j < b → (lt d[j]! d[i]! = true → s d[j]! d[i]!) ∧ (lt d[j]! d[i]! = false → s d[i]! d[j]!)
theorem insOuter_s (hs : ∀ x y z, s x y → s y z → s x z) (a b : Nat) : ∀ (n i : Nat) (d : Array α), b - i = n → a < i → i ≤ b → b ≤ d.size → SortS s a i d → (∀ p q, a ≤ p → p < q → i ≤ q → q < b → (lt d[q]! d[p]! = true → s d[q]! d[p]!) ∧ (lt d[q]! d[p]! = false → s d[p]! d[q]!)) →
    Mrgd s a b d (insOuter lt a b i d)
  | 0, i, d, hn, _, hib, _, hso, _ => by
    obtain rfl : i = b := by omega
    rw [insOuter, if_neg (by omega)]
    exact ⟨permIn_refl _ _ _, hso⟩
  | n + 1, i, d, hn, hai, hib, hb, hso, hc => by
    have hlt : i < b := by omega
    rw [insOuter, if_pos hlt]
    have h1 := insInner_s (lt := lt) hs a b i hlt i d (by omega) (Nat.le_refl _) hb ⟨fun p q hap hpq hqi _ hq => hso p q hap hpq (by omega), fun q h1 h2 => by omega, fun p h1 h2 => hc p i h1 h2 (Nat.le_refl _) hlt⟩
    have same : ∀ x, i + 1 ≤ x → (insInner lt a i d)[x]! = d[x]! := fun x hx => h1.1.2.1 x (.inr hx)
    have h2 := insOuter_s hs a b n (i + 1) (insInner lt a i d) (by omega) (by omega) (by omega) (by rw [h1.1.1]; exact hb) h1.2 (fun p q p1 p2 p3 p4 => by
      rw [same q p3]
      by_cases hp : p < i + 1
      · exact permIn_all d _ a (i + 1) (fun y => (lt d[q]! y = true → s d[q]! y) ∧ (lt d[q]! y = false → s y d[q]!)) (by omega) h1.1 (fun k k1 k2 => hc k q k1 (by omega) (by omega) p4) p p1 hp
      · rw [same p (by omega)]; exact hc p q p1 p2 (by omega) p4)
    exact ⟨permIn_trans _ _ _ a b (permIn_wide h1.1 (Nat.le_refl _) (by omega) hb) h2.perm, h2.sorted⟩
theorem insertionSort_s (hs : ∀ x y z, s x y → s y z → s x z) (d : Array α) (a b : Nat) (hb : b ≤ d.size) (hab : a ≤ b) (hc : CrossAll lt s a b d) : Mrgd s a b d (insertionSort lt d a b) := by
  unfold insertionSort
  by_cases h : a = b
  · subst h
    rw [insOuter, if_neg (by omega)]
    exact ⟨permIn_refl _ _ _, fun i j h1 h2 h3 => by omega⟩
  · exact insOuter_s hs a b (b - (a + 1)) (a + 1) d rfl (by omega) (by omega) hb (fun i j h1 h2 h3 => by omega) (fun p q p1 p2 p3 p4 => hc p q p1 p2 p4)

/-! ### Blocks -/
/-- Each lies in its own block. -/
def Own (T : α → Nat) (bs lo hi : Nat) (d : Array α) : Prop := ∀ x, lo ≤ x → x < hi → T d[x]! / bs = x / bs
/-- Each block rises. -/
def BlkS (s : α → α → Prop) (bs lo hi : Nat) (d : Array α) : Prop := ∀ i j, lo ≤ i → i < j → j < hi → i / bs = j / bs → s d[i]! d[j]!
theorem div_block {bs k x : Nat} (_hb : 0 < bs) (h1 : k * bs ≤ x) (h2 : x < k * bs + bs) : x / bs = k := by
  apply Nat.div_eq_of_lt_le
  · exact h1
  · rw [Nat.add_mul, Nat.one_mul]; exact h2
/-- Blocks twice as long, merged below a place and not yet behind it. -/
structure Half (T : α → Nat) (s : α → α → Prop) (bs n a : Nat) (d : Array α) : Prop where
  own2 : Own T (2 * bs) 0 a d
  blk2 : BlkS s (2 * bs) 0 a d
  own : Own T bs a n d
  blk : BlkS s bs a n d
theorem div_two (x bs : Nat) : x / (2 * bs) = x / bs / 2 := by rw [Nat.mul_comm, Nat.div_div_eq_div_mul]
/-- What a merge of two blocks wants. -/
theorem Half.mrg {T : α → Nat} {bs n k m b : Nat} {d : Array α} (hlt : ∀ x y, T x < T y → (lt y x = true → s y x) ∧ (lt y x = false → s x y)) (h : Half T s bs n (2 * k * bs) d) (hb0 : 0 < bs) (hm : m = 2 * k * bs + bs) (hb : m ≤ b) (hb2 : b ≤ m + bs) (hn : b ≤ n) : Mrg lt s (2 * k * bs) m b d := by
  have e : m = (2 * k + 1) * bs := by rw [hm, Nat.add_mul, Nat.one_mul]
  have d1 : ∀ x, 2 * k * bs ≤ x → x < m → x / bs = 2 * k := fun x h1 h2 => div_block hb0 h1 (by omega)
  have d2 : ∀ x, m ≤ x → x < b → x / bs = 2 * k + 1 := fun x h1 h2 => div_block hb0 (by omega) (by omega)
  refine ⟨fun i j p1 p2 p3 => h.blk i j p1 p2 (by omega) ?_, fun i j p1 p2 p3 => h.blk i j (by omega) p2 (by omega) ?_, fun i j p1 p2 p3 p4 => hlt _ _ ?_⟩
  · rw [d1 i p1 (by omega), d1 j (by omega) p3]
  · rw [d2 i p1 (by omega), d2 j (by omega) p3]
  · have t1 := h.own i p1 (by omega)
    have t2 := h.own j (by omega) (by omega)
    rw [d1 i p1 p2] at t1
    rw [d2 j p3 p4] at t2
    apply Nat.lt_of_not_le
    intro hle
    have := Nat.div_le_div_right (c := bs) hle
    omega
/-- .. and what it comes to. -/
theorem Half.next {T : α → Nat} {bs n k b : Nat} {d d' : Array α} (h : Half T s bs n (2 * k * bs) d) (hb0 : 0 < bs) (hb : 2 * k * bs ≤ b) (hb2 : b ≤ 2 * k * bs + 2 * bs) (hn : b ≤ n) (hsz : n ≤ d.size) (hm : Mrgd s (2 * k * bs) b d d') : Half T s bs n b d' := by
  have hsame : ∀ x, x < 2 * k * bs ∨ b ≤ x → d'[x]! = d[x]! := hm.perm.2.1
  have dd : ∀ x, 2 * k * bs ≤ x → x < b → x / (2 * bs) = k := fun x h1 h2 => by
    apply div_block (by omega)
    · rw [← Nat.mul_assoc, Nat.mul_comm k 2]; exact h1
    · rw [← Nat.mul_assoc, Nat.mul_comm k 2]; omega
  have below : ∀ x, x < 2 * k * bs → x / (2 * bs) < k := fun x h1 => by
    rw [Nat.div_lt_iff_lt_mul (by omega), ← Nat.mul_assoc, Nat.mul_comm k 2]; exact h1
  refine ⟨fun x h1 h2 => ?_, fun i j p1 p2 p3 p4 => ?_, fun x h1 h2 => ?_, fun i j p1 p2 p3 p4 => ?_⟩
  · by_cases hx : x < 2 * k * bs
    · rw [hsame x (.inl hx)]; exact h.own2 x h1 hx
    · rw [dd x (by omega) h2]
      exact permIn_all d d' (2 * k * bs) b (fun y => T y / (2 * bs) = k) (by omega) hm.perm (fun y y1 y2 => by rw [div_two, h.own y y1 (by omega), ← div_two, dd y y1 y2]) x (by omega) h2
  · by_cases hj : j < 2 * k * bs
    · rw [hsame i (.inl (by omega)), hsame j (.inl hj)]; exact h.blk2 i j p1 p2 hj p4
    · by_cases hi : i < 2 * k * bs
      · have := below i hi
        rw [p4, dd j (by omega) p3] at this
        omega
      · exact hm.sorted i j (by omega) p2 p3
  · rw [hsame x (.inr h1)]; exact h.own x (by omega) h2
  · rw [hsame i (.inr p1), hsame j (.inr (by omega))]; exact h.blk i j (by omega) p2 p3 p4
theorem Half.start {T : α → Nat} {bs n : Nat} {d : Array α} (h1 : Own T bs 0 n d) (h2 : BlkS s bs 0 n d) : Half T s bs n 0 d :=
  ⟨fun x _ h => by omega, fun i j _ h1 h2 => by omega, h1, h2⟩
/-- The last block has no other to be merged with. -/
theorem Half.last {T : α → Nat} {bs n k : Nat} {d : Array α} (h : Half T s bs n (2 * k * bs) d) (hb0 : 0 < bs) (hn : n ≤ 2 * k * bs + bs) (_ha : 2 * k * bs ≤ n) : Own T (2 * bs) 0 n d ∧ BlkS s (2 * bs) 0 n d := by
  have dd : ∀ x, 2 * k * bs ≤ x → x < n → x / (2 * bs) = k := fun x h1 h2 => by
    apply div_block (by omega)
    · rw [← Nat.mul_assoc, Nat.mul_comm k 2]; exact h1
    · rw [← Nat.mul_assoc, Nat.mul_comm k 2]; omega
  have below : ∀ x, x < 2 * k * bs → x / (2 * bs) < k := fun x h1 => by
    rw [Nat.div_lt_iff_lt_mul (by omega), ← Nat.mul_assoc, Nat.mul_comm k 2]; exact h1
  refine ⟨fun x h1 h2 => ?_, fun i j p1 p2 p3 p4 => ?_⟩
  · by_cases hx : x < 2 * k * bs
    · exact h.own2 x h1 hx
    · rw [div_two, h.own x (by omega) h2, ← div_two]
  · by_cases hj : j < 2 * k * bs
    · exact h.blk2 i j p1 p2 hj p4
    · by_cases hi : i < 2 * k * bs
      · have := below i hi
        rw [p4, dd j (by omega) p3] at this
        omega
      · refine h.blk i j (by omega) p2 p3 ?_
        rw [div_block hb0 (k := 2 * k) (by omega) (by omega), div_block hb0 (k := 2 * k) (by omega) (by omega)]
theorem Half.full {T : α → Nat} {bs n : Nat} {d : Array α} (h : Half T s bs n n d) : Own T (2 * bs) 0 n d ∧ BlkS s (2 * bs) 0 n d := ⟨h.own2, h.blk2⟩
/-- Insertion: the blocks below a place rise, the others are as they were. -/
structure Firsts (T : α → Nat) (s : α → α → Prop) (bs n a : Nat) (d : Array α) : Prop where
  own : Own T bs 0 a d
  blk : BlkS s bs 0 a d
  rest : ∀ x, a ≤ x → x < n → T d[x]! = x
theorem Firsts.cross {T : α → Nat} {bs n a b : Nat} {d : Array α} (hlt : ∀ x y, T x < T y → (lt y x = true → s y x) ∧ (lt y x = false → s x y)) (h : Firsts T s bs n a d) (hb : b ≤ n) : CrossAll lt s a b d := fun i j p1 p2 p3 =>
  hlt _ _ (by rw [h.rest i p1 (by omega), h.rest j (by omega) (by omega)]; exact p2)
theorem Firsts.next {T : α → Nat} {bs n k b : Nat} {d d' : Array α} (h : Firsts T s bs n (k * bs) d) (hb0 : 0 < bs) (hb : k * bs ≤ b) (hb2 : b ≤ k * bs + bs) (hn : b ≤ n) (hsz : n ≤ d.size) (hm : Mrgd s (k * bs) b d d') : Firsts T s bs n b d' := by
  have hsame : ∀ x, x < k * bs ∨ b ≤ x → d'[x]! = d[x]! := hm.perm.2.1
  have dd : ∀ x, k * bs ≤ x → x < b → x / bs = k := fun x h1 h2 => div_block hb0 h1 (by omega)
  have below : ∀ x, x < k * bs → x / bs < k := fun x h1 => by rw [Nat.div_lt_iff_lt_mul hb0]; exact h1
  refine ⟨fun x h1 h2 => ?_, fun i j p1 p2 p3 p4 => ?_, fun x h1 h2 => ?_⟩
  · by_cases hx : x < k * bs
    · rw [hsame x (.inl hx)]; exact h.own x h1 hx
    · rw [dd x (by omega) h2]
      exact permIn_all d d' (k * bs) b (fun y => T y / bs = k) (by omega) hm.perm (fun y y1 y2 => by rw [h.rest y y1 (by omega), dd y y1 y2]) x (by omega) h2
  · by_cases hj : j < k * bs
    · rw [hsame i (.inl (by omega)), hsame j (.inl hj)]; exact h.blk i j p1 p2 hj p4
    · by_cases hi : i < k * bs
      · have := below i hi
        rw [p4, dd j (by omega) p3] at this
        omega
      · exact hm.sorted i j (by omega) p2 p3
  · rw [hsame x (.inr h1)]; exact h.rest x (by omega) h2
theorem BlkS.whole {bs n : Nat} {d : Array α} (h : BlkS s bs 0 n d) (hb : n ≤ bs) : SortS s 0 n d := fun i j p1 p2 p3 => h i j p1 p2 p3 (by
  rw [Nat.div_eq_of_lt (by omega), Nat.div_eq_of_lt (by omega)])

end Go.Pm
namespace Go.Pm
open Go.Sort
variable {α : Type} {lt : α → α → Bool}

/-! ### Each with its place -/
/-- The order of a stable sort: by 'less', then by place. -/
def Stb (lt : α → α → Bool) (p q : α × Nat) : Prop := lt p.1 q.1 = true ∨ lt q.1 p.1 = false ∧ p.2 < q.2
theorem Stb.trans (h : SWO lt) (p q r : α × Nat) (h1 : Stb lt p q) (h2 : Stb lt q r) : Stb lt p r := by
  rcases h1 with h1 | ⟨h1, t1⟩ <;> rcases h2 with h2 | ⟨h2, t2⟩
  · exact .inl (h.trans _ _ _ h1 h2)
  · left
    cases he : lt p.1 r.1 with
    | true => rfl
    | false => rw [h.ntrans _ _ _ he h2] at h1; cases h1
  · left
    cases he : lt p.1 r.1 with
    | true => rfl
    | false => rw [h.ntrans _ _ _ h1 he] at h2; cases h2
  · exact .inr ⟨h.ntrans _ _ _ h2 h1, by omega⟩
theorem Stb.cross (x y : α × Nat) (ht : x.2 < y.2) : ((fun p q : α × Nat => lt p.1 q.1) y x = true → Stb lt y x) ∧ ((fun p q : α × Nat => lt p.1 q.1) y x = false → Stb lt x y) :=
  ⟨fun h => .inl h, fun h => .inr ⟨h, ht⟩⟩
end Go.Pm
