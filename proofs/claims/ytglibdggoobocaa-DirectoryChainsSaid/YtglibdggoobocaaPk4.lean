/- Texts joined: Stab6, SetL6, ItCat6, ItTo6, RefSet6, RItems16, DirC16, EntRight, App7, HkA8. -/
import Derived.Sort.LotA
import Derived.Test.YtglibdggoobocaaPk2
import Derived.Lib.Bytealg
import Derived.Shelf.SlSortCmp.KitK
import Derived.Test.YtglibdggoobocaaPk3
import Derived.Deep.LoopGhost
import Derived.Deep.QuietTactic
import Derived.BigQuiet
import Derived.KernelRfl
import Derived.Deep.CutBlock
import Derived.Deep.DeepCutAuto
import Derived.Lib.Walk
namespace Go.Pm
open Go.Sort
variable {α : Type} [Inhabited α]

/-! ### Two ranges exchanged -/
structure SwapR (a b n : Nat) (d d' : Array α) : Prop where
  size : d'.size = d.size
  lo : ∀ x, a ≤ x → x < a + n → d'[x]! = d[x - a + b]!
  hi : ∀ x, b ≤ x → x < b + n → d'[x]! = d[x - b + a]!
  out : ∀ x, ¬ (a ≤ x ∧ x < a + n) → ¬ (b ≤ x ∧ x < b + n) → d'[x]! = d[x]!
  perm : ∀ p q, p ≤ a → p ≤ b → a + n ≤ q → b + n ≤ q → q ≤ d.size → PermIn p q d d'
theorem SwapR.start (a b : Nat) (d : Array α) : SwapR a b 0 d d :=
  ⟨rfl, fun x _ _ => by omega, fun x _ _ => by omega, fun _ _ _ => rfl, fun p q _ _ _ _ _ => permIn_refl d p q⟩
theorem SwapR.step {a b n : Nat} {d d' : Array α} (h : SwapR a b n d d') (hab : a + n < b) (hb : b + n < d.size) : SwapR a b (n + 1) d (swp d' (a + n) (b + n)) := by
  have g := swp_get d' (i := a + n) (j := b + n) (by rw [h.size]; omega) (by rw [h.size]; omega)
  refine ⟨by rw [swp_size, h.size], fun x h1 h2 => ?_, fun x h1 h2 => ?_, fun x h1 h2 => ?_, fun p q h1 h2 h3 h4 h5 => ?_⟩
  · rw [g, if_neg (by omega)]
    by_cases hx : x = a + n
    · rw [if_pos hx, h.out (b + n) (by omega) (by omega)]
      congr 1; omega
    · rw [if_neg hx, h.lo x h1 (by omega)]
  · rw [g]
    by_cases hx : x = b + n
    · rw [if_pos hx, h.out (a + n) (by omega) (by omega)]
      congr 1; omega
    · rw [if_neg hx, if_neg (by omega), h.hi x h1 (by omega)]
  · rw [g, if_neg (by omega), if_neg (by omega), h.out x (by omega) (by omega)]
  · exact permIn_trans _ _ _ p q (h.perm p q h1 h2 (by omega) (by omega) h5) (swp_permIn d' p q (a + n) (b + n) (by omega) (by omega) (by omega) (by omega) (by rw [h.size]; exact h5))

/-! ### Rotations -/
structure Rot (a m b : Nat) (d d' : Array α) : Prop where
  perm : PermIn a b d d'
  lo : ∀ x, a ≤ x → x < a + (b - m) → d'[x]! = d[x + (m - a)]!
  hi : ∀ x, a + (b - m) ≤ x → x < b → d'[x]! = d[x - (b - m)]!
theorem Rot.size {a m b : Nat} {d d' : Array α} (h : Rot a m b d d') : d'.size = d.size := h.perm.1
theorem Rot.out {a m b : Nat} {d d' : Array α} (h : Rot a m b d d') (x : Nat) (hx : x < a ∨ b ≤ x) : d'[x]! = d[x]! := h.perm.2.1 x hx
theorem Rot.none_left (m b : Nat) (d : Array α) : Rot m m b d d :=
  ⟨permIn_refl _ _ _, fun x _ _ => by rw [Nat.sub_self]; rfl, fun x h1 h2 => by omega⟩
theorem Rot.none_right (a m : Nat) (d : Array α) (_h : a ≤ m) : Rot a m m d d :=
  ⟨permIn_refl _ _ _, fun x h1 h2 => by omega, fun x h1 h2 => by rw [Nat.sub_self]; rfl⟩
theorem permIn_wide {a b a' b' : Nat} {d d' : Array α} (h : PermIn a b d d') (h1 : a' ≤ a) (h2 : b ≤ b') (h3 : b' ≤ d.size) : PermIn a' b' d d' := permIn_mono d d' a b a' b' h1 h2 h3 h
/-- One more to the right: the first one moves on. -/
theorem Rot.right {a k : Nat} {d d' : Array α} (h : Rot a (a + 1) (k + 1) d d') (hk : a ≤ k) (hs : k + 1 < d.size) : Rot a (a + 1) (k + 2) d (swp d' k (k + 1)) := by
  have g := swp_get d' (i := k) (j := k + 1) (by rw [h.size]; omega) (by rw [h.size]; omega)
  refine ⟨permIn_trans _ _ _ a (k + 2) (permIn_wide h.perm (Nat.le_refl _) (by omega) (by omega)) (swp_permIn d' a (k + 2) k (k + 1) (by omega) (by omega) (by omega) (by omega) (by rw [h.size]; omega)), fun x h1 h2 => ?_, fun x h1 h2 => ?_⟩
  · rw [g, if_neg (by omega)]
    by_cases hx : x = k
    · rw [if_pos hx, h.out (k + 1) (by omega)]
      congr 1; omega
    · rw [if_neg hx, h.lo x h1 (by omega)]
  · obtain rfl : x = k + 1 := by omega
    rw [g, if_pos rfl, h.hi k (by omega) (by omega)]
    congr 1; omega
/-- One more to the left: the last one moves on. -/
theorem Rot.left {k m : Nat} {d d' : Array α} (h : Rot (k + 1) m (m + 1) d d') (hk : k < m) (hs : m < d.size) : Rot k m (m + 1) d (swp d' (k + 1) k) := by
  have g := swp_get d' (i := k + 1) (j := k) (by rw [h.size]; omega) (by rw [h.size]; omega)
  refine ⟨permIn_trans _ _ _ k (m + 1) (permIn_wide h.perm (by omega) (Nat.le_refl _) (by omega)) (swp_permIn d' k (m + 1) (k + 1) k (by omega) (by omega) (by omega) (by omega) (by rw [h.size]; omega)), fun x h1 h2 => ?_, fun x h1 h2 => ?_⟩
  · obtain rfl : x = k := by omega
    rw [g, if_pos rfl, h.lo (x + 1) (by omega) (by omega)]
    congr 1; omega
  · rw [g, if_neg (by omega)]
    by_cases hx : x = k + 1
    · rw [if_pos hx, h.out k (by omega)]
      congr 1; omega
    · rw [if_neg hx, h.hi x (by omega) (by omega)]
/-- A rotation's last exchange. -/
theorem Rot.last {m i : Nat} {d d' : Array α} (h : SwapR (m - i) m i d d') (hi : i ≤ m) (hs : m + i ≤ d.size) : Rot (m - i) m (m + i) d d' := by
  refine ⟨h.perm _ _ (Nat.le_refl _) (by omega) (by omega) (Nat.le_refl _) hs, fun x h1 h2 => ?_, fun x h1 h2 => ?_⟩
  · rw [h.lo x h1 (by omega)]; congr 1; omega
  · rw [h.hi x (by omega) (by omega)]; congr 1; omega
/-- One exchange, where the left part is the longer one. -/
theorem Rot.more_left {m i j : Nat} {d d1 d' : Array α} (h : SwapR (m - i) m j d d1) (hij : j < i) (hi : i ≤ m) (hs : m + j ≤ d.size) (hr : Rot (m - (i - j)) m (m + j) d1 d') : Rot (m - i) m (m + j) d d' := by
  refine ⟨permIn_trans _ _ _ _ _ (h.perm _ _ (Nat.le_refl _) (by omega) (by omega) (Nat.le_refl _) hs) (permIn_wide hr.perm (by omega) (Nat.le_refl _) (by rw [h.size]; exact hs)), fun x h1 h2 => ?_, fun x h1 h2 => ?_⟩
  · rw [hr.out x (by omega), h.lo x h1 (by omega)]; congr 1; omega
  · by_cases hx : x < m - (i - j) + (m + j - m)
    · rw [hr.lo x (by omega) hx]
      by_cases hy : x + (m - (m - (i - j))) < m
      · rw [h.out _ (by omega) (by omega)]; congr 1; omega
      · rw [h.hi _ (by omega) (by omega)]; congr 1; omega
    · rw [hr.hi x (by omega) h2]
      by_cases hy : x - (m + j - m) < m
      · rw [h.out _ (by omega) (by omega)]
      · rw [h.hi _ (by omega) (by omega)]; congr 1; omega
/-- One exchange, where the right part is the longer one. -/
theorem Rot.more_right {m i j : Nat} {d d1 d' : Array α} (h : SwapR (m - i) (m + j - i) i d d1) (hij : i < j) (hi : i ≤ m) (hs : m + j ≤ d.size) (hr : Rot (m - i) m (m + (j - i)) d1 d') : Rot (m - i) m (m + j) d d' := by
  refine ⟨permIn_trans _ _ _ _ _ (h.perm _ _ (Nat.le_refl _) (by omega) (by omega) (by omega) hs) (permIn_wide hr.perm (Nat.le_refl _) (by omega) (by rw [h.size]; exact hs)), fun x h1 h2 => ?_, fun x h1 h2 => ?_⟩
  · by_cases hx : x < m - i + (m + (j - i) - m)
    · rw [hr.lo x h1 hx]
      by_cases hy : x + (m - (m - i)) < m + j - i
      · rw [h.out _ (by omega) (by omega)]
      · rw [h.hi _ (by omega) (by omega)]; congr 1; omega
    · by_cases hz : x < m + (j - i)
      · rw [hr.hi x (by omega) hz]
        rw [h.lo _ (by omega) (by omega)]; congr 1; omega
      · omega
  · by_cases hz : x < m + (j - i)
    · omega
    · rw [hr.out x (by omega), h.hi x (by omega) (by omega)]; congr 1; omega

/-! ### Where a test turns -/
def Srch (P : Nat → Bool) (lo hi i j : Nat) : Prop := lo ≤ i ∧ i ≤ j ∧ j ≤ hi ∧ (i = lo ∨ P (i - 1) = true) ∧ (j = hi ∨ P j = false)
theorem Srch.start (P : Nat → Bool) (lo hi : Nat) (h : lo ≤ hi) : Srch P lo hi lo hi := ⟨Nat.le_refl _, h, Nat.le_refl _, .inl rfl, .inl rfl⟩
theorem Srch.up {P : Nat → Bool} {lo hi i j : Nat} (h : Srch P lo hi i j) (hij : i < j) (hp : P ((i + j) / 2) = true) : Srch P lo hi ((i + j) / 2 + 1) j :=
  ⟨by have := h.1; omega, by omega, h.2.2.1, .inr (by simpa using hp), h.2.2.2.2⟩
theorem Srch.down {P : Nat → Bool} {lo hi i j : Nat} (h : Srch P lo hi i j) (hij : i < j) (hp : P ((i + j) / 2) = false) : Srch P lo hi i ((i + j) / 2) :=
  ⟨h.1, by omega, by have := h.2.2.1; omega, h.2.2.2.1, .inr hp⟩

/-! ### Merges -/
/-- Rising from a on, below b. -/
def SortS (s : α → α → Prop) (a b : Nat) (d : Array α) : Prop := ∀ i j, a ≤ i → i < j → j < b → s d[i]! d[j]!
/-- What 'less' says of one of the right part and one of the left part is the order. -/
def Cross (lt : α → α → Bool) (s : α → α → Prop) (a m b : Nat) (d : Array α) : Prop :=
  ∀ i j, a ≤ i → i < m → m ≤ j → j < b → (lt d[j]! d[i]! = true → s d[j]! d[i]!) ∧ (lt d[j]! d[i]! = false → s d[i]! d[j]!)
/-- What a merge is of. -/
structure Mrg (lt : α → α → Bool) (s : α → α → Prop) (a m b : Nat) (d : Array α) : Prop where
  left : SortS s a m d
  right : SortS s m b d
  cross : Cross lt s a m b d
/-- What it comes to. -/
structure Mrgd (s : α → α → Prop) (a b : Nat) (d d' : Array α) : Prop where
  perm : PermIn a b d d'
  sorted : SortS s a b d'
theorem SortS.sub {s : α → α → Prop} {a b a' b' : Nat} {d : Array α} (h : SortS s a b d) (h1 : a ≤ a') (h2 : b' ≤ b) : SortS s a' b' d := fun i j p q r => h i j (by omega) q (by omega)
theorem SortS.congr {s : α → α → Prop} {a b : Nat} {d d' : Array α} (h : SortS s a b d) (he : ∀ x, a ≤ x → x < b → d'[x]! = d[x]!) : SortS s a b d' := fun i j p q r => by
  rw [he i p (by omega), he j (by omega) r]; exact h i j p q r
variable {lt : α → α → Bool} {s : α → α → Prop}
/-- One at the left. -/
theorem mrg_one_left {a b i : Nat} {d d' : Array α} (hs : ∀ x y z, s x y → s y z → s x z) (h : Mrg lt s a (a + 1) b d) (hb : b ≤ d.size) (hi : Srch (fun k => lt d[k]! d[a]!) (a + 1) b i i) (hr : Rot a (a + 1) i d d') : Mrgd s a b d d' := by
  obtain ⟨h1, _, h3, h4, h5⟩ := hi
  refine ⟨permIn_wide hr.perm (Nat.le_refl _) h3 hb, fun p q h6 h7 h8 => ?_⟩
  have out : ∀ x, i ≤ x → d'[x]! = d[x]! := fun x hx => hr.out x (.inr hx)
  have lo : ∀ x, a ≤ x → x + 1 < i → d'[x]! = d[x + 1]! := fun x hx hx2 => by rw [hr.lo x hx (by omega)]; congr 1; omega
  have at_ : d'[i - 1]! = d[a]! := by rw [hr.hi (i - 1) (by omega) (by omega)]; congr 1; omega
  -- all of the right part ahead of i are ahead of the one
  have before : ∀ x, a + 1 ≤ x → x < i → s d[x]! d[a]! := fun x hx hx2 => by
    rcases h4 with h4 | h4
    · omega
    · have e := (h.cross a (i - 1) (Nat.le_refl _) (by omega) (by omega) (by omega)).1 h4
      by_cases hxi : x = i - 1
      · rw [hxi]; exact e
      · exact hs _ _ _ (h.right x (i - 1) hx (by omega) (by omega)) e
  have behind : ∀ x, i ≤ x → x < b → s d[a]! d[x]! := fun x hx hx2 => by
    rcases h5 with h5 | h5
    · omega
    · have e := (h.cross a i (Nat.le_refl _) (by omega) (by omega) (by omega)).2 h5
      by_cases hxi : x = i
      · rw [hxi]; exact e
      · exact hs _ _ _ e (h.right i x (by omega) (by omega) hx2)
  by_cases hp : p + 1 < i
  · rw [lo p h6 hp]
    by_cases hq : q + 1 < i
    · rw [lo q (by omega) hq]; exact h.right _ _ (by omega) (by omega) (by omega)
    · by_cases hq2 : q = i - 1
      · rw [hq2, at_]; exact before _ (by omega) hp
      · rw [out q (by omega)]; exact h.right _ _ (by omega) (by omega) h8
  · by_cases hp2 : p = i - 1
    · rw [hp2, at_, out q (by omega)]; exact behind q (by omega) h8
    · rw [out p (by omega), out q (by omega)]; exact h.right _ _ (by omega) h7 h8
/-- One at the right. -/
theorem mrg_one_right {a m i : Nat} {d d' : Array α} (hs : ∀ x y z, s x y → s y z → s x z) (h : Mrg lt s a m (m + 1) d) (hb : m + 1 ≤ d.size) (hi : Srch (fun k => !lt d[m]! d[k]!) a m i i) (hr : Rot i m (m + 1) d d') : Mrgd s a (m + 1) d d' := by
  obtain ⟨h1, _, h3, h4, h5⟩ := hi
  refine ⟨permIn_wide hr.perm h1 (Nat.le_refl _) hb, fun p q h6 h7 h8 => ?_⟩
  have out : ∀ x, x < i → d'[x]! = d[x]! := fun x hx => hr.out x (.inl hx)
  have hi' : ∀ x, i < x → x ≤ m → d'[x]! = d[x - 1]! := fun x hx hx2 => by rw [hr.hi x (by omega) (by omega)]; congr 1; omega
  have at_ : d'[i]! = d[m]! := by rw [hr.lo i (Nat.le_refl _) (by omega)]; congr 1; omega
  have before : ∀ x, a ≤ x → x < i → s d[x]! d[m]! := fun x hx hx2 => by
    rcases h4 with h4 | h4
    · omega
    · have e := (h.cross (i - 1) m (by omega) (by omega) (Nat.le_refl _) (by omega)).2 (by simpa using h4)
      by_cases hxi : x = i - 1
      · rw [hxi]; exact e
      · exact hs _ _ _ (h.left x (i - 1) hx (by omega) (by omega)) e
  have behind : ∀ x, i ≤ x → x < m → s d[m]! d[x]! := fun x hx hx2 => by
    rcases h5 with h5 | h5
    · omega
    · have e := (h.cross i m h1 (by omega) (Nat.le_refl _) (by omega)).1 (by simpa using h5)
      by_cases hxi : x = i
      · rw [hxi]; exact e
      · exact hs _ _ _ e (h.left i x h1 (by omega) hx2)
  by_cases hp : p < i
  · rw [out p hp]
    by_cases hq : q < i
    · rw [out q hq]; exact h.left _ _ h6 h7 (by omega)
    · by_cases hq2 : q = i
      · rw [hq2, at_]; exact before _ h6 hp
      · rw [hi' q (by omega) (by omega)]; exact h.left _ _ h6 (by omega) (by omega)
  · by_cases hp2 : p = i
    · rw [hp2, at_, hi' q (by omega) (by omega)]; exact behind _ (by omega) (by omega)
    · rw [hi' p (by omega) (by omega), hi' q (by omega) (by omega)]; exact h.left _ _ (by omega) (by omega) (by omega)
/-- The place where both parts are cut. -/
def cutLo (a m b : Nat) : Nat := if m > (a + b) / 2 then (a + b) / 2 + m - b else a
def cutHi (a m b : Nat) : Nat := if m > (a + b) / 2 then (a + b) / 2 else m
/-- Both halves, behind the rotation. -/
structure Parted (lt : α → α → Bool) (s : α → α → Prop) (a st mid en b : Nat) (d : Array α) : Prop where
  one : Mrg lt s a st mid d
  two : Mrg lt s mid en b d
  sep : ∀ i j, a ≤ i → i < mid → mid ≤ j → j < b → s d[i]! d[j]!
theorem mrg_cut {a m b st : Nat} {d d' : Array α} (hs : ∀ x y z, s x y → s y z → s x z) (h : Mrg lt s a m b d) (ham : a < m) (hmb : m < b)
    (hst : Srch (fun c => !lt d[(a + b) / 2 + m - 1 - c]! d[c]!) (cutLo a m b) (cutHi a m b) st st) (hr : Rot st m ((a + b) / 2 + m - st) d d') : Parted lt s a st ((a + b) / 2) ((a + b) / 2 + m - st) b d' := by
  obtain ⟨h1, _, h3, h4, h5⟩ := hst
  obtain ⟨mid, hmid⟩ : ∃ mid, mid = (a + b) / 2 := ⟨_, rfl⟩
  rw [← hmid] at h4 h5 hr ⊢
  have c1 : a ≤ st := by unfold cutLo at h1; split at h1 <;> omega
  have c2 : st ≤ m ∧ st ≤ mid := by unfold cutHi at h3; split at h3 <;> omega
  have c3 : mid + m - st ≤ b := by unfold cutLo at h1; split at h1 <;> omega
  obtain ⟨en, hen⟩ : ∃ en, en = mid + m - st := ⟨_, rfl⟩
  rw [← hen] at hr c3 ⊢
  -- the four pieces
  have L1 : ∀ x, x < st → d'[x]! = d[x]! := fun x hx => hr.out x (.inl hx)
  have R2 : ∀ x, en ≤ x → d'[x]! = d[x]! := fun x hx => hr.out x (.inr hx)
  have R1 : ∀ x, st ≤ x → x < mid → d'[x]! = d[x + (m - st)]! := fun x hx hx2 => hr.lo x hx (by omega)
  have L2 : ∀ x, mid ≤ x → x < en → d'[x]! = d[x - (en - m)]! := fun x hx hx2 => hr.hi x (by omega) hx2
  -- what the cut says
  have e1 : ∀ i j, a ≤ i → i < st → en ≤ j → j < b → s d[i]! d[j]! := fun i j p1 p2 p3 p4 => by
    rcases h4 with h4 | h4
    · unfold cutLo at h4; split at h4 <;> omega
    · have q := (h.cross (st - 1) (mid + m - 1 - (st - 1)) (by omega) (by omega) (by omega) (by omega)).2 (by simpa using h4)
      have e : mid + m - 1 - (st - 1) = en := by omega
      rw [e] at q
      have q1 : s d[i]! d[en]! := by
        by_cases hi : i = st - 1
        · rw [hi]; exact q
        · exact hs _ _ _ (h.left i (st - 1) p1 (by omega) (by omega)) q
      by_cases hj : j = en
      · rw [hj]; exact q1
      · exact hs _ _ _ q1 (h.right en j (by omega) (by omega) p4)
  have e2 : ∀ i j, m ≤ i → i < en → st ≤ j → j < m → s d[i]! d[j]! := fun i j p1 p2 p3 p4 => by
    rcases h5 with h5 | h5
    · unfold cutHi at h5; split at h5 <;> omega
    · have q := (h.cross st (mid + m - 1 - st) (by omega) (by omega) (by omega) (by omega)).1 (by simpa using h5)
      have e : mid + m - 1 - st = en - 1 := by omega
      rw [e] at q
      have q1 : s d[en - 1]! d[j]! := by
        by_cases hj : j = st
        · rw [hj]; exact q
        · exact hs _ _ _ q (h.left st j (by omega) (by omega) p4)
      by_cases hi : i = en - 1
      · rw [hi]; exact q1
      · exact hs _ _ _ (h.right i (en - 1) p1 (by omega) (by omega)) q1
  refine ⟨⟨fun i j p1 p2 p3 => ?_, fun i j p1 p2 p3 => ?_, fun i j p1 p2 p3 p4 => ?_⟩, ⟨fun i j p1 p2 p3 => ?_, fun i j p1 p2 p3 => ?_, fun i j p1 p2 p3 p4 => ?_⟩, fun i j p1 p2 p3 p4 => ?_⟩
  · rw [L1 i (by omega), L1 j (by omega)]; exact h.left _ _ p1 p2 (by omega)
  · rw [R1 i (by omega) (by omega), R1 j (by omega) (by omega)]; exact h.right _ _ (by omega) (by omega) (by omega)
  · rw [L1 i (by omega), R1 j (by omega) (by omega)]; exact h.cross _ _ p1 (by omega) (by omega) (by omega)
  · rw [L2 i (by omega) (by omega), L2 j (by omega) (by omega)]; exact h.left _ _ (by omega) (by omega) (by omega)
  · rw [R2 i (by omega), R2 j (by omega)]; exact h.right _ _ (by omega) (by omega) (by omega)
  · rw [L2 i (by omega) (by omega), R2 j (by omega)]; exact h.cross _ _ (by omega) (by omega) (by omega) (by omega)
  · by_cases hi : i < st
    · rw [L1 i hi]
      by_cases hj : j < en
      · rw [L2 j (by omega) hj]; exact h.left _ _ p1 (by omega) (by omega)
      · rw [R2 j (by omega)]; exact e1 _ _ p1 hi (by omega) p4
    · rw [R1 i (by omega) p2]
      by_cases hj : j < en
      · rw [L2 j (by omega) hj]; exact e2 _ _ (by omega) (by omega) (by omega) (by omega)
      · rw [R2 j (by omega)]; exact h.right _ _ (by omega) (by omega) p4
/-- A half that is not merged is merged. -/
theorem mrg_idle {a st mid : Nat} {d : Array α} (h : Mrg lt s a st mid d) (hn : ¬ (a < st ∧ st < mid)) (h1 : a ≤ st) (h2 : st ≤ mid) : Mrgd s a mid d d := by
  refine ⟨permIn_refl _ _ _, ?_⟩
  by_cases ha : a = st
  · rw [ha]; exact h.right
  · have : st = mid := by omega
    rw [← this]; exact h.left
/-- What was sure of the second half is so behind the first one. -/
theorem Parted.first {a st mid en b : Nat} {d d1 : Array α} (h : Parted lt s a st mid en b d) (hmb : mid ≤ d.size) (h1 : Mrgd s a mid d d1) (h2 : mid ≤ en) :
    Mrg lt s mid en b d1 ∧ ∀ i j, a ≤ i → i < mid → mid ≤ j → j < b → s d1[i]! d1[j]! := by
  have same : ∀ x, mid ≤ x → d1[x]! = d[x]! := fun x hx => h1.perm.2.1 x (.inr hx)
  refine ⟨⟨h.two.left.congr fun x p q => same x p, h.two.right.congr fun x p q => same x (by omega), fun i j p1 p2 p3 p4 => ?_⟩, fun i j p1 p2 p3 p4 => ?_⟩
  · rw [same i p1, same j (by omega)]; exact h.two.cross i j p1 p2 p3 p4
  · rw [same j p3]
    exact permIn_all d d1 a mid (fun x => s x d[j]!) hmb h1.perm (fun k k1 k2 => h.sep k j k1 k2 p3 p4) i p1 p2
theorem mrgd_both {a mid b : Nat} {d d1 d2 : Array α} (hm : a ≤ mid) (hmb : mid ≤ b) (hb : b ≤ d.size) (h1 : Mrgd s a mid d d1) (sep : ∀ i j, a ≤ i → i < mid → mid ≤ j → j < b → s d1[i]! d1[j]!) (h2 : Mrgd s mid b d1 d2) : Mrgd s a b d d2 := by
  have hs1 : d1.size = d.size := h1.perm.1
  have same : ∀ x, x < mid → d2[x]! = d1[x]! := fun x hx => h2.perm.2.1 x (.inl hx)
  refine ⟨permIn_trans _ _ _ _ _ (permIn_wide h1.perm (Nat.le_refl _) hmb hb) (permIn_wide h2.perm hm (Nat.le_refl _) (by omega)), fun i j p1 p2 p3 => ?_⟩
  by_cases hj : j < mid
  · rw [same i (by omega), same j hj]; exact h1.sorted i j p1 p2 hj
  · by_cases hi : i < mid
    · rw [same i hi]
      exact permIn_all d1 d2 mid b (fun x => s d1[i]! x) (by omega) h2.perm (fun k k1 k2 => sep i k p1 hi k1 k2) j (by omega) p3
    · exact h2.sorted i j (by omega) p2 p3

/-! ### The first blocks -/
structure InsS (lt : α → α → Bool) (s : α → α → Prop) (a j i : Nat) (d : Array α) : Prop where
  rest : ∀ p q, a ≤ p → p < q → q ≤ i → p ≠ j → q ≠ j → s d[p]! d[q]!
  right : ∀ q, j < q → q ≤ i → s d[j]! d[q]!
  cross : ∀ p, a ≤ p → p < j → (lt d[j]! d[p]! = true → s d[j]! d[p]!) ∧ (lt d[j]! d[p]! = false → s d[p]! d[j]!)
theorem InsS.stop (hs : ∀ x y z, s x y → s y z → s x z) {a j i : Nat} {d : Array α} (h : InsS lt s a j i d) (hst : j ≤ a ∨ lt d[j]! d[j - 1]! = false) : SortS s a (i + 1) d := by
  intro p q hap hpq hqi
  by_cases hq : q = j
  · subst hq
    rcases hst with hst | hst
    · omega
    · have e := (h.cross (q - 1) (by omega) (by omega)).2 hst
      by_cases hp : p = q - 1
      · subst hp; exact e
      · exact hs _ _ _ (h.rest p (q - 1) hap (by omega) (by omega) (by omega) (by omega)) e
  · by_cases hp : p = j
    · subst hp; exact h.right q hpq (by omega)
    · exact h.rest p q hap hpq (by omega) hp hq
theorem InsS.step {a j i : Nat} {d : Array α} (h : InsS lt s a (j + 1) i d) (hl : lt d[j + 1]! d[j]! = true) (haj : a ≤ j) (hsz : j + 1 < d.size) : InsS lt s a j i (swp d (j + 1) j) := by
  have g := swp_get d hsz (show j < d.size by omega)
  refine ⟨fun p q hap hpq hqi hp hq => ?_, fun q hjq hqi => ?_, fun p h1 h2 => ?_⟩
  · rw [g, g]
    by_cases hq1 : q = j + 1
    · subst hq1
      simp only [hq, hp, if_false, if_true, show p ≠ j + 1 by omega]
      exact h.rest p j hap (by omega) (by omega) (by omega) (by omega)
    · by_cases hp1 : p = j + 1
      · subst hp1
        simp only [hq, hp, hq1, if_false, if_true]
        exact h.rest j q haj (by omega) hqi (by omega) hq1
      · simp only [hq, hp, hq1, hp1, if_false]
        exact h.rest p q hap hpq hqi hp1 hq1
  · rw [g, g]
    by_cases hq1 : q = j + 1
    · subst hq1
      simpa [show j + 1 ≠ j by omega] using (h.cross j haj (by omega)).1 hl
    · simp only [if_true, show q ≠ j by omega, hq1, if_false]
      exact h.right q (by omega) hqi
  · rw [g, g, if_pos rfl, if_neg (by omega), if_neg (by omega)]
    exact h.cross p h1 (by omega)
theorem insInner_s (hs : ∀ x y z, s x y → s y z → s x z) (a b i : Nat) (hib : i < b) : ∀ (j : Nat) (d : Array α), a ≤ j → j ≤ i → b ≤ d.size → InsS lt s a j i d → PermIn a (i + 1) d (insInner lt a j d) ∧ SortS s a (i + 1) (insInner lt a j d)
  | 0, d, _, _, _, hI => by
    unfold insInner
    exact ⟨permIn_refl _ _ _, hI.stop hs (Or.inl (Nat.zero_le _))⟩
  | j + 1, d, haj, hji, hb, hI => by
    unfold insInner
    split
    · rename_i hc
      simp only [Bool.and_eq_true, decide_eq_true_eq] at hc
      have ih := insInner_s hs a b i hib j (swp d (j + 1) j) (by omega) (by omega) (by rw [swp_size]; exact hb) (hI.step hc.2 (by omega) (by omega))
      exact ⟨permIn_trans _ _ _ _ _ (swp_permIn d a (i + 1) (j + 1) j haj (by omega) (by omega) (by omega) (by omega)) ih.1, ih.2⟩
    · rename_i hc
      simp only [Bool.and_eq_true, decide_eq_true_eq, not_and, Bool.not_eq_true] at hc
      refine ⟨permIn_refl _ _ _, hI.stop hs ?_⟩
      by_cases h : j + 1 > a
      · exact Or.inr (by simpa using hc h)
      · exact Or.inl (by omega)
/-- Each against each one ahead of it. -/
def CrossAll (lt : α → α → Bool) (s : α → α → Prop) (a b : Nat) (d : Array α) : Prop :=
  ∀ i j, a ≤ i → i < j → j < b → (lt d[j]! d[i]! = true → s d[j]! d[i]!) ∧ (lt d[j]! d[i]! = false → s d[i]! d[j]!)
theorem insOuter_s (hs : ∀ x y z, s x y → s y z → s x z) (a b : Nat) : ∀ (n i : Nat) (d : Array α), b - i = n → a < i → i ≤ b → b ≤ d.size → SortS s a i d → (∀ p q, a ≤ p → p < q → i ≤ q → q < b → (lt d[q]! d[p]! = true → s d[q]! d[p]!) ∧ (lt d[q]! d[p]! = false → s d[p]! d[q]!)) →
    Mrgd s a b d (insOuter lt a b i d)
  | 0, i, d, hn, _, hib, _, hso, _ => by
    obtain rfl : i = b := by omega
    rw [insOuter, if_neg (by omega)]
    exact ⟨permIn_refl _ _ _, hso⟩
  | n + 1, i, d, hn, hai, hib, hb, hso, hc => by
    have hlt : i < b := by omega
    rw [insOuter, if_pos hlt]
    have h1 := insInner_s (lt := lt) hs a b i hlt i d (by omega) (Nat.le_refl _) hb ⟨fun p q hap hpq hqi _ hq => hso p q hap hpq (by omega), fun q h1 h2 => by omega, fun p h1 h2 => hc p i h1 h2 (Nat.le_refl _) hlt⟩
    have same : ∀ x, i + 1 ≤ x → (insInner lt a i d)[x]! = d[x]! := fun x hx => h1.1.2.1 x (.inr hx)
    have h2 := insOuter_s hs a b n (i + 1) (insInner lt a i d) (by omega) (by omega) (by omega) (by rw [h1.1.1]; exact hb) h1.2 (fun p q p1 p2 p3 p4 => by
      rw [same q p3]
      by_cases hp : p < i + 1
      · exact permIn_all d _ a (i + 1) (fun y => (lt d[q]! y = true → s d[q]! y) ∧ (lt d[q]! y = false → s y d[q]!)) (by omega) h1.1 (fun k k1 k2 => hc k q k1 (by omega) (by omega) p4) p p1 hp
      · rw [same p (by omega)]; exact hc p q p1 p2 (by omega) p4)
    exact ⟨permIn_trans _ _ _ a b (permIn_wide h1.1 (Nat.le_refl _) (by omega) hb) h2.perm, h2.sorted⟩
theorem insertionSort_s (hs : ∀ x y z, s x y → s y z → s x z) (d : Array α) (a b : Nat) (hb : b ≤ d.size) (hab : a ≤ b) (hc : CrossAll lt s a b d) : Mrgd s a b d (insertionSort lt d a b) := by
  unfold insertionSort
  by_cases h : a = b
  · subst h
    rw [insOuter, if_neg (by omega)]
    exact ⟨permIn_refl _ _ _, fun i j h1 h2 h3 => by omega⟩
  · exact insOuter_s hs a b (b - (a + 1)) (a + 1) d rfl (by omega) (by omega) hb (fun i j h1 h2 h3 => by omega) (fun p q p1 p2 p3 p4 => hc p q p1 p2 p4)

/-! ### Blocks -/
/-- Each lies in its own block. -/
def Own (T : α → Nat) (bs lo hi : Nat) (d : Array α) : Prop := ∀ x, lo ≤ x → x < hi → T d[x]! / bs = x / bs
/-- Each block rises. -/
def BlkS (s : α → α → Prop) (bs lo hi : Nat) (d : Array α) : Prop := ∀ i j, lo ≤ i → i < j → j < hi → i / bs = j / bs → s d[i]! d[j]!
theorem div_block {bs k x : Nat} (_hb : 0 < bs) (h1 : k * bs ≤ x) (h2 : x < k * bs + bs) : x / bs = k := by
  apply Nat.div_eq_of_lt_le
  · exact h1
  · rw [Nat.add_mul, Nat.one_mul]; exact h2
/-- Blocks twice as long, merged below a place and not yet behind it. -/
structure Half (T : α → Nat) (s : α → α → Prop) (bs n a : Nat) (d : Array α) : Prop where
  own2 : Own T (2 * bs) 0 a d
  blk2 : BlkS s (2 * bs) 0 a d
  own : Own T bs a n d
  blk : BlkS s bs a n d
theorem div_two (x bs : Nat) : x / (2 * bs) = x / bs / 2 := by rw [Nat.mul_comm, Nat.div_div_eq_div_mul]
/-- What a merge of two blocks wants. -/
theorem Half.mrg {T : α → Nat} {bs n k m b : Nat} {d : Array α} (hlt : ∀ x y, T x < T y → (lt y x = true → s y x) ∧ (lt y x = false → s x y)) (h : Half T s bs n (2 * k * bs) d) (hb0 : 0 < bs) (hm : m = 2 * k * bs + bs) (hb : m ≤ b) (hb2 : b ≤ m + bs) (hn : b ≤ n) : Mrg lt s (2 * k * bs) m b d := by
  have e : m = (2 * k + 1) * bs := by rw [hm, Nat.add_mul, Nat.one_mul]
  have d1 : ∀ x, 2 * k * bs ≤ x → x < m → x / bs = 2 * k := fun x h1 h2 => div_block hb0 h1 (by omega)
  have d2 : ∀ x, m ≤ x → x < b → x / bs = 2 * k + 1 := fun x h1 h2 => div_block hb0 (by omega) (by omega)
  refine ⟨fun i j p1 p2 p3 => h.blk i j p1 p2 (by omega) ?_, fun i j p1 p2 p3 => h.blk i j (by omega) p2 (by omega) ?_, fun i j p1 p2 p3 p4 => hlt _ _ ?_⟩
  · rw [d1 i p1 (by omega), d1 j (by omega) p3]
  · rw [d2 i p1 (by omega), d2 j (by omega) p3]
  · have t1 := h.own i p1 (by omega)
    have t2 := h.own j (by omega) (by omega)
    rw [d1 i p1 p2] at t1
    rw [d2 j p3 p4] at t2
    apply Nat.lt_of_not_le
    intro hle
    have := Nat.div_le_div_right (c := bs) hle
    omega
/-- .. and what it comes to. -/
theorem Half.next {T : α → Nat} {bs n k b : Nat} {d d' : Array α} (h : Half T s bs n (2 * k * bs) d) (hb0 : 0 < bs) (hb : 2 * k * bs ≤ b) (hb2 : b ≤ 2 * k * bs + 2 * bs) (hn : b ≤ n) (hsz : n ≤ d.size) (hm : Mrgd s (2 * k * bs) b d d') : Half T s bs n b d' := by
  have hsame : ∀ x, x < 2 * k * bs ∨ b ≤ x → d'[x]! = d[x]! := hm.perm.2.1
  have dd : ∀ x, 2 * k * bs ≤ x → x < b → x / (2 * bs) = k := fun x h1 h2 => by
    apply div_block (by omega)
    · rw [← Nat.mul_assoc, Nat.mul_comm k 2]; exact h1
    · rw [← Nat.mul_assoc, Nat.mul_comm k 2]; omega
  have below : ∀ x, x < 2 * k * bs → x / (2 * bs) < k := fun x h1 => by
    rw [Nat.div_lt_iff_lt_mul (by omega), ← Nat.mul_assoc, Nat.mul_comm k 2]; exact h1
  refine ⟨fun x h1 h2 => ?_, fun i j p1 p2 p3 p4 => ?_, fun x h1 h2 => ?_, fun i j p1 p2 p3 p4 => ?_⟩
  · by_cases hx : x < 2 * k * bs
    · rw [hsame x (.inl hx)]; exact h.own2 x h1 hx
    · rw [dd x (by omega) h2]
      exact permIn_all d d' (2 * k * bs) b (fun y => T y / (2 * bs) = k) (by omega) hm.perm (fun y y1 y2 => by rw [div_two, h.own y y1 (by omega), ← div_two, dd y y1 y2]) x (by omega) h2
  · by_cases hj : j < 2 * k * bs
    · rw [hsame i (.inl (by omega)), hsame j (.inl hj)]; exact h.blk2 i j p1 p2 hj p4
    · by_cases hi : i < 2 * k * bs
      · have := below i hi
        rw [p4, dd j (by omega) p3] at this
        omega
      · exact hm.sorted i j (by omega) p2 p3
  · rw [hsame x (.inr h1)]; exact h.own x (by omega) h2
  · rw [hsame i (.inr p1), hsame j (.inr (by omega))]; exact h.blk i j (by omega) p2 p3 p4
theorem Half.start {T : α → Nat} {bs n : Nat} {d : Array α} (h1 : Own T bs 0 n d) (h2 : BlkS s bs 0 n d) : Half T s bs n 0 d :=
  ⟨fun x _ h => by omega, fun i j _ h1 h2 => by omega, h1, h2⟩
/-- The last block has no other to be merged with. -/
theorem Half.last {T : α → Nat} {bs n k : Nat} {d : Array α} (h : Half T s bs n (2 * k * bs) d) (hb0 : 0 < bs) (hn : n ≤ 2 * k * bs + bs) (_ha : 2 * k * bs ≤ n) : Own T (2 * bs) 0 n d ∧ BlkS s (2 * bs) 0 n d := by
  have dd : ∀ x, 2 * k * bs ≤ x → x < n → x / (2 * bs) = k := fun x h1 h2 => by
    apply div_block (by omega)
    · rw [← Nat.mul_assoc, Nat.mul_comm k 2]; exact h1
    · rw [← Nat.mul_assoc, Nat.mul_comm k 2]; omega
  have below : ∀ x, x < 2 * k * bs → x / (2 * bs) < k := fun x h1 => by
    rw [Nat.div_lt_iff_lt_mul (by omega), ← Nat.mul_assoc, Nat.mul_comm k 2]; exact h1
  refine ⟨fun x h1 h2 => ?_, fun i j p1 p2 p3 p4 => ?_⟩
  · by_cases hx : x < 2 * k * bs
    · exact h.own2 x h1 hx
    · rw [div_two, h.own x (by omega) h2, ← div_two]
  · by_cases hj : j < 2 * k * bs
    · exact h.blk2 i j p1 p2 hj p4
    · by_cases hi : i < 2 * k * bs
      · have := below i hi
        rw [p4, dd j (by omega) p3] at this
        omega
      · refine h.blk i j (by omega) p2 p3 ?_
        rw [div_block hb0 (k := 2 * k) (by omega) (by omega), div_block hb0 (k := 2 * k) (by omega) (by omega)]
theorem Half.full {T : α → Nat} {bs n : Nat} {d : Array α} (h : Half T s bs n n d) : Own T (2 * bs) 0 n d ∧ BlkS s (2 * bs) 0 n d := ⟨h.own2, h.blk2⟩
/-- Insertion: the blocks below a place rise, the others are as they were. -/
structure Firsts (T : α → Nat) (s : α → α → Prop) (bs n a : Nat) (d : Array α) : Prop where
  own : Own T bs 0 a d
  blk : BlkS s bs 0 a d
  rest : ∀ x, a ≤ x → x < n → T d[x]! = x
theorem Firsts.cross {T : α → Nat} {bs n a b : Nat} {d : Array α} (hlt : ∀ x y, T x < T y → (lt y x = true → s y x) ∧ (lt y x = false → s x y)) (h : Firsts T s bs n a d) (hb : b ≤ n) : CrossAll lt s a b d := fun i j p1 p2 p3 =>
  hlt _ _ (by rw [h.rest i p1 (by omega), h.rest j (by omega) (by omega)]; exact p2)
theorem Firsts.next {T : α → Nat} {bs n k b : Nat} {d d' : Array α} (h : Firsts T s bs n (k * bs) d) (hb0 : 0 < bs) (hb : k * bs ≤ b) (hb2 : b ≤ k * bs + bs) (hn : b ≤ n) (hsz : n ≤ d.size) (hm : Mrgd s (k * bs) b d d') : Firsts T s bs n b d' := by
  have hsame : ∀ x, x < k * bs ∨ b ≤ x → d'[x]! = d[x]! := hm.perm.2.1
  have dd : ∀ x, k * bs ≤ x → x < b → x / bs = k := fun x h1 h2 => div_block hb0 h1 (by omega)
  have below : ∀ x, x < k * bs → x / bs < k := fun x h1 => by rw [Nat.div_lt_iff_lt_mul hb0]; exact h1
  refine ⟨fun x h1 h2 => ?_, fun i j p1 p2 p3 p4 => ?_, fun x h1 h2 => ?_⟩
  · by_cases hx : x < k * bs
    · rw [hsame x (.inl hx)]; exact h.own x h1 hx
    · rw [dd x (by omega) h2]
      exact permIn_all d d' (k * bs) b (fun y => T y / bs = k) (by omega) hm.perm (fun y y1 y2 => by rw [h.rest y y1 (by omega), dd y y1 y2]) x (by omega) h2
  · by_cases hj : j < k * bs
    · rw [hsame i (.inl (by omega)), hsame j (.inl hj)]; exact h.blk i j p1 p2 hj p4
    · by_cases hi : i < k * bs
      · have := below i hi
        rw [p4, dd j (by omega) p3] at this
        omega
      · exact hm.sorted i j (by omega) p2 p3
  · rw [hsame x (.inr h1)]; exact h.rest x (by omega) h2
theorem BlkS.whole {bs n : Nat} {d : Array α} (h : BlkS s bs 0 n d) (hb : n ≤ bs) : SortS s 0 n d := fun i j p1 p2 p3 => h i j p1 p2 p3 (by
  rw [Nat.div_eq_of_lt (by omega), Nat.div_eq_of_lt (by omega)])

end Go.Pm
namespace Go.Pm
open Go.Sort
variable {α : Type} {lt : α → α → Bool}

/-! ### Each with its place -/
/-- The order of a stable sort: by 'less', then by place. -/
def Stb (lt : α → α → Bool) (p q : α × Nat) : Prop := lt p.1 q.1 = true ∨ lt q.1 p.1 = false ∧ p.2 < q.2
theorem Stb.trans (h : SWO lt) (p q r : α × Nat) (h1 : Stb lt p q) (h2 : Stb lt q r) : Stb lt p r := by
  rcases h1 with h1 | ⟨h1, t1⟩ <;> rcases h2 with h2 | ⟨h2, t2⟩
  · exact .inl (h.trans _ _ _ h1 h2)
  · left
    cases he : lt p.1 r.1 with
    | true => rfl
    | false => rw [h.ntrans _ _ _ he h2] at h1; cases h1
  · left
    cases he : lt p.1 r.1 with
    | true => rfl
    | false => rw [h.ntrans _ _ _ h1 he] at h2; cases h2
  · exact .inr ⟨h.ntrans _ _ _ h2 h1, by omega⟩
theorem Stb.cross (x y : α × Nat) (ht : x.2 < y.2) : ((fun p q : α × Nat => lt p.1 q.1) y x = true → Stb lt y x) ∧ ((fun p q : α × Nat => lt p.1 q.1) y x = false → Stb lt x y) :=
  ⟨fun h => .inl h, fun h => .inr ⟨h, ht⟩⟩
end Go.Pm
namespace Go.Pm
open Go Go.RowKit Go.Sort Go.Proofs

/-- In the order of the Indexes, those of one Index as they were. -/
def Stable (l r : List It) : Prop := r.Perm l ∧ r.Pairwise (fun a b => Op.bytesLess b.i a.i = false) ∧ ∀ i, r.filter (fun x => decide (x.i = i)) = l.filter (fun x => decide (x.i = i))
/-- Of each Index the last one. -/
def lasts : List It → List It
  | [] => []
  | [x] => [x]
  | x :: y :: l => if y.i = x.i then lasts (y :: l) else x :: lasts (y :: l)
theorem lastI_filter (l : List It) (i : List UInt8) : lastI l i = (l.filter (fun x => decide (x.i = i))).getLast? := by
  unfold lastI
  rw [← List.head?_filter, List.filter_reverse, List.head?_reverse]
theorem lastI_cons (x : It) (l : List It) (i : List UInt8) : lastI (x :: l) i = (lastI l i).or (if x.i = i then some x else none) := by
  unfold lastI
  rw [List.reverse_cons, List.find?_append]
  by_cases h : x.i = i <;> simp [h]
theorem lastI_none {l : List It} {i : List UInt8} (h : ∀ x ∈ l, x.i ≠ i) : lastI l i = none := by
  unfold lastI
  exact List.find?_eq_none.2 fun x hx => by simpa using h x (List.mem_reverse.1 hx)
theorem lasts_sub : ∀ (r : List It) (z : It), z ∈ lasts r → z ∈ r
  | [], _, h => h
  | [x], _, h => h
  | x :: y :: l, z, h => by
    unfold lasts at h
    split at h
    · exact List.mem_cons_of_mem _ (lasts_sub (y :: l) z h)
    · rcases List.mem_cons.1 h with rfl | h
      · exact List.mem_cons_self ..
      · exact List.mem_cons_of_mem _ (lasts_sub (y :: l) z h)
theorem sorted_lt {x y : It} {l : List It} (h : (x :: y :: l).Pairwise (fun a b => Op.bytesLess b.i a.i = false)) (hne : y.i ≠ x.i) : ∀ z ∈ y :: l, Op.bytesLess x.i z.i = true := fun z hz => by
  obtain ⟨h1, h2⟩ := List.pairwise_cons.1 h
  have hxy : Op.bytesLess x.i y.i = true := by
    rcases less_total x.i y.i with h | h | h
    · exact h
    · exact absurd h.symm hne
    · have := h1 y (List.mem_cons_self ..); rw [h] at this; cases this
  rcases List.mem_cons.1 hz with rfl | hz
  · exact hxy
  · have h3 := (List.pairwise_cons.1 h2).1 z hz
    rcases less_total x.i z.i with h | h | h
    · exact h
    · rw [h, h3] at hxy; cases hxy
    · have := less_trans h hxy; rw [h3] at this; cases this
theorem srt_lasts : ∀ {r : List It}, r.Pairwise (fun a b => Op.bytesLess b.i a.i = false) → Srt (lasts r)
  | [], _ => List.Pairwise.nil
  | [x], _ => List.pairwise_singleton _ _
  | x :: y :: l, h => by
    have ih := srt_lasts (List.pairwise_cons.1 h).2
    unfold lasts
    split
    · exact ih
    · rename_i hne
      exact List.pairwise_cons.2 ⟨fun z hz => sorted_lt h hne z (lasts_sub _ z hz), ih⟩
theorem mem_lasts : ∀ {r : List It}, r.Pairwise (fun a b => Op.bytesLess b.i a.i = false) → ∀ z, z ∈ lasts r ↔ lastI r z.i = some z
  | [], _, z => by simp [lasts, lastI]
  | [x], _, z => by
    rw [lastI_cons, lastI_none (by simp)]
    by_cases h : x.i = z.i
    · simp [lasts, h, eq_comm]
    · simp only [lasts, List.mem_singleton, h, if_false, Option.none_or]
      constructor
      · rintro rfl; exact absurd rfl h
      · intro h; cases h
  | x :: y :: l, h, z => by
    have ih := mem_lasts (List.pairwise_cons.1 h).2 z
    rw [lastI_cons]
    unfold lasts
    split
    · rename_i hxy
      rw [ih]
      cases hl : lastI (y :: l) z.i with
      | some w => simp
      | none =>
        have hn : ¬ x.i = z.i := fun e => by
          unfold lastI at hl
          have := List.find?_eq_none.1 hl y (List.mem_reverse.2 (List.mem_cons_self ..))
          rw [hxy, e] at this
          simp at this
        simp [hn]
    · rename_i hne
      have hlt := sorted_lt h hne
      rw [List.mem_cons, ih]
      by_cases hz : x.i = z.i
      · have hnone : lastI (y :: l) z.i = none := lastI_none fun w hw e => by
          have := hlt w hw
          rw [e, hz, less_irrefl] at this
          cases this
        simp [hnone, hz, eq_comm]
      · constructor
        · rintro (rfl | h2)
          · exact absurd rfl hz
          · simp [h2]
        · intro h2
          right
          simpa [hz] using h2
/-- The last ones of what a stable sort has laid in order are the Set. -/
theorem set_stable {l r : List It} (h : Stable l r) : lasts r = setI l :=
  set_is (srt_lasts h.2.1) fun z => by rw [mem_lasts h.2.1, lastI_filter, h.2.2, ← lastI_filter]
/-- By place: what is kept of the first k, and the next. -/
def lastsTo (r : List It) (k : Nat) : List It := (List.range k).filterMap fun j => match r[j]? with
  | none => none
  | some x => match r[j + 1]? with
    | none => some x
    | some y => if y.i = x.i then none else some x
theorem lastsTo_zero (r : List It) : lastsTo r 0 = [] := rfl
theorem lastsTo_succ (r : List It) (k : Nat) : lastsTo r (k + 1) = lastsTo r k ++ (match r[k]? with
  | none => none
  | some x => match r[k + 1]? with
    | none => some x
    | some y => if y.i = x.i then none else some x).toList := by
  unfold lastsTo
  rw [List.range_succ, List.filterMap_append]
  congr 1
theorem lastsTo_len (r : List It) (k : Nat) : (lastsTo r k).length ≤ k := by
  unfold lastsTo
  have := List.length_filterMap_le (fun j => match r[j]? with
  | none => none
  | some x => match r[j + 1]? with
    | none => some x
    | some y => if y.i = x.i then none else some x) (List.range k)
  simpa using this
theorem lastsTo_all : ∀ r : List It, lastsTo r r.length = lasts r
  | [] => rfl
  | [x] => by
    rw [show [x].length = 0 + 1 from rfl, lastsTo_succ, lastsTo_zero]
    rfl
  | x :: y :: l => by
    have ih := lastsTo_all (y :: l)
    unfold lastsTo at ih ⊢
    rw [List.length_cons, List.range_succ_eq_map, List.filterMap_cons, List.filterMap_map]
    unfold lasts
    simp only [List.getElem?_cons_zero, List.getElem?_cons_succ, Nat.zero_add]
    by_cases h : y.i = x.i
    · simp only [h, if_true]
      exact ih
    · simp only [h, if_false]
      congr 1
theorem full_perm {l r : List It} (h : r.Perm l) (hf : Full l) : Full r := fun x hx => hf x (h.mem_iff.1 hx)
theorem full_lastsTo {r : List It} (hf : Full r) (k : Nat) : Full (lastsTo r k) := fun x hx => by
  unfold lastsTo at hx
  obtain ⟨j, _, hj⟩ := List.mem_filterMap.1 hx
  cases h1 : r[j]? with
  | none => rw [h1] at hj; cases hj
  | some a =>
    have hm := hf a (List.mem_of_getElem? h1)
    rw [h1] at hj
    cases h2 : r[j + 1]? with
    | none => rw [h2] at hj; simp only [Option.some.injEq] at hj; exact hj ▸ hm
    | some b =>
      rw [h2] at hj
      simp only at hj
      split at hj
      · cases hj
      · simp only [Option.some.injEq] at hj; exact hj ▸ hm

/-! ### A row as the sort sees it -/
/-- An item whose hashes are hashes. -/
abbrev Itf : Type := { x : It // x.i.length = 32 ∧ x.v.length = 32 }
instance : Inhabited Itf := ⟨⟨⟨List.replicate 32 0, List.replicate 32 0⟩, by simp⟩⟩
/-- Each item with its place. -/
def tagged (l : List It) (hf : Full l) : Array (Itf × Nat) := ((l.attach.map fun x => (⟨x.1, hf x.1 x.2⟩ : Itf)).zipIdx).toArray
def encT (p : Itf × Nat) : List Value := itC p.1.1
def cfT (p q : Itf × Nat) : Int := Lib.compareBytes p.1.1.i q.1.1.i
def ltT (x y : Itf) : Bool := Op.bytesLess x.1.i y.1.i
theorem tagged_size (l : List It) (hf : Full l) : (tagged l hf).size = l.length := by simp [tagged]
theorem tagged_fst (l : List It) (hf : Full l) : (tagged l hf).toList.map (fun p => p.1.1) = l := by
  unfold tagged
  rw [List.toList_toArray, show (fun p : Itf × Nat => p.1.1) = (fun x : Itf => x.1) ∘ Prod.fst from rfl, ← List.map_map, List.zipIdx_map_fst, List.map_map]
  exact List.attach_map_subtype_val l
theorem tagged_snd (l : List It) (hf : Full l) (x : Nat) (hx : x < (tagged l hf).size) : (tagged l hf)[x]!.2 = x := by
  have h : (tagged l hf).toList[x]? = some ((⟨l[x]'(by simpa [tagged_size] using hx), hf _ (List.getElem_mem _)⟩ : Itf), x) := by
    unfold tagged
    simp [show x < l.length by simpa [tagged_size] using hx]
  rw [getElem!_pos _ x hx]
  rw [Array.getElem?_toList, Array.getElem?_eq_getElem hx] at h
  exact congrArg Prod.snd (Option.some.inj h)
theorem tagged_rising (l : List It) (hf : Full l) : (tagged l hf).toList.Pairwise (fun p q => p.2 < q.2) := by
  unfold tagged
  rw [List.toList_toArray]
  refine List.pairwise_iff_getElem.2 fun i j hi hj hij => ?_
  rw [List.getElem_zipIdx, List.getElem_zipIdx]
  simpa using hij
theorem swo_ltT : SWO ltT where
  irrefl x := less_irrefl _
  trans x y z h1 h2 := less_trans h1 h2
  ntrans x y z h1 h2 := by
    unfold ltT at *
    cases h : Op.bytesLess x.1.i z.1.i with
    | false => rfl
    | true =>
      rcases less_total x.1.i y.1.i with h3 | h3 | h3
      · rw [h1] at h3; cases h3
      · rw [h3, h2] at h; cases h
      · have := less_trans h3 h; rw [h2] at this; cases this
theorem compare_less' : ∀ a b : List UInt8, decide (Lib.compareBytes a b < 0) = Op.bytesLess a b
  | [], [] => rfl
  | [], _ :: _ => rfl
  | _ :: _, [] => rfl
  | x :: a, y :: b => by
    unfold Lib.compareBytes Op.bytesLess
    by_cases h1 : x < y
    · simp [h1]
    · by_cases h2 : y < x
      · have : x ≠ y := fun e => by subst e; exact h1 h2
        simp [h1, h2, this]
      · have : x = y := by
          apply UInt8.toNat_inj.1
          have e1 : ¬ x.toNat < y.toNat := h1
          have e2 : ¬ y.toNat < x.toNat := h2
          omega
        subst this
        have ih := compare_less' a b
        simp [h1, ih]
theorem ltOf_cfT (p q : Itf × Nat) : ltOf cfT p q = ltT p.1 q.1 := compare_less' p.1.1.i q.1.1.i
theorem stable_of (l : List It) (hf : Full l) (d : Array (Itf × Nat)) (h : Mrgd (Stb ltT) 0 (tagged l hf).size (tagged l hf) d) : Stable l (d.toList.map fun p => p.1.1) := by
  have hsz : d.size = (tagged l hf).size := h.perm.1
  have hp : d.toList.Perm (tagged l hf).toList := by
    have h1 := h.perm.2.2
    rw [Array.extract_size] at h1
    rwa [← hsz, Array.extract_size] at h1
  have hs : d.toList.Pairwise (Stb ltT) := List.pairwise_iff_getElem.2 fun i j hi hj hij => by
    have h1 := h.sorted i j (Nat.zero_le _) hij (by simpa [hsz] using hj)
    rwa [getElem!_pos d i (by simpa using hi), getElem!_pos d j (by simpa using hj)] at h1
  refine ⟨?_, ?_, fun i => ?_⟩
  · have := hp.map (fun p => p.1.1)
    rwa [tagged_fst] at this
  · rw [List.pairwise_map]
    refine hs.imp fun {p q} hpq => ?_
    rcases hpq with h1 | ⟨h1, _⟩
    · exact swo_ltT.asymmA h1
    · exact h1
  · have e : ∀ D : List (Itf × Nat), (D.map fun p => p.1.1).filter (fun x => decide (x.i = i)) = (D.filter (fun p => decide (p.1.1.i = i))).map (fun p => p.1.1) := fun D => List.filter_map
    rw [e, ← tagged_fst l hf, e]
    congr 1
    refine List.Perm.eq_of_pairwise (le := fun p q => p.2 < q.2) (fun a b _ _ h1 h2 => by omega) ?_ ((tagged_rising l hf).filter _) (hp.filter _)
    refine (List.pairwise_iff_getElem.2 fun a b ha hb hab => ?_)
    have h1 := List.pairwise_iff_getElem.1 (hs.filter (fun p => decide (p.1.1.i = i))) a b ha hb hab
    have m1 := (List.mem_filter.1 (List.getElem_mem ha)).2
    have m2 := (List.mem_filter.1 (List.getElem_mem hb)).2
    simp only [decide_eq_true_eq] at m1 m2
    rcases h1 with h1 | ⟨_, h1⟩
    · unfold ltT at h1
      rw [m1, m2, less_irrefl] at h1
      cases h1
    · exact h1
/-- What the sort keeps. -/
theorem swk_kept {α : Type} [Inhabited α] {enc : α → List Value} {k : Nat} {w0 W : World} {blk off : Nat} {d : Array α} (h : SWK enc k w0 blk off d W) : Kept (Just blk) w0 W := by
  obtain ⟨n, os, rfl⟩ := h
  refine ⟨rfl, rfl, rfl, ?_, fun i hi hs => ?_⟩
  · unfold sortWorldK
    rw [size_grow, size_putRowK]
    exact Nat.le_add_right _ _
  · unfold sortWorldK
    rw [heap_grow_old _ _ (by rw [size_putRowK]; exact hi)]
    unfold putRowK putRow mapBlock
    simp only [Array.getElem?_modify]
    rw [if_neg (fun e => hs e.symm)]
    rfl
theorem swk_blk {α : Type} [Inhabited α] {enc : α → List Value} {k : Nat} {w0 W : World} {blk off : Nat} {d : Array α} (h : SWK enc k w0 blk off d W) {cur : Array Value} {e : TypeId} (hb : Blk w0 blk cur e) : Blk W blk (putCells id off (flatK enc k d) cur) e := by
  obtain ⟨n, os, rfl⟩ := h
  have hlt := hb.lt
  show (sortWorldK enc k w0 blk off n d os).heap[blk]? = _
  unfold sortWorldK
  rw [heap_grow_old _ _ (by rw [size_putRowK]; exact hlt)]
  unfold putRowK putRow mapBlock
  have hb' : (Sort.ahead w0 n).heap[blk]? = some (.cells cur e (0, 0)) := hb
  simp only [Array.getElem?_modify, if_true, hb', Option.map_some, onCells]
/-- The row's cells, one item behind another. -/
theorem flat_items : ∀ (D : List (Itf × Nat)) (t : Nat), t < D.length * 64 → (D.flatMap encT)[t]? = some ((encT (D[t / 64]!))[t % 64]!)
  | [], t, h => by simp at h
  | p :: D, t, h => by
    have h64 : (encT p).length = 64 := itC_len p.1.2
    rw [List.flatMap_cons]
    by_cases ht : t < 64
    · rw [List.getElem?_append_left (by omega), Nat.div_eq_of_lt ht, Nat.mod_eq_of_lt ht]
      rw [List.getElem?_eq_getElem (by omega), List.getElem!_cons_zero, getElem!_pos _ t (by omega)]
    · obtain ⟨u, rfl⟩ : ∃ u, t = u + 64 := ⟨t - 64, by omega⟩
      have ih := flat_items D u (by simp only [List.length_cons] at h; omega)
      rw [List.getElem?_append_right (by omega), h64, Nat.add_sub_cancel, ih, Nat.add_div_right _ (by decide), Nat.add_mod_right, List.getElem!_cons_succ]
theorem flatK_items (d : Array (Itf × Nat)) : (flatK encT 64 d).toList = itsC (d.toList.map fun p => p.1.1) := by
  have e : itsC (d.toList.map fun p => p.1.1) = d.toList.flatMap encT := by
    unfold itsC
    rw [List.flatMap_map]
    rfl
  rw [e]
  have hlen : ∀ D : List (Itf × Nat), (D.flatMap encT).length = D.length * 64 := fun D => by
    induction D with
    | nil => rfl
    | cons p D ih =>
      have h64 : (encT p).length = 64 := itC_len p.1.2
      rw [List.flatMap_cons, List.length_append, ih, h64, List.length_cons]; omega
  apply List.ext_getElem?
  intro t
  by_cases ht : t < d.size * 64
  · rw [flat_items d.toList t (by simpa using ht)]
    have h1 := get_flatK encT 64 d t ht
    rw [getElem!_pos _ t (by simpa using ht)] at h1
    rw [List.getElem?_eq_getElem (by simpa using ht), Array.getElem_toList, h1]
    congr 2
    simp [getElem!_def]
  · rw [List.getElem?_eq_none (by simpa using Nat.le_of_not_lt ht), List.getElem?_eq_none (by rw [hlen]; simpa using Nat.le_of_not_lt ht)]
theorem putCells_list (F cur : Array Value) (h : F.size ≤ cur.size) : (putCells id 0 F cur).toList = F.toList ++ cur.toList.drop F.size := by
  apply List.ext_getElem?
  intro t
  unfold putCells
  rw [Array.getElem?_toList, Array.getElem?_mapIdx]
  by_cases ht : t < F.size
  · rw [List.getElem?_append_left (by simpa using ht), Array.getElem?_eq_getElem (show t < cur.size by omega)]
    simp only [Nat.zero_le, Nat.zero_add, ht, and_self, if_true, Option.map_some, Nat.sub_zero, id]
    rw [getElem!_pos F t ht, Array.getElem?_toList, Array.getElem?_eq_getElem ht]
  · rw [List.getElem?_append_right (by simpa using Nat.le_of_not_lt ht), List.getElem?_drop]
    simp only [Nat.zero_le, Nat.zero_add, ht, and_false, if_false, Array.length_toList]
    rw [show F.size + (t - F.size) = t by omega, Array.getElem?_toList]
    cases cur[t]? <;> rfl
/-- The items, as the sort sees their row. -/
theorem ito_holds {e : TypeId} {w : World} {base g n cap : Nat} {l : List It} (h : Ito e w base (.slice (some ⟨g, 0, none⟩) n cap) l) : g < w.heap.size ∧ HoldsK encT 64 w g 0 (tagged l h.1) := by
  obtain ⟨hf, hlen, h2⟩ := h
  rcases h2 with ⟨h3, _⟩ | ⟨g', cap', cur, hvv, hb, hg, hnc, hcm, hcs, htake⟩
  · cases h3
  injection hvv with e1 e2 e3
  obtain rfl : g = g' := by simpa using e1
  have hblk : Blk w g cur e := hg
  refine ⟨hblk.lt, fun j hj => ⟨?_, hblk.free _⟩⟩
  have hj' : j < l.length * 64 := by simpa [tagged_size] using hj
  rw [Nat.zero_add, hblk.cell, getElem!_pos _ j hj, ← Array.getElem_toList (by simpa using hj)]
  have hfl := flatK_items (tagged l hf)
  rw [tagged_fst] at hfl
  have e1 : (flatK encT 64 (tagged l hf)).toList[j]? = (itsC l)[j]? := by rw [hfl]
  rw [List.getElem?_eq_getElem (by simpa using hj)] at e1
  rw [show id (flatK encT 64 (tagged l hf)).toList[j] = (flatK encT 64 (tagged l hf)).toList[j] from rfl, e1, ← htake, List.getElem?_take, if_pos hj', Array.getElem?_toList]
/-- .. and behind the sort. -/
theorem ito_sorted {e : TypeId} {w W : World} {base g n cap : Nat} {l : List It} (h : Ito e w base (.slice (some ⟨g, 0, none⟩) n cap) l) {d : Array (Itf × Nat)} (hs : SWK encT 64 w g 0 d W) (hm : Mrgd (Stb ltT) 0 (tagged l h.1).size (tagged l h.1) d) :
    ∃ r, Stable l r ∧ Ito e W base (.slice (some ⟨g, 0, none⟩) n cap) r ∧ Kept (Just g) w W := by
  have hst := stable_of l h.1 d hm
  have hds : d.size = l.length := by have := hm.perm.1; rwa [tagged_size] at this
  refine ⟨_, hst, ?_, swk_kept hs⟩
  obtain ⟨hf, hlen, h2⟩ := h
  rcases h2 with ⟨h3, _⟩ | ⟨g', cap', cur, hvv, hb, hg, hnc, hcm, hcs, htake⟩
  · cases h3
  injection hvv with e1 e2 e3
  obtain rfl : g = g' := by simpa using e1
  subst e2 e3
  have hrf := full_perm hst.1 hf
  have hrl : (d.toList.map fun p => p.1.1).length = l.length := hst.1.length_eq
  have hFs : (flatK encT 64 d).size = l.length * 64 := by rw [size_flatK, hds]
  have hle : (flatK encT 64 d).size ≤ cur.size := by rw [hFs, hcs]; exact Nat.mul_le_mul_right _ hnc
  refine ⟨hrf, by rw [itsC_len hrf], .inr ⟨g, cap, _, by rw [hrl], hb, swk_blk hs hg, by rw [hrl]; exact hnc, hcm, ?_, ?_⟩⟩
  · unfold putCells
    rw [Array.size_mapIdx]
    exact hcs
  · rw [putCells_list _ _ hle, hrl, List.take_left' (by simpa using hFs), flatK_items]
end Go.Pm
namespace Go.Pm
open Go Go.RowKit

/-- The first ones of one's own items. -/
theorem Ito.take {e : TypeId} {w : World} {base g n cap : Nat} {l : List It} (h : Ito e w base (.slice (some ⟨g, 0, none⟩) n cap) l) (k : Nat) (hk : k ≤ l.length) : Ito e w base (.slice (some ⟨g, 0, none⟩) k cap) (l.take k) := by
  have hf : Full (l.take k) := fun x hx => h.1 x (List.mem_of_mem_take hx)
  have hlen : (l.take k).length = k := List.length_take_of_le hk
  rcases h.2.2 with ⟨h3, _⟩ | ⟨g', cap', cur, hvv, hb, hg, hnc, hcm, hcs, htake⟩
  · cases h3
  injection hvv with e1 e2 e3
  obtain rfl : g = g' := by simpa using e1
  subst e3
  refine ⟨hf, by rw [itsC_len hf], .inr ⟨g, cap, cur, by rw [hlen], hb, hg, by rw [hlen]; omega, hcm, hcs, ?_⟩⟩
  rw [hlen, itsC_take h.1, ← htake, List.take_take, Nat.min_eq_left (Nat.mul_le_mul_right _ hk)]
/-- 'append(out, x)' where out is the beginning of a longer row: the next one is written over. -/
theorem run_append_over {P : Program} {w : World} {t ty e : TypeId} {z : Value} (hT : RowTyK P t e z 64 64) {base g n cap : Nat} {l : List It} (hown : Ito e w base (.slice (some ⟨g, 0, none⟩) n cap) l) (k : Nat) (hk : k < l.length)
    {lo hi : Nat} {u : Value} {x : It} (hu : Its w lo hi u [x]) :
    ∃ w', (Builtin.append_ #[t, t] ty #[.slice (some ⟨g, 0, none⟩) k cap, u]).run P w = .ok (.slice (some ⟨g, 0, none⟩) (k + 1) cap) w' ∧ Ito e w' base (.slice (some ⟨g, 0, none⟩) n cap) (l.set k x) ∧ Kept (Just g) w w' := by
  obtain ⟨i, hi, hz, hs, hb⟩ := hT.info
  have hxl := hu.1 x (List.mem_singleton.2 rfl)
  have h64 := itC_len hxl
  obtain ⟨hf, hlen, h2⟩ := hown
  rcases h2 with ⟨h3, _⟩ | ⟨g', cap', cur, hvv, hbb, hg, hnc, hcm, hcs, htake⟩
  · cases h3
  injection hvv with e1 e2 e3
  obtain rfl : g = g' := by simpa using e1
  subst e2 e3
  have hblk : Blk w g cur e := hg
  have hL := itsC_len hf
  obtain ⟨_, hul, a, c, rfl, u1, u2, u3, u4⟩ := hu
  cases a with
  | none => have := u3 rfl; simp at u1; omega
  | some ad =>
    have hfit : k * 64 + 64 ≤ cur.size := by omega
    have hr := run_append_room (P := P) w t ty e i hT.sl hi g k cap cur hg ad 1 c (itC x) (by rw [hs, h64]) (fun j v hv => (u4 ad rfl j v (by simpa [itsC] using hv)).2.2) (fun c hc => itsC_one [x] c (by simpa [itsC] using hc)) (by omega) (by rw [hs, h64]; omega)
    refine ⟨_, hr, ⟨?_, ?_, ?_⟩, Kept.row _ _ _⟩
    · intro z hz
      rcases List.mem_or_eq_of_mem_set hz with h | rfl
      · exact hf z h
      · exact hxl
    · rw [itsC_len (fun z hz => by
        rcases List.mem_or_eq_of_mem_set hz with h | rfl
        · exact hf z h
        · exact hxl)]
    · refine .inr ⟨g, cap, _, by simp, hbb, hblk.setRow _, by simpa using hnc, hcm, ?_, ?_⟩
      · simp only [List.size_toArray, List.length_append, List.length_take, List.length_drop, Array.length_toList, h64, hs]
        omega
      · rw [itsC_set hf x hk hxl, ← htake, List.length_set, hs]
        have q1 : (cur.toList.take (l.length * 64)).take (k * 64) = cur.toList.take (k * 64) := by rw [List.take_take, Nat.min_eq_left (by omega)]
        rw [q1, h64, List.append_assoc, List.take_append, List.append_assoc, List.take_of_length_le (by simp; omega)]
        congr 1
        rw [List.take_append, List.take_of_length_le (by simp [h64]; omega)]
        congr 1
        rw [List.take_drop]
        congr 2
        simp [h64]
        omega
theorem wpList_append_over {P : Program} {ops : Array Oper} {rest : List Oper} {o : Oper} {a : Act} {w : World} {Q : Exit → Act → World → Prop} (hgd : o.guard = none) (s x : Operand) (t : TypeId)
    (ho : o.op = .call { callee := .builtin .append, args := #[s, x], argTypes := #[t, t] }) {e : TypeId} {z : Value} (hT : RowTyK P t e z 64 64)
    {base g n cap : Nat} {l : List It} (hown : Ito e w base (.slice (some ⟨g, 0, none⟩) n cap) l) (k : Nat) (hk : k < l.length) (hs : a.eval s = .slice (some ⟨g, 0, none⟩) k cap) {u : Value} (hx : a.eval x = u) {lo hi : Nat} {y : It} (hu : Its w lo hi u [y])
    (h : ∀ w', Ito e w' base (.slice (some ⟨g, 0, none⟩) n cap) (l.set k y) → Kept (Just g) w w' → wpList P ops Q rest (a.put o.dst (.slice (some ⟨g, 0, none⟩) (k + 1) cap)) w') : wpList P ops Q (o :: rest) a w := by
  obtain ⟨w', hr, h1, h2⟩ := run_append_over (P := P) (ty := o.type) hT hown k hk hu
  exact Lib.wpList_append_run w hgd s x t t ho _ _ hs hx _ w' hr (h w' h1 h2)
/-- 'append(nil, make([]T, k)...)' of items. -/
theorem wpList_make_items {P : Program} {ops : Array Oper} {rest : List Oper} {o : Oper} {a : Act} {w : World} {Q : Exit → Act → World → Prop} (hgd : o.guard = none) (s x : Operand) (t tn : TypeId)
    (ho : o.op = .call { callee := .builtin .append, args := #[s, x], argTypes := #[t, tn] }) {e : TypeId} {z : Value} (hT : RowTyK P t e z 64 64) {kq kn : IntKind} (htn : P.underlying tn = some (.int kn))
    (hs : a.eval s = .slice none 0 0) (k : Nat) (hx : a.eval x = .int kq k) (h0 : 0 < k) (h63 : k ≤ 1099511627776)
    (h : ∀ cap w', Ito e w' w.heap.size (.slice (some ⟨w.heap.size, 0, none⟩) 0 cap) [] → k ≤ cap → cap ≤ maxLen → Kept None w w' → wpList P ops Q rest (a.put o.dst (.slice (some ⟨w.heap.size, 0, none⟩) k cap)) w') : wpList P ops Q (o :: rest) a w := by
  obtain ⟨i, hi, hz, hsz, hb⟩ := hT.info
  have hr := Lib.run_append_nil_zeros (P := P) w t tn o.type e i z kq kn hT.sl htn hi hz k h0 (by omega) (by omega) (by rw [hb]; omega)
  have hge := grownCap_ge w k 0 e
  have hle := grownCap_le_maxLen w k 0 e (by unfold maxLen; omega)
  refine Lib.wpList_append_run w hgd s x t tn ho _ _ hs hx _ _ hr (h _ _ ⟨fun _ h => (by cases h), rfl, .inr ⟨w.heap.size, _, _, rfl, Nat.le_refl _, heap_alloc_new w.drew _, Nat.zero_le _, hle, ?_, by simp [itsC]⟩⟩ hge hle (((Kept.refl _ w).drew).alloc _))
  simp only [Array.size_append, size_zeroCells, hT.cells]
  rw [← Nat.add_mul]
  congr 1
  omega
end Go.Pm
namespace Go.Pm
open Go Go.RowKit
/-- 's[:i]', 's[i:]' of items. -/
theorem items_to {P : Program} {t : TypeId} (ht : P.underlying t = some (.slice (P.elem t))) (hz : ∀ W, (sizeOf (P.elem t)).run P W = .ok 64 W) {w : World} {lo hi : Nat} {a : Option Addr} {n cap : Nat} {l : List It} (h : Its w lo hi (.slice a n cap) l) (k : IntKind) (i : Nat) (h1 : i ≤ n) :
    ∃ a', (∀ W, (Instr.slice t (.slice a n cap) none (some (.int k i)) none).run P W = .ok (.slice a' i cap) W) ∧ Its w lo hi (.slice a' i cap) (l.take i) := by
  have hc : n ≤ cap := by obtain ⟨a', cap', hv, hc, _⟩ := h.form; injection hv; omega
  refine ⟨if cap = 0 then a else a.map (·.add 0), fun W => ?_, ?_⟩
  · rw [run_slice_h (P := P) W t a n cap ht k i (by omega) (by omega), hz]
    simp [Go.sliced]
  · have := Its.sliced h 0 i (by omega) (by omega)
    simpa using this
theorem items_from {P : Program} {t : TypeId} (ht : P.underlying t = some (.slice (P.elem t))) (hz : ∀ W, (sizeOf (P.elem t)).run P W = .ok 64 W) {w : World} {lo hi : Nat} {a : Option Addr} {n cap : Nat} {l : List It} (h : Its w lo hi (.slice a n cap) l) (k : IntKind) (i : Nat) (h1 : i ≤ n) :
    ∃ a', (∀ W, (Instr.slice t (.slice a n cap) (some (.int k i)) none none).run P W = .ok (.slice a' (n - i) (cap - i)) W) ∧ Its w lo hi (.slice a' (n - i) (cap - i)) (l.drop i) := by
  refine ⟨if cap = i then a else a.map (·.add (i * 64)), fun W => ?_, ?_⟩
  · rw [run_slice_l (P := P) W t a n cap ht k i (by omega) (by omega), hz]
    simp [Go.sliced]
  · have hn : n = l.length := by obtain ⟨a', cap', hv, _⟩ := h.form; injection hv
    have := Its.sliced h i n (by omega) (Nat.le_refl _)
    rw [List.take_of_length_le (by omega)] at this
    exact this
end Go.Pm
namespace Go.Proofs.Ytglibdggoobocaa
open Go.RowKit Go.Pm
namespace Tr
theorem uHash : Try.prog.underlying 52 = some (.array 32 5) := by kernel_rfl
theorem uByte : Try.prog.underlying 5 = some (.int .u8) := by kernel_rfl
theorem zByte : ∀ w, (sizeOf 5).run Try.prog w = .ok 1 w := fun _ => by kernel_rfl
theorem eqHash (xs ys : List UInt8) (hx : xs.length = 32) (hy : ys.length = 32) : ∀ w, (binOp .eql 52 (.agg (xs.map u8v).toArray) (.agg (ys.map u8v).toArray)).run Try.prog w = .ok (.bool (xs == ys)) w := run_eql_hash uByte zByte uHash xs ys hx hy
theorem elItems : Try.prog.elem 46 = 54 := by kernel_rfl
theorem tItems' : Try.prog.underlying 46 = some (.slice (Try.prog.elem 46)) := by rw [elItems]; exact Try.underlying46
theorem zItems' : ∀ W, (sizeOf (Try.prog.elem 46)).run Try.prog W = .ok 64 W := by rw [elItems]; exact Try.sizeOf54
end Tr
end Go.Proofs.Ytglibdggoobocaa
namespace Go.Pm
open Go Go.RowKit
/-! ### An item into its place, by the place -/
theorem insI_at {x : It} : ∀ {out : List It} {k : Nat}, k ≤ out.length → (∀ t (h : t < out.length), t < k → Op.bytesLess out[t].i x.i = true) → (∀ h : k < out.length, Op.bytesLess out[k].i x.i = false) →
    insI x out = out.take k ++ (match out.drop k with | [] => [x] | y :: r => if y.i = x.i then x :: r else x :: y :: r)
  | [], k, hk, _, _ => by
    obtain rfl : k = 0 := by simpa using hk
    rfl
  | y :: out, 0, _, _, h => by
    have h0 := h (by simp)
    simp only [List.getElem_cons_zero] at h0
    unfold insI
    rw [h0]
    simp
  | y :: out, k + 1, hk, h1, h2 => by
    have h0 := h1 0 (by simp) (by omega)
    simp only [List.getElem_cons_zero] at h0
    have ih := insI_at (x := x) (out := out) (k := k) (by simpa using hk) (fun t ht htk => by
      have := h1 (t + 1) (by simpa using ht) (by omega)
      simpa using this) (fun h => by
      have := h2 (by simpa using h)
      simpa using this)
    unfold insI
    rw [h0, if_pos rfl, ih]
    rfl
theorem insI_same {x : It} {out : List It} {k : Nat} (hk : k < out.length) (h1 : ∀ t (h : t < out.length), t < k → Op.bytesLess out[t].i x.i = true) (h2 : Op.bytesLess out[k].i x.i = false) (he : out[k].i = x.i) : insI x out = out.set k x := by
  rw [insI_at (by omega) h1 (fun _ => h2), List.drop_eq_getElem_cons hk]
  simp only [he, if_true]
  rw [List.set_eq_take_append_cons_drop, if_pos hk]
theorem insI_new {x : It} {out : List It} {k : Nat} (hk : k ≤ out.length) (h1 : ∀ t (h : t < out.length), t < k → Op.bytesLess out[t].i x.i = true) (h2 : ∀ h : k < out.length, Op.bytesLess out[k].i x.i = false ∧ out[k].i ≠ x.i) : insI x out = (out.take k ++ [x]) ++ out.drop k := by
  rw [insI_at hk h1 (fun h => (h2 h).1), List.append_assoc]
  congr 1
  by_cases h : k < out.length
  · rw [List.drop_eq_getElem_cons h]
    simp only [(h2 h).2, if_false, List.singleton_append]
  · rw [List.drop_of_length_le (by omega)]
    rfl
theorem len_insI (x : It) : ∀ out : List It, (insI x out).length ≤ out.length + 1
  | [] => Nat.le_refl _
  | y :: out => by
    have := len_insI x out
    unfold insI
    split
    · simpa using this
    · split <;> simp
theorem len_setI (l : List It) : (setI l).length ≤ l.length := by
  suffices h : ∀ r : List It, (setI r.reverse).length ≤ r.length by
    have := h l.reverse
    rwa [List.reverse_reverse, List.length_reverse] at this
  intro r
  induction r with
  | nil => exact Nat.le_refl _
  | cons x r ih =>
    rw [List.reverse_cons, setI_snoc]
    have := len_insI x (setI r.reverse)
    simp only [List.length_cons]
    omega
theorem full_setI {l : List It} (h : Full l) : Full (setI l) := fun x hx => h x ((find_some ((mem_setI x l).1 hx)).1)
/-! ### Items in a region that draws its order -/
/-- It tells items of the call's own. -/
abbrev Fct.ito (e : TypeId) (k : Nat) (lo : Nat) (l : List It) (uses : List Nat := []) (spends : List Nat := []) (later : List Nat := []) : Fct := { k := k, uses := uses, spends := spends, later := later, pure := fun u => ∃ a c, u = .slice a l.length c, fact := fun u W => Ito e W lo u l }
/-- It tells items. -/
abbrev Fct.its (k : Nat) (l : List It) (uses : List Nat := []) : Fct := { k := k, uses := uses, pure := fun u => ∃ a c, u = .slice a l.length c, fact := fun u W => ∃ lo hi, Its W lo hi u l }
theorem Steady.ito {l : List Fct} {k : Nat} {us : List Nat} {e : TypeId} {lo : Nat} {m : List It} {sp lt : List Nat} (h : Steady l) : Steady (.ito e k lo m us sp lt :: l) := .cons ⟨_, none, 0, rfl⟩ (fun _ _ _ hk hb => Ito.kept hb hk (fun _ _ h => h)) h
theorem Steady.its {l : List Fct} {k : Nat} {us : List Nat} {m : List It} (h : Steady l) : Steady (.its k m us :: l) := .cons ⟨_, none, 0, rfl⟩ (fun _ _ _ hk ⟨lo, hi, hb⟩ => ⟨lo, hi, hb.kept hk (fun _ _ _ h => h)⟩) h
theorem gives_append_ito {P : Program} {o : Oper} {a : Act} {w : World} {X : Value → World → Prop} (s x : Operand) (t : TypeId)
    (ho : o.op = .call { callee := .builtin .append, args := #[s, x], argTypes := #[t, t] }) {e : TypeId} {z : Value} (hT : RowTyK P t e z 64 64)
    {v : Value} (hs : a.eval s = v) {u : Value} (hx : a.eval x = u) {base : Nat} {l : List It} (hown : Ito e w base v l) {lo hi : Nat} {m : List It} (hu : Its w lo hi u m)
    (h63 : l.length + m.length ≤ 1099511627776) (hbase : base ≤ w.heap.size)
    (h : ∀ a' n' c' w', Ito e w' base (.slice a' n' c') (l ++ m) → Kept (Of v) w w' → (∀ k, (Value.slice a' n' c').ownBlock = some k → v.ownBlock = some k ∨ k = w.heap.size) → X (.slice a' n' c') w') : Gives P o a w X := by
  obtain ⟨a', n', c', w', hr, h1, h2, h3⟩ := run_append_ito (w := w) (ty := o.type) hT hown hu h63 hbase
  unfold Gives
  simp only [execOp, ho, resolve, invoke, builtin, Sem.run_bind, Sem.run_pure, Result.andThen_ok, List.map_toArray, List.map_cons, List.map_nil, hs, hx, hr]
  exact h _ _ _ _ h1 h2 h3
/-- What stands between two rounds of the reference's Set. -/
structure RMid (e : TypeId) (w0 : World) (va : Value) (L : List It) (i : Nat) (vo : Value) (w : World) : Prop where
  out : Ito e w w0.heap.size vo (setI (L.take i))
  all : Ito e w w0.heap.size va L
  ne : ∀ q, vo.ownBlock = some q → va.ownBlock ≠ some q
  kept : Kept None w0 w
theorem RMid.go {e : TypeId} {w0 w w' : World} {va vo : Value} {L : List It} {i : Nat} (h : RMid e w0 va L i vo w) (hk : Kept None w w') : RMid e w0 va L i vo w' :=
  ⟨h.out.kept hk (fun _ _ h => h), h.all.kept hk (fun _ _ h => h), h.ne, h.kept.trans hk⟩
end Go.Pm
namespace Go.Proofs.Ytglibdggoobocaa
open Go.RowKit Go.Pm

namespace RTr
set_option maxRecDepth 100000 in
set_option maxHeartbeats 4000000 in
/-- Set. -/
theorem set (v1 v2 : Value) (lo hi lo' hi' : Nat) (l m : List It) (w : World) (h1 : Its w lo hi v1 l) (h2 : Its w lo' hi' v2 m) (hl : l.length + m.length ≤ 549755813888) :
    Calls Try.prog 38 #[v1, v2] w fun e w' => ∃ v, e = .returned v ∧ Ito 54 w' w.heap.size v (setI (l ++ m)) ∧ Kept None w w' := by
  obtain ⟨a1, c1, rfl, _, _, _⟩ := h1.form
  obtain ⟨a2, c2, rfl, _, _, _⟩ := h2.form
  have i0 := Ito.nil 54 w w.heap.size
  have hl1 : ([] : List It).length + l.length ≤ 1099511627776 := by simp; omega
  have hl2 : ([] ++ l : List It).length + m.length ≤ 1099511627776 := by simp; omega
  obtain ⟨L, hL⟩ : ∃ L, L = l ++ m := ⟨_, rfl⟩
  rw [← hL]
  have HL0 := hid hL
  clear hL
  obtain ⟨n1, hn1⟩ : ∃ n, n = l.length := ⟨_, rfl⟩
  obtain ⟨n2, hn2⟩ : ∃ n, n = m.length := ⟨_, rfl⟩
  rw [← hn1] at h1 ⊢
  rw [← hn2] at h2 ⊢
  have HN := hid (And.intro hn1 hn2)
  clear hn1 hn2
  go_enter Try.func38, Try.ntmps38
  go_wp2_with (first | (at_builtin; refine wpList_append_ito (v := .slice none 0 0) (u := .slice a1 n1 c1) (.refl _) _ _ 46 rfl rtItems rfl rfl i0 h1 hl1 (Nat.le_refl _) ?_; intro a5 n5 c5 w5 hO5 k5 f5) | (at_builtin; refine wpList_append_ito (v := .slice a5 n5 c5) (u := .slice a2 n2 c2) (.refl _) _ _ 46 rfl rtItems rfl rfl hO5 (h2.kept (S := None) (k5.mono (fun q _ hq => by cases hq)) (fun _ _ _ h => h)) hl2 k5.size ?_; intro a6 n6 c6 w6 hO6 k6 f6) | fail)
  have k05 : Kept None w w5 := k5.mono (fun q _ hq => by cases hq)
  have k06 : Kept None w w6 := Kept.own k05 k6 (fun q hq => (hO5.own q hq).1)
  rw [List.nil_append] at hO6
  obtain ⟨a6', c6', e6⟩ := hO6.form
  rw [← HL0.out] at hO6 e6
  obtain ⟨N, hN⟩ : ∃ N, N = L.length := ⟨_, rfl⟩
  rw [← hN] at e6
  injection e6 with e1 e2 e3
  subst e1 e2 e3
  have hNb : n6 ≤ 549755813888 := by rw [hN, HL0.out, List.length_append]; exact hl
  have hM : RMid 54 w (.slice a6 n6 c6) L 0 (.slice none 0 0) w6 := ⟨Ito.nil _ _ _, hO6, (fun q h => by cases h), k06⟩
  have HM := hid hM
  have HL := hid hN
  clear hM hO6 hN HL0 k06 k05 k6 k5 hO5 h1 h2 hl1 hl2 i0 f5 f6 hl HN
  go_wp2
  go_loopg [5, 7, 8] n6 (fun kx s5 s7 s8 wr => ∃ (i : Nat) (ao : Option Addr) (no co : Nat) (v8 : Value), s5 = .slice ao no co ∧ s7 = .int .i64 i ∧ s8 = v8 ∧ i ≤ n6 ∧ n6 - i ≤ kx ∧ Hid (RMid 54 w (.slice a6 n6 c6) L i (.slice ao no co) wr))
  case atStart => exact ⟨0, none, 0, 0, _, rfl, rfl, rfl, Nat.zero_le _, Nat.le_refl _, HM⟩
  case round =>
    obtain ⟨i, ao, no, co, v8, rfl, rfl, rfl, hin, hkx, HX⟩ := hrel
    clear HM
    by_cases hlt : i < n6
    · have hltz : (i : Int) < (n6 : Int) := by omega
      obtain ⟨x, hx⟩ : ∃ x, L[i]? = some x := ⟨_, List.getElem?_eq_getElem (by have := HL.out; omega)⟩
      have hxl := HX.out.all.1 x (List.mem_of_getElem? hx)
      have h64 := itC_len hxl
      obtain ⟨out, hout⟩ : ∃ out, out = setI (L.take i) := ⟨_, rfl⟩
      have hol : out.length ≤ i := by rw [hout]; exact Nat.le_trans (len_setI _) (by simp; omega)
      have hnext : setI (L.take (i + 1)) = insI x out := by
        obtain ⟨hi', he'⟩ := List.getElem?_eq_some_iff.1 hx
        rw [List.take_succ_eq_append_getElem hi', setI_snoc, he', hout]
      have hOo : Ito 54 wr w.heap.size (.slice ao no co) out := by rw [hout]; exact HX.out.out
      have hno : no = out.length := by obtain ⟨_, _, e⟩ := hOo.form; injection e
      have hnc : no ≤ co ∧ co ≤ 9223372036854775807 := by
        obtain ⟨_, _, e, g1, g2, _⟩ := (hOo.its (Nat.le_refl _)).form
        injection e with e1 e2 e3
        subst e3
        exact ⟨by omega, g2⟩
      obtain ⟨hnc1, hnc2⟩ := hnc
      -- where x lies
      obtain ⟨b6, o6, hb6, _, _, q3, hc6⟩ := (HX.out.all.its (Nat.le_refl _)).ne (by have := HL.out; omega)
      obtain rfl := hb6
      have hcx0 := hc6 i x hx
      have hcI0 := hcx0
      have hcx1 : wr.rangeAt b6 (o6 + i * 64) (x.i.map u8v) := by
        have h := rangeAt_take hcx0 32
        rwa [show (itC x).take 32 = x.i.map u8v from List.take_left' (by simp [hxl.1])] at h
      have aHx : AggTy Try.prog 52 (x.i.map u8v).length := by rw [List.length_map, hxl.1]; exact Sp.aH
      have aY : AggTy Try.prog 54 (itC x).length := by rw [h64]; exact aI64
      have HXX := hid hx
      have HOUT := hid hout
      have HNEXT := hid hnext
      have HNO := hid hno
      have HXL := hid hxl
      have H64 := hid h64
      have HC := hid (And.intro hcx1 hcI0)
      have HOO := hid hOo
      have hno1 : no ≤ out.length := by omega
      have hno2 : out.length ≤ no := by omega
      clear hx hout hnext hno hxl h64 hc6 hcx0 hcI0 hcx1 hOo q3
      obtain ⟨wo, hwo⟩ : ∃ wo : World, wo = wr := ⟨_, rfl⟩
      subst hwo
      go_wp2
      go_loopg [8] no (fun ky s8 wr => ∃ k : Nat, s8 = .int .i64 k ∧ k ≤ no ∧ no - k ≤ ky ∧ Hid (Kept None wo wr) ∧ Hid (∀ t (h : t < out.length), t < k → Op.bytesLess out[t].i x.i = true))
      case atStart => exact ⟨0, rfl, Nat.zero_le _, Nat.le_refl _, Kept.refl _ _, fun t h h2 => by omega⟩
      case round =>
        obtain ⟨k, rfl, hkn, hky, HK, HLT⟩ := hrel
        have hcx := rangeAt_kept HC.out.1 HK.out
        have hcI := rangeAt_kept HC.out.2 HK.out
        have hOr := HOO.out.kept HK.out (fun _ _ h => h)
        have HX2 := hid (HX.out.go HK.out)
        by_cases hk : k < no
        · have hkz : (k : Int) < (no : Int) := by omega
          obtain ⟨y, hy⟩ : ∃ y, out[k]? = some y := ⟨_, List.getElem?_eq_getElem (by omega)⟩
          have hyl := hOr.1 y (List.mem_of_getElem? hy)
          obtain ⟨b5, o5, hb5, _, _, q3, hc5⟩ := (hOr.its (Nat.le_refl _)).ne (by omega)
          obtain rfl := hb5
          have hcy : wr.rangeAt b5 (o5 + k * 64) (y.i.map u8v) := by
            have h := rangeAt_take (hc5 k y hy) 32
            rwa [show (itC y).take 32 = y.i.map u8v from List.take_left' (by simp [hyl.1])] at h
          have aHy : AggTy Try.prog 52 (y.i.map u8v).length := by rw [List.length_map, hyl.1]; exact Sp.aH
          have hLe := fun W => less y.i x.i W hyl.1 HXL.out.1
          have e1 := Tr.eqHash y.i x.i hyl.1 HXL.out.1
          obtain ⟨b, hb⟩ : ∃ b, b = Op.bytesLess y.i x.i := ⟨_, rfl⟩
          rw [← hb] at hLe
          have HLess := hid hLe
          have HB := hid hb
          have HY := hid hy
          have HOR := hid hOr
          clear hLe hb hy q3 hc5 hOr
          go_wp2_with fail
          have hs : Steady [.val 15 (.bool b)] := Steady.val (Steady.nil)
          refine wp_region_kn wr _ hs (Kept.refl _ _) (by kernel_rfl) (by kernel_rfl) (by kernel_rfl) ?_
          iterate 9 (refine wpPar_pure rfl (by rfl) _ (fun W hW => by
              go_simp
              exact rfl) ?_; simp only [Act.put, List.setIfInBounds_toArray, List.set_cons_zero, List.set_cons_succ])
          refine wpPar_pure rfl (by rfl) _ (fun W hW => exec_load_at rfl rfl (rangeAt_kept hcy hW) aHy) ?_; simp only [Act.put, List.setIfInBounds_toArray, List.set_cons_zero, List.set_cons_succ]
          iterate 4 (refine wpPar_pure rfl (by rfl) _ (fun W hW => by
              go_simp
              exact rfl) ?_; simp only [Act.put, List.setIfInBounds_toArray, List.set_cons_zero, List.set_cons_succ])
          refine wpPar_pure rfl (by rfl) _ (fun W hW => exec_load_at rfl rfl (rangeAt_kept hcx hW) aHx) ?_; simp only [Act.put, List.setIfInBounds_toArray, List.set_cons_zero, List.set_cons_succ]
          refine wpKn_adds hs rfl (by rfl) (fun W hW hd => ?_) (fun v15 hv => ?_)
          · unfold Gives
            go_simp
            refine gives_call (HLess.out W) ?_
            rintro e w3 ⟨rfl, k3⟩
            exact ⟨_, rfl, k3, rfl, trivial⟩
          obtain rfl : v15 = .bool b := hv
          simp only [Act.put, List.setIfInBounds_toArray, List.set_cons_zero, List.set_cons_succ]
          iterate 1 (refine wpPar_pure rfl (by rfl) _ (fun W hW => by
              go_simp
              exact rfl) ?_; simp only [Act.put, List.setIfInBounds_toArray, List.set_cons_zero, List.set_cons_succ])
          refine wpPar_nil (fun w6 hW hG => ?_)
          clear hG hs
          have HW := hid hW
          clear hW
          cases b with
          | true =>
            have HT := hid (show ∀ t (h : t < out.length), t < k + 1 → Op.bytesLess out[t].i x.i = true from fun t h ht => by
              by_cases e : t = k
              · subst e
                have e2 := (List.getElem?_eq_some_iff.1 HY.out).2
                rw [e2]; exact HB.out.symm
              · exact HLT.out t h (by omega))
            go_wp2
            go_roundg (no - (k + 1))
            case measure => omega
            case rel => exact ⟨k + 1, by go_num, by omega, Nat.le_refl _, HK.out.trans HW.out, HT⟩
          | false =>
            have hcy := rangeAt_kept hcy HW.out
            have hcx := rangeAt_kept hcx HW.out
            have hcI := rangeAt_kept hcI HW.out
            have HXB := hid (HX2.out.go HW.out)
            have HOB := hid (HOR.out.kept HW.out (fun _ _ h => h))
            have KB := hid (HK.out.trans HW.out)
            clear HX2 HOR HK HW
            obtain ⟨wB, hwB⟩ : ∃ wB, wB = w6 := ⟨_, rfl⟩
            subst hwB
            go_wp2_with fail
            refine wp_region_kn wB [] Steady.nil (Kept.refl _ _) (by kernel_rfl) (by kernel_rfl) (by kernel_rfl) ?_
            iterate 9 (refine wpPar_pure rfl (by rfl) _ (fun W hW => by
                go_simp
                exact rfl) ?_; simp only [Act.put, List.setIfInBounds_toArray, List.set_cons_zero, List.set_cons_succ])
            refine wpPar_pure rfl (by rfl) _ (fun W hW => exec_load_at rfl rfl (rangeAt_kept hcy hW) aHy) ?_; simp only [Act.put, List.setIfInBounds_toArray, List.set_cons_zero, List.set_cons_succ]
            iterate 4 (refine wpPar_pure rfl (by rfl) _ (fun W hW => by
                go_simp
                exact rfl) ?_; simp only [Act.put, List.setIfInBounds_toArray, List.set_cons_zero, List.set_cons_succ])
            refine wpPar_pure rfl (by rfl) _ (fun W hW => exec_load_at rfl rfl (rangeAt_kept hcx hW) aHx) ?_; simp only [Act.put, List.setIfInBounds_toArray, List.set_cons_zero, List.set_cons_succ]
            obtain ⟨yv, hyv⟩ : ∃ yv, yv = (y.i.map u8v).toArray := ⟨_, rfl⟩
            obtain ⟨xv, hxv⟩ : ∃ xv, xv = (x.i.map u8v).toArray := ⟨_, rfl⟩
            rw [← hyv, ← hxv] at e1
            simp only [← hyv, ← hxv]
            clear hyv hxv
            iterate 2 (refine wpPar_pure rfl (by rfl) _ (fun W hW => by
                go_simp
                exact rfl) ?_; simp only [Act.put, List.setIfInBounds_toArray, List.set_cons_zero, List.set_cons_succ])
            refine wpPar_nil (fun w7 hW hG => ?_)
            clear hG
            have hcIB := rangeAt_kept hcI hW
            have HXB' := hid (HXB.out.go hW)
            have HOB' := hid (HOB.out.kept hW (fun _ _ h => h))
            clear hcy hcx hcI HXB HOB KB hW e1
            have HXB := HXB'
            have HOB := HOB'
            clear HXB' HOB'
            obtain ⟨wB, hwB⟩ : ∃ wB, wB = w7 := ⟨_, rfl⟩
            subst hwB
            have hky : ∃ h : k < out.length, out[k] = y := List.getElem?_eq_some_iff.1 HY.out
            by_cases hxy : y.i = x.i
            · have hb : (y.i == x.i) = true := by simp [hxy]
              have HIN := hid (show insI x out = out.set k x from by
                obtain ⟨h1, h2⟩ := hky
                exact insI_same h1 HLT.out (by rw [h2]; exact HB.out.symm) (by rw [h2]; exact hxy))
              have h00 : o5 = 0 := by
                rcases HOB.out.2.2 with ⟨h1, _⟩ | ⟨g, cap, cur, h1, _⟩
                · injection h1 with e; cases e
                · injection h1 with e; injection e with e; injection e
              have hkl := hky.1
              have hown := HOB.out
              subst h00
              clear hxy hky
              rw [hb]
              clear hb
              go_wp2_with (first | (refine wpList_load_at (.refl _) _ _ rfl rfl hcIB aY ?_) | (refine wpList_store_item (.refl _) _ _ _ rfl hown hkl HXL.out rfl rfl aI64 ?_; intro w9 hI9 k9) | fail)
              go_roundg (n6 - (i + 1))
              case measure => omega
              case rel =>
                refine ⟨i + 1, _, _, _, _, rfl, by go_num, rfl, by omega, Nat.le_refl _, ⟨?_, ?_, ?_, ?_⟩⟩
                · rw [HNEXT.out, HIN.out]; exact hI9
                · refine HXB.out.all.kept k9 (fun q hq (e : q = b5) => ?_)
                  subst e
                  exact HXB.out.ne _ rfl hq
                · exact fun q hq => HXB.out.ne q hq
                · exact HXB.out.kept.then k9 (fun q hq (e : q = b5) => by
                    have := (hown.own b5 rfl).1
                    omega)
            · have hb : (y.i == x.i) = false := by simp [hxy]
              have HNEW := hid (show ∀ h : k < out.length, Op.bytesLess out[k].i x.i = false ∧ out[k].i ≠ x.i from fun h => by
                obtain ⟨h1, h2⟩ := hky
                rw [h2]
                exact ⟨HB.out.symm, hxy⟩)
              clear hxy hky
              rw [hb]
              clear hb
              obtain ⟨q1a, s1, iA⟩ := items_to Tr.tItems' Tr.zItems' (HOB.out.its (Nat.le_refl _)) .i64 k hkn
              obtain ⟨q2a, s2, iD⟩ := items_from Tr.tItems' Tr.zItems' (HOB.out.its (Nat.le_refl _)) .i64 k hkn
              have hins : insI x out = (out.take k ++ [x]) ++ out.drop k := insI_new (by omega) HLT.out HNEW.out
              have hAl : (out.take k).length = k := List.length_take_of_le (by omega)
              have hDl : (out.drop k).length ≤ no := by rw [List.length_drop]; omega
              obtain ⟨A, hA⟩ : ∃ A, A = out.take k := ⟨_, rfl⟩
              obtain ⟨D, hD⟩ : ∃ D, D = out.drop k := ⟨_, rfl⟩
              rw [← hA] at hins iA hAl
              rw [← hD] at hins iD hDl
              obtain ⟨AX, hAX⟩ : ∃ AX, AX = A ++ [x] := ⟨_, rfl⟩
              rw [← hAX] at hins
              obtain ⟨AXD, hAXD⟩ : ∃ AXD, AXD = AX ++ D := ⟨_, rfl⟩
              rw [← hAXD] at hins
              have hA40 : A.length ≤ 1099511627776 := by omega
              have hA41 : A.length + 1 ≤ 1099511627776 := by omega
              have hA42 : AX.length + D.length ≤ 1099511627776 := by rw [hAX, List.length_append, hAl, List.length_singleton]; omega
              have HAX := hid hAX
              have HAXD := hid hAXD
              have HINS := hid hins
              have hkz : (k : Int) ≤ (no : Int) := by omega
              clear hA hD hAX hAXD hins hAl hDl
              go_wp2_with fail
              have hs : Steady [.ito 54 3 wB.heap.size A, .its 8 [x], .ito 54 9 wB.heap.size AX [3, 8] [3, 8] [13], .ito 54 13 wB.heap.size AXD [9, 3, 8] [9, 3, 8]] := Steady.ito (Steady.its (Steady.ito (Steady.ito Steady.nil)))
              refine wp_region_kn wB _ hs (Kept.refl _ _) (by kernel_rfl) (by kernel_rfl) (by kernel_rfl) ?_
              iterate 3 (refine wpPar_pure rfl (by rfl) _ (fun W hW => by
                  have q1 := s1 W
                  have q2 := s2 W
                  go_simp
                  exact rfl) ?_; simp only [Act.put, List.setIfInBounds_toArray, List.set_cons_zero, List.set_cons_succ])
              refine wpKn_adds hs rfl (by rfl) (fun W hW hd => ?_) (fun v3 hv => ?_)
              · refine gives_append_ito _ _ 46 rfl RTr.rtItems (v := .slice none 0 0) rfl rfl (Ito.nil _ W wB.heap.size) (iA.kept hW (fun _ _ _ h => h)) (by simpa using hA40) hW.size ?_
                intro a' n' c' W' h3 h4 _
                refine ⟨h4.mono (fun q _ hq => by cases hq), ?_, (by rw [List.nil_append] at h3; exact h3)⟩
                obtain ⟨a'', c'', e⟩ := h3.form
                exact ⟨a'', c'', by simpa using e⟩
              obtain ⟨a3, c3, rfl⟩ : ∃ a c, v3 = .slice a A.length c := hv
              simp only [Act.put, List.setIfInBounds_toArray, List.set_cons_zero, List.set_cons_succ]
              iterate 3 (refine wpPar_pure rfl (by rfl) _ (fun W hW => by
                  have q1 := s1 W
                  have q2 := s2 W
                  go_simp
                  exact rfl) ?_; simp only [Act.put, List.setIfInBounds_toArray, List.set_cons_zero, List.set_cons_succ])
              refine wpPar_pure rfl (by rfl) _ (fun W hW => exec_load_at rfl rfl (rangeAt_kept hcIB hW) aY) ?_; simp only [Act.put, List.setIfInBounds_toArray, List.set_cons_zero, List.set_cons_succ]
              refine wpKn_adds hs rfl (by rfl) (fun W hW hd => ?_) (fun v8 hv => ?_)
              · unfold Gives
                rw [exec_one_item 46 (.tmp 69) rfl RTr.rtItems (by decide) (A := (itC x).toArray) rfl (by simpa using H64.out)]
                exact ⟨(Kept.refl None W).alloc _, ⟨_, _, rfl⟩, _, _, Its.one W 54 x HXL.out⟩
              obtain ⟨a8, c8, rfl⟩ : ∃ a c, v8 = .slice a 1 c := hv
              simp only [Act.put, List.setIfInBounds_toArray, List.set_cons_zero, List.set_cons_succ]
              refine wpPar_adds rfl (by rfl) (fun W hW hd => ?_) (fun v9 hv => ?_)
              · have h1 : Ito 54 W wB.heap.size (.slice a3 A.length c3) A := hd 3 (List.Mem.head _)
                obtain ⟨lo2, hi2, h2⟩ : ∃ lo hi, Its W lo hi (.slice a8 1 c8) [x] := hd 8 (List.Mem.tail _ (List.Mem.head _))
                refine gives_append_ito _ _ 46 rfl RTr.rtItems rfl rfl h1 h2 (by simpa using hA41) hW.size ?_
                intro a' n' c' W' h3 h4 _
                rw [← HAX.out] at h3
                refine ⟨Kept.own hW h4 (fun q hq => (h1.own q hq).1), h3.form, h3, keeps_of fun f hf hs hlt hne u hfu => ?_⟩
                simp only [List.mem_cons, List.not_mem_nil, or_false] at hf
                rcases hf with rfl | rfl | rfl | rfl
                · exact absurd (List.Mem.head _) hs
                · exact absurd (List.Mem.tail _ (List.Mem.head _)) hs
                · exact absurd rfl hne
                · exact absurd (List.Mem.head _) hlt
              obtain ⟨a9, c9, rfl⟩ : ∃ a c, v9 = .slice a AX.length c := hv
              simp only [Act.put, List.setIfInBounds_toArray, List.set_cons_zero, List.set_cons_succ]
              iterate 3 (refine wpPar_pure rfl (by rfl) _ (fun W hW => by
                  have q1 := s1 W
                  have q2 := s2 W
                  go_simp
                  exact rfl) ?_; simp only [Act.put, List.setIfInBounds_toArray, List.set_cons_zero, List.set_cons_succ])
              refine wpPar_adds rfl (by rfl) (fun W hW hd => ?_) (fun v13 hv => ?_)
              · have h1 : Ito 54 W wB.heap.size (.slice a9 AX.length c9) AX := hd 9 (List.Mem.head _)
                refine gives_append_ito _ _ 46 rfl RTr.rtItems rfl rfl h1 (iD.kept hW (fun _ _ _ h => h)) hA42 hW.size ?_
                intro a' n' c' W' h3 h4 _
                rw [← HAXD.out] at h3
                refine ⟨Kept.own hW h4 (fun q hq => (h1.own q hq).1), h3.form, h3, keeps_of fun f hf hs _ hne u hfu => ?_⟩
                simp only [List.mem_cons, List.not_mem_nil, or_false] at hf
                rcases hf with rfl | rfl | rfl | rfl
                · exact absurd (List.Mem.tail _ (List.Mem.head _)) hs
                · exact absurd (List.Mem.tail _ (List.Mem.tail _ (List.Mem.head _))) hs
                · exact absurd (List.Mem.head _) hs
                · exact absurd rfl hne
              obtain ⟨a13, c13, rfl⟩ : ∃ a c, v13 = .slice a AXD.length c := hv
              simp only [Act.put, List.setIfInBounds_toArray, List.set_cons_zero, List.set_cons_succ]
              iterate 1 (refine wpPar_pure rfl (by rfl) _ (fun W hW => by
                  go_simp
                  exact rfl) ?_; simp only [Act.put, List.setIfInBounds_toArray, List.set_cons_zero, List.set_cons_succ])
              refine wpPar_nil (fun w9 hW hG => ?_)
              have hb : Ito 54 w9 wB.heap.size (.slice a13 AXD.length c13) AXD := hG 13
              have hfin : RMid 54 w (.slice (some ⟨b6, o6, none⟩) n6 c6) L (i + 1) (.slice a13 AXD.length c13) w9 := by
                have hsz := HXB.out.kept.size
                refine ⟨?_, HXB.out.all.kept hW (fun _ _ h => h), fun q hq h => ?_, HXB.out.kept.trans hW⟩
                · rw [HNEXT.out, HINS.out]
                  exact hb.base hsz
                · have e1 := (hb.own q hq).1
                  have e2 := (HXB.out.all.own q h).2
                  omega
              have HF := hid hfin
              clear hG hs hW hb hfin s1 s2 iA iD
              go_wp2
              go_roundg (n6 - (i + 1))
              case measure => omega
              case rel => exact ⟨i + 1, _, _, _, _, rfl, by go_num, rfl, by omega, Nat.le_refl _, HF⟩
        · have hkz : ¬ (k : Int) < (no : Int) := by omega
          have hd : decide ((k : Int) < (no : Int)) = false := decide_eq_false hkz
          have HNEW := hid (show ∀ h : k < out.length, Op.bytesLess out[k].i x.i = false ∧ out[k].i ≠ x.i from fun h => by omega)
          have HX2' := HX2
          clear hcx
          go_wp2_with fail
          go_quiet (fail)
          have hcI1 := rangeAt_kept hcI (Kept.toDrewN None _ nq)
          have HXB1 := hid (HX2.out.go (Kept.toDrewN None _ nq))
          have HOB1 := hid (hOr.kept (Kept.toDrewN None _ nq) (fun _ _ h => h))
          clear hcI HX2 HX2' hOr HK
          generalize wr.drewN nq = w8 at hcI1 HXB1 HOB1 ⊢
          clear nq
          go_wp2_with fail
          go_quiet (fail)
          have hcIB := rangeAt_kept hcI1 (Kept.toDrewN None _ nq)
          have HXB := hid (HXB1.out.go (Kept.toDrewN None _ nq))
          have HOB := hid (HOB1.out.kept (Kept.toDrewN None _ nq) (fun _ _ h => h))
          clear hcI1 HXB1 HOB1
          generalize w8.drewN nq = wB at hcIB HXB HOB ⊢
          clear nq hd hkz
          obtain ⟨q1a, s1, iA⟩ := items_to Tr.tItems' Tr.zItems' (HOB.out.its (Nat.le_refl _)) .i64 k hkn
          obtain ⟨q2a, s2, iD⟩ := items_from Tr.tItems' Tr.zItems' (HOB.out.its (Nat.le_refl _)) .i64 k hkn
          have hins : insI x out = (out.take k ++ [x]) ++ out.drop k := insI_new (by omega) HLT.out HNEW.out
          have hAl : (out.take k).length = k := List.length_take_of_le (by omega)
          have hDl : (out.drop k).length ≤ no := by rw [List.length_drop]; omega
          obtain ⟨A, hA⟩ : ∃ A, A = out.take k := ⟨_, rfl⟩
          obtain ⟨D, hD⟩ : ∃ D, D = out.drop k := ⟨_, rfl⟩
          rw [← hA] at hins iA hAl
          rw [← hD] at hins iD hDl
          obtain ⟨AX, hAX⟩ : ∃ AX, AX = A ++ [x] := ⟨_, rfl⟩
          rw [← hAX] at hins
          obtain ⟨AXD, hAXD⟩ : ∃ AXD, AXD = AX ++ D := ⟨_, rfl⟩
          rw [← hAXD] at hins
          have hA40 : A.length ≤ 1099511627776 := by omega
          have hA41 : A.length + 1 ≤ 1099511627776 := by omega
          have hA42 : AX.length + D.length ≤ 1099511627776 := by rw [hAX, List.length_append, hAl, List.length_singleton]; omega
          have HAX := hid hAX
          have HAXD := hid hAXD
          have HINS := hid hins
          have hkz : (k : Int) ≤ (no : Int) := by omega
          clear hA hD hAX hAXD hins hAl hDl
          go_wp2_with fail
          have hs : Steady [.ito 54 3 wB.heap.size A, .its 8 [x], .ito 54 9 wB.heap.size AX [3, 8] [3, 8] [13], .ito 54 13 wB.heap.size AXD [9, 3, 8] [9, 3, 8]] := Steady.ito (Steady.its (Steady.ito (Steady.ito Steady.nil)))
          refine wp_region_kn wB _ hs (Kept.refl _ _) (by kernel_rfl) (by kernel_rfl) (by kernel_rfl) ?_
          iterate 3 (refine wpPar_pure rfl (by rfl) _ (fun W hW => by
              have q1 := s1 W
              have q2 := s2 W
              go_simp
              exact rfl) ?_; simp only [Act.put, List.setIfInBounds_toArray, List.set_cons_zero, List.set_cons_succ])
          refine wpKn_adds hs rfl (by rfl) (fun W hW hd => ?_) (fun v3 hv => ?_)
          · refine gives_append_ito _ _ 46 rfl RTr.rtItems (v := .slice none 0 0) rfl rfl (Ito.nil _ W wB.heap.size) (iA.kept hW (fun _ _ _ h => h)) (by simpa using hA40) hW.size ?_
            intro a' n' c' W' h3 h4 _
            refine ⟨h4.mono (fun q _ hq => by cases hq), ?_, (by rw [List.nil_append] at h3; exact h3)⟩
            obtain ⟨a'', c'', e⟩ := h3.form
            exact ⟨a'', c'', by simpa using e⟩
          obtain ⟨a3, c3, rfl⟩ : ∃ a c, v3 = .slice a A.length c := hv
          simp only [Act.put, List.setIfInBounds_toArray, List.set_cons_zero, List.set_cons_succ]
          iterate 3 (refine wpPar_pure rfl (by rfl) _ (fun W hW => by
              have q1 := s1 W
              have q2 := s2 W
              go_simp
              exact rfl) ?_; simp only [Act.put, List.setIfInBounds_toArray, List.set_cons_zero, List.set_cons_succ])
          refine wpPar_pure rfl (by rfl) _ (fun W hW => exec_load_at rfl rfl (rangeAt_kept hcIB hW) aY) ?_; simp only [Act.put, List.setIfInBounds_toArray, List.set_cons_zero, List.set_cons_succ]
          refine wpKn_adds hs rfl (by rfl) (fun W hW hd => ?_) (fun v8 hv => ?_)
          · unfold Gives
            rw [exec_one_item 46 (.tmp 69) rfl RTr.rtItems (by decide) (A := (itC x).toArray) rfl (by simpa using H64.out)]
            exact ⟨(Kept.refl None W).alloc _, ⟨_, _, rfl⟩, _, _, Its.one W 54 x HXL.out⟩
          obtain ⟨a8, c8, rfl⟩ : ∃ a c, v8 = .slice a 1 c := hv
          simp only [Act.put, List.setIfInBounds_toArray, List.set_cons_zero, List.set_cons_succ]
          refine wpPar_adds rfl (by rfl) (fun W hW hd => ?_) (fun v9 hv => ?_)
          · have h1 : Ito 54 W wB.heap.size (.slice a3 A.length c3) A := hd 3 (List.Mem.head _)
            obtain ⟨lo2, hi2, h2⟩ : ∃ lo hi, Its W lo hi (.slice a8 1 c8) [x] := hd 8 (List.Mem.tail _ (List.Mem.head _))
            refine gives_append_ito _ _ 46 rfl RTr.rtItems rfl rfl h1 h2 (by simpa using hA41) hW.size ?_
            intro a' n' c' W' h3 h4 _
            rw [← HAX.out] at h3
            refine ⟨Kept.own hW h4 (fun q hq => (h1.own q hq).1), h3.form, h3, keeps_of fun f hf hs hlt hne u hfu => ?_⟩
            simp only [List.mem_cons, List.not_mem_nil, or_false] at hf
            rcases hf with rfl | rfl | rfl | rfl
            · exact absurd (List.Mem.head _) hs
            · exact absurd (List.Mem.tail _ (List.Mem.head _)) hs
            · exact absurd rfl hne
            · exact absurd (List.Mem.head _) hlt
          obtain ⟨a9, c9, rfl⟩ : ∃ a c, v9 = .slice a AX.length c := hv
          simp only [Act.put, List.setIfInBounds_toArray, List.set_cons_zero, List.set_cons_succ]
          iterate 3 (refine wpPar_pure rfl (by rfl) _ (fun W hW => by
              have q1 := s1 W
              have q2 := s2 W
              go_simp
              exact rfl) ?_; simp only [Act.put, List.setIfInBounds_toArray, List.set_cons_zero, List.set_cons_succ])
          refine wpPar_adds rfl (by rfl) (fun W hW hd => ?_) (fun v13 hv => ?_)
          · have h1 : Ito 54 W wB.heap.size (.slice a9 AX.length c9) AX := hd 9 (List.Mem.head _)
            refine gives_append_ito _ _ 46 rfl RTr.rtItems rfl rfl h1 (iD.kept hW (fun _ _ _ h => h)) hA42 hW.size ?_
            intro a' n' c' W' h3 h4 _
            rw [← HAXD.out] at h3
            refine ⟨Kept.own hW h4 (fun q hq => (h1.own q hq).1), h3.form, h3, keeps_of fun f hf hs _ hne u hfu => ?_⟩
            simp only [List.mem_cons, List.not_mem_nil, or_false] at hf
            rcases hf with rfl | rfl | rfl | rfl
            · exact absurd (List.Mem.tail _ (List.Mem.head _)) hs
            · exact absurd (List.Mem.tail _ (List.Mem.tail _ (List.Mem.head _))) hs
            · exact absurd (List.Mem.head _) hs
            · exact absurd rfl hne
          obtain ⟨a13, c13, rfl⟩ : ∃ a c, v13 = .slice a AXD.length c := hv
          simp only [Act.put, List.setIfInBounds_toArray, List.set_cons_zero, List.set_cons_succ]
          iterate 1 (refine wpPar_pure rfl (by rfl) _ (fun W hW => by
              go_simp
              exact rfl) ?_; simp only [Act.put, List.setIfInBounds_toArray, List.set_cons_zero, List.set_cons_succ])
          refine wpPar_nil (fun w9 hW hG => ?_)
          have hb : Ito 54 w9 wB.heap.size (.slice a13 AXD.length c13) AXD := hG 13
          have hfin : RMid 54 w (.slice (some ⟨b6, o6, none⟩) n6 c6) L (i + 1) (.slice a13 AXD.length c13) w9 := by
            have hsz := HXB.out.kept.size
            refine ⟨?_, HXB.out.all.kept hW (fun _ _ h => h), fun q hq h => ?_, HXB.out.kept.trans hW⟩
            · rw [HNEXT.out, HINS.out]
              exact hb.base hsz
            · have e1 := (hb.own q hq).1
              have e2 := (HXB.out.all.own q h).2
              omega
          have HF := hid hfin
          clear hG hs hW hb hfin s1 s2 iA iD
          go_wp2
          go_roundg (n6 - (i + 1))
          case measure => omega
          case rel => exact ⟨i + 1, _, _, _, _, rfl, by go_num, rfl, by omega, Nat.le_refl _, HF⟩
    · have hltz : ¬ (i : Int) < (n6 : Int) := by omega
      go_wp2
      go_ret
      have hi : i = L.length := by have := HL.out; omega
      refine ⟨_, rfl, ?_, HX.out.kept⟩
      have h := HX.out.out
      rwa [hi, List.take_length] at h
end RTr
end Go.Proofs.Ytglibdggoobocaa
namespace Go.Pm
open Go Go.RowKit
def itemK (x : Kno) : It := ⟨indexH x.e.n, valueH x.e.v x.e.k⟩
/-- The items of an epoch, as they stand. -/
def itemsF (l : List Kno) (p : Int) : List It := (l.filter (fun x => decide (x.p ≤ p))).map itemK
theorem itemK_len (x : Kno) : (itemK x).i.length = 32 ∧ (itemK x).v.length = 32 := ⟨indexH_len _, valueH_len _ _⟩
theorem itemsF_len (l : List Kno) (p : Int) : (itemsF l p).length ≤ l.length := by
  unfold itemsF
  rw [List.length_map]
  exact List.length_filter_le _ _
theorem itemsF_take (l : List Kno) (p : Int) (k : Nat) (h : k < l.length) : itemsF (l.take (k + 1)) p = itemsF (l.take k) p ++ (if l[k].p ≤ p then [itemK l[k]] else []) := by
  unfold itemsF
  rw [List.take_succ_eq_append_getElem h, List.filter_append, List.map_append]
  congr 1
  by_cases hp : l[k].p ≤ p
  · rw [if_pos hp, List.filter_cons_of_pos (by simpa using hp)]
    rfl
  · rw [if_neg hp, List.filter_cons_of_neg (by simpa using hp)]
    rfl
end Go.Pm
namespace Go.Proofs.Ytglibdggoobocaa
open Go.RowKit Go.Pm
namespace R16
set_option maxRecDepth 100000 in
set_option maxHeartbeats 8000000 in
/-- Items. -/
theorem items (v : Value) (lo hi : Nat) (l : List Kno) (p : Int) (w : World) (hv : Ps 4 w lo hi v (knosC l)) (hok : KOk l) (hlen : l.length ≤ 549755813888) :
    Calls Try.prog 23 #[v, .int .i64 p] w fun e w' => ∃ u, e = .returned u ∧ Ito 54 w' w.heap.size u (setI (itemsF l p)) ∧ Kept None w w' := by
  obtain ⟨a, cap, rfl, g1, g2, g3⟩ := hv.form
  rw [knosC_len] at g1 hv ⊢
  obtain ⟨n, hn⟩ : ∃ n, n = l.length := ⟨_, rfl⟩
  rw [← hn] at g1 hlen hv ⊢
  have HV := hid hv
  have HN := hid (And.intro hn (And.intro hlen hok))
  clear hv hn hok g3
  have K0 := hid (Kept.refl None w)
  go_enter Try.func23, Try.ntmps23
  go_wp2
  go_loopg [5, 6] n (fun kx s5 s6 wr => ∃ (k : Nat) (ao : Option Addr) (no co : Nat), s6 = .int .i64 k ∧ s5 = .slice ao no co ∧ k ≤ n ∧ n - k ≤ kx ∧ Hid (Kept None w wr) ∧ Hid (Ito 54 wr w.heap.size (.slice ao no co) (itemsF (l.take k) p)))
  case atStart => exact ⟨0, _, _, _, rfl, rfl, Nat.zero_le _, Nat.le_refl _, K0, hid (Ito.nil _ _ _)⟩
  case round =>
    obtain ⟨k, ao, no, co, rfl, rfl, hk, hkx, HK, HO⟩ := hrel
    by_cases hlt : k < n
    · have hz : (k : Int) < (n : Int) := by omega
      have wk : IntKind.i64.wrap ((k : Int) + 1) = (k : Int) + 1 := by rw [IntKind.wrap_i64]; have := HN.out.2.1; omega
      have kl : k < l.length := by have := HN.out.1; omega
      obtain ⟨bb, o, q1, hc⟩ := (HV.out.kept HK.out (fun _ _ _ h => h)).kno (by omega)
      obtain rfl := q1
      obtain ⟨_, _, _, c3, _, rE⟩ := hc k kl
      have htk := itemsF_take l p k kl
      have hxo := HN.out.2.2 _ (List.getElem_mem kl)
      obtain ⟨x, hx⟩ : ∃ x, x = l[k] := ⟨_, rfl⟩
      rw [← hx] at c3 rE htk hxo
      obtain ⟨x3, hx3⟩ : ∃ y, y = x.p := ⟨_, rfl⟩
      rw [← hx3] at c3 htk
      have hle : (itemsF (l.take k) p).length ≤ k := by
        have := itemsF_len (l.take k) p
        rw [List.length_take] at this
        omega
      have HTK := hid (And.intro htk hle)
      clear hc hx htk hx3 hle
      by_cases hp : x3 ≤ p
      · have h64 := itC_len (itemK_len x)
        have hI := fun W => RTr.item x.e.n x.e.v x.e.k W hxo.1 hxo.2
        rw [show itemV ⟨indexH x.e.n, valueH x.e.v x.e.k⟩ = .agg (itC (itemK x)).toArray by show Value.agg ((indexH x.e.n ++ valueH x.e.v x.e.k).map u8v).toArray = _; rw [List.map_append]; rfl] at hI
        have hO := fun W => Its.one W 54 (itemK x) (itemK_len x)
        obtain ⟨XA, hXA⟩ : ∃ X, X = (itC (itemK x)).toArray := ⟨_, rfl⟩
        rw [← hXA] at hI hO
        have hXs : XA.size = 64 := by rw [hXA]; simpa using h64
        have HI := hid (And.intro hI (And.intro hO hXs))
        have hp' : itemsF (l.take (k + 1)) p = itemsF (l.take k) p ++ [itemK x] := by rw [HTK.out.1, if_pos hp]
        have HP := hid hp'
        clear hI hO hXA hXs hp' h64 hxo
        go_wp2_with (first | (refine wpList_load_at (.refl _) _ _ rfl rfl rE Up.aEnt ?_) | fail)
        refine (HI.out.1 wr).mono ?_
        rintro e w3 ⟨rfl, kn⟩
        have k3 := HK.out.trans kn
        have o3 := HO.out.kept kn (fun _ _ h => h)
        have k4 : Kept None w (w3.alloc (.cells XA 54)) := k3.alloc _
        have o4 := o3.alloc (.cells XA 54)
        have s4 := k4.size
        have hX := HI.out.2.2
        have hO4 := HI.out.2.1 w3
        clear kn k3 o3 rE HK HO
        go_wp2_with (first | (refine wpList_one_item (.refl _) _ _ rfl RTr.rtItems (by decide) rfl hX ?_) | (at_builtin; refine wpList_append_ito (v := .slice ao no co) (u := .slice (some ⟨w3.heap.size, 0, none⟩) 1 1) (.refl _) _ _ 46 rfl RTr.rtItems rfl rfl o4 hO4 (by have := HTK.out.2; have := HN.out.2.1; simp; omega) s4 ?_; intro a5 n5 c5 w5 o5 k5 _) | fail)
        have HK5 := hid (Kept.own k4 k5 (fun q hq => (o4.own q hq).1))
        rw [← HP.out] at o5
        have HO5 := hid o5
        clear k4 k5 o4 o5 hO4
        go_roundg (n - (k + 1))
        case measure => omega
        case rel => exact ⟨k + 1, _, _, _, by go_num, rfl, by omega, Nat.le_refl _, HK5, HO5⟩
      · have hp' : itemsF (l.take (k + 1)) p = itemsF (l.take k) p := by rw [HTK.out.1, if_neg hp, List.append_nil]
        have HO5 : Hid (Ito 54 wr w.heap.size (.slice ao no co) (itemsF (l.take (k + 1)) p)) := hid (hp' ▸ HO.out)
        clear hp' HO rE hxo
        go_wp2
        go_roundg (n - (k + 1))
        case measure => omega
        case rel => exact ⟨k + 1, _, _, _, by go_num, rfl, by omega, Nat.le_refl _, HK, HO5⟩
    · have hz : ¬ (k : Int) < (n : Int) := by omega
      obtain rfl : k = n := by omega
      have hO := HO.out
      rw [HN.out.1, List.take_length] at hO
      have iO := hO.its (Nat.le_refl _)
      have hS := RTr.set (.slice ao no co) (.slice none 0 0) _ _ 0 0 (itemsF l p) [] wr iO (Its.nil wr 0 0) (by have := itemsF_len l p; have := HN.out; simp; omega)
      rw [List.append_nil] at hS
      have HS := hid hS
      clear hO iO hS HO
      go_wp2_with fail
      refine HS.out.mono ?_
      rintro e w5 ⟨u, rfl, oU, kn⟩
      have k5 := HK.out.trans kn
      have oW := oU.base HK.out.size
      obtain ⟨au, cu, rfl⟩ := oU.form
      clear kn oU HS
      go_wp2
      go_ret
      exact ⟨_, rfl, oW, k5⟩
end R16
end Go.Proofs.Ytglibdggoobocaa
namespace Go.Pm
open Go Go.RowKit
/-- Keys are words; of the names nothing is asked. -/
def KW (l : List Kno) : Prop := ∀ x ∈ l, x.e.k < 18446744073709551616
def EW (l : List Ent) : Prop := ∀ x ∈ l, x.k < 18446744073709551616
theorem KOk.w {l : List Kno} (h : KOk l) : KW l := fun x hx => (h x hx).2
theorem EOk.w {l : List Ent} (h : EOk l) : EW l := fun x hx => (h x hx).2
theorem addF_w {l : List Kno} {p : Int} {b : List Ent} (hl : KW l) (hb : EW b) : KW (addF l p b).1 ∧ (addF l p b).1.length ≤ l.length + b.length := by
  cases h : (addF l p b).2 with
  | false =>
    rw [addF_no h]
    exact ⟨hl, Nat.le_add_right _ _⟩
  | true =>
    have ha := addF_yes h
    refine ⟨fun x hx => ?_, Nat.le_of_eq ha.len⟩
    rcases (ha.mem x).1 hx with ⟨e, he, rfl⟩ | hx
    · exact hb e he
    · exact hl x hx
end Go.Pm
namespace Go.Proofs.Ytglibdggoobocaa
open Go.RowKit Go.Pm
namespace Dr
def RightC : Prop := ∀ (v : Value) (lo hi : Nat) (l : List Kno) (w : World), Ps 4 w lo hi v (knosC l) → KW l → l.length ≤ 1000000 →
    Calls Try.prog 10 #[v] w fun e w' => e = .returned (.bool (rightK l)) ∧ Kept None w w'
def LatestC : Prop := ∀ (v : Value) (lo hi : Nat) (l : List Kno) (nm : ByteArray) (w : World), Ps 4 w lo hi v (knosC l) → RtK l → l.length ≤ 1000000 →
    Calls Try.prog 18 #[v, .string nm] w fun e w' => e = .returned (.tuple #[(latF l nm).1.V, .bool (latF l nm).2]) ∧ Kept None w w'
def FindC : Prop := ∀ (v : Value) (lo hi : Nat) (l : List Kno) (nm : ByteArray) (ver : Int) (w : World), Ps 4 w lo hi v (knosC l) → RtK l → l.length ≤ 1000000 →
    Calls Try.prog 19 #[v, .string nm, .int .i64 ver] w fun e w' => e = .returned (.tuple #[(finK l nm ver).1.V, .bool (finK l nm ver).2]) ∧ Kept None w w'
def AddC : Prop := ∀ (v u : Value) (lo hi lo' hi' : Nat) (l : List Kno) (p : Int) (b : List Ent) (w : World), Ps 4 w lo hi v (knosC l) → Ps 3 w lo' hi' u (entsC b) → RtK l → KOk l → EW b → l.length ≤ 1000000 → b.length ≤ 1000000 →
    Calls Try.prog 15 #[v, .int .i64 p, u] w fun e w' => ∃ r, e = .returned (.tuple #[r, .bool (addF l p b).2]) ∧ Kept None w w' ∧ Ps 4 w' 0 w'.heap.size r (knosC (addF l p b).1)
def ItemsC : Prop := ∀ (v : Value) (lo hi : Nat) (l : List Kno) (p : Int) (w : World), Ps 4 w lo hi v (knosC l) → RtK l → KOk l → l.length ≤ 1000000 →
    Calls Try.prog 22 #[v, .int .i64 p] w fun e w' => ∃ u, e = .returned u ∧ Its w' 0 w'.heap.size u (setI (itemsF l p)) ∧ Kept None w w'
end Dr
end Go.Proofs.Ytglibdggoobocaa
namespace Go.Proofs.Ytglibdggoobocaa
open Go.RowKit Go.Pm
namespace RUp
theorem prime_lt (s : Nat) (b : Bool) (h : decide (s < prime61) = b) : ∀ z, z = s → decide ((z : Int) < (2305843009213693951 : Int)) = b := by
  rintro z rfl
  rw [← h, decide_eq_decide]
  unfold prime61
  omega
theorem entR_no {m : Nat} {v : Int} {k : Nat} (h : ¬ (1 ≤ m ∧ m ≤ 32 ∧ 1 ≤ v ∧ v ≤ 1073741824 ∧ 1 ≤ k ∧ k < prime61)) : entR m v k = false := by
  cases hb : entR m v k with
  | false => rfl
  | true =>
    unfold entR at hb
    simp only [Bool.and_eq_true, decide_eq_true_eq, and_assoc] at hb
    exact absurd hb h
theorem entR_yes {m : Nat} {v : Int} {k : Nat} (h : 1 ≤ m ∧ m ≤ 32 ∧ 1 ≤ v ∧ v ≤ 1073741824 ∧ 1 ≤ k ∧ k < prime61) : entR m v k = true := by
  unfold entR
  simp only [Bool.and_eq_true, decide_eq_true_eq, and_assoc]
  exact h

set_option maxRecDepth 100000 in
set_option maxHeartbeats 1000000 in
/-- postmarkref5.EntryRight. -/
theorem entryRight (n : ByteArray) (v : Int) (k : Nat) (w : World) : Calls Try.prog 26 #[entV n v k] w fun e w' => e = .returned (.bool (entR n.size v k)) ∧ Kept None w w' := by
  have k0 : Kept None w (w.alloc (.cells #[.string n, .int .i64 v, .int .u64 (k : Int)] 29)) := (Kept.refl _ _).alloc _
  by_cases h1 : n.size < 1
  · rw [entR_no (by omega)]
    go_enter Try.func26, Try.ntmps26
    go_wp2
    go_ret
    exact ⟨rfl, k0⟩
  by_cases h2 : 32 < n.size
  · rw [entR_no (by omega)]
    go_enter Try.func26, Try.ntmps26
    go_wp2
    go_ret
    exact ⟨rfl, k0⟩
  by_cases h3 : v < 1
  · rw [entR_no (by omega)]
    go_enter Try.func26, Try.ntmps26
    go_wp2
    go_ret
    exact ⟨rfl, k0⟩
  by_cases h4 : 1073741824 < v
  · rw [entR_no (by omega)]
    go_enter Try.func26, Try.ntmps26
    go_wp2
    go_ret
    exact ⟨rfl, k0⟩
  by_cases h5 : k < 1
  · rw [entR_no (by omega)]
    go_enter Try.func26, Try.ntmps26
    go_wp2
    go_ret
    exact ⟨rfl, k0⟩
  by_cases h6 : k < prime61
  · rw [entR_yes (by omega)]
    have hb := prime_lt k true (decide_eq_true h6)
    clear h6
    go_enter Try.func26, Try.ntmps26
    go_wp2
    go_ret
    exact ⟨rfl, k0⟩
  · rw [entR_no (by omega)]
    have hb := prime_lt k false (decide_eq_false h6)
    clear h6
    go_enter Try.func26, Try.ntmps26
    go_wp2
    go_ret
    exact ⟨rfl, k0⟩
end RUp
end Go.Proofs.Ytglibdggoobocaa
namespace Go.Pm
open Go Go.RowKit

/-- A block whose cells begin with a list, as a slice. -/
theorem Fs.ofBlk {k : Nat} {w : World} {g : Nat} {cs : Array Value} {e : TypeId} (h : Blk w g cs e) {n c : Nat} {l : List Value} (hl : l.length = n * k) (hn : n ≤ c) (hc : c ≤ maxLen) (hp : ∀ (i : Nat) (x : Value), l[i]? = some x → cs[i]? = some x) :
    Fs k w g (g + 1) (.slice (some ⟨g, 0, none⟩) n c) n l := by
  refine ⟨hl, some ⟨g, 0, none⟩, c, rfl, hn, hc, (fun h => by cases h), fun ad had i x hx => ?_⟩
  obtain rfl := Option.some.inj had
  refine ⟨Nat.le_refl _, Nat.lt_succ_self _, ?_⟩
  rw [Addr.add_lit, Nat.zero_add, h.cell]
  exact hp i x hx
/-- 'append(v, u..)' where v is full: nothing that was there is touched. -/
theorem run_append_full {P : Program} {w : World} {t ty e : TypeId} {z : Value} {k bytes : Nat} (hT : RowTyK P t e z k bytes) {g n : Nat} {cs : Array Value} {e' : TypeId} (hv : Blk w g cs e') (hcs : cs.size = n * k) (h0 : 0 < n)
    {lo' hi' : Nat} {u : Value} {m : Nat} {news : List Value} (hu : Fs k w lo' hi' u m news) (h63 : n + m ≤ 1099511627776) (hbytes : bytes ≤ 128) :
    ∃ a c w', (Builtin.append_ #[t, t] ty #[.slice (some ⟨g, 0, none⟩) n n, u]).run P w = .ok (.slice a (n + m) c) w' ∧ (∃ hi, Fs k w' g hi (.slice a (n + m) c) (n + m) (cs.toList ++ news)) ∧ Kept None w w' := by
  obtain ⟨i, hi, hz, hs, hb⟩ := hT.info
  obtain ⟨hlen, au, c, rfl, g1, g2, g3, g4⟩ := hu
  have hn : n ≤ maxLen := by unfold maxLen; omega
  by_cases hm : m = 0
  · subst hm
    have hnews : news = [] := List.eq_nil_of_length_eq_zero (by simpa using hlen)
    subst hnews
    refine ⟨_, _, w, ?_, ⟨g + 1, by simpa using Fs.ofBlk hv (n := n) (c := n) (l := cs.toList) (by simpa using hcs) (Nat.le_refl _) hn (fun i x h => by simpa using h)⟩, Kept.refl _ _⟩
    cases au with
    | none =>
      simp [Builtin.append_, run_underlying hT.sl, sizeOf, typeInfo, hi, Builtin.lenOf, Builtin.firstCells, storeCells]
    | some au =>
      simp [Builtin.append_, run_underlying hT.sl, sizeOf, typeInfo, hi, Builtin.lenOf, Builtin.firstCells, storeCells, loadCells, loadCellsFrom]
  · cases au with
    | none => have := g3 rfl; omega
    | some au =>
      have hr := run_append_grow (P := P) w t ty e i z hT.sl hi hz ⟨g, 0, none⟩ n n cs.toList (by simpa [hs] using hcs) (fun j v hj => by rw [Addr.add_lit, Nat.zero_add, hv.cell]; simpa using hj) au m c news (by rw [hs]; exact hlen) (fun j v hj => (g4 au rfl j v hj).2.2) (by omega) (by omega)
        (by rw [hb]; exact growslice_fits (by omega) (Nat.le_trans (Nat.mul_le_mul h63 hbytes) (by decide)))
      refine ⟨_, _, _, hr, ⟨w.heap.size + 1, ?_⟩, ((Kept.refl None w).drew).alloc _⟩
      refine Fs.wider (Fs.ofBlk (Blk.new w.drew _ e) (by simp [hcs, hlen, Nat.add_mul]) (grownCap_ge _ _ _ _) (grownCap_le_maxLen _ _ _ _ (by unfold maxLen; omega)) (fun i x hx => ?_)) (Nat.le_of_lt hv.lt) (Nat.le_refl _)
      have hi := (List.getElem?_eq_some_iff.1 hx).1
      rw [Array.getElem?_append_left (by simpa using hi), ← Array.getElem?_toList]
      simpa using hx
theorem Fs.vs {w : World} {lo hi : Nat} {v : Value} {n : Nat} {xs : List Value} (h : Fs 1 w lo hi v n xs) : Vs w lo hi v xs := by
  obtain ⟨h0, a, cap, rfl, g1, g2, g3, g4⟩ := h
  obtain rfl : n = xs.length := by omega
  exact ⟨a, cap, rfl, g1, g2, g3, g4⟩
theorem Vs.fs {w : World} {lo hi : Nat} {v : Value} {xs : List Value} (h : Vs w lo hi v xs) : Fs 1 w lo hi v xs.length xs := by
  obtain ⟨a, cap, rfl, g1, g2, g3, g4⟩ := h
  exact ⟨by simp, a, cap, rfl, g1, g2, g3, g4⟩

/-! ### What reads as bytes, as lists of bytes, as hashes, in blocks from lo on -/
def Rb (lo : Nat) (w : World) (v : Value) (l : List UInt8) : Prop := ∃ hi, Bs w lo hi v l
def Rl (lo : Nat) (w : World) (v : Value) (ls : List (List UInt8)) : Prop := ∃ hi, Bss w lo hi lo w.heap.size v ls
def Rh (lo : Nat) (w : World) (v : Value) (hs : List (List UInt8)) : Prop := ∃ hi, Hs w lo hi v hs
theorem Bs.most {w : World} {lo hi : Nat} {v : Value} {l : List UInt8} (h : Bs w lo hi v l) : Bs w lo w.heap.size v l := Vs.wider (Vs.lt h) (Nat.le_refl _) (Nat.min_le_right _ _)
theorem Rb.most {lo : Nat} {w : World} {v : Value} {l : List UInt8} (h : Rb lo w v l) : Bs w lo w.heap.size v l := by
  obtain ⟨hi, h⟩ := h
  exact h.most
theorem Rb.keptS {S : Nat → Prop} {lo : Nat} {w w' : World} {v : Value} {l : List UInt8} (h : Rb lo w v l) (hk : Kept S w w') (hs : ∀ k, lo ≤ k → ¬ S k) : Rb lo w' v l := by
  obtain ⟨hi, h⟩ := h
  exact ⟨hi, h.kept hk (fun k h1 _ => hs k h1)⟩
theorem Rl.keptS {S : Nat → Prop} {lo : Nat} {w w' : World} {v : Value} {ls : List (List UInt8)} (h : Rl lo w v ls) (hk : Kept S w w') (hs : ∀ k, lo ≤ k → ¬ S k) : Rl lo w' v ls := by
  obtain ⟨hi, h⟩ := h
  obtain ⟨xs, h1, h2, h3⟩ := h.kept hk (fun k h1 _ => hs k h1) (fun k h1 _ => hs k h1)
  exact ⟨hi, xs, h1, h2, fun i x l a b => (h3 i x l a b).most⟩
theorem Rh.keptS {S : Nat → Prop} {lo : Nat} {w w' : World} {v : Value} {hs : List (List UInt8)} (h : Rh lo w v hs) (hk : Kept S w w') (hh : ∀ k, lo ≤ k → ¬ S k) : Rh lo w' v hs := by
  obtain ⟨hi, h⟩ := h
  exact ⟨hi, h.kept hk (fun k h1 _ => hh k h1)⟩
theorem Rb.kept {lo : Nat} {w w' : World} {v : Value} {l : List UInt8} (h : Rb lo w v l) (hk : Kept None w w') : Rb lo w' v l := h.keptS hk (fun _ _ h => h)
theorem Rl.kept {lo : Nat} {w w' : World} {v : Value} {ls : List (List UInt8)} (h : Rl lo w v ls) (hk : Kept None w w') : Rl lo w' v ls := h.keptS hk (fun _ _ h => h)
theorem Rh.kept {lo : Nat} {w w' : World} {v : Value} {hs : List (List UInt8)} (h : Rh lo w v hs) (hk : Kept None w w') : Rh lo w' v hs := h.keptS hk (fun _ _ h => h)
theorem Rb.mono {lo lo' : Nat} {w : World} {v : Value} {l : List UInt8} (h : Rb lo w v l) (hl : lo' ≤ lo) : Rb lo' w v l := by
  obtain ⟨hi, h⟩ := h
  exact ⟨hi, h.wider hl (Nat.le_refl _)⟩
theorem Rl.mono {lo lo' : Nat} {w : World} {v : Value} {ls : List (List UInt8)} (h : Rl lo w v ls) (hl : lo' ≤ lo) : Rl lo' w v ls := by
  obtain ⟨hi, xs, h1, h2, h3⟩ := h
  exact ⟨hi, xs, h1.wider hl (Nat.le_refl _), h2, fun i x l a b => (h3 i x l a b).wider hl (Nat.le_refl _)⟩
theorem Rh.mono {lo lo' : Nat} {w : World} {v : Value} {hs : List (List UInt8)} (h : Rh lo w v hs) (hl : lo' ≤ lo) : Rh lo' w v hs := by
  obtain ⟨hi, h1, h2⟩ := h
  exact ⟨hi, h1, h2.wider hl (Nat.le_refl _)⟩
theorem Rb.all {lo : Nat} {w : World} {v : Value} {l : List UInt8} (h : Rb lo w v l) : Bs w 0 w.heap.size v l := by
  obtain ⟨hi, h⟩ := h
  exact h.all
theorem Rb.form {lo : Nat} {w : World} {v : Value} {l : List UInt8} (h : Rb lo w v l) : ∃ a c, v = .slice a l.length c := by
  obtain ⟨hi, h⟩ := h
  obtain ⟨a, c, rfl, _⟩ := h.shape
  exact ⟨a, c, rfl⟩
theorem Rl.form {lo : Nat} {w : World} {v : Value} {ls : List (List UInt8)} (h : Rl lo w v ls) : ∃ a c, v = .slice a ls.length c := by
  obtain ⟨hi, h⟩ := h
  obtain ⟨a, c, rfl, _⟩ := h.shape
  exact ⟨a, c, rfl⟩
theorem Rh.form {lo : Nat} {w : World} {v : Value} {hs : List (List UInt8)} (h : Rh lo w v hs) : ∃ a c, v = .slice a hs.length c := by
  obtain ⟨hi, h⟩ := h
  obtain ⟨a, c, rfl, _⟩ := h.form
  exact ⟨a, c, rfl⟩
theorem Rh.ok {lo : Nat} {w : World} {v : Value} {hs : List (List UInt8)} (h : Rh lo w v hs) : H32 hs := by
  obtain ⟨hi, h⟩ := h
  exact h.1
theorem Rh.nil (lo : Nat) (w : World) : Rh lo w (.slice none 0 0) [] := ⟨0, Hs.nil ..⟩
theorem Rb.nil (lo : Nat) (w : World) : Rb lo w (.slice none 0 0) [] := ⟨0, Bs.nil _ _ _⟩
theorem Rl.nil (lo : Nat) (w : World) : Rl lo w (.slice none 0 0) [] := ⟨0, [], Vs.nil _ _ _, rfl, fun i x l h => by simp at h⟩
theorem Bo.rb {e : TypeId} {w : World} {base : Nat} {v : Value} {l : List UInt8} (h : Bo e w base v l) : Rb base w v l := ⟨_, h.bs (Nat.le_refl _)⟩
theorem Ho.rh {e : TypeId} {w : World} {base : Nat} {v : Value} {hs : List (List UInt8)} (h : Ho e w base v hs) : Rh base w v hs := ⟨_, h.hs (Nat.le_refl _)⟩
theorem Rl.of {lo : Nat} {w : World} {hi : Nat} {v : Value} {xs : List Value} {ls : List (List UInt8)} (h : Vs w lo hi v xs) (hl : xs.length = ls.length) (hx : ∀ (i : Nat) (x : Value) (l : List UInt8), xs[i]? = some x → ls[i]? = some l → Rb lo w x l) : Rl lo w v ls :=
  ⟨hi, xs, h, hl, fun i x l h1 h2 => (hx i x l h1 h2).most⟩
/-- A new row of one list. -/
theorem Rl.one {lo : Nat} (w : World) (hlo : lo ≤ w.heap.size) (t : TypeId) {y : Value} {l : List UInt8} (h : Rb lo w y l) : Rl lo (w.alloc (.cells #[y] t)) (.slice (some ⟨w.heap.size, 0, none⟩) 1 1) [l] := by
  refine Rl.of (hi := w.heap.size + 1) (Vs.wider (Vs.new w #[y] t 1 (Nat.le_refl _) (by decide)) hlo (Nat.le_refl _)) rfl (fun i x m h1 h2 => ?_)
  cases i with
  | zero =>
    simp at h1 h2
    subst h1 h2
    exact h.kept ((Kept.refl _ _).alloc _)
  | succ i => simp at h1
/-- One of them. -/
theorem Rl.at {lo : Nat} {w : World} {a : Option Addr} {n c : Nat} {ls : List (List UInt8)} (h : Rl lo w (.slice a n c) ls) {i : Nat} (hi : i < ls.length) : ∃ b o a' c', a = some ⟨b, o, none⟩ ∧ w.cell? ⟨b, o + i, none⟩ = some (.slice a' ls[i].length c') ∧ Rb lo w (.slice a' ls[i].length c') ls[i] := by
  obtain ⟨hi2, h⟩ := h
  obtain ⟨b, o, rfl, _, _, _, hr⟩ := h.at (by omega)
  obtain ⟨a', c', h1, h2⟩ := hr i hi
  exact ⟨b, o, a', c', rfl, h1, _, h2⟩
/-- 'append([][]byte{y}, u...)'. -/
theorem run_append_rl {P : Program} {w : World} {t ty e : TypeId} {z : Value} {bytes : Nat} (hT : RowTyK P t e z 1 bytes) (hb : bytes ≤ 128) {lo g : Nat} (hg : lo ≤ g) {y : Value} {e' : TypeId} (hv : Blk w g #[y] e') {l : List UInt8} (hy : Rb lo w y l) {u : Value} {ls : List (List UInt8)} (hu : Rl lo w u ls) (hl : ls.length ≤ 1000000) :
    ∃ a c w', (Builtin.append_ #[t, t] ty #[.slice (some ⟨g, 0, none⟩) 1 1, u]).run P w = .ok (.slice a (l :: ls).length c) w' ∧ Rl lo w' (.slice a (l :: ls).length c) (l :: ls) ∧ Kept None w w' := by
  obtain ⟨hi, xs, hxs, hlen, hx⟩ := hu
  have hf := hxs.fs
  rw [hlen] at hf
  obtain ⟨a, c, w', hr, ⟨hi1, h1⟩, k⟩ := run_append_full (ty := ty) hT hv (n := 1) rfl (by decide) hf (by omega) hb
  have e1 : (l :: ls).length = 1 + ls.length := by rw [List.length_cons]; omega
  refine ⟨a, c, w', by rw [e1]; exact hr, ?_, k⟩
  rw [e1]
  refine Rl.of (h1.vs.wider hg (Nat.le_refl _)) (by simp [hlen]) (fun i x m hxi hmi => ?_)
  cases i with
  | zero =>
    simp at hxi hmi
    subst hxi hmi
    exact hy.kept k
  | succ i =>
    have h2 : xs[i]? = some x := by simpa using hxi
    have h3 : ls[i]? = some m := by simpa using hmi
    exact Rb.kept ⟨_, hx i x m h2 h3⟩ k
/-- 'append([]api.Hash{y}, u...)'. -/
theorem run_append_rh {P : Program} {w : World} {t ty e : TypeId} {z : Value} {bytes : Nat} (hT : RowTyK P t e z 32 bytes) (hb : bytes ≤ 128) {lo g : Nat} (hg : lo ≤ g) {h : List UInt8} {e' : TypeId} (hv : Blk w g (h.map u8v).toArray e') (h32 : h.length = 32) {lo' : Nat} {u : Value} {hs : List (List UInt8)} (hu : Rh lo' w u hs) (hl : hs.length ≤ 1000000) :
    ∃ a c w', (Builtin.append_ #[t, t] ty #[.slice (some ⟨g, 0, none⟩) 1 1, u]).run P w = .ok (.slice a (h :: hs).length c) w' ∧ Rh lo w' (.slice a (h :: hs).length c) (h :: hs) ∧ Kept None w w' := by
  obtain ⟨hi, hh, he, hu⟩ := hu
  rw [hsC_len] at hu
  obtain ⟨a, c, w', hr, ⟨hi1, h1⟩, k⟩ := run_append_full (ty := ty) hT hv (n := 1) (by simp [h32]) (by decide) hu (by omega) hb
  have e1 : (h :: hs).length = 1 + hs.length := by rw [List.length_cons]; omega
  refine ⟨a, c, w', by rw [e1]; exact hr, ?_, k⟩
  have hH : H32 (h :: hs) := H32.cons h32 hh
  refine ⟨hi1, hH, hsC_each hH, ?_⟩
  rw [hsC_len, e1]
  have h2 := h1.wider hg (Nat.le_refl _)
  simpa [hsC] using h2
theorem gives_append_rl {P : Program} {o : Oper} {a : Act} {w : World} {X : Value → World → Prop} (s x : Operand) (t : TypeId)
    (ho : o.op = .call { callee := .builtin .append, args := #[s, x], argTypes := #[t, t] }) {e : TypeId} {z : Value} {bytes : Nat} (hT : RowTyK P t e z 1 bytes) (hb : bytes ≤ 128)
    {lo g : Nat} (hg : lo ≤ g) (hs : a.eval s = .slice (some ⟨g, 0, none⟩) 1 1) {u : Value} (hx : a.eval x = u) {y : Value} {e' : TypeId} (hv : Blk w g #[y] e') {l : List UInt8} (hy : Rb lo w y l) {ls : List (List UInt8)} (hu : Rl lo w u ls) (hl : ls.length ≤ 1000000)
    (h : ∀ a' c' w', Rl lo w' (.slice a' (l :: ls).length c') (l :: ls) → Kept None w w' → X (.slice a' (l :: ls).length c') w') : Gives P o a w X := by
  obtain ⟨a', c', w', hr, r2, r3⟩ := run_append_rl (ty := o.type) hT hb hg hv hy hu hl
  exact gives_append s x t ho hs hx hr (h a' c' w' r2 r3)
theorem gives_append_rh {P : Program} {o : Oper} {a : Act} {w : World} {X : Value → World → Prop} (s x : Operand) (t : TypeId)
    (ho : o.op = .call { callee := .builtin .append, args := #[s, x], argTypes := #[t, t] }) {e : TypeId} {z : Value} {bytes : Nat} (hT : RowTyK P t e z 32 bytes) (hb : bytes ≤ 128)
    {lo g : Nat} (hg : lo ≤ g) (hs : a.eval s = .slice (some ⟨g, 0, none⟩) 1 1) {u : Value} (hx : a.eval x = u) {q : List UInt8} {e' : TypeId} (hv : Blk w g (q.map u8v).toArray e') (h32 : q.length = 32) {lo' : Nat} {ls : List (List UInt8)} (hu : Rh lo' w u ls) (hl : ls.length ≤ 1000000)
    (h : ∀ a' c' w', Rh lo w' (.slice a' (q :: ls).length c') (q :: ls) → Kept None w w' → X (.slice a' (q :: ls).length c') w') : Gives P o a w X := by
  obtain ⟨a', c', w', hr, r2, r3⟩ := run_append_rh (ty := o.type) hT hb hg hv h32 hu hl
  exact gives_append s x t ho hs hx hr (h a' c' w' r2 r3)
theorem wpList_append_run {P : Program} {ops : Array Oper} {rest : List Oper} {o : Oper} {a : Act} {w : World} {Q : Exit → Act → World → Prop} (hgd : o.guard = none) (s x : Operand) (t : TypeId)
    (ho : o.op = .call { callee := .builtin .append, args := #[s, x], argTypes := #[t, t] }) {v u : Value} (hs : a.eval s = v) (hx : a.eval x = u) {r : Value} {w' : World} (hr : (Builtin.append_ #[t, t] o.type #[v, u]).run P w = .ok r w')
    (h : wpList P ops Q rest (a.put o.dst r) w') : wpList P ops Q (o :: rest) a w := by
  refine wpList_plain hgd fun K hK' => ?_
  unfold Oper.wp
  simp only [execOp, ho, resolve, invoke, builtin, Sem.run_bind, Sem.run_pure, Result.andThen_ok, List.map_toArray, List.map_cons, List.map_nil, hs, hx, hr]
  exact hK' _ _ h
theorem wpList_append_rl {P : Program} {ops : Array Oper} {rest : List Oper} {o : Oper} {a : Act} {w : World} {Q : Exit → Act → World → Prop} (hgd : o.guard = none) (s x : Operand) (t : TypeId)
    (ho : o.op = .call { callee := .builtin .append, args := #[s, x], argTypes := #[t, t] }) {e : TypeId} {z : Value} {bytes : Nat} (hT : RowTyK P t e z 1 bytes) (hb : bytes ≤ 128)
    {lo g : Nat} (hg : lo ≤ g) (hs : a.eval s = .slice (some ⟨g, 0, none⟩) 1 1) {u : Value} (hx : a.eval x = u) {y : Value} {e' : TypeId} (hv : Blk w g #[y] e') {l : List UInt8} (hy : Rb lo w y l) {ls : List (List UInt8)} (hu : Rl lo w u ls) (hl : ls.length ≤ 1000000)
    (h : ∀ a' c' w', Rl lo w' (.slice a' (l :: ls).length c') (l :: ls) → Kept None w w' → wpList P ops Q rest (a.put o.dst (.slice a' (l :: ls).length c')) w') : wpList P ops Q (o :: rest) a w := by
  obtain ⟨a', c', w', hr, r2, r3⟩ := run_append_rl (ty := o.type) hT hb hg hv hy hu hl
  exact wpList_append_run hgd s x t ho hs hx hr (h a' c' w' r2 r3)

/-! ### Facts of a plan -/
abbrev Fct.rl (k lo : Nat) (ls : List (List UInt8)) (uses : List Nat := []) : Fct := { k := k, uses := uses, pure := fun u => ∃ a c, u = .slice a ls.length c, fact := fun u W => Rl lo W u ls }
abbrev Fct.rb (k lo : Nat) (l : List UInt8) (uses : List Nat := []) : Fct := { k := k, uses := uses, pure := fun u => ∃ a c, u = .slice a l.length c, fact := fun u W => Rb lo W u l }
abbrev Fct.rh (k lo : Nat) (hs : List (List UInt8)) (uses : List Nat := []) : Fct := { k := k, uses := uses, pure := fun u => ∃ a c, u = .slice a hs.length c, fact := fun u W => Rh lo W u hs }
/-- It lays a row of one list. -/
abbrev Fct.row1 (k lo : Nat) (e : TypeId) (l : List UInt8) (uses : List Nat := []) : Fct := { k := k, uses := uses, pure := fun u => ∃ g, u = .slice (some ⟨g, 0, none⟩) 1 1, fact := fun u W => ∃ g y, u = .slice (some ⟨g, 0, none⟩) 1 1 ∧ lo ≤ g ∧ Blk W g #[y] e ∧ Rb lo W y l }
/-- It lays a row of one hash. -/
abbrev Fct.hash1 (k lo : Nat) (e : TypeId) (q : List UInt8) (uses : List Nat := []) : Fct := { k := k, uses := uses, pure := fun u => ∃ g, u = .slice (some ⟨g, 0, none⟩) 1 1, fact := fun u W => ∃ g, u = .slice (some ⟨g, 0, none⟩) 1 1 ∧ lo ≤ g ∧ Blk W g (q.map u8v).toArray e }
section
variable {l : List Fct} {k lo : Nat} {us : List Nat}
theorem Steady.rl {ls : List (List UInt8)} (h : Steady l) : Steady (.rl k lo ls us :: l) := .cons ⟨_, none, 0, rfl⟩ (fun _ _ _ hk hb => Rl.kept hb hk) h
theorem Steady.rb {m : List UInt8} (h : Steady l) : Steady (.rb k lo m us :: l) := .cons ⟨_, none, 0, rfl⟩ (fun _ _ _ hk hb => Rb.kept hb hk) h
theorem Steady.rh {hs : List (List UInt8)} (h : Steady l) : Steady (.rh k lo hs us :: l) := .cons ⟨_, none, 0, rfl⟩ (fun _ _ _ hk hb => Rh.kept hb hk) h
theorem Steady.row1 {e : TypeId} {m : List UInt8} (h : Steady l) : Steady (.row1 k lo e m us :: l) := .cons ⟨_, 0, rfl⟩ (fun _ _ _ hk ⟨g, y, h1, h4, h2, h3⟩ => ⟨g, y, h1, h4, h2.kept hk (fun h => h), h3.kept hk⟩) h
theorem Steady.hash1 {e : TypeId} {m : List UInt8} (h : Steady l) : Steady (.hash1 k lo e m us :: l) := .cons ⟨_, 0, rfl⟩ (fun _ _ _ hk ⟨g, h1, h4, h2⟩ => ⟨g, h1, h4, h2.kept hk (fun h => h)⟩) h
end

/-! ### The value of a proof -/
def pfC (s : Value) (p : Pf) : List Value := s :: .int .i64 p.e :: itC p.x
abbrev pfV (s : Value) (p : Pf) : Value := .agg (pfC s p).toArray
/-- The value v reads as the proof p. -/
def Prf (w : World) (v : Value) (p : Pf) : Prop := p.Ok ∧ ∃ s, v = pfV s p ∧ Rh 0 w s p.path
theorem Prf.kept {w w' : World} {v : Value} {p : Pf} (h : Prf w v p) (hk : Kept None w w') : Prf w' v p := by
  obtain ⟨h0, s, h1, h2⟩ := h
  exact ⟨h0, s, h1, h2.kept hk⟩
theorem pfC_len (s : Value) {p : Pf} (h : p.Ok) : (pfC s p).length = 66 := by
  unfold pfC
  simp [itC_len h.2]
/-- Proofs in a block: their parts. -/
theorem pf_c0 {w : World} {g : Nat} {s : Value} {p : Pf} {t : TypeId} (h : Blk w g (pfC s p).toArray t) : w.cell? ⟨g, 0, none⟩ = some s := by rw [h.cell]; rfl
theorem pf_c1 {w : World} {g : Nat} {s : Value} {p : Pf} {t : TypeId} (h : Blk w g (pfC s p).toArray t) : w.cell? ⟨g, 1, none⟩ = some (.int .i64 p.e) := by rw [h.cell]; rfl
theorem pf_rx {w : World} {g : Nat} {s : Value} {p : Pf} {t : TypeId} (h : Blk w g (pfC s p).toArray t) : w.rangeAt g 2 (itC p.x) := fun j v hj => by
  rw [h.cell, show 2 + j = j + 1 + 1 by omega]
  simpa [pfC] using hj
theorem pf_ri {w : World} {g : Nat} {s : Value} {p : Pf} {t : TypeId} (h : Blk w g (pfC s p).toArray t) (hp : p.Ok) : w.rangeAt g 2 (p.x.i.map u8v) := by
  have h1 := rangeAt_take (pf_rx h) 32
  rwa [show (itC p.x).take 32 = p.x.i.map u8v from List.take_left' (by simp [hp.2.1])] at h1
theorem pf_rv {w : World} {g : Nat} {s : Value} {p : Pf} {t : TypeId} (h : Blk w g (pfC s p).toArray t) (hp : p.Ok) : w.rangeAt g 34 (p.x.v.map u8v) := fun j v hj => by
  have h1 := pf_rx h (32 + j) v (by
    unfold itC
    rw [List.getElem?_append_right (by simp [hp.2.1]), List.length_map, hp.2.1, Nat.add_sub_cancel_left]
    exact hj)
  rwa [show 2 + (32 + j) = 34 + j by omega] at h1
/-- A range of a block, as bytes. -/
theorem range_bs {w : World} {g o n : Nat} {l : List UInt8} (h : w.rangeAt g o (l.map u8v)) (hn : l.length = n) (hm : n ≤ 9223372036854775807) : Rb g w (.slice (some ⟨g, o, none⟩) n n) l := by
  subst hn
  refine ⟨g + 1, some ⟨g, o, none⟩, l.length, by simp, by simp, by unfold maxLen; omega, (fun h => by cases h), fun ad had i x hx => ?_⟩
  obtain rfl := Option.some.inj had
  refine ⟨?_, ?_, ?_⟩
  · exact Nat.le_refl _
  · exact Nat.lt_succ_self _
  · rw [Addr.add_lit]; exact h i x hx
theorem pfC_one {lo : Nat} {w : World} {s : Value} {p : Pf} (h : Rh lo w s p.path) : (pfC s p).toArray.all (·.oneCell') = true := by
  obtain ⟨a, c, rfl⟩ := h.form
  refine all_oneCell_toArray (fun c hc => ?_)
  unfold pfC at hc
  rcases List.mem_cons.1 hc with rfl | hc
  · rfl
  · rcases List.mem_cons.1 hc with rfl | hc
    · rfl
    · exact itsC_one [p.x] c (by simpa [itsC] using hc)
/-- Two results, the first one in a cell. -/
theorem res_cell_tmp {P : Program} {fn : Func} {p q : Tmp} {ty : TypeId} (h : fn.results = #[.cell p ty, .tmp q]) (tmps : Array Value) {w : World} {g : Nat} {t : TypeId} {cs : Array Value} (hp : tmps.getD p undef = .pointer (some ⟨g, 0, none⟩)) {x : Value} (hq : tmps.getD q undef = x) (hb : Blk w g cs t)
    (hT : AggTy P ty cs.size) : (results fn tmps).run P w = .ok (.tuple #[.agg cs, x]) w := by
  obtain ⟨d, hu, hd⟩ := hT.ag
  have hp' : tmps[p]?.getD undef = .pointer (some ⟨g, 0, none⟩) := by simpa using hp
  have hq' : tmps[q]?.getD undef = x := by simpa using hq
  have hl := run_loadVar_row w g t ty cs (0, 0) d hb hu (by cases d <;> first | rfl | exact hd) hT.size
  simp [results, h, hp', hq', asAddr, hl]
theorem res_cell_tmp2 {P : Program} {fn : Func} {p q q2 : Tmp} {ty : TypeId} (h : fn.results = #[.cell p ty, .tmp q, .tmp q2]) (tmps : Array Value) {w : World} {g : Nat} {t : TypeId} {cs : Array Value} (hp : tmps.getD p undef = .pointer (some ⟨g, 0, none⟩)) {x y : Value} (hq : tmps.getD q undef = x) (hq2 : tmps.getD q2 undef = y) (hb : Blk w g cs t)
    (hT : AggTy P ty cs.size) : (results fn tmps).run P w = .ok (.tuple #[.agg cs, x, y]) w := by
  obtain ⟨d, hu, hd⟩ := hT.ag
  have hp' : tmps[p]?.getD undef = .pointer (some ⟨g, 0, none⟩) := by simpa using hp
  have hq' : tmps[q]?.getD undef = x := by simpa using hq
  have hq2' : tmps[q2]?.getD undef = y := by simpa using hq2
  have hl := run_loadVar_row w g t ty cs (0, 0) d hb hu (by cases d <;> first | rfl | exact hd) hT.size
  simp [results, h, hp', hq', hq2', asAddr, hl]
end Go.Pm
namespace Go.Proofs.Ytglibdggoobocaa
open Go.RowKit Go.Pm
namespace Hk
theorem rtyK {P : Program} {t e : TypeId} {z : Value} {k bytes : Nat} (h1 : P.underlying t = some (.slice e)) (h2 : (P.info? e).map (fun i => (i.zero, i.size, i.bytes)) = some (some z, k, bytes)) (h3 : z.cells.size = k) (h4 : 0 < k) : RowTyK P t e z k bytes := by
  refine ⟨h1, ?_, h3, h4⟩
  cases hi : P.info? e with
  | none => rw [hi] at h2; cases h2
  | some i =>
    rw [hi] at h2
    simp only [Option.map_some, Option.some.injEq, Prod.mk.injEq] at h2
    exact ⟨i, rfl, h2.1, h2.2.1, h2.2.2⟩
end Hk
end Go.Proofs.Ytglibdggoobocaa
