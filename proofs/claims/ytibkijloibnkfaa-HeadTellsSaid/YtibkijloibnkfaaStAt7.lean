/- Where a Reader stands, what a hash that is read is: plain mathematics. -/
import Derived.Test.YtibkijloibnkfaaPrf7
namespace Go.Pm
open Go Go.RowKit
/-- Where a Reader of l stands behind t bytes. -/
def stAt (l : List UInt8) (t : Nat) : St := if t ≤ l.length then ⟨l.drop t, 0⟩ else ⟨[], 21⟩
theorem stAt_zero (l : List UInt8) : stAt l 0 = ⟨l, 0⟩ := by unfold stAt; simp
theorem stAt_num (l : List UInt8) (t : Nat) : (stAt l t).numS = stAt l (t + 8) := by
  unfold stAt St.numS
  by_cases h : t ≤ l.length
  · rw [if_pos h]
    dsimp only
    rw [if_pos rfl]
    by_cases h2 : t + 8 ≤ l.length
    · rw [if_pos (by rw [List.length_drop]; omega), if_pos h2, List.drop_drop]
    · rw [if_neg (by rw [List.length_drop]; omega), if_neg h2]
  · rw [if_neg h, if_neg (show ¬ t + 8 ≤ l.length by omega)]
    rfl
theorem stAt_raw (l : List UInt8) (t n : Nat) : (stAt l t).rawS n = stAt l (t + n) := by
  unfold stAt St.rawS
  by_cases h : t ≤ l.length
  · rw [if_pos h]
    dsimp only
    rw [if_pos rfl]
    by_cases h2 : t + n ≤ l.length
    · rw [if_pos (by rw [List.length_drop]; omega), if_pos h2, List.drop_drop, Int.toNat_natCast]
    · rw [if_neg (by rw [List.length_drop]; omega), if_neg h2]
  · rw [if_neg h, if_neg (show ¬ t + n ≤ l.length by omega)]
    rfl
/-- What a hash that is read is: noughts behind an error. -/
def hashO (s : St) : List UInt8 := if s.e = 0 ∧ 32 ≤ s.l.length then s.l.take 32 else zero32
theorem hashO_len (s : St) : (hashO s).length = 32 := by
  unfold hashO
  split
  · rw [List.length_take]; omega
  · rfl
theorem hashO_of {l r h : List UInt8} {t : Nat} (hd : l.drop t = h ++ r) (ht : t ≤ l.length) (h2 : h.length = 32) : hashO (stAt l t) = h := by
  unfold stAt hashO
  rw [if_pos ht]
  dsimp only
  rw [hd, if_pos ⟨rfl, by rw [List.length_append]; omega⟩, List.take_left' h2]
theorem num_of {l r : List UInt8} {t : Nat} {n : Int} (hd : l.drop t = leB n ++ r) (ht : t ≤ l.length) (h0 : 0 ≤ n) (h1 : n < 18446744073709551616) : (stAt l t).num = n := by
  unfold stAt
  rw [if_pos ht, hd]
  exact (St.num_said n h0 h1 r).1
end Go.Pm
