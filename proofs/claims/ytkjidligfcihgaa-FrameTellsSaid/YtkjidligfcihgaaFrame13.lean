/- Frames (chapter 13) as plain functions: program-independent. -/
import Derived.Test.YtkjidligfcihgaaLow
namespace Go.Pm
open Go Go.RowKit
def le4 (n : Int) : List UInt8 := [byteOf n, byteOf (n / 256), byteOf (n / 65536), byteOf (n / 16777216)]
def le4V (l : List UInt8) : Int := bAt l 0 + bAt l 1 * 256 + bAt l 2 * 65536 + bAt l 3 * 16777216
/-- A frame's mark. -/
def markF (k s : Int) (b : List UInt8) : List UInt8 := (sumB (textB 102 [[byteOf k], leB s, b])).take 8
def putF (k s : Int) (b : List UInt8) : List UInt8 := le4 b.length ++ [byteOf k] ++ leB s ++ b ++ markF k s b
def putFE (k s : Int) (b : List UInt8) : Int := if k < 1 ∨ 255 < k ∨ s < 0 then 23 else if 4096 < b.length then 22 else 0
def putFL (k s : Int) (b : List UInt8) : List UInt8 := if putFE k s b = 0 then putF k s b else []
structure Fr where
  kind : Int
  seq : Int
  body : List UInt8
  n : Nat
  e : Int
def readF (b : List UInt8) : Fr :=
  if b.length < 13 then ⟨0, 0, [], 0, 21⟩
  else if 4096 < le4V b ∨ bAt b 4 = 0 ∨ 9223372036854775807 < leV (b.drop 5) then ⟨0, 0, [], 0, 20⟩
  else if (b.length : Int) < 21 + le4V b then ⟨0, 0, [], 0, 21⟩
  else if markF (bAt b 4) (leV (b.drop 5)) ((b.drop 13).take (le4V b).toNat) = (b.drop (13 + (le4V b).toNat)).take 8 then ⟨bAt b 4, leV (b.drop 5), (b.drop 13).take (le4V b).toNat, 21 + (le4V b).toNat, 0⟩
  else ⟨0, 0, [], 0, 24⟩
theorem le4V_ge (l : List UInt8) : 0 ≤ le4V l := by
  have := bAt_ge l 0
  have := bAt_ge l 1
  have := bAt_ge l 2
  have := bAt_ge l 3
  unfold le4V
  omega
theorem le4V_lt (l : List UInt8) : le4V l < 4294967296 := by
  have := bAt_lt l 0
  have := bAt_lt l 1
  have := bAt_lt l 2
  have := bAt_lt l 3
  unfold le4V
  omega
theorem le4_length (n : Int) : (le4 n).length = 4 := rfl
theorem markF_len (k s : Int) (b : List UInt8) : (markF k s b).length = 8 := by simp [markF, sumB_len]
theorem putF_len (k s : Int) (b : List UInt8) : (putF k s b).length = 21 + b.length := by
  simp [putF, le4_length, leB_length, markF_len]
  omega
theorem le4V_le4 (n : Int) (h0 : 0 ≤ n) (h1 : n < 4294967296) (r : List UInt8) : le4V (le4 n ++ r) = n := by
  show ((Go.Pm.byteOf n).toNat : Int) + ((Go.Pm.byteOf (n / 256)).toNat : Int) * 256 + ((Go.Pm.byteOf (n / 65536)).toNat : Int) * 65536 + ((Go.Pm.byteOf (n / 16777216)).toNat : Int) * 16777216 = n
  rw [byteOf_toNat, byteOf_toNat, byteOf_toNat, byteOf_toNat]
  omega
/-- A frame, and whatever stands behind it, reads as the frame. -/
theorem read_putF (k s : Int) (b r : List UInt8) (k0 : 1 ≤ k) (k1 : k ≤ 255) (s0 : 0 ≤ s) (s1 : s ≤ 9223372036854775807) (hb : b.length ≤ 4096) : readF (putF k s b ++ r) = ⟨k, s, b, 21 + b.length, 0⟩ := by
  have e0 : putF k s b ++ r = le4 b.length ++ ([Go.Pm.byteOf k] ++ (leB s ++ (b ++ (markF k s b ++ r)))) := by simp [putF]
  have hM : le4V (putF k s b ++ r) = (b.length : Int) := by rw [e0]; exact le4V_le4 _ (by omega) (by omega) _
  have hK : bAt (putF k s b ++ r) 4 = k := by
    rw [e0]
    show ((Go.Pm.byteOf k).toNat : Int) = k
    rw [byteOf_toNat]
    omega
  have d5 : (putF k s b ++ r).drop 5 = leB s ++ (b ++ (markF k s b ++ r)) := by
    rw [e0, ← List.append_assoc]
    exact List.drop_left' (by simp [le4_length])
  have hS : leV ((putF k s b ++ r).drop 5) = s := by rw [d5]; exact leV_leB s s0 (by omega) _
  have d13 : (putF k s b ++ r).drop 13 = b ++ (markF k s b ++ r) := by
    rw [e0, ← List.append_assoc, ← List.append_assoc]
    exact List.drop_left' (by simp [le4_length, leB_length])
  have dB : (putF k s b ++ r).drop (13 + b.length) = markF k s b ++ r := by
    rw [← List.drop_drop, d13]
    exact List.drop_left' rfl
  have hl : (putF k s b ++ r).length = 21 + b.length + r.length := by rw [List.length_append, putF_len]
  have tB : ((putF k s b ++ r).drop 13).take b.length = b := by rw [d13]; exact List.take_left' rfl
  have tM : ((putF k s b ++ r).drop (13 + b.length)).take 8 = markF k s b := by rw [dB]; exact List.take_left' (markF_len _ _ _)
  unfold readF
  rw [if_neg (by omega), if_neg (by rw [hM, hK, hS]; omega), if_neg (by rw [hM, hl]; omega), hM, hK, hS, Int.toNat_natCast, tB, tM, if_pos rfl]
theorem readF_body (b : List UInt8) : (readF b).e ≠ 0 → (readF b).body = [] := by
  unfold readF
  split
  · exact fun _ => rfl
  · split
    · exact fun _ => rfl
    · split
      · exact fun _ => rfl
      · split
        · exact fun h => absurd rfl h
        · exact fun _ => rfl
/-- What readF says, in numbers. -/
theorem readF_bad {b : List UInt8} {M K S : Nat} (hl : ¬ b.length < 13) (e : le4V b = (M : Int) ∧ bAt b 4 = (K : Int) ∧ leV (b.drop 5) = (S : Int)) (h : 4096 < M ∨ K = 0 ∨ 9223372036854775807 < S) : readF b = ⟨0, 0, [], 0, 20⟩ := by
  unfold readF
  rw [if_neg hl, if_pos (by rw [e.1, e.2.1, e.2.2]; omega)]
theorem readF_short {b : List UInt8} {M K S : Nat} (hl : ¬ b.length < 13) (e : le4V b = (M : Int) ∧ bAt b 4 = (K : Int) ∧ leV (b.drop 5) = (S : Int)) (h : ¬ (4096 < M ∨ K = 0 ∨ 9223372036854775807 < S)) (hs : b.length < 21 + M) : readF b = ⟨0, 0, [], 0, 21⟩ := by
  unfold readF
  rw [if_neg hl, if_neg (by rw [e.1, e.2.1, e.2.2]; omega), if_pos (by rw [e.1]; omega)]
theorem readF_sum {b : List UInt8} {M K S : Nat} (hl : ¬ b.length < 13) (e : le4V b = (M : Int) ∧ bAt b 4 = (K : Int) ∧ leV (b.drop 5) = (S : Int)) (h : ¬ (4096 < M ∨ K = 0 ∨ 9223372036854775807 < S)) (hs : ¬ b.length < 21 + M) (hm : ¬ markF K S ((b.drop 13).take M) = (b.drop (13 + M)).take 8) : readF b = ⟨0, 0, [], 0, 24⟩ := by
  unfold readF
  rw [if_neg hl, if_neg (by rw [e.1, e.2.1, e.2.2]; omega), if_neg (by rw [e.1]; omega), if_neg (by rw [e.1, e.2.1, e.2.2, Int.toNat_natCast]; exact hm)]
theorem readF_ok {b : List UInt8} {M K S : Nat} (hl : ¬ b.length < 13) (e : le4V b = (M : Int) ∧ bAt b 4 = (K : Int) ∧ leV (b.drop 5) = (S : Int)) (h : ¬ (4096 < M ∨ K = 0 ∨ 9223372036854775807 < S)) (hs : ¬ b.length < 21 + M) (hm : markF K S ((b.drop 13).take M) = (b.drop (13 + M)).take 8) : readF b = ⟨K, S, (b.drop 13).take M, 21 + M, 0⟩ := by
  unfold readF
  rw [if_neg hl, if_neg (by rw [e.1, e.2.1, e.2.2]; omega), if_neg (by rw [e.1]; omega), if_pos (by rw [e.1, e.2.1, e.2.2, Int.toNat_natCast]; exact hm), e.1, e.2.1, e.2.2, Int.toNat_natCast]
end Go.Pm
