/- The document's Reader (chapter 1) as plain functions: program-independent. -/
import Derived.Test.YtbckjkfdkgomiaaBase
namespace Go.Pm
open Go Go.RowKit

/-- Eight bytes as a number, the lowest first. -/
def leV (l : List UInt8) : Int := bAt l 0 + bAt l 1 * 256 + bAt l 2 * 65536 + bAt l 3 * 16777216 + bAt l 4 * 4294967296 + bAt l 5 * 1099511627776 + bAt l 6 * 281474976710656 + bAt l 7 * 72057594037927936

theorem leV_ge (l : List UInt8) : 0 ≤ leV l := by
  have A := bAt_ge l
  have := A 0; have := A 1; have := A 2; have := A 3; have := A 4; have := A 5; have := A 6; have := A 7
  unfold leV; omega
theorem leV_lt (l : List UInt8) : leV l < 18446744073709551616 := by
  have A := bAt_ge l
  have B := bAt_lt l
  have := A 0; have := A 1; have := A 2; have := A 3; have := A 4; have := A 5; have := A 6; have := A 7
  have := B 0; have := B 1; have := B 2; have := B 3; have := B 4; have := B 5; have := B 6; have := B 7
  unfold leV; omega
theorem bAt_byteOf_cons (x : Int) (l : List UInt8) : bAt (byteOf x :: l) 0 = x % 256 := byteOf_toNat x
theorem bAt_succ (b : UInt8) (l : List UInt8) (i : Nat) : bAt (b :: l) (i + 1) = bAt l i := by simp [bAt]
theorem leV_leB (n : Int) (h0 : 0 ≤ n) (h1 : n < 18446744073709551616) (r : List UInt8) : leV (leB n ++ r) = n := by
  unfold leV leB
  simp only [List.cons_append, bAt_succ, bAt_byteOf_cons]
  omega
theorem bAt_take (l : List UInt8) (n i : Nat) (h : i < n) : bAt (l.take n) i = bAt l i := by simp [bAt, List.getD, h]
theorem leV_take (l : List UInt8) : leV (l.take 8) = leV l := by unfold leV; simp [bAt_take]

/-- An or of numbers whose bits are apart is their sum. -/
theorem or_join (M k : Nat) (hM : 2 ^ k = M) (h64 : M ≤ 18446744073709551616) (x y : Int) (h0 : 0 ≤ x) (h1 : x < M) (h2 : 0 ≤ y) (h3 : y * M < 18446744073709551616) : bits .or .u64 x (y * M) = x + y * M := by
  obtain ⟨x, rfl⟩ := Int.eq_ofNat_of_zero_le h0
  obtain ⟨y, rfl⟩ := Int.eq_ofNat_of_zero_le h2
  have h1' : x < M := by omega
  have h3' : y * M < 18446744073709551616 := by have := Int.natCast_mul y M; omega
  rw [← Int.natCast_mul, u64_or_nat x (y * M) (by omega) h3', Nat.or_comm, nat_join k (y * M) x (by rw [hM]; exact Nat.mul_mod_left y M) (by rw [hM]; exact h1')]
  push_cast
  omega
theorem or_joinl (M k : Nat) (hM : 2 ^ k = M) (h64 : M ≤ 18446744073709551616) (x y : Int) (h0 : 0 ≤ x) (h1 : x < M) (h2 : 0 ≤ y) (h3 : y * M < 18446744073709551616) : bits .or .u64 (y * M) x = y * M + x := by
  obtain ⟨x, rfl⟩ := Int.eq_ofNat_of_zero_le h0
  obtain ⟨y, rfl⟩ := Int.eq_ofNat_of_zero_le h2
  have h1' : x < M := by omega
  have h3' : y * M < 18446744073709551616 := by have := Int.natCast_mul y M; omega
  rw [← Int.natCast_mul, u64_or_nat (y * M) x h3' (by omega), nat_join k (y * M) x (by rw [hM]; exact Nat.mul_mod_left y M) (by rw [hM]; exact h1')]
  push_cast
  omega

/-- What bin's Reader comes to by eight bytes, each shifted to its place. -/
theorem or_up (x0 x1 x2 x3 x4 x5 x6 x7 : Int) (a0 : 0 ≤ x0) (b0 : x0 < 256) (a1 : 0 ≤ x1) (b1 : x1 < 256) (a2 : 0 ≤ x2) (b2 : x2 < 256) (a3 : 0 ≤ x3) (b3 : x3 < 256)
    (a4 : 0 ≤ x4) (b4 : x4 < 256) (a5 : 0 ≤ x5) (b5 : x5 < 256) (a6 : 0 ≤ x6) (b6 : x6 < 256) (a7 : 0 ≤ x7) (b7 : x7 < 256) :
    bits .or .u64 (bits .or .u64 (bits .or .u64 (bits .or .u64 (bits .or .u64 (bits .or .u64 (bits .or .u64 (bits .or .u64 0 x0) (x1 * 256)) (x2 * 65536)) (x3 * 16777216)) (x4 * 4294967296)) (x5 * 1099511627776)) (x6 * 281474976710656)) (x7 * 72057594037927936) =
      x0 + x1 * 256 + x2 * 65536 + x3 * 16777216 + x4 * 4294967296 + x5 * 1099511627776 + x6 * 281474976710656 + x7 * 72057594037927936 := by
  have e0 := or_join 1 0 rfl (by decide) 0 x0 (by omega) (by omega) (by omega) (by omega)
  simp only [Int.natCast_one, Int.mul_one, Int.zero_add] at e0
  rw [e0]
  have e1 := or_join 256 8 rfl (by decide) x0 x1 (by omega) (by omega) (by omega) (by omega)
  have e2 := or_join 65536 16 rfl (by decide) (x0 + x1 * 256) x2 (by omega) (by omega) (by omega) (by omega)
  have e3 := or_join 16777216 24 rfl (by decide) (x0 + x1 * 256 + x2 * 65536) x3 (by omega) (by omega) (by omega) (by omega)
  have e4 := or_join 4294967296 32 rfl (by decide) (x0 + x1 * 256 + x2 * 65536 + x3 * 16777216) x4 (by omega) (by omega) (by omega) (by omega)
  have e5 := or_join 1099511627776 40 rfl (by decide) (x0 + x1 * 256 + x2 * 65536 + x3 * 16777216 + x4 * 4294967296) x5 (by omega) (by omega) (by omega) (by omega)
  have e6 := or_join 281474976710656 48 rfl (by decide) (x0 + x1 * 256 + x2 * 65536 + x3 * 16777216 + x4 * 4294967296 + x5 * 1099511627776) x6 (by omega) (by omega) (by omega) (by omega)
  have e7 := or_join 72057594037927936 56 rfl (by decide) (x0 + x1 * 256 + x2 * 65536 + x3 * 16777216 + x4 * 4294967296 + x5 * 1099511627776 + x6 * 281474976710656) x7 (by omega) (by omega) (by omega) (by omega)
  exact (congrArg (fun z => bits .or .u64 (bits .or .u64 (bits .or .u64 (bits .or .u64 (bits .or .u64 (bits .or .u64 z (x2 * 65536)) (x3 * 16777216)) (x4 * 4294967296)) (x5 * 1099511627776)) (x6 * 281474976710656)) (x7 * 72057594037927936)) e1).trans
    ((congrArg (fun z => bits .or .u64 (bits .or .u64 (bits .or .u64 (bits .or .u64 (bits .or .u64 z (x3 * 16777216)) (x4 * 4294967296)) (x5 * 1099511627776)) (x6 * 281474976710656)) (x7 * 72057594037927936)) e2).trans
    ((congrArg (fun z => bits .or .u64 (bits .or .u64 (bits .or .u64 (bits .or .u64 z (x4 * 4294967296)) (x5 * 1099511627776)) (x6 * 281474976710656)) (x7 * 72057594037927936)) e3).trans
    ((congrArg (fun z => bits .or .u64 (bits .or .u64 (bits .or .u64 z (x5 * 1099511627776)) (x6 * 281474976710656)) (x7 * 72057594037927936)) e4).trans
    ((congrArg (fun z => bits .or .u64 (bits .or .u64 z (x6 * 281474976710656)) (x7 * 72057594037927936)) e5).trans
    ((congrArg (fun z => bits .or .u64 z (x7 * 72057594037927936)) e6).trans e7)))))

/-- A step of the reference's Word: shifted up, a byte behind it. -/
theorem or_step (v x : Int) (h0 : 0 ≤ v) (h1 : v < 72057594037927936) (a : 0 ≤ x) (b : x < 256) : bits .or .u64 (IntKind.u64.wrap (v * 256)) x = v * 256 + x := by
  rw [IntKind.wrap_u64, Int.emod_eq_of_lt (by omega) (by omega)]
  exact or_joinl 256 8 rfl (by decide) x v a (by omega) h0 (by omega)
theorem or_zero (x : Int) (a : 0 ≤ x) (b : x < 256) : bits .or .u64 0 x = x := by
  have e0 := or_join 1 0 rfl (by decide) 0 x (by omega) (by omega) (by omega) (by omega)
  simpa using e0

/-! ### The Reader: what it has before it, and its first error (0: none). -/
structure St where
  l : List UInt8
  e : Int
def St.Ok (s : St) : Prop := s.e ≠ 0 → s.l = []
def St.num (s : St) : Int := if s.e = 0 ∧ 8 ≤ s.l.length then leV s.l else 0
def St.numS (s : St) : St := if s.e = 0 then (if 8 ≤ s.l.length then ⟨s.l.drop 8, 0⟩ else ⟨[], 21⟩) else s
def St.raw (s : St) (n : Int) : List UInt8 := if s.e = 0 ∧ n ≤ s.l.length then s.l.take n.toNat else []
def St.rawS (s : St) (n : Int) : St := if s.e = 0 then (if n ≤ s.l.length then ⟨s.l.drop n.toNat, 0⟩ else ⟨[], 21⟩) else s
def St.lump (s : St) (m : Int) : List UInt8 := if s.numS.e = 0 ∧ s.num ≤ max m 0 then s.numS.raw s.num else []
def St.lumpS (s : St) (m : Int) : St := if s.numS.e = 0 then (if s.num ≤ max m 0 then s.numS.rawS s.num else ⟨[], 22⟩) else s.numS

theorem St.num_ge (s : St) : 0 ≤ s.num := by unfold St.num; split; exact leV_ge _; exact Int.le_refl _
theorem St.num_lt (s : St) : s.num < 18446744073709551616 := by unfold St.num; split; exact leV_lt _; decide
theorem St.numS_ok {s : St} (h : s.Ok) : s.numS.Ok := by
  unfold St.numS
  split
  · split
    · intro h'; exact absurd rfl h'
    · intro _; rfl
  · exact h
theorem St.rawS_ok {s : St} (h : s.Ok) (n : Int) : (s.rawS n).Ok := by
  unfold St.rawS
  split
  · split
    · intro h'; exact absurd rfl h'
    · intro _; rfl
  · exact h
theorem St.lumpS_ok {s : St} (h : s.Ok) (m : Int) : (s.lumpS m).Ok := by
  unfold St.lumpS
  split
  · split
    · exact St.rawS_ok (St.numS_ok h) _
    · intro _; rfl
  · exact St.numS_ok h
theorem St.raw_max (s : St) (n : Int) : s.raw (max n 0) = s.raw n := by
  unfold St.raw
  by_cases h : 0 ≤ n
  · rw [Int.max_eq_left h]
  · have h1 : max n 0 = 0 := by omega
    have h2 : n.toNat = 0 := by omega
    have h3 : n ≤ s.l.length := by omega
    rw [h1, h2]
    simp [h3]
theorem St.rawS_max (s : St) (n : Int) : s.rawS (max n 0) = s.rawS n := by
  unfold St.rawS
  by_cases h : 0 ≤ n
  · rw [Int.max_eq_left h]
  · have h1 : max n 0 = 0 := by omega
    have h2 : n.toNat = 0 := by omega
    have h3 : n ≤ s.l.length := by omega
    rw [h1, h2]
    simp [h3]
theorem St.raw_len (s : St) (n : Int) : (s.raw n).length ≤ s.l.length := by unfold St.raw; split <;> simp; omega
theorem St.rawS_len (s : St) (n : Int) : (s.rawS n).l.length ≤ s.l.length := by unfold St.rawS; (repeat' split) <;> simp
theorem St.numS_len (s : St) : s.numS.l.length ≤ s.l.length := by unfold St.numS; (repeat' split) <;> simp
theorem St.lump_len (s : St) (n : Int) : (s.lump n).length ≤ s.l.length := by
  unfold St.lump; split
  · exact Nat.le_trans (St.raw_len _ _) (St.numS_len _)
  · simp
theorem St.lumpS_len (s : St) (n : Int) : (s.lumpS n).l.length ≤ s.l.length := by
  unfold St.lumpS
  split
  · split
    · exact Nat.le_trans (St.rawS_len _ _) (St.numS_len _)
    · simp
  · exact St.numS_len _
/-! ### What is said is heard. -/
theorem St.num_said (n : Int) (h0 : 0 ≤ n) (h1 : n < 18446744073709551616) (r : List UInt8) : St.num ⟨leB n ++ r, 0⟩ = n ∧ St.numS ⟨leB n ++ r, 0⟩ = ⟨r, 0⟩ := by
  have h8 : 8 ≤ (leB n ++ r).length := by simp [leB_length]
  constructor
  · unfold St.num
    rw [if_pos ⟨rfl, h8⟩]
    exact leV_leB n h0 h1 r
  · unfold St.numS
    rw [if_pos rfl, if_pos h8]
    simp only [St.mk.injEq, and_true]
    exact List.drop_left' (leB_length n)
theorem St.lump_said (l : List UInt8) (m : Int) (hm : (l.length : Int) ≤ m) (hl : l.length < 18446744073709551616) (r : List UInt8) : St.lump ⟨(leB l.length ++ l) ++ r, 0⟩ m = l ∧ St.lumpS ⟨(leB l.length ++ l) ++ r, 0⟩ m = ⟨r, 0⟩ := by
  rw [List.append_assoc]
  obtain ⟨h1, h2⟩ := St.num_said (l.length : Int) (by omega) (by omega) (l ++ r)
  unfold St.lump St.lumpS St.raw St.rawS
  rw [h1, h2]
  have hle : (l.length : Int) ≤ ((l ++ r).length : Int) := by simp; omega
  have hmax : (l.length : Int) ≤ max m 0 := by omega
  constructor
  · rw [if_pos ⟨rfl, hmax⟩, if_pos ⟨rfl, hle⟩, Int.toNat_natCast]
    exact List.take_left' rfl
  · rw [if_pos rfl, if_pos hmax, if_pos rfl, if_pos hle, Int.toNat_natCast]
    simp only [St.mk.injEq, and_true]
    exact List.drop_left' rfl
end Go.Pm
