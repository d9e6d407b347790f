/- Requests (chapter 5) as plain functions: program-independent. -/
import Derived.Test.YtbckjkfdkgomiaaNum4
namespace Go.Pm
open Go Go.RowKit

/-- An int as a uint64. -/
abbrev U6 (v : Int) : Int := v % 18446744073709551616
theorem U6_ge (v : Int) : 0 ≤ U6 v := by unfold U6; omega
theorem U6_lt (v : Int) : U6 v < 18446744073709551616 := by unfold U6; omega
/-- A string's bytes. -/
def strB (n : ByteArray) : List UInt8 := n.data.toList
theorem strB_len (n : ByteArray) : (strB n).length = n.size := by simp [strB]
theorem strB_back (n : ByteArray) : (⟨(strB n).toArray⟩ : ByteArray) = n := by simp [strB]
theorem strB_of (l : List UInt8) : strB ⟨l.toArray⟩ = l := by simp [strB]
theorem size_of (l : List UInt8) : (⟨l.toArray⟩ : ByteArray).size = l.length := by simp [ByteArray.size]

abbrev entV (n : ByteArray) (v : Int) (k : Nat) : Value := .agg #[.string n, .int .i64 v, .int .u64 k]
abbrev updV (n : ByteArray) (v : Int) (k : Nat) (c : Int) (r s : Nat) : Value := .agg #[.string n, .int .i64 v, .int .u64 k, .int .i64 c, .int .u64 r, .int .u64 s]

/-- EntryRight: of a name's length, a version, a key. -/
def entR (m : Nat) (v : Int) (k : Nat) : Bool := decide (1 ≤ m) && decide (m ≤ 32) && decide (1 ≤ v) && decide (v ≤ 1073741824) && decide (1 ≤ k) && decide (k < prime61)
/-- Right. -/
def rightB (m : Nat) (v : Int) (k : Nat) (c : Int) : Bool := entR m v k && (decide (c = 0) || decide (c = 1))
theorem rightB_iff (m : Nat) (v : Int) (k : Nat) (c : Int) : rightB m v k c = true ↔ (1 ≤ m ∧ m ≤ 32 ∧ 1 ≤ v ∧ v ≤ 1073741824 ∧ 1 ≤ k ∧ k < prime61) ∧ (c = 0 ∨ c = 1) := by
  unfold rightB entR
  simp only [Bool.and_eq_true, Bool.or_eq_true, decide_eq_true_eq, and_assoc]
theorem rightB_no {m : Nat} {v : Int} {k : Nat} {c : Int} (h : ¬ ((1 ≤ m ∧ m ≤ 32 ∧ 1 ≤ v ∧ v ≤ 1073741824 ∧ 1 ≤ k ∧ k < prime61) ∧ (c = 0 ∨ c = 1))) : rightB m v k c = false := by
  cases hb : rightB m v k c with
  | false => rfl
  | true => exact absurd ((rightB_iff m v k c).1 hb) h

theorem lumpB_len (l : List UInt8) : (lumpB l).length = 8 + l.length := by simp [lumpB, leB_length]
def fieldsB (n : ByteArray) (v : Int) (k : Nat) : List UInt8 := lumpB (strB n) ++ leB (U6 v) ++ leB k
theorem fieldsB_len (n : ByteArray) (v : Int) (k : Nat) : (fieldsB n v k).length = 24 + n.size := by simp [fieldsB, lumpB_len, leB_length, strB_len]; omega
/-- Message. -/
def msgB (n : ByteArray) (v : Int) (k : Nat) : List UInt8 := 85 :: fieldsB n v k
theorem msgB_len (n : ByteArray) (v : Int) (k : Nat) : (msgB n v k).length = 25 + n.size := by simp [msgB, fieldsB_len]; omega
/-- Put, of what may be. -/
def putB (n : ByteArray) (v : Int) (k : Nat) (c : Int) (r s : Nat) : List UInt8 := fieldsB n v k ++ leB (U6 c) ++ (leB r ++ leB s)
theorem putB_len (n : ByteArray) (v : Int) (k : Nat) (c : Int) (r s : Nat) : (putB n v k c r s).length = 48 + n.size := by simp [putB, fieldsB_len, leB_length]; omega
/-- Put's bytes and its error. -/
def putE (m : Nat) (v : Int) (k : Nat) (c : Int) : Int := if rightB m v k c then 0 else 23
def putL (n : ByteArray) (v : Int) (k : Nat) (c : Int) (r s : Nat) : List UInt8 := if rightB n.size v k c then putB n v k c r s else []

/-! ### Read -/
/-- A request, read. -/
structure Req where
  n : ByteArray
  v : Int
  k : Nat
  c : Int
  r : Nat
  s : Nat
def Req.none : Req := ⟨⟨#[]⟩, 0, 0, 0, 0, 0⟩
abbrev Req.V (q : Req) : Value := updV q.n q.v q.k q.c q.r q.s
def Req.right (q : Req) : Bool := rightB q.n.size q.v q.k q.c
/-- A number that the Reader has, as a natural number. -/
def St.nat (s : St) : Nat := s.num.toNat
theorem St.nat_eq (s : St) : ((s.nat : Nat) : Int) = s.num := Int.toNat_of_nonneg (St.num_ge s)
theorem St.nat_lt (s : St) : s.nat < 18446744073709551616 := by have := s.num_lt; have := s.nat_eq; omega
/-- update.whole. -/
def wholeI (n : Int) : Int := min n 9223372036854775807
/-- The reference's Int. -/
def intI (n : Int) : Int := if 9223372036854775807 < n then -1 else n
/-- The states behind each part. -/
def rd1 (l : List UInt8) : St := St.lumpS ⟨l, 0⟩ 32
def rdN (l : List UInt8) : List UInt8 := St.lump ⟨l, 0⟩ 32
def rd2 (l : List UInt8) : St := (rd1 l).numS
def rd3 (l : List UInt8) : St := (rd2 l).numS
def rd4 (l : List UInt8) : St := (rd3 l).numS
def rd5 (l : List UInt8) : St := (rd4 l).numS
def rd6 (l : List UInt8) : St := (rd5 l).numS
/-- All fields, by how a number becomes an int. -/
def reqOf (f : Int → Int) (l : List UInt8) : Req := ⟨⟨(rdN l).toArray⟩, f (rd1 l).num, (rd2 l).nat, f (rd3 l).num, (rd4 l).nat, (rd5 l).nat⟩
/-- Read's error and request. -/
def readE (l : List UInt8) : Int := if 512 < l.length then 22 else if (rd6 l).e ≠ 0 then (rd6 l).e else if 0 < (rd6 l).l.length then 20 else if (reqOf wholeI l).right then 0 else 23
def readQ (l : List UInt8) : Req := if readE l = 0 then reqOf wholeI l else Req.none

theorem rightB_cut {f : Int → Int} (hf : ∀ n, 0 ≤ n → n ≤ 1073741824 → f n = n) (hg : ∀ n, 1073741824 < n → n < 18446744073709551616 → 1073741824 < f n ∨ f n < 0) (m : Nat) (a : Int) (k : Nat) (c : Int) (a0 : 0 ≤ a) (a1 : a < 18446744073709551616) (c0 : 0 ≤ c) (c1 : c < 18446744073709551616) :
    rightB m (f a) k (f c) = rightB m a k c := by
  rw [Bool.eq_iff_iff, rightB_iff, rightB_iff]
  have ha : f a = a ∨ 1073741824 < a ∧ (1073741824 < f a ∨ f a < 0) := by
    by_cases h : a ≤ 1073741824
    · exact .inl (hf a a0 h)
    · exact .inr ⟨by omega, hg a (by omega) a1⟩
  have hc : f c = c ∨ 1073741824 < c ∧ (1073741824 < f c ∨ f c < 0) := by
    by_cases h : c ≤ 1073741824
    · exact .inl (hf c c0 h)
    · exact .inr ⟨by omega, hg c (by omega) c1⟩
  omega
theorem whole_small (n : Int) (_h0 : 0 ≤ n) (h : n ≤ 1073741824) : wholeI n = n := by unfold wholeI; omega
theorem whole_great (n : Int) (h : 1073741824 < n) (_h1 : n < 18446744073709551616) : 1073741824 < wholeI n ∨ wholeI n < 0 := by unfold wholeI; omega
theorem int_small (n : Int) (_h0 : 0 ≤ n) (h : n ≤ 1073741824) : intI n = n := by unfold intI; rw [if_neg (by omega)]
theorem int_great (n : Int) (h : 1073741824 < n) (_h1 : n < 18446744073709551616) : 1073741824 < intI n ∨ intI n < 0 := by unfold intI; split <;> omega
theorem right_whole (l : List UInt8) : (reqOf wholeI l).right = rightB (rdN l).length (rd1 l).num (rd2 l).nat (rd3 l).num := by
  unfold Req.right reqOf
  simp only [size_of]
  exact rightB_cut whole_small whole_great _ _ _ _ (St.num_ge _) (St.num_lt _) (St.num_ge _) (St.num_lt _)
theorem right_int (l : List UInt8) : (reqOf intI l).right = rightB (rdN l).length (rd1 l).num (rd2 l).nat (rd3 l).num := by
  unfold Req.right reqOf
  simp only [size_of]
  exact rightB_cut int_small int_great _ _ _ _ (St.num_ge _) (St.num_lt _) (St.num_ge _) (St.num_lt _)
/-- Where it may be, both are the numbers themselves. -/
theorem reqOf_right (l : List UInt8) (h : (reqOf wholeI l).right = true) : reqOf intI l = reqOf wholeI l := by
  rw [right_whole, rightB_iff] at h
  have g1 := St.num_ge (rd1 l)
  have g3 := St.num_ge (rd3 l)
  unfold reqOf
  rw [whole_small _ g1 (by omega), whole_small _ g3 (by omega), int_small _ g1 (by omega), int_small _ g3 (by omega)]
/-- What is put is read. -/
theorem rd_put (n : ByteArray) (v : Int) (k : Nat) (c : Int) (r s : Nat) (hn : n.size ≤ 32) (hv : 0 ≤ v ∧ v < 18446744073709551616) (hk : k < 18446744073709551616) (hc : 0 ≤ c ∧ c < 18446744073709551616) (hr : r < 18446744073709551616) (hs : s < 18446744073709551616) :
    rdN (putB n v k c r s) = strB n ∧ rd6 (putB n v k c r s) = ⟨[], 0⟩ ∧ (rd1 (putB n v k c r s)).num = v ∧ (rd2 (putB n v k c r s)).num = k ∧ (rd3 (putB n v k c r s)).num = c ∧ (rd4 (putB n v k c r s)).num = r ∧ (rd5 (putB n v k c r s)).num = s := by
  have hb : putB n v k c r s = (leB (strB n).length ++ strB n) ++ (leB v ++ (leB k ++ (leB c ++ (leB r ++ (leB s ++ []))))) := by
    unfold putB fieldsB lumpB U6
    rw [Int.emod_eq_of_lt hv.1 hv.2, Int.emod_eq_of_lt hc.1 hc.2]
    simp only [List.append_assoc, List.append_nil]
  have hl := strB_len n
  have h1 := St.lump_said (strB n) 32 (by omega) (by omega) (leB v ++ (leB k ++ (leB c ++ (leB r ++ (leB s ++ [])))))
  have h2 := St.num_said v hv.1 hv.2 (leB k ++ (leB c ++ (leB r ++ (leB s ++ []))))
  have h3 := St.num_said k (by omega) (by omega) (leB c ++ (leB r ++ (leB s ++ [])))
  have h4 := St.num_said c hc.1 hc.2 (leB r ++ (leB s ++ []))
  have h5 := St.num_said r (by omega) (by omega) (leB s ++ [])
  have h6 := St.num_said s (by omega) (by omega) []
  unfold rd6 rd5 rd4 rd3 rd2 rd1 rdN
  rw [hb, h1.1, h1.2, h2.2, h3.2, h4.2, h5.2, h6.2]
  exact ⟨rfl, rfl, h2.1, h3.1, h4.1, h5.1, h6.1⟩
theorem read_put (n : ByteArray) (v : Int) (k : Nat) (c : Int) (r s : Nat) (h : rightB n.size v k c = true) (hr : r < 18446744073709551616) (hs : s < 18446744073709551616) :
    readE (putB n v k c r s) = 0 ∧ readQ (putB n v k c r s) = ⟨n, v, k, c, r, s⟩ := by
  have hh := (rightB_iff _ _ _ _).1 h
  have hp : prime61 < 18446744073709551616 := by decide
  obtain ⟨h1, h2, h3, h4, h5, h6, h7⟩ := rd_put n v k c r s hh.1.2.1 ⟨by omega, by omega⟩ (by omega) ⟨by omega, by omega⟩ hr hs
  have hq : reqOf wholeI (putB n v k c r s) = ⟨n, v, k, c, r, s⟩ := by
    unfold reqOf St.nat
    rw [h1, h3, h4, h5, h6, h7, whole_small v (by omega) (by omega), whole_small c (by omega) (by omega), strB_back]
    simp
  have he : readE (putB n v k c r s) = 0 := by
    unfold readE
    rw [if_neg (by rw [putB_len]; omega), h2, hq]
    unfold Req.right
    simp [h]
  refine ⟨he, ?_⟩
  unfold readQ
  rw [if_pos he, hq]
/-- One byte more. -/
theorem read_more (n : ByteArray) (v : Int) (k : Nat) (c : Int) (r s : Nat) (x : UInt8) (h : rightB n.size v k c = true) (hr : r < 18446744073709551616) (hs : s < 18446744073709551616) : readE (putB n v k c r s ++ [x]) = 20 := by
  have hh := (rightB_iff _ _ _ _).1 h
  have hp : prime61 < 18446744073709551616 := by decide
  have hv : 0 ≤ v ∧ v < 18446744073709551616 := ⟨by omega, by omega⟩
  have hc : 0 ≤ c ∧ c < 18446744073709551616 := ⟨by omega, by omega⟩
  have hb : putB n v k c r s ++ [x] = (leB (strB n).length ++ strB n) ++ (leB v ++ (leB k ++ (leB c ++ (leB r ++ (leB s ++ [x]))))) := by
    unfold putB fieldsB lumpB U6
    rw [Int.emod_eq_of_lt hv.1 hv.2, Int.emod_eq_of_lt hc.1 hc.2]
    simp only [List.append_assoc]
  have hl := strB_len n
  have h1 := St.lump_said (strB n) 32 (by omega) (by omega) (leB v ++ (leB k ++ (leB c ++ (leB r ++ (leB s ++ [x])))))
  have h2 := St.num_said v hv.1 hv.2 (leB k ++ (leB c ++ (leB r ++ (leB s ++ [x]))))
  have h3 := St.num_said k (by omega) (by omega) (leB c ++ (leB r ++ (leB s ++ [x])))
  have h4 := St.num_said c hc.1 hc.2 (leB r ++ (leB s ++ [x]))
  have h5 := St.num_said r (by omega) (by omega) (leB s ++ [x])
  have h6 := St.num_said s (by omega) (by omega) [x]
  have h7 : rd6 (putB n v k c r s ++ [x]) = ⟨[x], 0⟩ := by
    unfold rd6 rd5 rd4 rd3 rd2 rd1
    rw [hb, h1.2, h2.2, h3.2, h4.2, h5.2, h6.2]
  unfold readE
  rw [if_neg (by rw [List.length_append, putB_len]; simp; omega), h7]
  simp

/-! ### The seat's requests -/
/-- A name's number, byte by byte. -/
def nameN : List UInt8 → Nat → Nat
  | [], a => a
  | b :: l, a => nameN l ((a * 31 % 18446744073709551616 + b.toNat) % 18446744073709551616)
theorem nameN_snoc (l : List UInt8) (b : UInt8) (a : Nat) : nameN (l ++ [b]) a = (nameN l a * 31 % 18446744073709551616 + b.toNat) % 18446744073709551616 := by
  induction l generalizing a with
  | nil => rfl
  | cons c l ih => exact ih _
theorem nameN_lt (l : List UInt8) : ∀ a, a < 18446744073709551616 → nameN l a < 18446744073709551616 := by
  induction l with
  | nil => intro a h; exact h
  | cons c l ih => intro a _; exact ih _ (Nat.mod_lt _ (by decide))
end Go.Pm
