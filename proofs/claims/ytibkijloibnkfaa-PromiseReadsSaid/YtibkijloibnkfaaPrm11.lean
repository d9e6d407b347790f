/- Promises, as plain mathematics: which may be, their bytes, which any bytes are. -/
import Derived.Test.YtibkijloibnkfaaLow
namespace Go.Pm
open Go Go.RowKit

/-- A promise. -/
structure Prm where
  n : ByteArray
  v : Int
  k : Nat
  t : Int
  d : Int
  r : Nat
  s : Nat
def zeroPr : Prm := ⟨⟨#[]⟩, 0, 0, 0, 0, 0, 0⟩
/-- Its name isn't too long for a machine, its numbers are words. -/
def Prm.Ok (p : Prm) : Prop := p.n.size ≤ 274877906944 ∧ p.k < 18446744073709551616 ∧ p.r < 18446744073709551616 ∧ p.s < 18446744073709551616
theorem zeroPr_ok : zeroPr.Ok := ⟨by decide, by decide, by decide, by decide⟩
abbrev prC (n : ByteArray) (v : Int) (k : Nat) (t d : Int) (r s : Nat) : Array Value := #[.string n, .int .i64 v, .int .u64 (k : Int), .int .i64 t, .int .i64 d, .int .u64 (r : Int), .int .u64 (s : Int)]
abbrev prV (n : ByteArray) (v : Int) (k : Nat) (t d : Int) (r s : Nat) : Value := .agg (prC n v k t d r s)
abbrev Prm.V (p : Prm) : Value := prV p.n p.v p.k p.t p.d p.r p.s
theorem pr_all (n : ByteArray) (v : Int) (k : Nat) (t d : Int) (r s : Nat) : (prC n v k t d r s).all (·.oneCell') = true := by simp [Value.oneCell']

theorem entR_iff (m : Nat) (v : Int) (k : Nat) : entR m v k = true ↔ (1 ≤ m ∧ m ≤ 32 ∧ 1 ≤ v ∧ v ≤ 1073741824 ∧ 1 ≤ k ∧ k < prime61) := by
  unfold entR
  simp only [Bool.and_eq_true, decide_eq_true_eq, and_assoc]
theorem rightB_zero (m : Nat) (v : Int) (k : Nat) : rightB m v k 0 = entR m v k := by
  unfold rightB
  simp
/-- A tick that may be. -/
def tickR (t : Int) : Bool := decide (0 ≤ t) && decide (t ≤ 1152921504606846976)
theorem tickR_iff (t : Int) : tickR t = true ↔ 0 ≤ t ∧ t ≤ 1152921504606846976 := by
  unfold tickR
  simp only [Bool.and_eq_true, decide_eq_true_eq]
def rightPr (m : Nat) (v : Int) (k : Nat) (t d : Int) : Bool := entR m v k && (decide (0 ≤ t) && decide (t ≤ 1152921504606846936) && decide (d = t + 40))
theorem rightPr_iff (m : Nat) (v : Int) (k : Nat) (t d : Int) : rightPr m v k t d = true ↔ entR m v k = true ∧ 0 ≤ t ∧ t ≤ 1152921504606846936 ∧ d = t + 40 := by
  unfold rightPr
  simp only [Bool.and_eq_true, decide_eq_true_eq, and_assoc]
def Prm.right (p : Prm) : Bool := rightPr p.n.size p.v p.k p.t p.d
theorem zeroPr_right : zeroPr.right = false := by decide
def msgPr (n : ByteArray) (v : Int) (k : Nat) (t d : Int) : List UInt8 := 80 :: (fieldsB n v k ++ leB (U6 t) ++ leB (U6 d))
theorem msgPr_len (n : ByteArray) (v : Int) (k : Nat) (t d : Int) : (msgPr n v k t d).length = 41 + n.size := by simp [msgPr, fieldsB_len, leB_length]; omega
def putPr (n : ByteArray) (v : Int) (k : Nat) (t d : Int) (r s : Nat) : List UInt8 := msgPr n v k t d ++ (leB (r : Int) ++ leB (s : Int))
theorem putPr_len (n : ByteArray) (v : Int) (k : Nat) (t d : Int) (r s : Nat) : (putPr n v k t d r s).length = 57 + n.size := by
  unfold putPr
  rw [List.length_append, msgPr_len]
  simp [leB_length]
  omega
def Prm.msg (p : Prm) : List UInt8 := msgPr p.n p.v p.k p.t p.d
def Prm.put (p : Prm) : List UInt8 := putPr p.n p.v p.k p.t p.d p.r p.s
def Prm.putE (p : Prm) : Int := if p.right then 0 else 23
def Prm.putL (p : Prm) : List UInt8 := if p.right then p.put else []
def Prm.taken (y : Nat) (p : Prm) : Bool := p.right && checkN y p.msg p.r p.s
/-- Make: its error and its promise. -/
def makePrE (m : Nat) (v : Int) (k : Nat) (t : Int) : Int := if entR m v k && tickR t then (if t ≤ 1152921504606846936 then 0 else 31) else 23
def signPr (x : Nat) (n : ByteArray) (v : Int) (k : Nat) (t : Int) : Prm := ⟨n, v, k, t, t + 40, sigR x (msgPr n v k t (t + 40)), sigS x (msgPr n v k t (t + 40))⟩
def makePr (x : Nat) (n : ByteArray) (v : Int) (k : Nat) (t : Int) : Prm := if makePrE n.size v k t = 0 then signPr x n v k t else zeroPr
theorem mkPr_form {m : Nat} {v : Int} {k : Nat} {t : Int} (h : ¬ (entR m v k = true ∧ 0 ≤ t ∧ t ≤ 1152921504606846976)) : makePrE m v k t = 23 := by
  unfold makePrE
  rw [if_neg]
  rw [Bool.and_eq_true, tickR_iff]
  exact h
theorem mkPr_clock {m : Nat} {v : Int} {k : Nat} {t : Int} (h : entR m v k = true) (h0 : 0 ≤ t) (h1 : t ≤ 1152921504606846976) (h2 : ¬ t ≤ 1152921504606846936) : makePrE m v k t = 31 := by
  unfold makePrE
  rw [if_pos (by rw [Bool.and_eq_true, tickR_iff]; exact ⟨h, h0, h1⟩), if_neg h2]
theorem mkPr_ok {m : Nat} {v : Int} {k : Nat} {t : Int} (h : entR m v k = true) (h0 : 0 ≤ t) (h2 : t ≤ 1152921504606846936) : makePrE m v k t = 0 := by
  unfold makePrE
  rw [if_pos (by rw [Bool.and_eq_true, tickR_iff]; exact ⟨h, h0, by omega⟩), if_pos h2]
theorem makePr_none {x : Nat} {n : ByteArray} {v : Int} {k : Nat} {t e : Int} (h : makePrE n.size v k t = e) (h0 : e ≠ 0) : makePr x n v k t = zeroPr := by
  unfold makePr
  rw [h, if_neg h0]
theorem makePr_ok {x : Nat} {n : ByteArray} {v : Int} {k : Nat} {t : Int} (h : makePrE n.size v k t = 0) : makePr x n v k t = signPr x n v k t := by
  unfold makePr
  rw [if_pos h]
theorem sigR_word (x : Nat) (m : List UInt8) : sigR x m < 18446744073709551616 := Nat.lt_trans (sigR_lt _ _) (by decide)
theorem sigS_word (x : Nat) (m : List UInt8) : sigS x m < 18446744073709551616 := Nat.lt_trans (sigS_lt _ _) (by decide)
theorem signPr_ok {n : ByteArray} {k : Nat} (x : Nat) (v : Int) (t : Int) (hn : n.size ≤ 274877906944) (hk : k < 18446744073709551616) : (signPr x n v k t).Ok := ⟨hn, hk, sigR_word _ _, sigS_word _ _⟩
theorem makePr_Ok {n : ByteArray} {k : Nat} (x : Nat) (v : Int) (t : Int) (hn : n.size ≤ 274877906944) (hk : k < 18446744073709551616) : (makePr x n v k t).Ok := by
  unfold makePr
  split
  · exact signPr_ok x v t hn hk
  · exact zeroPr_ok
theorem signPr_right (x : Nat) {n : ByteArray} {v : Int} {k : Nat} {t : Int} (h : makePrE n.size v k t = 0) : (signPr x n v k t).right = true := by
  unfold Prm.right
  rw [rightPr_iff]
  unfold makePrE at h
  split at h
  · rename_i h1
    rw [Bool.and_eq_true, tickR_iff] at h1
    split at h
    · exact ⟨h1.1, h1.2.1, by assumption, rfl⟩
    · omega
  · omega
theorem taken_signPr (x : Nat) {n : ByteArray} {v : Int} {k : Nat} {t : Int} (h : makePrE n.size v k t = 0) : (signPr x n v k t).taken (pubN x) = true := by
  unfold Prm.taken
  rw [signPr_right x h, Bool.true_and]
  unfold Prm.msg signPr
  exact check_sign _ _

/-! ### Which promise any bytes are -/
def rd7 (l : List UInt8) : St := (rd6 l).numS
/-- l: the bytes behind the first one. -/
def prmOf (f : Int → Int) (l : List UInt8) : Prm := ⟨⟨(rdN l).toArray⟩, f (rd1 l).num, (rd2 l).nat, f (rd3 l).num, f (rd4 l).num, (rd5 l).nat, (rd6 l).nat⟩
def readPrE (l : List UInt8) : Int := if 512 < l.length then 22 else if l.length = 0 then 21 else if bAt l 0 ≠ 80 then 20 else if (rd7 (l.drop 1)).e ≠ 0 then (rd7 (l.drop 1)).e else if 0 < (rd7 (l.drop 1)).l.length then 20 else if (prmOf wholeI (l.drop 1)).right then 0 else 23
def readPr (l : List UInt8) : Prm := if readPrE l = 0 then prmOf wholeI (l.drop 1) else zeroPr
theorem readPrE_long {l : List UInt8} (h : 512 < l.length) : readPrE l = 22 := by unfold readPrE; rw [if_pos h]
theorem readPrE_short {l : List UInt8} (h : l.length = 0) : readPrE l = 21 := by unfold readPrE; rw [if_neg (by omega), if_pos h]
theorem readPrE_mark {l : List UInt8} (h : ¬ 512 < l.length) (h1 : ¬ l.length = 0) (h2 : bAt l 0 ≠ 80) : readPrE l = 20 := by unfold readPrE; rw [if_neg h, if_neg h1, if_pos h2]
theorem readPrE_body {l : List UInt8} (h : ¬ 512 < l.length) (h1 : ¬ l.length = 0) (h2 : bAt l 0 = 80) : readPrE l = if (rd7 (l.drop 1)).e ≠ 0 then (rd7 (l.drop 1)).e else if 0 < (rd7 (l.drop 1)).l.length then 20 else if (prmOf wholeI (l.drop 1)).right then 0 else 23 := by unfold readPrE; rw [if_neg h, if_neg h1, if_neg (by simpa using h2)]
theorem readPrE_err {l : List UInt8} (h : ¬ 512 < l.length) (h1 : ¬ l.length = 0) (h2 : bAt l 0 = 80) (h3 : (rd7 (l.drop 1)).e ≠ 0) : readPrE l = (rd7 (l.drop 1)).e := by rw [readPrE_body h h1 h2, if_pos h3]
theorem readPrE_more {l : List UInt8} (h : ¬ 512 < l.length) (h1 : ¬ l.length = 0) (h2 : bAt l 0 = 80) (h3 : ¬ (rd7 (l.drop 1)).e ≠ 0) (h4 : 0 < (rd7 (l.drop 1)).l.length) : readPrE l = 20 := by rw [readPrE_body h h1 h2, if_neg h3, if_pos h4]
theorem readPrE_form {l : List UInt8} (h : ¬ 512 < l.length) (h1 : ¬ l.length = 0) (h2 : bAt l 0 = 80) (h3 : ¬ (rd7 (l.drop 1)).e ≠ 0) (h4 : ¬ 0 < (rd7 (l.drop 1)).l.length) (h5 : (prmOf wholeI (l.drop 1)).right = false) : readPrE l = 23 := by rw [readPrE_body h h1 h2, if_neg h3, if_neg h4, h5]; rfl
theorem readPrE_ok {l : List UInt8} (h : ¬ 512 < l.length) (h1 : ¬ l.length = 0) (h2 : bAt l 0 = 80) (h3 : ¬ (rd7 (l.drop 1)).e ≠ 0) (h4 : ¬ 0 < (rd7 (l.drop 1)).l.length) (h5 : (prmOf wholeI (l.drop 1)).right = true) : readPrE l = 0 := by rw [readPrE_body h h1 h2, if_neg h3, if_neg h4, h5]; rfl
theorem readPr_none {l : List UInt8} {e : Int} (h : readPrE l = e) (h0 : e ≠ 0) : readPr l = zeroPr := by unfold readPr; rw [h, if_neg h0]
theorem readPr_ok {l : List UInt8} (h : readPrE l = 0) : readPr l = prmOf wholeI (l.drop 1) := by unfold readPr; rw [if_pos h]
theorem prmOf_right (f : Int → Int) (l : List UInt8) : (prmOf f l).right = rightPr (rdN l).length (f (rd1 l).num) (rd2 l).nat (f (rd3 l).num) (f (rd4 l).num) := by
  unfold Prm.right prmOf
  simp only [size_of]
/-- Numbers that fit no int are turned down in either way. -/
theorem prm_cut (l : List UInt8) : (prmOf intI l).right = (prmOf wholeI l).right := by
  rw [prmOf_right, prmOf_right, Bool.eq_iff_iff, rightPr_iff, rightPr_iff, entR_iff, entR_iff]
  have a0 := St.num_ge (rd1 l)
  have a1 := St.num_lt (rd1 l)
  have b0 := St.num_ge (rd3 l)
  have b1 := St.num_lt (rd3 l)
  have c0 := St.num_ge (rd4 l)
  have c1 := St.num_lt (rd4 l)
  unfold intI wholeI
  split <;> split <;> split <;> omega
theorem prm_same (l : List UInt8) (h : (prmOf wholeI l).right = true) : prmOf intI l = prmOf wholeI l := by
  rw [prmOf_right, rightPr_iff, entR_iff] at h
  have e : ∀ a : Int, 0 ≤ a → wholeI a ≤ 1152921504606846976 → intI a = wholeI a := fun a h0 h1 => by
    unfold intI wholeI at *
    split <;> omega
  have e1 := e _ (St.num_ge (rd1 l)) (by omega)
  have e3 := e _ (St.num_ge (rd3 l)) (by omega)
  have e4 := e _ (St.num_ge (rd4 l)) (by omega)
  unfold prmOf
  rw [e1, e3, e4]
theorem rd7_len (l : List UInt8) (m : Nat) (h : l.length ≤ m) : (rd7 l).l.length ≤ m := by
  have h1 : (rd1 l).l.length ≤ l.length := St.lumpS_len ⟨l, 0⟩ 32
  have h2 := St.numS_len (rd1 l)
  have h3 := St.numS_len (rd2 l)
  have h4 := St.numS_len (rd3 l)
  have h5 := St.numS_len (rd4 l)
  have h6 := St.numS_len (rd5 l)
  have h7 := St.numS_len (rd6 l)
  unfold rd7 rd6 rd5 rd4 rd3 rd2 at *
  omega
theorem rdN_len (l : List UInt8) : (rdN l).length ≤ l.length := by
  unfold rdN St.lump
  split
  · refine Nat.le_trans (St.raw_len _ _) ?_
    exact St.numS_len ⟨l, 0⟩
  · exact Nat.zero_le _
theorem prmOf_ok (f : Int → Int) (l : List UInt8) (h : l.length ≤ 274877906944) : (prmOf f l).Ok := ⟨by
  show (⟨(rdN l).toArray⟩ : ByteArray).size ≤ _
  rw [size_of]
  exact Nat.le_trans (rdN_len l) h, St.nat_lt _, St.nat_lt _, St.nat_lt _⟩
theorem readPr_Ok (l : List UInt8) (h : l.length ≤ 274877906944) : (readPr l).Ok := by
  unfold readPr
  split
  · exact prmOf_ok _ _ (Nat.le_trans (by rw [List.length_drop]; omega) h)
  · exact zeroPr_ok
/-- What is put is read. -/
theorem read_putPr {p : Prm} (h : p.right = true) (hr : p.r < 18446744073709551616) (hs : p.s < 18446744073709551616) : readPrE p.put = 0 ∧ readPr p.put = p := by
  obtain ⟨n, v, k, t, d, r, s⟩ := p
  have hh := (rightPr_iff _ _ _ _ _).1 h
  have he := (entR_iff _ _ _).1 hh.1
  have hp : prime61 < 18446744073709551616 := by decide
  replace hr : r < 18446744073709551616 := hr
  replace hs : s < 18446744073709551616 := hs
  simp only at he hh
  have hb : (putPr n v k t d r s).drop 1 = (leB (strB n).length ++ strB n) ++ (leB v ++ (leB k ++ (leB t ++ (leB d ++ (leB r ++ (leB s ++ [])))))) := by
    unfold putPr msgPr fieldsB lumpB U6
    rw [Int.emod_eq_of_lt (by omega) (by omega), Int.emod_eq_of_lt (a := t) (by omega) (by omega), Int.emod_eq_of_lt (a := d) (by omega) (by omega)]
    simp only [List.cons_append, List.drop_succ_cons, List.drop_zero, List.append_assoc, List.append_nil]
  have hl := strB_len n
  obtain ⟨L, hL⟩ : ∃ L, L = (putPr n v k t d r s).drop 1 := ⟨_, rfl⟩
  rw [← hL] at hb
  have h1 := St.lump_said (strB n) 32 (by omega) (by omega) (leB v ++ (leB k ++ (leB t ++ (leB d ++ (leB r ++ (leB s ++ []))))))
  have h2 := St.num_said v (by omega) (by omega) (leB k ++ (leB t ++ (leB d ++ (leB r ++ (leB s ++ [])))))
  have h3 := St.num_said k (by omega) (by omega) (leB t ++ (leB d ++ (leB r ++ (leB s ++ []))))
  have h4 := St.num_said t (by omega) (by omega) (leB d ++ (leB r ++ (leB s ++ [])))
  have h5 := St.num_said d (by omega) (by omega) (leB r ++ (leB s ++ []))
  have h6 := St.num_said r (by omega) (by omega) (leB s ++ [])
  have h7 := St.num_said s (by omega) (by omega) []
  have q : rdN L = strB n ∧ rd7 L = ⟨[], 0⟩ ∧ (rd1 L).num = v ∧ (rd2 L).num = k ∧ (rd3 L).num = t ∧ (rd4 L).num = d ∧ (rd5 L).num = r ∧ (rd6 L).num = s := by
    unfold rd7 rd6 rd5 rd4 rd3 rd2 rd1 rdN
    rw [hb, h1.1, h1.2, h2.2, h3.2, h4.2, h5.2, h6.2, h7.2]
    exact ⟨rfl, rfl, h2.1, h3.1, h4.1, h5.1, h6.1, h7.1⟩
  obtain ⟨q0, q1, q2, q3, q4, q5, q6, q7⟩ := q
  have hq : prmOf wholeI L = ⟨n, v, k, t, d, r, s⟩ := by
    have hw : ∀ a : Int, a ≤ 1152921504606846976 → wholeI a = a := fun a ha => by unfold wholeI; omega
    unfold prmOf St.nat
    rw [q0, q2, q3, q4, q5, q6, q7, hw v (by omega), hw t (by omega), hw d (by omega), strB_back]
    simp
  have e0 : readPrE (putPr n v k t d r s) = 0 := by
    refine readPrE_ok (by rw [putPr_len]; omega) (by rw [putPr_len]; omega) rfl ?_ ?_ ?_
    · rw [← hL, q1]; simp
    · rw [← hL, q1]; simp
    · rw [← hL, hq]; exact h
  refine ⟨e0, ?_⟩
  show readPr (putPr n v k t d r s) = _
  rw [readPr_ok e0, ← hL, hq]
end Go.Pm
