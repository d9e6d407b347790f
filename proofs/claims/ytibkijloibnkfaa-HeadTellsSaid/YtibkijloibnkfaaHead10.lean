/- Heads, as plain mathematics: which may be, their bytes, which any bytes are. -/
import Derived.Test.YtibkijloibnkfaaStAt7
import Derived.Test.YtibkijloibnkfaaApp7
namespace Go.Pm
open Go Go.RowKit

structure Hd where
  e : Int
  t : Int
  c : Int
  root : List UInt8
  log : List UInt8
  r : Nat
  s : Nat
  deriving DecidableEq
def zeroHd : Hd := ⟨0, 0, 0, zero32, zero32, 0, 0⟩
/-- Its hashes have 32 bytes, its numbers are words. -/
def Hd.Ok (h : Hd) : Prop := h.root.length = 32 ∧ h.log.length = 32 ∧ h.r < 18446744073709551616 ∧ h.s < 18446744073709551616
theorem zeroHd_ok : zeroHd.Ok := ⟨rfl, rfl, by decide, by decide⟩
def hdC (h : Hd) : List Value := .int .i64 h.e :: .int .i64 h.t :: .int .i64 h.c :: (h.root.map u8v ++ (h.log.map u8v ++ [.int .u64 (h.r : Int), .int .u64 (h.s : Int)]))
abbrev hdV (h : Hd) : Value := .agg (hdC h).toArray
theorem hdC_len {h : Hd} (hk : h.Ok) : (hdC h).length = 69 := by
  unfold hdC
  simp [hk.1, hk.2.1]
theorem hdC_size {h : Hd} (hk : h.Ok) : (hdC h).toArray.size = 69 := by simpa using hdC_len hk
theorem hdC_one (h : Hd) : (hdC h).toArray.all (·.oneCell') = true := by
  refine all_oneCell_toArray (fun c hc => ?_)
  unfold hdC at hc
  simp only [List.mem_cons, List.mem_append, List.mem_map, List.not_mem_nil, or_false] at hc
  rcases hc with rfl | rfl | rfl | ⟨_, _, rfl⟩ | ⟨_, _, rfl⟩ | rfl | rfl <;> rfl

/-! ### Its parts, in a block -/
theorem hd_c0 {w : World} {g : Nat} {h : Hd} {t : TypeId} (hb : Blk w g (hdC h).toArray t) : w.cell? ⟨g, 0, none⟩ = some (.int .i64 h.e) := by rw [hb.cell]; rfl
theorem hd_c1 {w : World} {g : Nat} {h : Hd} {t : TypeId} (hb : Blk w g (hdC h).toArray t) : w.cell? ⟨g, 1, none⟩ = some (.int .i64 h.t) := by rw [hb.cell]; rfl
theorem hd_c2 {w : World} {g : Nat} {h : Hd} {t : TypeId} (hb : Blk w g (hdC h).toArray t) : w.cell? ⟨g, 2, none⟩ = some (.int .i64 h.c) := by rw [hb.cell]; rfl
theorem hd_rest {w : World} {g : Nat} {h : Hd} {t : TypeId} (hb : Blk w g (hdC h).toArray t) : w.rangeAt g 3 (h.root.map u8v ++ (h.log.map u8v ++ [.int .u64 (h.r : Int), .int .u64 (h.s : Int)])) := fun j v hj => by
  rw [hb.cell, show 3 + j = j + 1 + 1 + 1 by omega]
  simpa [hdC] using hj
theorem hd_rr {w : World} {g : Nat} {h : Hd} {t : TypeId} (hb : Blk w g (hdC h).toArray t) : w.rangeAt g 3 (h.root.map u8v) := fun j v hj => by
  refine hd_rest hb j v ?_
  have hl : j < (h.root.map u8v).length := (List.getElem?_eq_some_iff.1 hj).1
  rwa [List.getElem?_append_left hl]
theorem hd_tail {w : World} {g : Nat} {h : Hd} {t : TypeId} (hb : Blk w g (hdC h).toArray t) (hk : h.Ok) : w.rangeAt g 35 (h.log.map u8v ++ [.int .u64 (h.r : Int), .int .u64 (h.s : Int)]) := fun j v hj => by
  have h1 := hd_rest hb (32 + j) v (by
    rw [List.getElem?_append_right (by simp [hk.1]), List.length_map, hk.1, Nat.add_sub_cancel_left]
    exact hj)
  rwa [show 3 + (32 + j) = 35 + j by omega] at h1
theorem hd_rl {w : World} {g : Nat} {h : Hd} {t : TypeId} (hb : Blk w g (hdC h).toArray t) (hk : h.Ok) : w.rangeAt g 35 (h.log.map u8v) := fun j v hj => by
  refine hd_tail hb hk j v ?_
  have hl : j < (h.log.map u8v).length := (List.getElem?_eq_some_iff.1 hj).1
  rwa [List.getElem?_append_left hl]
theorem hd_rs {w : World} {g : Nat} {h : Hd} {t : TypeId} (hb : Blk w g (hdC h).toArray t) (hk : h.Ok) : w.rangeAt g 67 [.int .u64 (h.r : Int), .int .u64 (h.s : Int)] := fun j v hj => by
  have h1 := hd_tail hb hk (32 + j) v (by
    rw [List.getElem?_append_right (by simp [hk.2.1]), List.length_map, hk.2.1, Nat.add_sub_cancel_left]
    exact hj)
  rwa [show 35 + (32 + j) = 67 + j by omega] at h1
theorem hd_c67 {w : World} {g : Nat} {h : Hd} {t : TypeId} (hb : Blk w g (hdC h).toArray t) (hk : h.Ok) : w.cell? ⟨g, 67, none⟩ = some (.int .u64 (h.r : Int)) := hd_rs hb hk 0 _ rfl
theorem hd_c68 {w : World} {g : Nat} {h : Hd} {t : TypeId} (hb : Blk w g (hdC h).toArray t) (hk : h.Ok) : w.cell? ⟨g, 68, none⟩ = some (.int .u64 (h.s : Int)) := hd_rs hb hk 1 _ rfl

/-! ### Its parts, stored over -/
theorem hd_cut_root {h : Hd} (hk : h.Ok) (x : List UInt8) : (hdC h).take 3 ++ x.map u8v ++ (hdC h).drop (3 + 32) = hdC { h with root := x } := by
  have hi : (h.root.map u8v).length = 32 := by simp [hk.1]
  unfold hdC
  simp only [List.take_succ_cons, List.take_zero, List.drop_succ_cons, show 3 + 32 = 32 + 1 + 1 + 1 from rfl]
  rw [List.drop_left' hi]
  simp
theorem hd_cut_log {h : Hd} (hk : h.Ok) (x : List UInt8) : (hdC h).take 35 ++ x.map u8v ++ (hdC h).drop (35 + 32) = hdC { h with log := x } := by
  have hi : (h.root.map u8v).length = 32 := by simp [hk.1]
  have hl : (h.log.map u8v).length = 32 := by simp [hk.2.1]
  unfold hdC
  simp only [List.take_succ_cons, List.drop_succ_cons, show 35 = 32 + 1 + 1 + 1 from rfl, show 32 + 1 + 1 + 1 + 32 = (32 + 32) + 1 + 1 + 1 from rfl]
  rw [List.take_left' hi, ← List.append_assoc (h.root.map u8v), List.drop_left' (by rw [List.length_append, hi, hl])]
  simp
theorem hd_set_r {h : Hd} (hk : h.Ok) (r : Nat) : (hdC h).toArray.setIfInBounds 67 (.int .u64 (r : Int)) = (hdC { h with r := r }).toArray := by
  have hi : (h.root.map u8v).length = 32 := by simp [hk.1]
  have hl : (h.log.map u8v).length = 32 := by simp [hk.2.1]
  simp only [List.setIfInBounds_toArray]
  congr 1
  unfold hdC
  simp only [show 67 = 64 + 1 + 1 + 1 from rfl, List.set_cons_succ]
  rw [List.set_append_right _ _ (by omega), hi, List.set_append_right _ _ (by omega), hl]
  rfl
theorem hd_set_s {h : Hd} (hk : h.Ok) (s : Nat) : (hdC h).toArray.setIfInBounds 68 (.int .u64 (s : Int)) = (hdC { h with s := s }).toArray := by
  have hi : (h.root.map u8v).length = 32 := by simp [hk.1]
  have hl : (h.log.map u8v).length = 32 := by simp [hk.2.1]
  simp only [List.setIfInBounds_toArray]
  congr 1
  unfold hdC
  simp only [show 68 = 65 + 1 + 1 + 1 from rfl, List.set_cons_succ]
  rw [List.set_append_right _ _ (by omega), hi, List.set_append_right _ _ (by omega), hl]
  rfl
theorem hd_set_sig {h : Hd} (hk : h.Ok) (r s : Nat) (hr : r < 18446744073709551616) : ((hdC h).toArray.setIfInBounds 67 (.int .u64 (r : Int))).setIfInBounds 68 (.int .u64 (s : Int)) = (hdC { h with r := r, s := s }).toArray := by
  rw [hd_set_r hk, hd_set_s (h := { h with r := r }) ⟨hk.1, hk.2.1, hr, hk.2.2.2⟩]
theorem hd_set_e (h : Hd) (x : Int) : (hdC h).toArray.setIfInBounds 0 (.int .i64 x) = (hdC { h with e := x }).toArray := by simp [hdC]
theorem hd_set_t (h : Hd) (x : Int) : (hdC h).toArray.setIfInBounds 1 (.int .i64 x) = (hdC { h with t := x }).toArray := by simp [hdC]
theorem hd_set_c (h : Hd) (x : Int) : (hdC h).toArray.setIfInBounds 2 (.int .i64 x) = (hdC { h with c := x }).toArray := by simp [hdC]

/-! ### Which may be, their bytes -/
def rightHd (h : Hd) : Bool := decide (1 ≤ h.e) && decide (h.e ≤ 1073741824) && decide (0 ≤ h.t) && decide (h.t ≤ 1152921504606846976) && decide (1 ≤ h.c) && decide (h.c ≤ 8)
theorem rightHd_iff (h : Hd) : rightHd h = true ↔ 1 ≤ h.e ∧ h.e ≤ 1073741824 ∧ 0 ≤ h.t ∧ h.t ≤ 1152921504606846976 ∧ 1 ≤ h.c ∧ h.c ≤ 8 := by
  unfold rightHd
  simp only [Bool.and_eq_true, decide_eq_true_eq]
  omega
theorem rightHd_no {h : Hd} (hn : ¬ (1 ≤ h.e ∧ h.e ≤ 1073741824 ∧ 0 ≤ h.t ∧ h.t ≤ 1152921504606846976 ∧ 1 ≤ h.c ∧ h.c ≤ 8)) : rightHd h = false := by
  rw [← Bool.not_eq_true, rightHd_iff]
  exact hn
def msgHd (h : Hd) : List UInt8 := [72] ++ leB (U6 h.e) ++ leB (U6 h.t) ++ leB (U6 h.c) ++ h.root ++ h.log
theorem msgHd_len {h : Hd} (hk : h.Ok) : (msgHd h).length = 89 := by
  unfold msgHd
  simp [leB_length, hk.1, hk.2.1]
def putHd (h : Hd) : List UInt8 := msgHd h ++ (leB (h.r : Int) ++ leB (h.s : Int))
theorem putHd_len {h : Hd} (hk : h.Ok) : (putHd h).length = 105 := by
  unfold putHd
  rw [List.length_append, msgHd_len hk]
  rfl
def putHdE (h : Hd) : Int := if rightHd h then 0 else 23
def putHdL (h : Hd) : List UInt8 := if rightHd h then putHd h else []
def takenHd (y : Nat) (h : Hd) : Bool := rightHd h && checkN y (msgHd h) h.r h.s
def signHd (x : Nat) (h : Hd) : Hd := { h with r := sigR x (msgHd h), s := sigS x (msgHd h) }
theorem msgHd_sig (h : Hd) (r s : Nat) : msgHd { h with r := r, s := s } = msgHd h := rfl
theorem rightHd_sig (h : Hd) (r s : Nat) : rightHd { h with r := r, s := s } = rightHd h := rfl
theorem okHd_sig {h : Hd} (hk : h.Ok) {r s : Nat} (hr : r < 18446744073709551616) (hs : s < 18446744073709551616) : Hd.Ok { h with r := r, s := s } := ⟨hk.1, hk.2.1, hr, hs⟩
theorem takenHd_sig (y : Nat) (h : Hd) (r s : Nat) : takenHd y { h with r := r, s := s } = (rightHd h && checkN y (msgHd h) r s) := rfl
theorem signHd_msg (x : Nat) (h : Hd) : msgHd (signHd x h) = msgHd h := msgHd_sig _ _ _
theorem signHd_right (x : Nat) (h : Hd) : rightHd (signHd x h) = rightHd h := rightHd_sig _ _ _
theorem word_lt {n : Nat} (h : n < prime61) : n < 18446744073709551616 := Nat.lt_trans h (by decide)
theorem signHd_ok (x : Nat) {h : Hd} (hk : h.Ok) : (signHd x h).Ok := okHd_sig hk (word_lt (sigR_lt _ _)) (Nat.lt_trans (sigS_lt _ _) (by decide))
theorem taken_sign (x : Nat) (h : Hd) : takenHd (pubN x) (signHd x h) = rightHd h := by
  unfold signHd
  rw [takenHd_sig, check_sign, Bool.and_true]

/-! ### Which head any bytes are -/
/-- l: the bytes behind the first one. -/
def headOf (f : Int → Int) (l : List UInt8) : Hd := ⟨f (stAt l 0).num, f (stAt l 8).num, f (stAt l 16).num, hashO (stAt l 24), hashO (stAt l 56), (stAt l 88).nat, (stAt l 96).nat⟩
theorem headOf_ok (f : Int → Int) (l : List UInt8) : (headOf f l).Ok := ⟨hashO_len _, hashO_len _, St.nat_lt _, St.nat_lt _⟩
def readHdE (l : List UInt8) : Int := if 512 < l.length then 22 else if l.length < 105 then 21 else if 105 < l.length ∨ bAt l 0 ≠ 72 then 20 else if rightHd (headOf wholeI (l.drop 1)) then 0 else 23
def readHd (l : List UInt8) : Hd := if readHdE l = 0 then headOf wholeI (l.drop 1) else zeroHd
theorem readHd_ok (l : List UInt8) : (readHd l).Ok := by
  unfold readHd
  split
  · exact headOf_ok _ _
  · exact zeroHd_ok
/-- Numbers that fit no int are turned down in either way. -/
theorem cut_le (a : Int) (h0 : 0 ≤ a) (h1 : a < 18446744073709551616) (lo m : Int) (hlo : 0 ≤ lo) (hm : m < 9223372036854775807) : (lo ≤ intI a ∧ intI a ≤ m) ↔ (lo ≤ wholeI a ∧ wholeI a ≤ m) := by
  unfold intI wholeI
  split <;> omega
theorem cut_same (a : Int) (h0 : 0 ≤ a) (m : Int) (hm : m < 9223372036854775807) (h : wholeI a ≤ m) : intI a = wholeI a := by
  unfold intI wholeI at *
  split <;> omega
theorem right_cut (l : List UInt8) : rightHd (headOf intI l) = rightHd (headOf wholeI l) := by
  rw [Bool.eq_iff_iff, rightHd_iff, rightHd_iff]
  have h1 := cut_le (stAt l 0).num (St.num_ge _) (St.num_lt _) 1 1073741824 (by decide) (by decide)
  have h2 := cut_le (stAt l 8).num (St.num_ge _) (St.num_lt _) 0 1152921504606846976 (by decide) (by decide)
  have h3 := cut_le (stAt l 16).num (St.num_ge _) (St.num_lt _) 1 8 (by decide) (by decide)
  show (1 ≤ intI (stAt l 0).num ∧ intI (stAt l 0).num ≤ 1073741824 ∧ 0 ≤ intI (stAt l 8).num ∧ intI (stAt l 8).num ≤ 1152921504606846976 ∧ 1 ≤ intI (stAt l 16).num ∧ intI (stAt l 16).num ≤ 8) ↔ (1 ≤ wholeI (stAt l 0).num ∧ wholeI (stAt l 0).num ≤ 1073741824 ∧ 0 ≤ wholeI (stAt l 8).num ∧ wholeI (stAt l 8).num ≤ 1152921504606846976 ∧ 1 ≤ wholeI (stAt l 16).num ∧ wholeI (stAt l 16).num ≤ 8)
  omega
theorem same_cut (l : List UInt8) (h : rightHd (headOf wholeI l) = true) : headOf intI l = headOf wholeI l := by
  have h := (rightHd_iff _).1 h
  have e1 := cut_same (stAt l 0).num (St.num_ge _) 1073741824 (by decide) h.2.1
  have e2 := cut_same (stAt l 8).num (St.num_ge _) 1152921504606846976 (by decide) h.2.2.2.1
  have e3 := cut_same (stAt l 16).num (St.num_ge _) 8 (by decide) h.2.2.2.2.2
  unfold headOf
  rw [e1, e2, e3]
/-- What was put comes back. -/
theorem read_putHd {h : Hd} (hk : h.Ok) (hr : rightHd h = true) : readHdE (putHd h) = 0 ∧ readHd (putHd h) = h := by
  have hl := putHd_len hk
  have hi := (rightHd_iff _).1 hr
  have w1 : U6 h.e = h.e := by unfold U6; omega
  have w2 : U6 h.t = h.t := by unfold U6; omega
  have w3 : U6 h.c = h.c := by unfold U6; omega
  have e0 : (putHd h).drop 1 = leB h.e ++ (leB h.t ++ (leB h.c ++ (h.root ++ (h.log ++ (leB (h.r : Int) ++ leB (h.s : Int)))))) := by
    unfold putHd msgHd
    rw [w1, w2, w3]
    simp
  obtain ⟨l, hL⟩ : ∃ l, l = (putHd h).drop 1 := ⟨_, rfl⟩
  have hll : l.length = 104 := by rw [hL, List.length_drop, hl]
  rw [← hL] at e0
  have L8 : ∀ n, (leB n).length = 8 := leB_length
  have d8 : l.drop 8 = leB h.t ++ (leB h.c ++ (h.root ++ (h.log ++ (leB (h.r : Int) ++ leB (h.s : Int))))) := by rw [e0, List.drop_left' (L8 _)]
  have d16 : l.drop 16 = leB h.c ++ (h.root ++ (h.log ++ (leB (h.r : Int) ++ leB (h.s : Int)))) := by rw [show 16 = 8 + 8 from rfl, ← List.drop_drop, d8, List.drop_left' (L8 _)]
  have d24 : l.drop 24 = h.root ++ (h.log ++ (leB (h.r : Int) ++ leB (h.s : Int))) := by rw [show 24 = 16 + 8 from rfl, ← List.drop_drop, d16, List.drop_left' (L8 _)]
  have d56 : l.drop 56 = h.log ++ (leB (h.r : Int) ++ leB (h.s : Int)) := by rw [show 56 = 24 + 32 from rfl, ← List.drop_drop, d24, List.drop_left' hk.1]
  have d88 : l.drop 88 = leB (h.r : Int) ++ leB (h.s : Int) := by rw [show 88 = 56 + 32 from rfl, ← List.drop_drop, d56, List.drop_left' hk.2.1]
  have d96 : l.drop 96 = leB (h.s : Int) ++ [] := by rw [show 96 = 88 + 8 from rfl, ← List.drop_drop, d88, List.drop_left' (L8 _), List.append_nil]
  have n0 := num_of (l := l) (t := 0) (n := h.e) (by rw [List.drop_zero]; exact e0) (by omega) (by omega) (by omega)
  have n8 := num_of d8 (by omega) (by omega) (by omega)
  have n16 := num_of d16 (by omega) (by omega) (by omega)
  have n88 := num_of d88 (by omega) (by omega) (by have := hk.2.2.1; omega)
  have n96 := num_of d96 (by omega) (by omega) (by have := hk.2.2.2; omega)
  have hr24 := hashO_of d24 (by omega) hk.1
  have hr56 := hashO_of d56 (by omega) hk.2.1
  have t88 : (stAt l 88).nat = h.r := by unfold St.nat; rw [n88]; omega
  have t96 : (stAt l 96).nat = h.s := by unfold St.nat; rw [n96]; omega
  have eh : headOf wholeI l = h := by
    unfold headOf
    rw [n0, n8, n16, hr24, hr56, t88, t96, show wholeI h.e = h.e by unfold wholeI; omega, show wholeI h.t = h.t by unfold wholeI; omega, show wholeI h.c = h.c by unfold wholeI; omega]
  have b0 : bAt (putHd h) 0 = 72 := by
    unfold putHd msgHd
    simp [bAt]
  have er : readHdE (putHd h) = 0 := by
    unfold readHdE
    rw [if_neg (by omega), if_neg (by omega), if_neg (by rw [b0]; omega), ← hL, eh, if_pos hr]
  refine ⟨er, ?_⟩
  unfold readHd
  rw [if_pos er, ← hL, eh]
end Go.Pm
