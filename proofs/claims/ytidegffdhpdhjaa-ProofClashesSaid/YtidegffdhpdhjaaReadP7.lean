/- Reading a proof, as plain mathematics. -/
import Derived.Test.YtidegffdhpdhjaaPut7
import Derived.Test.YtidegffdhpdhjaaStAt7
namespace Go.Pm
open Go Go.RowKit
/-- So many hashes. -/
def hashesO (s : St) : Nat → List (List UInt8)
  | 0 => []
  | k + 1 => hashesO s k ++ [hashO (s.rawS (32 * k : Nat))]
theorem hashesO_len (s : St) : ∀ k, (hashesO s k).length = k
  | 0 => rfl
  | k + 1 => by simp [hashesO, hashesO_len s k]
theorem hashesO_ok (s : St) : ∀ k, H32 (hashesO s k)
  | 0 => H32.nil
  | k + 1 => (hashesO_ok s k).append (H32.one (hashO_len _))
/-- How many hashes the bytes speak of. -/
def manyR (l : List UInt8) : Nat := if 8 ≤ l.length then (leV l).toNat else 0
theorem many_num (l : List UInt8) : ((manyR l : Nat) : Int) = (stAt l 0).num := by
  rw [stAt_zero]
  unfold manyR St.num
  by_cases h : 8 ≤ l.length
  · rw [if_pos h, if_pos ⟨rfl, h⟩]; exact Int.toNat_of_nonneg (leV_ge l)
  · rw [if_neg h, if_neg (fun q => h q.2)]; rfl
/-- The End that they tell. -/
def endR (l : List UInt8) : Int := (stAt l (8 + 32 * manyR l)).num
def readEP (l : List UInt8) : Int :=
  if 256 < manyR l then 22 else if l.length < 80 + 32 * manyR l then 21 else if 2 < endR l ∨ 80 + 32 * manyR l < l.length then 20 else 0
def readPf (l : List UInt8) : Pf := ⟨hashesO (stAt l 8) (manyR l), endR l, ⟨hashO (stAt l (16 + 32 * manyR l)), hashO (stAt l (48 + 32 * manyR l))⟩⟩
def readQP (l : List UInt8) : Pf := if readEP l = 0 then readPf l else zeroPf
theorem readPf_ok (l : List UInt8) : (readPf l).Ok := ⟨hashesO_ok _ _, hashO_len _, hashO_len _⟩
theorem readQP_ok (l : List UInt8) : (readQP l).Ok := by unfold readQP; split; exact readPf_ok l; exact zeroPf_ok

/-! ### What was put comes back -/
theorem flat32 : ∀ {l : List (List UInt8)}, H32 l → l.flatten.length = 32 * l.length
  | [], _ => rfl
  | a :: l, h => by rw [List.flatten_cons, List.length_append, flat32 h.tail, h.head, List.length_cons]; omega
theorem putP_form (p : Pf) : putP p = leB p.path.length ++ (p.path.flatten ++ (leB (U6 p.e) ++ (p.x.i ++ p.x.v))) := by
  unfold putP
  simp
theorem putP_len {p : Pf} (hp : p.Ok) : (putP p).length = 80 + 32 * p.path.length := by
  rw [putP_form]
  simp only [List.length_append, leB_length, flat32 hp.1, hp.2.1, hp.2.2]
  omega
theorem flat_at : ∀ (ps : List (List UInt8)), H32 ps → ∀ (k : Nat) (hk : k < ps.length) (r : List UInt8), (ps.flatten ++ r).drop (32 * k) = ps[k] ++ ((ps.drop (k + 1)).flatten ++ r)
  | [], _, k, hk, _ => by simp at hk
  | a :: ps, h, 0, _, r => by simp
  | a :: ps, h, k + 1, hk, r => by
    have ih := flat_at ps h.tail k (by simpa using hk) r
    rw [List.flatten_cons, List.append_assoc, show 32 * (k + 1) = 32 + 32 * k by omega, ← List.drop_drop, List.drop_left' h.head, ih]
    simp
theorem hashesO_of (l r : List UInt8) (ps : List (List UInt8)) (hp : H32 ps) (t : Nat) (hd : l.drop t = ps.flatten ++ r) (ht : t ≤ l.length) : ∀ k, k ≤ ps.length → hashesO (stAt l t) k = ps.take k
  | 0, _ => by simp [hashesO]
  | k + 1, hk => by
    have hlt : k < ps.length := by omega
    have h2 : ps[k].length = 32 := hp _ (List.getElem_mem hlt)
    have hlen : t + 32 * ps.length ≤ l.length := by
      have := congrArg List.length hd
      rw [List.length_drop, List.length_append, flat32 hp] at this
      omega
    have hd2 : l.drop (t + 32 * k) = ps[k] ++ ((ps.drop (k + 1)).flatten ++ r) := by rw [← List.drop_drop, hd, flat_at ps hp k hlt r]
    show hashesO (stAt l t) k ++ [hashO ((stAt l t).rawS (32 * k : Nat))] = _
    rw [hashesO_of l r ps hp t hd ht k (by omega), stAt_raw, List.take_succ_eq_append_getElem hlt, hashO_of hd2 (by omega) h2]
/-- Of what begins with a proof's bytes. -/
theorem read_begin {p : Pf} (hp : p.Ok) (hn : p.path.length < 18446744073709551616) (r : List UInt8) : manyR (putP p ++ r) = p.path.length ∧ endR (putP p ++ r) = U6 p.e ∧ readPf (putP p ++ r) = ⟨p.path, U6 p.e, p.x⟩ := by
  have hlen := putP_len hp
  obtain ⟨l, hl⟩ : ∃ l, l = putP p ++ r := ⟨_, rfl⟩
  have hL : l.length = 80 + 32 * p.path.length + r.length := by rw [hl, List.length_append, hlen]
  have d0 : l.drop 0 = leB p.path.length ++ (p.path.flatten ++ (leB (U6 p.e) ++ (p.x.i ++ p.x.v)) ++ r) := by rw [hl, putP_form, List.drop_zero, List.append_assoc]
  have d8 : l.drop 8 = p.path.flatten ++ (leB (U6 p.e) ++ (p.x.i ++ (p.x.v ++ r))) := by
    have h2 : l = leB p.path.length ++ (p.path.flatten ++ (leB (U6 p.e) ++ (p.x.i ++ p.x.v)) ++ r) := by simpa using d0
    rw [h2, List.drop_left' (leB_length _)]
    simp
  have dE : l.drop (8 + 32 * p.path.length) = leB (U6 p.e) ++ (p.x.i ++ (p.x.v ++ r)) := by rw [← List.drop_drop, d8, List.drop_left' (flat32 hp.1)]
  have dI : l.drop (16 + 32 * p.path.length) = p.x.i ++ (p.x.v ++ r) := by
    rw [show 16 + 32 * p.path.length = (8 + 32 * p.path.length) + 8 by omega, ← List.drop_drop, dE, List.drop_left' (leB_length _)]
  have dV : l.drop (48 + 32 * p.path.length) = p.x.v ++ r := by
    rw [show 48 + 32 * p.path.length = (16 + 32 * p.path.length) + 32 by omega, ← List.drop_drop, dI, List.drop_left' hp.2.1]
  have hm : manyR l = p.path.length := by
    have h1 := many_num l
    rw [num_of d0 (Nat.zero_le _) (by omega) (by omega)] at h1
    exact Int.ofNat.inj h1
  have he : endR l = U6 p.e := by
    unfold endR
    rw [hm]
    exact num_of dE (by omega) (U6_ge _) (U6_lt _)
  rw [← hl]
  refine ⟨hm, he, ?_⟩
  unfold readPf
  rw [hm, he, hashesO_of l _ p.path hp.1 8 d8 (by omega) _ (Nat.le_refl _), List.take_length, hashO_of dI (by omega) hp.2.1, hashO_of dV (by omega) hp.2.2]
theorem U6_small {e : Int} (h0 : 0 ≤ e) (h1 : e < 18446744073709551616) : U6 e = e := by unfold U6; omega
/-- What may be comes back. -/
theorem read_put' {p : Pf} (hp : p.Ok) (hn : p.path.length ≤ 256) (he : 0 ≤ p.e ∧ p.e ≤ 2) : readEP (putP p) = 0 ∧ readQP (putP p) = p := by
  obtain ⟨h1, h2, h3⟩ := read_begin hp (by omega) []
  rw [List.append_nil] at h1 h2 h3
  rw [U6_small he.1 (by omega)] at h2 h3
  have hE : readEP (putP p) = 0 := by
    unfold readEP
    rw [h1, h2, putP_len hp, if_neg (by omega), if_neg (by omega), if_neg (by omega)]
  refine ⟨hE, ?_⟩
  unfold readQP
  rw [if_pos hE, h3]
/-- With more behind it it is none. -/
theorem read_longer {p : Pf} (hp : p.Ok) (hn : p.path.length ≤ 256) {r : List UInt8} (hr : 0 < r.length) : readEP (putP p ++ r) = 20 := by
  obtain ⟨h1, _, _⟩ := read_begin hp (by omega) r
  unfold readEP
  rw [h1, List.length_append, putP_len hp, if_neg (by omega), if_neg (by omega), if_pos (.inr (by omega))]
/-- Cut off it is none. -/
theorem read_cut {p : Pf} (hp : p.Ok) (hn : p.path.length ≤ 256) {k : Nat} (hk : k < (putP p).length) : readEP ((putP p).take k) = 21 := by
  have hl : ((putP p).take k).length = k := by rw [List.length_take]; omega
  rw [putP_len hp] at hk
  unfold readEP
  by_cases h8 : 8 ≤ k
  · have hm : manyR ((putP p).take k) = p.path.length := by
      obtain ⟨h1, _, _⟩ := read_begin hp (by omega) []
      rw [List.append_nil] at h1
      rw [← h1]
      unfold manyR
      rw [hl, if_pos h8, if_pos (by rw [putP_len hp]; omega), ← leV_take ((putP p).take k), List.take_take, Nat.min_eq_left h8, leV_take]
    rw [hm, hl, if_neg (by omega), if_pos (by omega)]
  · have hm : manyR ((putP p).take k) = 0 := by unfold manyR; rw [hl, if_neg h8]
    rw [hm, hl, if_neg (by omega), if_pos (by omega)]
end Go.Pm
