/- Package postmarkseat: names, secrets, keys, requests of few numbers; by contract. -/
import Derived.Test.YtbckjkfdkgomiaaRUpd5
namespace Go.Proofs.Ytbckjkfdkgomiaa
open Go.RowKit Go.Pm
namespace Seat

def names : List ByteArray := [⟨#[97]⟩, ⟨#[98]⟩, ⟨#[97, 110, 110]⟩, ⟨#[98, 111, 98]⟩, ⟨#[195, 169]⟩, ⟨#[48, 49, 50, 51, 52, 53, 54, 55, 56, 57, 48, 49, 50, 51, 52, 53, 54, 55, 56, 57, 48, 49, 50, 51, 52, 53, 54, 55, 56, 57, 48, 122]⟩]
/-- Name. -/
def nameS (k : Nat) : ByteArray := names.getD (k % 6) ⟨#[]⟩
theorem nameS_size (k : Nat) : 1 ≤ (nameS k).size ∧ (nameS k).size ≤ 32 := by
  have h : ∀ j, j < 6 → 1 ≤ (names.getD j ⟨#[]⟩).size ∧ (names.getD j ⟨#[]⟩).size ≤ 32 := by decide
  exact h _ (Nat.mod_lt _ (by decide))

set_option maxRecDepth 100000 in
set_option maxHeartbeats 1000000 in
theorem name (k : Nat) (w : World) : Calls Try.prog 9 #[.int .u8 k] w fun e w' => e = .returned (.string (nameS k)) ∧ Kept None w w' := by
  have hk := Nat.mod_lt k (show 0 < 6 by decide)
  have hc : k % 6 = 0 ∨ k % 6 = 1 ∨ k % 6 = 2 ∨ k % 6 = 3 ∨ k % 6 = 4 ∨ k % 6 = 5 := by omega
  have hn : ∀ j, k % 6 = j → nameS k = names.getD j ⟨#[]⟩ := fun j h => by unfold nameS; rw [h]
  rcases hc with h | h | h | h | h | h
  all_goals
    rw [hn _ h]
    have hi : (k : Int) % 6 = ((k % 6 : Nat) : Int) := by omega
    rw [h] at hi
    clear hn hk h
    go_enter Try.func9, Try.ntmps9
    go_wp2
    go_ret
    exact ⟨rfl, (Kept.refl _ _).alloc _⟩

/-- A name's number, byte by byte. -/
def nameI : List UInt8 → Int → Int
  | [], a => a
  | b :: l, a => nameI l (IntKind.u64.wrap (IntKind.u64.wrap (a * 31) + (b.toNat : Int)))
theorem nameI_snoc (l : List UInt8) (b : UInt8) (a : Int) : nameI (l ++ [b]) a = IntKind.u64.wrap (IntKind.u64.wrap (nameI l a * 31) + (b.toNat : Int)) := by
  induction l generalizing a with
  | nil => rfl
  | cons c l ih => exact ih _

theorem name_step (n : ByteArray) (k : Nat) (h : k < n.size) (a : Int) : nameI ((strB n).take (k + 1)) a = IntKind.u64.wrap (IntKind.u64.wrap (nameI ((strB n).take k) a * 31) + IntKind.u64.wrap (n[k].toNat : Int)) := by
  have hk : k < (strB n).length := by rw [strB_len]; exact h
  rw [List.take_succ_eq_append_getElem hk, nameI_snoc]
  have he : (strB n)[k] = n[k] := by simp [strB]; rfl
  rw [he]
  congr 2
  rw [IntKind.wrap_u64]
  have := n[k].toNat_lt
  omega

/-- Secret. -/
def secI (n : ByteArray) (v : Int) (alt : Bool) : Int :=
  let b := IntKind.u64.wrap (IntKind.u64.wrap ((nameI (strB n) (IntKind.u64.wrap ((n.size : Int) * 1000003))).tmod 1000000007 + IntKind.u64.wrap (IntKind.u64.wrap v * 7919)) + 11)
  if alt then IntKind.u64.wrap (b + 500) else b
def secN (n : ByteArray) (v : Int) (alt : Bool) : Nat := (secI n v alt).toNat
theorem secI_ge (n : ByteArray) (v : Int) (alt : Bool) : 0 ≤ secI n v alt := by
  unfold secI
  simp only [IntKind.wrap_u64]
  split <;> omega
theorem secI_lt (n : ByteArray) (v : Int) (alt : Bool) : secI n v alt < 18446744073709551616 := by
  unfold secI
  simp only [IntKind.wrap_u64]
  split <;> omega
theorem secN_eq (n : ByteArray) (v : Int) (alt : Bool) : ((secN n v alt : Nat) : Int) = secI n v alt := Int.toNat_of_nonneg (secI_ge n v alt)
theorem secN_lt (n : ByteArray) (v : Int) (alt : Bool) : secN n v alt < 18446744073709551616 := by
  have := secN_eq n v alt
  have := secI_lt n v alt
  omega

set_option maxRecDepth 100000 in
set_option maxHeartbeats 1000000 in
theorem secret (n : ByteArray) (v : Int) (alt : Bool) (w : World) (hn : n.size ≤ 9223372036854775807) : Calls Try.prog 28 #[.string n, .int .i64 v, .bool alt] w fun e w' => e = .returned (.int .u64 (secN n v alt : Nat)) ∧ w = w' := by
  rw [secN_eq]
  unfold secI
  obtain ⟨A0, hA0⟩ : ∃ A0, A0 = IntKind.u64.wrap ((n.size : Int) * 1000003) := ⟨_, rfl⟩
  have hA1 := hA0.symm
  rw [hA1]
  clear hA0
  obtain ⟨X, hX⟩ : ∃ X, X = nameI (strB n) A0 := ⟨_, rfl⟩
  rw [← hX]
  have HX := hid hX
  clear hX
  go_enter Try.func28, Try.ntmps28
  go_wp2
  go_loop [7, 8] (fun x i => ∃ k : Nat, k ≤ n.size ∧ i = .int .i64 k ∧ x = .int .u64 (nameI ((strB n).take k) A0)) (fun _ i => n.size - (intOf i).toNat)
  case atStart => exact ⟨0, Nat.zero_le _, rfl, rfl⟩
  case round =>
    obtain ⟨k, hk, rfl, rfl⟩ := hrel
    by_cases hlt : k < n.size
    · have hst := name_step n k hlt A0
      go_wp2
      go_round
      case rel => exact ⟨k + 1, by omega, by go_num, by rw [hst]⟩
      case measure => simp [intOf]; omega
    · obtain rfl : k = n.size := by omega
      have hall : (strB n).take n.size = strB n := List.take_of_length_le (by rw [strB_len]; exact Nat.le_refl _)
      rw [hall, ← HX.out]
      clear hall
      cases alt with
      | true =>
        go_wp2
        go_ret
        exact ⟨rfl, rfl⟩
      | false =>
        go_wp2
        go_ret
        exact ⟨rfl, rfl⟩

/-- Key. -/
def keyN (n : ByteArray) (v : Int) (alt : Bool) : Nat := pubN (secN n v alt)
theorem keyN_lt (n : ByteArray) (v : Int) (alt : Bool) : keyN n v alt < 18446744073709551616 := Nat.lt_trans (pubN_lt _) (by decide)
set_option maxHeartbeats 1000000 in
theorem key (n : ByteArray) (v : Int) (alt : Bool) (w : World) (hn : n.size ≤ 9223372036854775807) : Calls Try.prog 21 #[.string n, .int .i64 v, .bool alt] w fun e w' => e = .returned (.int .u64 (keyN n v alt : Nat)) ∧ Kept None w w' := by
  have h1 := fun w => secret n v alt w hn
  have h2 := fun w => Ref.pub (secN n v alt) w
  rw [show pubN (secN n v alt) = keyN n v alt from rfl] at h2
  obtain ⟨S, hS⟩ : ∃ S, S = secN n v alt := ⟨_, rfl⟩
  obtain ⟨K, hK⟩ : ∃ K, K = keyN n v alt := ⟨_, rfl⟩
  rw [← hS] at h1 h2
  rw [← hK] at h2 ⊢
  have H := hid (And.intro h1 h2)
  clear h1 h2 hS hK
  go_enter Try.func21, Try.ntmps21
  go_wp2_with fail
  refine (H.out.1 _).mono ?_
  rintro e w1 ⟨rfl, rfl⟩
  go_wp2_with fail
  refine (H.out.2 _).mono ?_
  rintro e w2 ⟨rfl, k2⟩
  go_wp2
  go_ret
  exact ⟨rfl, k2⟩

/-- Who signs. -/
def byN (n : ByteArray) (v : Int) (b5 b6 : Bool) : Nat := if b5 then (secN n (max (v - 1) 1) (b6 && v == 1) + 3) % 18446744073709551616 else secN n (max (v - 1) 1) (b6 && v == 1)
/-- Update. -/
def reqB (n : ByteArray) (v : Int) (cl : Nat) (b5 b6 b7 : Bool) : Req :=
  let k := keyN n v b6
  ⟨n, v, k, if b7 then 5 else (cl % 2 : Nat), sigR (byN n v b5 b6) (msgB n v k), sigS (byN n v b5 b6) (msgB n v k)⟩
def req (n : ByteArray) (v : Int) (cl how : Nat) : Req := reqB n v cl (how % 8 == 5) (how % 8 == 6) (how % 8 == 7)
end Seat
end Go.Proofs.Ytbckjkfdkgomiaa
