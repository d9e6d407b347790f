/- postmarklaw5.bent: some request of which the numbers are within their bounds. -/
import Derived.Test.YtbckjkfdkgomiaaSeatU5
namespace Go.Proofs.Ytbckjkfdkgomiaa
open Go.RowKit Go.Pm
namespace Seat

/-- Within the bounds of Go's types; a name that is not too long. -/
def Fine (q : Req) : Prop := q.n.size ≤ 60 ∧ q.k < 18446744073709551616 ∧ q.r < 18446744073709551616 ∧ q.s < 18446744073709551616
theorem i64_and (v : Int) (m : Nat) (hm : m < 4611686018427387904) : 0 ≤ bits .and .i64 v (m : Int) ∧ bits .and .i64 v (m : Int) ≤ m := by
  have h : bits .and .i64 v (m : Int) = IntKind.i64.wrap ((BitVec.ofInt 64 v &&& BitVec.ofInt 64 (m : Int)).toNat : Int) := rfl
  have hb : (BitVec.ofInt 64 (m : Int)).toNat = m := by rw [BitVec.ofInt_natCast, BitVec.toNat_ofNat]; exact Nat.mod_eq_of_lt (by omega)
  have h2 : (BitVec.ofInt 64 v &&& BitVec.ofInt 64 (m : Int)).toNat ≤ m := by
    rw [BitVec.toNat_and, hb]
    exact Nat.and_le_right
  rw [h, IntKind.wrap_i64]
  omega

set_option maxRecDepth 100000 in
set_option maxHeartbeats 4000000 in
theorem bent0 (n s : ByteArray) (a c : Int) (k r t : Nat) (what : Nat) (v : Int) (w : World) (hi : (what : Int) % 7 = 0) :
    Calls Try.prog 10 #[updV n a k c r t, .int .u8 what, .int .i64 v, .string s] w fun e w' => e = .returned (updV s a k c r t) ∧ Kept None w w' := by
  go_enter Try.func10, Try.ntmps10
  go_wp2
  exact bodyPost_ret (v := updV s a k c r t) (results_blk rfl _ rfl (Blk.new2 w _ _ _) Up.aUpd) rfl ⟨rfl, ((Kept.refl _ _).alloc _).alloc _⟩

set_option maxRecDepth 100000 in
set_option maxHeartbeats 4000000 in
theorem bent1 (n s : ByteArray) (a c : Int) (k r t : Nat) (what : Nat) (v : Int) (w : World) (hi : (what : Int) % 7 = 1) :
    Calls Try.prog 10 #[updV n a k c r t, .int .u8 what, .int .i64 v, .string s] w fun e w' => e = .returned (updV n v k c r t) ∧ Kept None w w' := by
  go_enter Try.func10, Try.ntmps10
  go_wp2
  exact bodyPost_ret (v := updV n v k c r t) (results_blk rfl _ rfl (Blk.new2 w _ _ _) Up.aUpd) rfl ⟨rfl, ((Kept.refl _ _).alloc _).alloc _⟩

set_option maxRecDepth 100000 in
set_option maxHeartbeats 4000000 in
theorem bent2 (n s : ByteArray) (a c : Int) (k r t : Nat) (what : Nat) (v : Int) (w : World) (hi : (what : Int) % 7 = 2) (y : Nat) (hy : IntKind.u64.wrap v = (y : Int)) :
    Calls Try.prog 10 #[updV n a k c r t, .int .u8 what, .int .i64 v, .string s] w fun e w' => e = .returned (updV n a y c r t) ∧ Kept None w w' := by
  go_enter Try.func10, Try.ntmps10
  go_wp2
  exact bodyPost_ret (v := updV n a y c r t) (results_blk rfl _ rfl (Blk.new2 w _ _ _) Up.aUpd) rfl ⟨rfl, ((Kept.refl _ _).alloc _).alloc _⟩

set_option maxRecDepth 100000 in
set_option maxHeartbeats 4000000 in
theorem bent3 (n s : ByteArray) (a c : Int) (k r t : Nat) (what : Nat) (v : Int) (w : World) (hi : (what : Int) % 7 = 3) :
    Calls Try.prog 10 #[updV n a k c r t, .int .u8 what, .int .i64 v, .string s] w fun e w' => e = .returned (updV n a k v r t) ∧ Kept None w w' := by
  go_enter Try.func10, Try.ntmps10
  go_wp2
  exact bodyPost_ret (v := updV n a k v r t) (results_blk rfl _ rfl (Blk.new2 w _ _ _) Up.aUpd) rfl ⟨rfl, ((Kept.refl _ _).alloc _).alloc _⟩

set_option maxRecDepth 100000 in
set_option maxHeartbeats 4000000 in
theorem bent4 (n s : ByteArray) (a c : Int) (k r t : Nat) (what : Nat) (v : Int) (w : World) (hi : (what : Int) % 7 = 4) (y : Nat) (hy : IntKind.u64.wrap v = (y : Int)) :
    Calls Try.prog 10 #[updV n a k c r t, .int .u8 what, .int .i64 v, .string s] w fun e w' => e = .returned (updV n a k c y t) ∧ Kept None w w' := by
  go_enter Try.func10, Try.ntmps10
  go_wp2
  exact bodyPost_ret (v := updV n a k c y t) (results_blk rfl _ rfl (Blk.new2 w _ _ _) Up.aUpd) rfl ⟨rfl, ((Kept.refl _ _).alloc _).alloc _⟩

set_option maxRecDepth 100000 in
set_option maxHeartbeats 4000000 in
theorem bent5 (n s : ByteArray) (a c : Int) (k r t : Nat) (what : Nat) (v : Int) (w : World) (hi : (what : Int) % 7 = 5) (y : Nat) (hy : IntKind.u64.wrap v = (y : Int)) :
    Calls Try.prog 10 #[updV n a k c r t, .int .u8 what, .int .i64 v, .string s] w fun e w' => e = .returned (updV n a k c r y) ∧ Kept None w w' := by
  go_enter Try.func10, Try.ntmps10
  go_wp2
  exact bodyPost_ret (v := updV n a k c r y) (results_blk rfl _ rfl (Blk.new2 w _ _ _) Up.aUpd) rfl ⟨rfl, ((Kept.refl _ _).alloc _).alloc _⟩

set_option maxRecDepth 100000 in
set_option maxHeartbeats 4000000 in
theorem bent6 (n s : ByteArray) (a c : Int) (k r t : Nat) (what : Nat) (v : Int) (w : World) (hi : (what : Int) % 7 = 6) (x y : Nat) (hx : bits .and .i64 v 1 = (x : Int)) (hx2 : IntKind.u64.wrap (x : Int) = (x : Int)) (hy : IntKind.u64.wrap (2305843009213693950 + (x : Int)) = (y : Int)) :
    Calls Try.prog 10 #[updV n a k c r t, .int .u8 what, .int .i64 v, .string s] w fun e w' => e = .returned (updV n a y c r t) ∧ Kept None w w' := by
  go_enter Try.func10, Try.ntmps10
  go_wp2
  exact bodyPost_ret (v := updV n a y c r t) (results_blk rfl _ rfl (Blk.new2 w _ _ _) Up.aUpd) rfl ⟨rfl, ((Kept.refl _ _).alloc _).alloc _⟩

/-- postmarklaw5.bent. -/
theorem bent (q : Req) (what : Nat) (v : Int) (s : ByteArray) (w : World) (hq : Fine q) (hs : s.size ≤ 60) :
    Calls Try.prog 10 #[q.V, .int .u8 what, .int .i64 v, .string s] w fun e w' => ∃ q' : Req, Fine q' ∧ e = .returned q'.V ∧ Kept None w w' := by
  obtain ⟨n, a, k, c, r, t⟩ := q
  obtain ⟨h1, h2, h3, h4⟩ := hq
  have hy : IntKind.u64.wrap v = (((U6 v).toNat : Nat) : Int) := by rw [IntKind.wrap_u64, Int.toNat_of_nonneg (U6_ge v)]
  have hy2 : (U6 v).toNat < 18446744073709551616 := by have := U6_ge v; have := U6_lt v; omega
  have ha : 0 ≤ bits .and .i64 v 1 ∧ bits .and .i64 v 1 ≤ 1 := i64_and v 1 (by decide)
  have hx : bits .and .i64 v 1 = (((bits .and .i64 v 1).toNat : Nat) : Int) := by rw [Int.toNat_of_nonneg ha.1]
  have hx1 : (bits .and .i64 v 1).toNat ≤ 1 := by have := ha.2; omega
  have hc : what % 7 = 0 ∨ what % 7 = 1 ∨ what % 7 = 2 ∨ what % 7 = 3 ∨ what % 7 = 4 ∨ what % 7 = 5 ∨ what % 7 = 6 := by omega
  have hi : (what : Int) % 7 = ((what % 7 : Nat) : Int) := by omega
  rcases hc with h | h | h | h | h | h | h <;> rw [h] at hi
  · exact (bent0 n s a c k r t what v w hi).mono fun e w' ⟨e1, e2⟩ => ⟨⟨s, a, k, c, r, t⟩, ⟨hs, h2, h3, h4⟩, e1, e2⟩
  · exact (bent1 n s a c k r t what v w hi).mono fun e w' ⟨e1, e2⟩ => ⟨⟨n, v, k, c, r, t⟩, ⟨h1, h2, h3, h4⟩, e1, e2⟩
  · exact (bent2 n s a c k r t what v w hi _ hy).mono fun e w' ⟨e1, e2⟩ => ⟨⟨n, a, (U6 v).toNat, c, r, t⟩, ⟨h1, hy2, h3, h4⟩, e1, e2⟩
  · exact (bent3 n s a c k r t what v w hi).mono fun e w' ⟨e1, e2⟩ => ⟨⟨n, a, k, v, r, t⟩, ⟨h1, h2, h3, h4⟩, e1, e2⟩
  · exact (bent4 n s a c k r t what v w hi _ hy).mono fun e w' ⟨e1, e2⟩ => ⟨⟨n, a, k, c, (U6 v).toNat, t⟩, ⟨h1, h2, hy2, h4⟩, e1, e2⟩
  · exact (bent5 n s a c k r t what v w hi _ hy).mono fun e w' ⟨e1, e2⟩ => ⟨⟨n, a, k, c, r, (U6 v).toNat⟩, ⟨h1, h2, h3, hy2⟩, e1, e2⟩
  · refine (bent6 n s a c k r t what v w hi _ (2305843009213693950 + (bits .and .i64 v 1).toNat) hx ?_ ?_).mono fun e w' ⟨e1, e2⟩ => ⟨⟨n, a, 2305843009213693950 + (bits .and .i64 v 1).toNat, c, r, t⟩, ⟨h1, ?_, h3, h4⟩, e1, e2⟩
    · rw [IntKind.wrap_u64]; omega
    · rw [IntKind.wrap_u64, Int.natCast_add]; omega
    · show 2305843009213693950 + (bits .and .i64 v 1).toNat < 18446744073709551616; omega
end Seat
end Go.Proofs.Ytbckjkfdkgomiaa
