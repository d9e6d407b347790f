/- postmarklaw3.edge: some number. -/
import Derived.Test.YtehjellneflfaaaRefField
namespace Go.Proofs.Ytehjellneflfaaa
open Go.RowKit Go.Pm

theorem edge_at (n : Nat) (hn : n < 18446744073709551616) (j : Nat) (hj : j < 14) : ∃ y : Nat, y < 18446744073709551616 ∧
    ([Value.int IntKind.u64 (n : Int), Value.int IntKind.u64 ((n : Int) % 2305843009213693951), Value.int IntKind.u64 0, Value.int IntKind.u64 1, Value.int IntKind.u64 2, Value.int IntKind.u64 2305843009213693950, Value.int IntKind.u64 2305843009213693951,
      Value.int IntKind.u64 2305843009213693952, Value.int IntKind.u64 2305843009213693950, Value.int IntKind.u64 2305843009213693949, Value.int IntKind.u64 1152921504606846976, Value.int IntKind.u64 2305843009213693952, Value.int IntKind.u64 18446744073709551615,
      Value.int IntKind.u64 9223372036854775813] : List Value)[j]? = some (.int .u64 (y : Int)) := by
  match j, hj with
  | 0, _ => exact ⟨n, hn, rfl⟩
  | 1, _ => exact ⟨n % 2305843009213693951, by omega, rfl⟩
  | 2, _ => exact ⟨0, by decide, rfl⟩
  | 3, _ => exact ⟨1, by decide, rfl⟩
  | 4, _ => exact ⟨2, by decide, rfl⟩
  | 5, _ => exact ⟨2305843009213693950, by decide, rfl⟩
  | 6, _ => exact ⟨2305843009213693951, by decide, rfl⟩
  | 7, _ => exact ⟨2305843009213693952, by decide, rfl⟩
  | 8, _ => exact ⟨2305843009213693950, by decide, rfl⟩
  | 9, _ => exact ⟨2305843009213693949, by decide, rfl⟩
  | 10, _ => exact ⟨1152921504606846976, by decide, rfl⟩
  | 11, _ => exact ⟨2305843009213693952, by decide, rfl⟩
  | 12, _ => exact ⟨18446744073709551615, by decide, rfl⟩
  | 13, _ => exact ⟨9223372036854775813, by decide, rfl⟩

set_option maxHeartbeats 1000000 in
theorem edge (n k : Nat) (w : World) (hn : n < 18446744073709551616) (hk : k < 256) : Calls Try.prog 9 #[.int .u64 n, .int .u8 k] w fun e w' => ∃ y : Nat, y < 18446744073709551616 ∧ e = .returned (.int .u64 y) ∧ Kept None w w' := by
  obtain ⟨y, hy, hc⟩ := edge_at n hn (k % 14) (Nat.mod_lt _ (by decide))
  have HY := hid hy
  clear hn hy
  go_enter Try.func9, Try.ntmps9
  go_wp2
  go_ret
  exact ⟨y, HY.out, rfl, (Kept.refl _ _).alloc _⟩
end Go.Proofs.Ytehjellneflfaaa
