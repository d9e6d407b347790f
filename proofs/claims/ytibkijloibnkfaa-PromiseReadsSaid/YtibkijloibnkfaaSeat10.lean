/- The seat's Name and Entry: what they tell. -/
import Derived.Test.YtibkijloibnkfaaEntA
import Derived.Test.YtibkijloibnkfaaNm7
namespace Go.Proofs.Ytibkijloibnkfaa
open Go.RowKit Go.Pm
namespace Es
set_option maxRecDepth 100000 in
set_option maxHeartbeats 2000000 in
/-- Name. -/
theorem name (x : Nat) (w : World) : Calls Try.prog 30 #[.int .u8 x] w fun e w' => ∃ s, e = .returned (.string s) ∧ 1 ≤ s.size ∧ s.size ≤ 32 ∧ Kept None w w' := by
  obtain ⟨t, ht⟩ : ∃ t, t = x % 6 := ⟨_, rfl⟩
  have m6 : (x : Int).tmod 6 = (t : Int) := by rw [ht]; rfl
  have n6 : (x : Int) % 6 = (t : Int) := by rw [ht]; rfl
  have hcs : t = 0 ∨ t = 1 ∨ t = 2 ∨ t = 3 ∨ t = 4 ∨ t = 5 := by omega
  clear ht
  have k1 : ∀ c, Kept None w (w.alloc c) := fun c => (Kept.refl _ _).alloc c
  have K1 := hid k1
  clear k1
  rcases hcs with rfl | rfl | rfl | rfl | rfl | rfl
  all_goals
    go_enter Try.func30, Try.ntmps30
    go_wp2
    go_ret
    exact ⟨_, rfl, by decide, by decide, K1.out _⟩
theorem ent3 (s : ByteArray) (v k : Int) : (#[Value.string s, .int .i64 v, .int .u64 k] : Array Value).all (·.oneCell') = true := by first | rfl | decide | simp [Value.oneCell']
/-- The key of numbers, as the machine reckons it. -/
def keyI (x : Nat) (v : Int) : Int := IntKind.u64.wrap (IntKind.u64.wrap (IntKind.u64.wrap (IntKind.u64.wrap v * 1000) + IntKind.u64.wrap (x : Int)) + 1)
set_option maxRecDepth 100000 in
set_option maxHeartbeats 2000000 in
/-- Entry. -/
theorem entry (x : Nat) (v : Int) (w : World) : Calls Try.prog 23 #[.int .u8 x, .int .i64 v] w fun e w' => ∃ s k, e = .returned (.agg #[.string s, .int .i64 v, .int .u64 k]) ∧ 1 ≤ s.size ∧ s.size ≤ 32 ∧ Kept None w w' := by
  have k0 : Kept None w (w.alloc (.cells #[.string ⟨#[]⟩, .int .i64 0, .int .u64 0] 53)) := (Kept.refl _ _).alloc _
  have bE : Blk (w.alloc (.cells #[.string ⟨#[]⟩, .int .i64 0, .int .u64 0] 53)) w.heap.size #[.string ⟨#[]⟩, .int .i64 0, .int .u64 0] 53 := Blk.new w _ _
  go_enter Try.func23, Try.ntmps23
  go_wp2_with fail
  refine Calls.nm ?_
  intro w1 e1
  rw [← e1] at k0 bE
  clear e1
  refine (name x w1).mono ?_
  rintro e w2 ⟨s, rfl, s1, s2, k2⟩
  have k02 := k0.trans k2
  have b2 := bE.kept k2 (fun h => h)
  clear k0 k2 bE
  go_wp2_with (first | (refine wpList_store_blk rfl _ _ _ rfl rfl rfl b2 Up.aEnt rfl (ent3 _ _ _) ?_; intro w3 h3 k3) | fail)
  exact bodyPost_ret (v := .agg _) (results_blk rfl _ rfl h3 Up.aEnt) rfl ⟨_, _, rfl, s1, s2, k02.then k3 (fun i hi (h : i = w.heap.size) => by omega)⟩
set_option maxRecDepth 100000 in
set_option maxHeartbeats 2000000 in
/-- Entry, of a small version. -/
theorem entry_at (x v : Nat) (w : World) (hx : x < 256) (hv : v < 1000) : Calls Try.prog 23 #[.int .u8 x, .int .i64 v] w fun e w' => ∃ s, e = .returned (entV s v (v * 1000 + x + 1)) ∧ 1 ≤ s.size ∧ s.size ≤ 32 ∧ Kept None w w' := by
  have k0 : Kept None w (w.alloc (.cells #[.string ⟨#[]⟩, .int .i64 0, .int .u64 0] 53)) := (Kept.refl _ _).alloc _
  have bE : Blk (w.alloc (.cells #[.string ⟨#[]⟩, .int .i64 0, .int .u64 0] 53)) w.heap.size #[.string ⟨#[]⟩, .int .i64 0, .int .u64 0] 53 := Blk.new w _ _
  obtain ⟨K, hK⟩ : ∃ K : Nat, K = v * 1000 + x + 1 := ⟨_, rfl⟩
  have w1 : IntKind.u64.wrap (v : Int) = (v : Int) := by rw [IntKind.wrap_u64]; omega
  have w2 : IntKind.u64.wrap ((v : Int) * 1000) = (v : Int) * 1000 := by rw [IntKind.wrap_u64]; omega
  have w3 : IntKind.u64.wrap (x : Int) = (x : Int) := by rw [IntKind.wrap_u64]; omega
  have w4 : IntKind.u64.wrap ((v : Int) * 1000 + (x : Int)) = (v : Int) * 1000 + (x : Int) := by rw [IntKind.wrap_u64]; omega
  have w5 : IntKind.u64.wrap ((v : Int) * 1000 + (x : Int) + 1) = (K : Int) := by rw [IntKind.wrap_u64]; omega
  rw [← hK]
  clear hK
  go_enter Try.func23, Try.ntmps23
  go_wp2_with fail
  refine Calls.nm ?_
  intro wa ea
  rw [← ea] at k0 bE
  clear ea
  refine (name x wa).mono ?_
  rintro e wb ⟨s, rfl, s1, s2, k2⟩
  have k02 := k0.trans k2
  have b2 := bE.kept k2 (fun h => h)
  clear k0 k2 bE
  go_wp2_with (first | (refine wpList_store_blk rfl _ _ _ rfl rfl rfl b2 Up.aEnt rfl (ent3 s v K) ?_; intro wc h3 k3) | fail)
  exact bodyPost_ret (v := entV s v K) (results_blk rfl _ rfl h3 Up.aEnt) rfl ⟨_, rfl, s1, s2, k02.then k3 (fun i hi (h : i = w.heap.size) => by omega)⟩
end Es
end Go.Proofs.Ytibkijloibnkfaa
