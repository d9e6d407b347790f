/- postmarklaw2.known: true. -/
import Derived.Test.YtffmblafpkdhlaaRefText
import Derived.Test.YtffmblafpkdhlaaEq
import Derived.Test.YtffmblafpkdhlaaConv
namespace Go.Proofs.Ytffmblafpkdhlaa
open Go.RowKit Go.Pm

theorem uHash : Try.prog.underlying 29 = some (.array 32 5) := by kernel_rfl
theorem uState : Try.prog.underlying 23 = some (.array 5 22) := by kernel_rfl
theorem tU64 : Try.prog.underlying 22 = some (.int .u64) := by kernel_rfl
theorem zByte : ∀ w, (sizeOf 5).run Try.prog w = .ok 1 w := fun _ => by kernel_rfl
theorem zU64 : ∀ w, (sizeOf 22).run Try.prog w = .ok 1 w := fun _ => by kernel_rfl
theorem gHash : Try.prog.eqGuardType Try.prog.depth 29 = false := by kernel_rfl
theorem gState : Try.prog.eqGuardType Try.prog.depth 23 = false := by kernel_rfl
theorem eqHash (xs ys : List UInt8) (hx : xs.length = 32) (hy : ys.length = 32) : ∀ w, (binOp .eql 29 (.agg (xs.map u8v).toArray) (.agg (ys.map u8v).toArray)).run Try.prog w = .ok (.bool (xs == ys)) w := run_eql_hash tByte zByte uHash xs ys hx hy
theorem neqHash (xs ys : List UInt8) (hx : xs.length = 32) (hy : ys.length = 32) : ∀ w, (binOp .neq 29 (.agg (xs.map u8v).toArray) (.agg (ys.map u8v).toArray)).run Try.prog w = .ok (.bool (!(xs == ys))) w := run_neq_hash tByte zByte uHash xs ys hx hy
theorem eqState (s s' : S5) : ∀ w, (binOp .eql 23 (Sp.sv s) (Sp.sv s')).run Try.prog w = .ok (.bool (decide (s = s'))) w := run_eql_state tU64 zU64 uState s s'
theorem neqState (s s' : S5) : ∀ w, (binOp .neq 23 (Sp.sv s) (Sp.sv s')).run Try.prog w = .ok (.bool (!decide (s = s'))) w := run_neq_state tU64 zU64 uState s s'
theorem Bss.nil (w : World) (lo hi lo' hi' : Nat) : Bss w lo hi lo' hi' (.slice none 0 0) [] := ⟨[], Vs.nil _ _ _, rfl, fun i x l h => by simp at h⟩

set_option maxHeartbeats 1000000 in
theorem known (w : World) : Calls Try.prog 8 #[] w fun e w' => e = .returned (.bool true) ∧ Kept None w w' := by
  have c1 := fun w => Sp.tag 97 (.slice none 0 0) 0 0 0 0 [] w (by decide) (by decide) (Bss.nil _ _ _ _ _) (by decide) (by decide)
  have c2 := fun v lo hi w h => Sp.sum v lo hi [97] w h
  have c3 := fun w => Sp.sum (.slice none 0 0) 0 0 [] w (Bs.nil _ _ _)
  have c4 := fun v lo hi w h => Sp.sum v lo hi [0] w h
  have c5 := fun w => Ref.sum (.slice none 0 0) 0 0 [] w (Bs.nil _ _ _) (by decide)
  have c6 := fun v lo hi lo' hi' w h => Sp.text 97 v lo hi lo' hi' [[98]] w (by decide) (by decide) h (by decide) (by decide)
  have c7 := fun w => Sp.perm ⟨0, 0, 0, 0, 0⟩ w
  rw [text_alone] at c1
  rw [text_known] at c6
  have no := sum_none
  have nz := perm_zero
  have l1 := sumB_len [97]
  have l2 := sumB_len []
  have l3 := sumB_len [0]
  obtain ⟨r, hr⟩ : ∃ r, r = sumB [97] := ⟨_, rfl⟩
  obtain ⟨n, hn⟩ : ∃ n, n = sumB [] := ⟨_, rfl⟩
  obtain ⟨o, ho⟩ : ∃ o, o = sumB [0] := ⟨_, rfl⟩
  obtain ⟨p, hp⟩ : ∃ p, p = S5.perm ⟨0, 0, 0, 0, 0⟩ := ⟨_, rfl⟩
  rw [← hr] at c1 c2 l1
  rw [← hn] at c3 c5 l2 no
  rw [← ho] at c4 l3 no
  rw [← hp] at c7 nz
  have e1 := eqHash r r l1 l1
  have e2 := neqHash n o l2 l3
  have e3 := eqHash n n l2 l2
  have e4 : ∀ w, (binOp .neq 23 (Sp.sv p) (.agg #[.int .u64 0, .int .u64 0, .int .u64 0, .int .u64 0, .int .u64 0])).run Try.prog w = .ok (.bool (!decide (p = ⟨0, 0, 0, 0, 0⟩))) w := neqState p ⟨0, 0, 0, 0, 0⟩
  have g1 := gHash
  have g2 := gState
  rw [show (n == o) = false by simpa using no] at e2
  rw [show decide (p = ⟨0, 0, 0, 0, 0⟩) = false by simpa using nz] at e4
  simp only [beq_self_eq_true, Bool.not_false] at e1 e2 e3 e4
  have C := hid (And.intro c1 (And.intro c2 (And.intro c3 (And.intro c4 (And.intro c5 (And.intro c6 c7))))))
  clear c1 c2 c3 c4 c5 c6 c7 no nz l1 l2 l3 hr hn ho hp
  have kc := fun (w : World) (C : Array Value) (n c g : Nat) (hg : g = w.heap.size) => constBytes w C n c g hg
  go_enter Try.func8, Try.ntmps8
  go_wp2_with fail
  refine (C.out.1 _).mono ?_
  rintro e w1 ⟨rfl, k1⟩
  go_wp2_with fail
  have bA := Bs.newMark w1 #[.int .u8 97] 5 (1, 2) 1 rfl (by decide) [97] rfl
  refine (C.out.2.1 _ _ _ _ bA).mono ?_
  rintro e w2 ⟨rfl, k2⟩
  have k02 := (k1.alloc _).then k2 (fun _ _ h => h)
  clear bA k1 k2
  go_wp2_with fail
  refine (C.out.2.2.1 _).mono ?_
  rintro e w3 ⟨rfl, k3⟩
  have k03 := k02.then k3 (fun _ _ h => h)
  clear k02 k3
  go_wp2_with fail
  have b0 : Bs (w3.alloc (.cells #[.int .u8 0] 5)) w3.heap.size (w3.heap.size + 1) (.slice (some ⟨w3.heap.size, 0, none⟩) 1 1) [0] := by
    have := (Bo.new w3 5 [0] #[.int .u8 0] rfl 1 rfl (by decide)).bs (hi := w3.heap.size + 1) (by simp)
    exact this
  refine (C.out.2.2.2.1 _ _ _ _ b0).mono ?_
  rintro e w4 ⟨rfl, k4⟩
  have k04 := (k03.alloc _).then k4 (fun _ _ h => h)
  clear k03 k4 b0
  go_wp2_with fail
  refine (C.out.2.2.1 _).mono ?_
  rintro e w5 ⟨rfl, k5⟩
  have k05 := k04.then k5 (fun _ _ h => h)
  clear k04 k5
  go_wp2_with fail
  refine (C.out.2.2.2.2.1 _).mono ?_
  rintro e w6 ⟨rfl, k6⟩
  have k06 := k05.then k6 (fun _ _ h => h)
  clear k05 k6
  go_wp2_with fail
  have bB := Bs.newMark w6 #[.int .u8 98] 5 (1, 2) 1 rfl (by decide) [98] rfl
  have bL := Bss.new (w6.alloc (.cells #[.int .u8 98] 5 (1, 2))) #[.slice (some ⟨w6.heap.size, 0, none⟩) 1 1] 24 [[98]] 1 rfl (by decide) ⟨bB.all, trivial⟩
  simp only [World.size_alloc] at bL
  refine (C.out.2.2.2.2.2.1 _ _ _ _ _ _ bL).mono ?_
  rintro e w7 ⟨v7, rfl, k7, b7⟩
  have k07 := ((k06.alloc (.cells #[.int .u8 98] 5 (1, 2))).alloc (.cells #[.slice (some ⟨w6.heap.size, 0, none⟩) 1 1] 24)).then k7 (fun _ _ h => h)
  have cv := cvBytes (b7.bs (Nat.le_refl _))
  rw [show (⟨([97, 1, 0, 0, 0, 0, 0, 0, 0, 98] : List UInt8).toArray⟩ : ByteArray) = ⟨#[97, 1, 0, 0, 0, 0, 0, 0, 0, 98]⟩ from rfl] at cv
  clear k06 k7 b7 bB bL
  go_wp2_with fail
  refine (C.out.2.2.2.2.2.2 _).mono ?_
  rintro e w8 ⟨rfl, k8⟩
  have k08 := k07.then k8 (fun _ _ h => h)
  clear k07 k8 cv
  go_wp2
  go_ret
  exact ⟨rfl, k08⟩
end Go.Proofs.Ytffmblafpkdhlaa
