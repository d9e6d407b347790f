/- Package postmarkref1, its sponge. -/
import Derived.Test.YtkjidligfcihgaaLowSponge
import Derived.Test.YtkjidligfcihgaaLowBin
/- postmarkref1.turn, round, Perm, by their contracts. -/
namespace Go.Proofs.Ytkjidligfcihgaa
open Go.RowKit Go.Pm
namespace Ref

set_option maxRecDepth 100000 in
set_option maxHeartbeats 400000 in
theorem turn (x : U64) (n : Nat) (N : Int) (hN : N = n) (w : World) (h0 : 0 < n) (h1 : n < 64) :
    Calls Try.prog 41 #[.int .u64 (U x), .int .i64 N] w fun e w' => e = .returned (.int .u64 (U (rot x n))) ∧ Kept None w w' := by
  subst hN
  have g0 := U_ge x
  have g1 := U_lt x
  go_enter Try.func41, Try.ntmps41
  go_wp2
  go_quiet (fail)
  go_wp2
  go_ret
  have e1 := U_shr x n
  have e2 := U_shl x (64 - n)
  push_cast at e1 e2
  refine ⟨?_, Kept.toDrewN _ _ _⟩
  show Ending.returned (.int .u64 (bits .or .u64 (U x / 2 ^ n) (IntKind.u64.wrap (U x * 2 ^ (64 - n))))) = _
  rw [e1, e2, U_or]
  rfl

/-- The first k of t's words. -/
def tc (t : S5) : Nat → Array Value
  | 0 => #[.int .u64 0, .int .u64 0, .int .u64 0, .int .u64 0, .int .u64 0]
  | 1 => #[.int .u64 (U t.a), .int .u64 0, .int .u64 0, .int .u64 0, .int .u64 0]
  | 2 => #[.int .u64 (U t.a), .int .u64 (U t.b), .int .u64 0, .int .u64 0, .int .u64 0]
  | 3 => #[.int .u64 (U t.a), .int .u64 (U t.b), .int .u64 (U t.c), .int .u64 0, .int .u64 0]
  | 4 => #[.int .u64 (U t.a), .int .u64 (U t.b), .int .u64 (U t.c), .int .u64 (U t.d), .int .u64 0]
  | _ => #[.int .u64 (U t.a), .int .u64 (U t.b), .int .u64 (U t.c), .int .u64 (U t.d), .int .u64 (U t.e)]

theorem sgn : (if IntKind.u64.signed = true then (-1 : Int) else IntKind.u64.max) = IntKind.u64.max := rfl
theorem tc_size (t : S5) (k : Nat) : (tc t k).size = 5 := by unfold tc; split <;> rfl
theorem chi_a (s : S5) : bits .xor .u64 (U s.a) (bits .and .u64 (bits .xor .u64 IntKind.u64.max (U s.b)) (U s.c)) = U s.chi.a := by simp only [U_xor, U_and, U_not']; rfl
theorem chi_b (s : S5) : bits .xor .u64 (U s.b) (bits .and .u64 (bits .xor .u64 IntKind.u64.max (U s.c)) (U s.d)) = U s.chi.b := by simp only [U_xor, U_and, U_not']; rfl
theorem chi_c (s : S5) : bits .xor .u64 (U s.c) (bits .and .u64 (bits .xor .u64 IntKind.u64.max (U s.d)) (U s.e)) = U s.chi.c := by simp only [U_xor, U_and, U_not']; rfl
theorem chi_d (s : S5) : bits .xor .u64 (U s.d) (bits .and .u64 (bits .xor .u64 IntKind.u64.max (U s.e)) (U s.a)) = U s.chi.d := by simp only [U_xor, U_and, U_not']; rfl
theorem chi_e (s : S5) : bits .xor .u64 (U s.e) (bits .and .u64 (bits .xor .u64 IntKind.u64.max (U s.a)) (U s.b)) = U s.chi.e := by simp only [U_xor, U_and, U_not']; rfl

/-- What is known in a region that spreads a word: the state's block; the two turned words (operations 4, 8); the state's block behind the store (operation 11). -/
def planTurn (r : Nat) (cur new : Array Value) (x : U64) (n m : Nat) : List Fct :=
  [{ k := 100, uses := [], fact := fun _ W => Blk W r cur 60 },
   { k := 4, uses := [], pure := fun v => v = .int .u64 (U (rot x n)) },
   { k := 8, uses := [], pure := fun v => v = .int .u64 (U (rot x m)) },
   { k := 11, uses := [100], spends := [100], fact := fun _ W => Blk W r new 60 }]
theorem planTurn_pure {r : Nat} {cur new : Array Value} {x : U64} {n m : Nat} : ∀ f ∈ planTurn r cur new x n m, ∃ v, f.pure v := by
  intro f hf
  simp only [planTurn, List.mem_cons, List.not_mem_nil, or_false] at hf
  rcases hf with rfl | rfl | rfl | rfl
  · exact ⟨undef, trivial⟩
  · exact ⟨_, rfl⟩
  · exact ⟨_, rfl⟩
  · exact ⟨undef, trivial⟩
theorem planTurn_keeps {base : World → Prop} {r i : Nat} {cur new : Array Value} {x : U64} {n m : Nat} {W W' : World} (hk : Kept None W W') : (planOf base (planTurn r cur new x n m)).keeps i W W' := by
  refine keeps_of fun f hf _ _ _ u hfu => ?_
  simp only [planTurn, List.mem_cons, List.not_mem_nil, or_false] at hf
  rcases hf with rfl | rfl | rfl | rfl
  · exact Blk.kept hfu hk (fun h => h)
  · trivial
  · trivial
  · exact Blk.kept hfu hk (fun h => h)
theorem planTurn_keeps11 {base : World → Prop} {r : Nat} {cur new : Array Value} {x : U64} {n m : Nat} {W W' : World} : (planOf base (planTurn r cur new x n m)).keeps 11 W W' := by
  refine keeps_of fun f hf hs _ hne u hfu => ?_
  simp only [planTurn, List.mem_cons, List.not_mem_nil, or_false] at hf
  rcases hf with rfl | rfl | rfl | rfl
  · exact absurd (List.Mem.head _) hs
  · trivial
  · trivial
  · exact absurd rfl hne
theorem lin_xor (x : U64) (n m : Nat) : bits .xor .u64 (bits .xor .u64 (U x) (U (rot x n))) (U (rot x m)) = U (lin x n m) := by simp only [U_xor]; rfl

set_option maxRecDepth 100000 in
set_option maxHeartbeats 4000000 in
theorem round (s : S5) (c : U64) (w : World) :
    Calls Try.prog 38 #[Sp.sv s, .int .u64 (U c)] w fun e w' => e = .returned (Sp.sv (s.round c)) ∧ Kept None w w' := by
  obtain ⟨p, hp⟩ : ∃ p, p = s.add c := ⟨_, rfl⟩
  have ca := chi_a p
  have cb := chi_b p
  have cc := chi_c p
  have cd := chi_d p
  have ce := chi_e p
  show Calls _ _ _ w fun e w' => e = .returned (Sp.sv (((s.add c).chi).mix.spread)) ∧ Kept None w w'
  rw [← hp]
  have hp' : Sp.sc p = #[.int .u64 (bits .xor .u64 (U s.a) (U s.e)), .int .u64 (U s.b), .int .u64 (bits .xor .u64 (bits .xor .u64 (U s.c) (U c)) (U s.b)), .int .u64 (U s.d), .int .u64 (bits .xor .u64 (U s.e) (U s.d))] := by
    rw [hp]; simp only [U_xor]; rfl
  obtain ⟨q, hq⟩ : ∃ q, q = p.chi := ⟨_, rfl⟩
  rw [← hq] at ca cb cc cd ce ⊢
  obtain ⟨r, hr⟩ : ∃ r, r = q.mix.spread := ⟨_, rfl⟩
  rw [← hr]
  have HP := hid hp'
  have HR := hid hr
  have HC := hid (And.intro ca (And.intro cb (And.intro cc (And.intro cd ce))))
  clear ca cb cc cd ce hp hp' hq hr
  obtain ⟨a, b, x, d, e⟩ := s
  go_enter Try.func38, Try.ntmps38
  go_wp2
  go_loopw [6] (fun i wr => ∃ k : Nat, k ≤ 5 ∧ i = .int .i64 k ∧ Kept None w wr ∧ Blk wr w.heap.size (Sp.sc p) 60 ∧ (∃ z : Array Value, z.size = 5 ∧ Blk wr (w.heap.size + 1) z 60) ∧ Blk wr (w.heap.size + 1 + 1) (tc q k) 60) (fun i _ => 5 - (intOf i).toNat)
  case atStart =>
    refine ⟨0, by omega, rfl, (((Kept.refl _ _).alloc _).alloc _).alloc _, ?_, ⟨_, ?_, (Blk.new2 _ _ _ _).alloc _⟩, Blk.new3 _ _ _ _ _⟩
    · rw [HP.out]; exact ((Blk.new _ _ _).alloc _).alloc _
    · rfl
  case round =>
    obtain ⟨k, hk, rfl, hkk, hS, ⟨z, hz, hR⟩, hT⟩ := hrel
    by_cases h5 : k < 5
    · have hk5 : k = 0 ∨ k = 1 ∨ k = 2 ∨ k = 3 ∨ k = 4 := by omega
      clear hk h5
      rcases hk5 with rfl | rfl | rfl | rfl | rfl
      all_goals
        go_wp2
        refine wp_tail 18 (by kernel_rfl) (by kernel_rfl) (fun wy ky => ?_)
        have hS' := hS.kept ky (fun h => h)
        have hT' := hT.kept ky (fun h => h)
        have c0 := hS'.cell 0
        have c1 := hS'.cell 1
        have c2 := hS'.cell 2
        have c3 := hS'.cell 3
        have c4 := hS'.cell 4
        simp at c0 c1 c2 c3 c4
        have w1 : IntKind.i64.wrap 1 = 1 := by decide
        have w2 : IntKind.i64.wrap 2 = 2 := by decide
        have w3 : IntKind.i64.wrap 3 = 3 := by decide
        have w4 : IntKind.i64.wrap 4 = 4 := by decide
        have w5 : IntKind.i64.wrap 5 = 5 := by decide
        have w6 : IntKind.i64.wrap 6 = 6 := by decide
        have m1 : (1 : Int).tmod 5 = 1 := by decide
        have m2 : (2 : Int).tmod 5 = 2 := by decide
        have m3 : (3 : Int).tmod 5 = 3 := by decide
        have m4 : (4 : Int).tmod 5 = 4 := by decide
        have m5 : (5 : Int).tmod 5 = 0 := by decide
        have m6 : (6 : Int).tmod 5 = 1 := by decide
        simp only [List.take_succ_cons, List.take_zero, List.drop_succ_cons, List.drop_zero]
        repeat still_step
        refine wpStill_nil ?_
        try simp only [sgn]
        simp only [HC.out.1, HC.out.2.1, HC.out.2.2.1, HC.out.2.2.2.1, HC.out.2.2.2.2]
        clear w1 w2 w3 w4 w5 w6 m1 m2 m3 m4 m5 m6 c0 c1 c2 c3 c4 hS'
      · have f0 := hT'.free 0
        have t0 := hT'.cell 0
        have hT2 : Blk _ _ (tc q 1) _ := hT'.set 0 (.int .u64 (U q.a))
        have kT := Kept.one wy (w.heap.size + 1 + 1) 0 (.int .u64 (U q.a))
        simp [tc] at t0
        go_wp2
        exact ⟨⟨1, by omega, rfl, (hkk.then ky (fun _ _ h => h)).then kT (fun i hi (h : i = w.heap.size + 1 + 1) => by omega), (hS.kept ky (fun h => h)).kept kT (fun (h : w.heap.size = w.heap.size + 1 + 1) => by omega), ⟨z, hz, (hR.kept ky (fun h => h)).kept kT (fun (h : w.heap.size + 1 = w.heap.size + 1 + 1) => by omega)⟩, hT2⟩, by simp [intOf]⟩
      · have f0 := hT'.free 1
        have t0 := hT'.cell 1
        have hT2 : Blk _ _ (tc q 2) _ := hT'.set 1 (.int .u64 (U q.b))
        have kT := Kept.one wy (w.heap.size + 1 + 1) 1 (.int .u64 (U q.b))
        simp [tc] at t0
        go_wp2
        exact ⟨⟨2, by omega, rfl, (hkk.then ky (fun _ _ h => h)).then kT (fun i hi (h : i = w.heap.size + 1 + 1) => by omega), (hS.kept ky (fun h => h)).kept kT (fun (h : w.heap.size = w.heap.size + 1 + 1) => by omega), ⟨z, hz, (hR.kept ky (fun h => h)).kept kT (fun (h : w.heap.size + 1 = w.heap.size + 1 + 1) => by omega)⟩, hT2⟩, by simp [intOf]⟩
      · have f0 := hT'.free 2
        have t0 := hT'.cell 2
        have hT2 : Blk _ _ (tc q 3) _ := hT'.set 2 (.int .u64 (U q.c))
        have kT := Kept.one wy (w.heap.size + 1 + 1) 2 (.int .u64 (U q.c))
        simp [tc] at t0
        go_wp2
        exact ⟨⟨3, by omega, rfl, (hkk.then ky (fun _ _ h => h)).then kT (fun i hi (h : i = w.heap.size + 1 + 1) => by omega), (hS.kept ky (fun h => h)).kept kT (fun (h : w.heap.size = w.heap.size + 1 + 1) => by omega), ⟨z, hz, (hR.kept ky (fun h => h)).kept kT (fun (h : w.heap.size + 1 = w.heap.size + 1 + 1) => by omega)⟩, hT2⟩, by simp [intOf]⟩
      · have f0 := hT'.free 3
        have t0 := hT'.cell 3
        have hT2 : Blk _ _ (tc q 4) _ := hT'.set 3 (.int .u64 (U q.d))
        have kT := Kept.one wy (w.heap.size + 1 + 1) 3 (.int .u64 (U q.d))
        simp [tc] at t0
        go_wp2
        exact ⟨⟨4, by omega, rfl, (hkk.then ky (fun _ _ h => h)).then kT (fun i hi (h : i = w.heap.size + 1 + 1) => by omega), (hS.kept ky (fun h => h)).kept kT (fun (h : w.heap.size = w.heap.size + 1 + 1) => by omega), ⟨z, hz, (hR.kept ky (fun h => h)).kept kT (fun (h : w.heap.size + 1 = w.heap.size + 1 + 1) => by omega)⟩, hT2⟩, by simp [intOf]⟩
      · have f0 := hT'.free 4
        have t0 := hT'.cell 4
        have hT2 : Blk _ _ (tc q 5) _ := hT'.set 4 (.int .u64 (U q.e))
        have kT := Kept.one wy (w.heap.size + 1 + 1) 4 (.int .u64 (U q.e))
        simp [tc] at t0
        go_wp2
        exact ⟨⟨5, by omega, rfl, (hkk.then ky (fun _ _ h => h)).then kT (fun i hi (h : i = w.heap.size + 1 + 1) => by omega), (hS.kept ky (fun h => h)).kept kT (fun (h : w.heap.size = w.heap.size + 1 + 1) => by omega), ⟨z, hz, (hR.kept ky (fun h => h)).kept kT (fun (h : w.heap.size + 1 = w.heap.size + 1 + 1) => by omega)⟩, hT2⟩, by simp [intOf]⟩
    · have h5' : k = 5 := by omega
      subst h5'
      have hT0 : Blk wr (w.heap.size + 1 + 1) (Sp.sc q) 60 := hT
      have mb := U_xor q.b q.a
      have ma := U_xor q.a q.e
      have md := U_xor q.d q.c
      have mc := U_not' q.c
      change _ = U q.mix.b at mb
      change _ = U q.mix.a at ma
      change _ = U q.mix.d at md
      change _ = U q.mix.c at mc
      have me : U q.e = U q.mix.e := rfl
      obtain ⟨m, hm⟩ : ∃ m, m = q.mix := ⟨_, rfl⟩
      rw [← hm] at ma mb mc md me
      have HM := hid (And.intro ma (And.intro mb (And.intro mc (And.intro md me))))
      have hRm : r = m.spread := by rw [hm]; exact HR.out
      have HR2 := hid hRm
      clear ma mb mc md me hm HR hRm
      have c0 := hT0.cell 0
      have c1 := hT0.cell 1
      have c2 := hT0.cell 2
      have c3 := hT0.cell 3
      have c4 := hT0.cell 4
      have f0 := hT0.free 0
      have f1 := hT0.free 1
      have f2 := hT0.free 2
      have f3 := hT0.free 3
      simp at c0 c1 c2 c3 c4
      go_wp2
      simp only [HM.out.1, HM.out.2.1, HM.out.2.2.1, HM.out.2.2.2.1]
      have hT1 : Blk ((((wr.setCell ⟨w.heap.size + 1 + 1, 1, none⟩ (.int .u64 (U m.b))).setCell ⟨w.heap.size + 1 + 1, 0, none⟩ (.int .u64 (U m.a))).setCell ⟨w.heap.size + 1 + 1, 3, none⟩ (.int .u64 (U m.d))).setCell ⟨w.heap.size + 1 + 1, 2, none⟩ (.int .u64 (U m.c))) (w.heap.size + 1 + 1) (Sp.sc m) 60 := by
        have h1 := (((hT0.set 1 (.int .u64 (U m.b))).set 0 (.int .u64 (U m.a))).set 3 (.int .u64 (U m.d))).set 2 (.int .u64 (U m.c))
        rw [show Sp.sc m = #[.int .u64 (U m.a), .int .u64 (U m.b), .int .u64 (U m.c), .int .u64 (U m.d), .int .u64 (U q.e)] by rw [HM.out.2.2.2.2]]
        exact h1
      have kA : Kept (Just (w.heap.size + 1 + 1)) wr ((((wr.setCell ⟨w.heap.size + 1 + 1, 1, none⟩ (.int .u64 (U m.b))).setCell ⟨w.heap.size + 1 + 1, 0, none⟩ (.int .u64 (U m.a))).setCell ⟨w.heap.size + 1 + 1, 3, none⟩ (.int .u64 (U m.d))).setCell ⟨w.heap.size + 1 + 1, 2, none⟩ (.int .u64 (U m.c))) :=
        (((Kept.one wr _ 1 _).one' 0 _).one' 3 _).one' 2 _
      clear c0 c1 c2 c3 c4 f0 f1 f2 f3 hT0 hT
      obtain ⟨wA, hwA⟩ : ∃ wA, wA = ((((wr.setCell ⟨w.heap.size + 1 + 1, 1, none⟩ (.int .u64 (U m.b))).setCell ⟨w.heap.size + 1 + 1, 0, none⟩ (.int .u64 (U m.a))).setCell ⟨w.heap.size + 1 + 1, 3, none⟩ (.int .u64 (U m.d))).setCell ⟨w.heap.size + 1 + 1, 2, none⟩ (.int .u64 (U m.c))) := ⟨_, rfl⟩
      rw [← hwA] at hT1 kA ⊢
      have hk0 : Kept None w wA := hkk.then kA (fun i hi (h : i = w.heap.size + 1 + 1) => by omega)
      have hS0 := hS.kept kA (fun (h : w.heap.size = w.heap.size + 1 + 1) => by omega)
      have hR0 := hR.kept kA (fun (h : w.heap.size + 1 = w.heap.size + 1 + 1) => by omega)
      clear hwA kA hkk hS hR HC HP
      -- word 0
      refine wp_region_plan (Kept (Just w.heap.size) wA) (planTurn w.heap.size #[.int .u64 (U p.a), .int .u64 (U p.b), .int .u64 (U p.c), .int .u64 (U p.d), .int .u64 (U p.e)] #[.int .u64 (U (lin m.a 19 28)), .int .u64 (U p.b), .int .u64 (U p.c), .int .u64 (U p.d), .int .u64 (U p.e)] m.a 19 28) [100] (by kernel_rfl) (by kernel_rfl) (by kernel_rfl) rfl planTurn_pure (Kept.refl _ _).drew (fun j hj => by
          obtain rfl : j = 100 := by simpa using hj
          exact hS0.drew) ?_
      iterate 4 (refine wpPar_pure rfl (by rfl) _ (fun W hW => by
          have c0 : W.cell? ⟨w.heap.size + 1 + 1, 0, none⟩ = some (.int .u64 (U m.a)) := (hT1.kept hW (fun (h : w.heap.size + 1 + 1 = w.heap.size) => by omega)).cell 0
          go_simp
          exact rfl) ?_; simp only [Act.put, List.setIfInBounds_toArray, List.set_cons_zero, List.set_cons_succ])
      refine wpPar_adds rfl (by rfl) (fun W hW _ => ?_) (fun v hv' => ?_)
      · unfold Gives
        go_simp
        refine gives_call (turn _ 19 _ rfl W (by decide) (by decide)) ?_
        rintro e w3 ⟨rfl, k3⟩
        exact ⟨_, rfl, hW.then k3 (fun _ _ h => h.elim), rfl, trivial, planTurn_keeps k3⟩
      obtain rfl : v = .int .u64 (U (rot m.a 19)) := hv'
      simp only [Act.put, List.setIfInBounds_toArray, List.set_cons_zero, List.set_cons_succ]
      iterate 3 (refine wpPar_pure rfl (by rfl) _ (fun W hW => by
          have c0 : W.cell? ⟨w.heap.size + 1 + 1, 0, none⟩ = some (.int .u64 (U m.a)) := (hT1.kept hW (fun (h : w.heap.size + 1 + 1 = w.heap.size) => by omega)).cell 0
          go_simp
          exact rfl) ?_; simp only [Act.put, List.setIfInBounds_toArray, List.set_cons_zero, List.set_cons_succ])
      refine wpPar_adds rfl (by rfl) (fun W hW _ => ?_) (fun v hv' => ?_)
      · unfold Gives
        go_simp
        refine gives_call (turn _ 28 _ rfl W (by decide) (by decide)) ?_
        rintro e w3 ⟨rfl, k3⟩
        exact ⟨_, rfl, hW.then k3 (fun _ _ h => h.elim), rfl, trivial, planTurn_keeps k3⟩
      obtain rfl : v = .int .u64 (U (rot m.a 28)) := hv'
      simp only [Act.put, List.setIfInBounds_toArray, List.set_cons_zero, List.set_cons_succ]
      iterate 2 (refine wpPar_pure rfl (by rfl) _ (fun W hW => by
          go_simp
          exact rfl) ?_; simp only [Act.put, List.setIfInBounds_toArray, List.set_cons_zero, List.set_cons_succ])
      simp only [lin_xor]
      refine wpPar_adds rfl (by rfl) (fun W hW hd => ?_) (fun v' _ => ?_)
      · have hB : Blk W w.heap.size #[.int .u64 (U p.a), .int .u64 (U p.b), .int .u64 (U p.c), .int .u64 (U p.d), .int .u64 (U p.e)] 60 := hd 100 (List.Mem.head _)
        have c0 := hB.cell 0
        have f0 := hB.free 0
        simp at c0
        have hB2 : Blk _ _ #[.int .u64 (U (lin m.a 19 28)), .int .u64 (U p.b), .int .u64 (U p.c), .int .u64 (U p.d), .int .u64 (U p.e)] _ := hB.set 0 (.int .u64 (U (lin m.a 19 28)))
        unfold Gives
        go_simp
        exact ⟨hW.one' 0 _, trivial, hB2, planTurn_keeps11⟩
      simp only [Act.put]
      refine wpPar_nil (fun w1 hW hG => ?_)
      have hS1 : Blk w1 w.heap.size #[.int .u64 (U (lin m.a 19 28)), .int .u64 (U p.b), .int .u64 (U p.c), .int .u64 (U p.d), .int .u64 (U p.e)] 60 := hG 11
      have hk1 : Kept None w w1 := hk0.then hW (fun i hi (h : i = w.heap.size) => by omega)
      have hR1 := hR0.kept hW (fun (h : w.heap.size + 1 = w.heap.size) => by omega)
      have hT2 := hT1.kept hW (fun (h : w.heap.size + 1 + 1 = w.heap.size) => by omega)
      clear hG hS0 hk0 hR0 hT1 hW
      go_wp2
      -- word 1
      refine wp_region_plan (Kept (Just w.heap.size) w1) (planTurn w.heap.size #[.int .u64 (U (lin m.a 19 28)), .int .u64 (U p.b), .int .u64 (U p.c), .int .u64 (U p.d), .int .u64 (U p.e)] #[.int .u64 (U (lin m.a 19 28)), .int .u64 (U (lin m.b 61 39)), .int .u64 (U p.c), .int .u64 (U p.d), .int .u64 (U p.e)] m.b 61 39) [100] (by kernel_rfl) (by kernel_rfl) (by kernel_rfl) rfl planTurn_pure (Kept.refl _ _).drew (fun j hj => by
          obtain rfl : j = 100 := by simpa using hj
          exact hS1.drew) ?_
      iterate 4 (refine wpPar_pure rfl (by rfl) _ (fun W hW => by
          have c0 : W.cell? ⟨w.heap.size + 1 + 1, 1, none⟩ = some (.int .u64 (U m.b)) := (hT2.kept hW (fun (h : w.heap.size + 1 + 1 = w.heap.size) => by omega)).cell 1
          go_simp
          exact rfl) ?_; simp only [Act.put, List.setIfInBounds_toArray, List.set_cons_zero, List.set_cons_succ])
      refine wpPar_adds rfl (by rfl) (fun W hW _ => ?_) (fun v hv' => ?_)
      · unfold Gives
        go_simp
        refine gives_call (turn _ 61 _ rfl W (by decide) (by decide)) ?_
        rintro e w3 ⟨rfl, k3⟩
        exact ⟨_, rfl, hW.then k3 (fun _ _ h => h.elim), rfl, trivial, planTurn_keeps k3⟩
      obtain rfl : v = .int .u64 (U (rot m.b 61)) := hv'
      simp only [Act.put, List.setIfInBounds_toArray, List.set_cons_zero, List.set_cons_succ]
      iterate 3 (refine wpPar_pure rfl (by rfl) _ (fun W hW => by
          have c0 : W.cell? ⟨w.heap.size + 1 + 1, 1, none⟩ = some (.int .u64 (U m.b)) := (hT2.kept hW (fun (h : w.heap.size + 1 + 1 = w.heap.size) => by omega)).cell 1
          go_simp
          exact rfl) ?_; simp only [Act.put, List.setIfInBounds_toArray, List.set_cons_zero, List.set_cons_succ])
      refine wpPar_adds rfl (by rfl) (fun W hW _ => ?_) (fun v hv' => ?_)
      · unfold Gives
        go_simp
        refine gives_call (turn _ 39 _ rfl W (by decide) (by decide)) ?_
        rintro e w3 ⟨rfl, k3⟩
        exact ⟨_, rfl, hW.then k3 (fun _ _ h => h.elim), rfl, trivial, planTurn_keeps k3⟩
      obtain rfl : v = .int .u64 (U (rot m.b 39)) := hv'
      simp only [Act.put, List.setIfInBounds_toArray, List.set_cons_zero, List.set_cons_succ]
      iterate 2 (refine wpPar_pure rfl (by rfl) _ (fun W hW => by
          go_simp
          exact rfl) ?_; simp only [Act.put, List.setIfInBounds_toArray, List.set_cons_zero, List.set_cons_succ])
      simp only [lin_xor]
      refine wpPar_adds rfl (by rfl) (fun W hW hd => ?_) (fun v' _ => ?_)
      · have hB : Blk W w.heap.size #[.int .u64 (U (lin m.a 19 28)), .int .u64 (U p.b), .int .u64 (U p.c), .int .u64 (U p.d), .int .u64 (U p.e)] 60 := hd 100 (List.Mem.head _)
        have c0 := hB.cell 1
        have f0 := hB.free 1
        simp at c0
        have hB2 : Blk _ _ #[.int .u64 (U (lin m.a 19 28)), .int .u64 (U (lin m.b 61 39)), .int .u64 (U p.c), .int .u64 (U p.d), .int .u64 (U p.e)] _ := hB.set 1 (.int .u64 (U (lin m.b 61 39)))
        unfold Gives
        go_simp
        exact ⟨hW.one' 1 _, trivial, hB2, planTurn_keeps11⟩
      simp only [Act.put]
      refine wpPar_nil (fun w2 hW hG => ?_)
      have hS2 : Blk w2 w.heap.size #[.int .u64 (U (lin m.a 19 28)), .int .u64 (U (lin m.b 61 39)), .int .u64 (U p.c), .int .u64 (U p.d), .int .u64 (U p.e)] 60 := hG 11
      have hk2 : Kept None w w2 := hk1.then hW (fun i hi (h : i = w.heap.size) => by omega)
      have hR2 := hR1.kept hW (fun (h : w.heap.size + 1 = w.heap.size) => by omega)
      have hT3 := hT2.kept hW (fun (h : w.heap.size + 1 + 1 = w.heap.size) => by omega)
      clear hG hS1 hk1 hR1 hT2 hW
      go_wp2
      -- word 2
      refine wp_region_plan (Kept (Just w.heap.size) w2) (planTurn w.heap.size #[.int .u64 (U (lin m.a 19 28)), .int .u64 (U (lin m.b 61 39)), .int .u64 (U p.c), .int .u64 (U p.d), .int .u64 (U p.e)] #[.int .u64 (U (lin m.a 19 28)), .int .u64 (U (lin m.b 61 39)), .int .u64 (U (lin m.c 1 6)), .int .u64 (U p.d), .int .u64 (U p.e)] m.c 1 6) [100] (by kernel_rfl) (by kernel_rfl) (by kernel_rfl) rfl planTurn_pure (Kept.refl _ _).drew (fun j hj => by
          obtain rfl : j = 100 := by simpa using hj
          exact hS2.drew) ?_
      iterate 4 (refine wpPar_pure rfl (by rfl) _ (fun W hW => by
          have c0 : W.cell? ⟨w.heap.size + 1 + 1, 2, none⟩ = some (.int .u64 (U m.c)) := (hT3.kept hW (fun (h : w.heap.size + 1 + 1 = w.heap.size) => by omega)).cell 2
          go_simp
          exact rfl) ?_; simp only [Act.put, List.setIfInBounds_toArray, List.set_cons_zero, List.set_cons_succ])
      refine wpPar_adds rfl (by rfl) (fun W hW _ => ?_) (fun v hv' => ?_)
      · unfold Gives
        go_simp
        refine gives_call (turn _ 1 _ rfl W (by decide) (by decide)) ?_
        rintro e w3 ⟨rfl, k3⟩
        exact ⟨_, rfl, hW.then k3 (fun _ _ h => h.elim), rfl, trivial, planTurn_keeps k3⟩
      obtain rfl : v = .int .u64 (U (rot m.c 1)) := hv'
      simp only [Act.put, List.setIfInBounds_toArray, List.set_cons_zero, List.set_cons_succ]
      iterate 3 (refine wpPar_pure rfl (by rfl) _ (fun W hW => by
          have c0 : W.cell? ⟨w.heap.size + 1 + 1, 2, none⟩ = some (.int .u64 (U m.c)) := (hT3.kept hW (fun (h : w.heap.size + 1 + 1 = w.heap.size) => by omega)).cell 2
          go_simp
          exact rfl) ?_; simp only [Act.put, List.setIfInBounds_toArray, List.set_cons_zero, List.set_cons_succ])
      refine wpPar_adds rfl (by rfl) (fun W hW _ => ?_) (fun v hv' => ?_)
      · unfold Gives
        go_simp
        refine gives_call (turn _ 6 _ rfl W (by decide) (by decide)) ?_
        rintro e w3 ⟨rfl, k3⟩
        exact ⟨_, rfl, hW.then k3 (fun _ _ h => h.elim), rfl, trivial, planTurn_keeps k3⟩
      obtain rfl : v = .int .u64 (U (rot m.c 6)) := hv'
      simp only [Act.put, List.setIfInBounds_toArray, List.set_cons_zero, List.set_cons_succ]
      iterate 2 (refine wpPar_pure rfl (by rfl) _ (fun W hW => by
          go_simp
          exact rfl) ?_; simp only [Act.put, List.setIfInBounds_toArray, List.set_cons_zero, List.set_cons_succ])
      simp only [lin_xor]
      refine wpPar_adds rfl (by rfl) (fun W hW hd => ?_) (fun v' _ => ?_)
      · have hB : Blk W w.heap.size #[.int .u64 (U (lin m.a 19 28)), .int .u64 (U (lin m.b 61 39)), .int .u64 (U p.c), .int .u64 (U p.d), .int .u64 (U p.e)] 60 := hd 100 (List.Mem.head _)
        have c0 := hB.cell 2
        have f0 := hB.free 2
        simp at c0
        have hB2 : Blk _ _ #[.int .u64 (U (lin m.a 19 28)), .int .u64 (U (lin m.b 61 39)), .int .u64 (U (lin m.c 1 6)), .int .u64 (U p.d), .int .u64 (U p.e)] _ := hB.set 2 (.int .u64 (U (lin m.c 1 6)))
        unfold Gives
        go_simp
        exact ⟨hW.one' 2 _, trivial, hB2, planTurn_keeps11⟩
      simp only [Act.put]
      refine wpPar_nil (fun w3 hW hG => ?_)
      have hS3 : Blk w3 w.heap.size #[.int .u64 (U (lin m.a 19 28)), .int .u64 (U (lin m.b 61 39)), .int .u64 (U (lin m.c 1 6)), .int .u64 (U p.d), .int .u64 (U p.e)] 60 := hG 11
      have hk3 : Kept None w w3 := hk2.then hW (fun i hi (h : i = w.heap.size) => by omega)
      have hR3 := hR2.kept hW (fun (h : w.heap.size + 1 = w.heap.size) => by omega)
      have hT4 := hT3.kept hW (fun (h : w.heap.size + 1 + 1 = w.heap.size) => by omega)
      clear hG hS2 hk2 hR2 hT3 hW
      go_wp2
      -- word 3
      refine wp_region_plan (Kept (Just w.heap.size) w3) (planTurn w.heap.size #[.int .u64 (U (lin m.a 19 28)), .int .u64 (U (lin m.b 61 39)), .int .u64 (U (lin m.c 1 6)), .int .u64 (U p.d), .int .u64 (U p.e)] #[.int .u64 (U (lin m.a 19 28)), .int .u64 (U (lin m.b 61 39)), .int .u64 (U (lin m.c 1 6)), .int .u64 (U (lin m.d 10 17)), .int .u64 (U p.e)] m.d 10 17) [100] (by kernel_rfl) (by kernel_rfl) (by kernel_rfl) rfl planTurn_pure (Kept.refl _ _).drew (fun j hj => by
          obtain rfl : j = 100 := by simpa using hj
          exact hS3.drew) ?_
      iterate 4 (refine wpPar_pure rfl (by rfl) _ (fun W hW => by
          have c0 : W.cell? ⟨w.heap.size + 1 + 1, 3, none⟩ = some (.int .u64 (U m.d)) := (hT4.kept hW (fun (h : w.heap.size + 1 + 1 = w.heap.size) => by omega)).cell 3
          go_simp
          exact rfl) ?_; simp only [Act.put, List.setIfInBounds_toArray, List.set_cons_zero, List.set_cons_succ])
      refine wpPar_adds rfl (by rfl) (fun W hW _ => ?_) (fun v hv' => ?_)
      · unfold Gives
        go_simp
        refine gives_call (turn _ 10 _ rfl W (by decide) (by decide)) ?_
        rintro e w3 ⟨rfl, k3⟩
        exact ⟨_, rfl, hW.then k3 (fun _ _ h => h.elim), rfl, trivial, planTurn_keeps k3⟩
      obtain rfl : v = .int .u64 (U (rot m.d 10)) := hv'
      simp only [Act.put, List.setIfInBounds_toArray, List.set_cons_zero, List.set_cons_succ]
      iterate 3 (refine wpPar_pure rfl (by rfl) _ (fun W hW => by
          have c0 : W.cell? ⟨w.heap.size + 1 + 1, 3, none⟩ = some (.int .u64 (U m.d)) := (hT4.kept hW (fun (h : w.heap.size + 1 + 1 = w.heap.size) => by omega)).cell 3
          go_simp
          exact rfl) ?_; simp only [Act.put, List.setIfInBounds_toArray, List.set_cons_zero, List.set_cons_succ])
      refine wpPar_adds rfl (by rfl) (fun W hW _ => ?_) (fun v hv' => ?_)
      · unfold Gives
        go_simp
        refine gives_call (turn _ 17 _ rfl W (by decide) (by decide)) ?_
        rintro e w3 ⟨rfl, k3⟩
        exact ⟨_, rfl, hW.then k3 (fun _ _ h => h.elim), rfl, trivial, planTurn_keeps k3⟩
      obtain rfl : v = .int .u64 (U (rot m.d 17)) := hv'
      simp only [Act.put, List.setIfInBounds_toArray, List.set_cons_zero, List.set_cons_succ]
      iterate 2 (refine wpPar_pure rfl (by rfl) _ (fun W hW => by
          go_simp
          exact rfl) ?_; simp only [Act.put, List.setIfInBounds_toArray, List.set_cons_zero, List.set_cons_succ])
      simp only [lin_xor]
      refine wpPar_adds rfl (by rfl) (fun W hW hd => ?_) (fun v' _ => ?_)
      · have hB : Blk W w.heap.size #[.int .u64 (U (lin m.a 19 28)), .int .u64 (U (lin m.b 61 39)), .int .u64 (U (lin m.c 1 6)), .int .u64 (U p.d), .int .u64 (U p.e)] 60 := hd 100 (List.Mem.head _)
        have c0 := hB.cell 3
        have f0 := hB.free 3
        simp at c0
        have hB2 : Blk _ _ #[.int .u64 (U (lin m.a 19 28)), .int .u64 (U (lin m.b 61 39)), .int .u64 (U (lin m.c 1 6)), .int .u64 (U (lin m.d 10 17)), .int .u64 (U p.e)] _ := hB.set 3 (.int .u64 (U (lin m.d 10 17)))
        unfold Gives
        go_simp
        exact ⟨hW.one' 3 _, trivial, hB2, planTurn_keeps11⟩
      simp only [Act.put]
      refine wpPar_nil (fun w4 hW hG => ?_)
      have hS4 : Blk w4 w.heap.size #[.int .u64 (U (lin m.a 19 28)), .int .u64 (U (lin m.b 61 39)), .int .u64 (U (lin m.c 1 6)), .int .u64 (U (lin m.d 10 17)), .int .u64 (U p.e)] 60 := hG 11
      have hk4 : Kept None w w4 := hk3.then hW (fun i hi (h : i = w.heap.size) => by omega)
      have hR4 := hR3.kept hW (fun (h : w.heap.size + 1 = w.heap.size) => by omega)
      have hT5 := hT4.kept hW (fun (h : w.heap.size + 1 + 1 = w.heap.size) => by omega)
      clear hG hS3 hk3 hR3 hT4 hW
      go_wp2
      -- word 4
      refine wp_region_plan (Kept (Just w.heap.size) w4) (planTurn w.heap.size #[.int .u64 (U (lin m.a 19 28)), .int .u64 (U (lin m.b 61 39)), .int .u64 (U (lin m.c 1 6)), .int .u64 (U (lin m.d 10 17)), .int .u64 (U p.e)] #[.int .u64 (U (lin m.a 19 28)), .int .u64 (U (lin m.b 61 39)), .int .u64 (U (lin m.c 1 6)), .int .u64 (U (lin m.d 10 17)), .int .u64 (U (lin m.e 7 41))] m.e 7 41) [100] (by kernel_rfl) (by kernel_rfl) (by kernel_rfl) rfl planTurn_pure (Kept.refl _ _).drew (fun j hj => by
          obtain rfl : j = 100 := by simpa using hj
          exact hS4.drew) ?_
      iterate 4 (refine wpPar_pure rfl (by rfl) _ (fun W hW => by
          have c0 : W.cell? ⟨w.heap.size + 1 + 1, 4, none⟩ = some (.int .u64 (U m.e)) := (hT5.kept hW (fun (h : w.heap.size + 1 + 1 = w.heap.size) => by omega)).cell 4
          go_simp
          exact rfl) ?_; simp only [Act.put, List.setIfInBounds_toArray, List.set_cons_zero, List.set_cons_succ])
      refine wpPar_adds rfl (by rfl) (fun W hW _ => ?_) (fun v hv' => ?_)
      · unfold Gives
        go_simp
        refine gives_call (turn _ 7 _ rfl W (by decide) (by decide)) ?_
        rintro e w3 ⟨rfl, k3⟩
        exact ⟨_, rfl, hW.then k3 (fun _ _ h => h.elim), rfl, trivial, planTurn_keeps k3⟩
      obtain rfl : v = .int .u64 (U (rot m.e 7)) := hv'
      simp only [Act.put, List.setIfInBounds_toArray, List.set_cons_zero, List.set_cons_succ]
      iterate 3 (refine wpPar_pure rfl (by rfl) _ (fun W hW => by
          have c0 : W.cell? ⟨w.heap.size + 1 + 1, 4, none⟩ = some (.int .u64 (U m.e)) := (hT5.kept hW (fun (h : w.heap.size + 1 + 1 = w.heap.size) => by omega)).cell 4
          go_simp
          exact rfl) ?_; simp only [Act.put, List.setIfInBounds_toArray, List.set_cons_zero, List.set_cons_succ])
      refine wpPar_adds rfl (by rfl) (fun W hW _ => ?_) (fun v hv' => ?_)
      · unfold Gives
        go_simp
        refine gives_call (turn _ 41 _ rfl W (by decide) (by decide)) ?_
        rintro e w3 ⟨rfl, k3⟩
        exact ⟨_, rfl, hW.then k3 (fun _ _ h => h.elim), rfl, trivial, planTurn_keeps k3⟩
      obtain rfl : v = .int .u64 (U (rot m.e 41)) := hv'
      simp only [Act.put, List.setIfInBounds_toArray, List.set_cons_zero, List.set_cons_succ]
      iterate 2 (refine wpPar_pure rfl (by rfl) _ (fun W hW => by
          go_simp
          exact rfl) ?_; simp only [Act.put, List.setIfInBounds_toArray, List.set_cons_zero, List.set_cons_succ])
      simp only [lin_xor]
      refine wpPar_adds rfl (by rfl) (fun W hW hd => ?_) (fun v' _ => ?_)
      · have hB : Blk W w.heap.size #[.int .u64 (U (lin m.a 19 28)), .int .u64 (U (lin m.b 61 39)), .int .u64 (U (lin m.c 1 6)), .int .u64 (U (lin m.d 10 17)), .int .u64 (U p.e)] 60 := hd 100 (List.Mem.head _)
        have c0 := hB.cell 4
        have f0 := hB.free 4
        simp at c0
        have hB2 : Blk _ _ #[.int .u64 (U (lin m.a 19 28)), .int .u64 (U (lin m.b 61 39)), .int .u64 (U (lin m.c 1 6)), .int .u64 (U (lin m.d 10 17)), .int .u64 (U (lin m.e 7 41))] _ := hB.set 4 (.int .u64 (U (lin m.e 7 41)))
        unfold Gives
        go_simp
        exact ⟨hW.one' 4 _, trivial, hB2, planTurn_keeps11⟩
      simp only [Act.put]
      refine wpPar_nil (fun w5 hW hG => ?_)
      have hS5 : Blk w5 w.heap.size #[.int .u64 (U (lin m.a 19 28)), .int .u64 (U (lin m.b 61 39)), .int .u64 (U (lin m.c 1 6)), .int .u64 (U (lin m.d 10 17)), .int .u64 (U (lin m.e 7 41))] 60 := hG 11
      have hk5 : Kept None w w5 := hk4.then hW (fun i hi (h : i = w.heap.size) => by omega)
      have hR5 := hR4.kept hW (fun (h : w.heap.size + 1 = w.heap.size) => by omega)
      have hT6 := hT5.kept hW (fun (h : w.heap.size + 1 + 1 = w.heap.size) => by omega)
      clear hG hS4 hk4 hR4 hT5 hW
      have hS6 : Blk w5 w.heap.size (Sp.sc r) 60 := by rw [HR2.out]; exact hS5
      clear hS5 HR2 HM
      have E := hid hz
      clear hz
      go_wp2_with (first | (refine wpList_load_blk rfl _ _ rfl rfl hS6 Sp.aS ?_) | (refine wpList_store_blk rfl _ _ _ rfl rfl rfl hR5 Sp.aS E.out (Sp.sc_all _) ?_; intro w6 hR6 k6) | fail)
      exact bodyPost_ret (v := Sp.sv r) (results_blk rfl _ rfl hR6 Sp.aS) rfl ⟨rfl, hk5.then k6 (fun i hi (h : i = w.heap.size + 1) => by omega)⟩
end Ref
end Go.Proofs.Ytkjidligfcihgaa

/- postmarkref1.Perm, by its contract. -/
namespace Go.Proofs.Ytkjidligfcihgaa
open Go.RowKit Go.Pm
namespace Ref

/-- The rounds' numbers, as the reference has them. -/
abbrev constC : Array Value := #[.int .u64 240, .int .u64 225, .int .u64 210, .int .u64 195, .int .u64 180, .int .u64 165, .int .u64 150, .int .u64 135, .int .u64 120, .int .u64 105, .int .u64 90, .int .u64 75]
theorem constC_at : ∀ k : Nat, k < 12 → constC[k]? = some (.int .u64 (240 - 15 * k)) := by
  intro k hk
  match k, hk with
  | 0, _ => rfl
  | 1, _ => rfl
  | 2, _ => rfl
  | 3, _ => rfl
  | 4, _ => rfl
  | 5, _ => rfl
  | 6, _ => rfl
  | 7, _ => rfl
  | 8, _ => rfl
  | 9, _ => rfl
  | 10, _ => rfl
  | 11, _ => rfl

set_option maxRecDepth 100000 in
set_option maxHeartbeats 1000000 in
theorem perm (s : S5) (w : World) :
    Calls Try.prog 34 #[Sp.sv s] w fun e w' => e = .returned (Sp.sv s.perm) ∧ Kept None w w' := by
  obtain ⟨st, hst⟩ : ∃ st : Nat → S5, ∀ k, st k = (consts.take k).foldl S5.round s := ⟨_, fun _ => rfl⟩
  have h0 : st 0 = s := hst 0
  have hs : ∀ k : Nat, k < 12 → ∀ n : U64, U n = 240 - 15 * k → st (k + 1) = (st k).round n := fun k hk n hn => by rw [hst, hst]; exact consts_step k hk n hn s
  have he : s.perm = st 12 := by rw [hst]; rfl
  rw [he]
  have H0 := hid h0
  have HS := hid hs
  clear h0 hs he hst
  go_enter Try.func34, Try.ntmps34
  go_wp2
  go_loopw [4] (fun i wr => ∃ k : Nat, k ≤ 12 ∧ i = .int .i64 k ∧ Kept None w wr ∧ Blk wr w.heap.size (Sp.sc (st k)) 60 ∧ (∃ z : Array Value, z.size = 5 ∧ Blk wr (w.heap.size + 1) z 60) ∧ Blk wr (w.heap.size + 1 + 1) constC 67) (fun i _ => 12 - (intOf i).toNat)
  case atStart =>
    refine ⟨0, by omega, rfl, (((Kept.refl _ _).alloc _).alloc _).alloc _, ?_, ⟨_, ?_, (Blk.new2 _ _ _ _).alloc _⟩, Blk.new3 _ _ _ _ _⟩
    · rw [H0.out]; exact ((Blk.new _ _ _).alloc _).alloc _
    · rfl
  case round =>
    obtain ⟨k, hk, rfl, hkk, hS, ⟨z, hz, hR⟩, hC⟩ := hrel
    by_cases hlt : k < 12
    · obtain ⟨n, hn⟩ : ∃ n : U64, U n = 240 - 15 * k := ⟨W (240 - 15 * k), U_W _ (by omega) (by omega)⟩
      have hc := hC.cell k
      rw [constC_at k hlt, ← hn] at hc
      have HN := hid (HS.out k hlt n hn)
      clear hn
      go_wp2
      refine wp_tail 4 (by kernel_rfl) (by kernel_rfl) (fun wy ky => ?_)
      have hS' := hS.kept ky (fun h => h)
      have hR' := hR.kept ky (fun h => h)
      have hC' := hC.kept ky (fun h => h)
      have hk' := hkk.then ky (fun _ _ h => h)
      have hc' : wy.cell? ⟨w.heap.size + 1 + 1, k, none⟩ = some (.int .u64 (U n)) := by
        rw [← hc]; exact (hC'.cell k).trans (hC.cell k).symm
      have c0 := hS'.cell 0
      have c1 := hS'.cell 1
      have c2 := hS'.cell 2
      have c3 := hS'.cell 3
      have c4 := hS'.cell 4
      simp at c0 c1 c2 c3 c4
      clear hc ky hS hR hC hkk
      simp only [List.take_succ_cons, List.take_zero, List.drop_succ_cons, List.drop_zero]
      repeat still_step
      refine wpStill_nil ?_
      clear c0 c1 c2 c3 c4 hc'
      go_wp2_with fail
      refine (round (st k) n _).mono ?_
      rintro e1 w1 ⟨rfl, k1⟩
      rw [← HN.out]
      have hS1 := hS'.kept k1 (fun h => h)
      have hR1 := hR'.kept k1 (fun h => h)
      have hC1 := hC'.kept k1 (fun h => h)
      have hk1 := hk'.then k1 (fun _ _ h => h)
      clear hS' hR' hC' hk' k1 HN
      go_wp2_with (first | (refine wpList_store_blk rfl _ _ _ rfl rfl rfl hS1 Sp.aS rfl (Sp.sc_all _) ?_; intro w2 hS2 k2) | fail)
      have hC2 := hC1.kept k2 (fun (h : w.heap.size + 1 + 1 = w.heap.size) => by omega)
      have hR2 := hR1.kept k2 (fun (h : w.heap.size + 1 = w.heap.size) => by omega)
      have hk2 := hk1.then k2 (fun i hi (h : i = w.heap.size) => by omega)
      clear hS1 hR1 hC1 hk1 k2
      go_wp2
      go_roundw
      case rel => exact ⟨k + 1, by omega, by go_num, hk2, hS2, ⟨z, hz, hR2⟩, hC2⟩
      case measure => simp [intOf]; omega
    · have h12 : k = 12 := by omega
      subst h12
      have E := hid hz
      clear hz hC
      go_wp2_with (first | (refine wpList_load_blk rfl _ _ rfl rfl hS Sp.aS ?_) | (refine wpList_store_blk rfl _ _ _ rfl rfl rfl hR Sp.aS E.out (Sp.sc_all _) ?_; intro w6 hR6 k6) | fail)
      exact bodyPost_ret (v := Sp.sv (st 12)) (results_blk rfl _ rfl hR6 Sp.aS) rfl ⟨rfl, hkk.then k6 (fun i hi (h : i = w.heap.size + 1) => by omega)⟩
end Ref
end Go.Proofs.Ytkjidligfcihgaa

/- postmarkref1.Sum, by its contract. -/
namespace Go.Proofs.Ytkjidligfcihgaa
open Go.RowKit Go.Pm
namespace Ref

theorem perm_first (w : World) : Calls Try.prog 34 #[.agg #[.int .u64 8800401358850, .int .u64 0, .int .u64 0, .int .u64 0, .int .u64 0]] w fun e w' => e = .returned (Sp.sv first) ∧ Kept None w w' :=
  perm ⟨0x0000080100cc0002, 0, 0, 0, 0⟩ w

set_option maxRecDepth 100000 in
set_option maxHeartbeats 2000000 in
theorem sum (v : Value) (lo hi : Nat) (l : List UInt8) (w : World) (hv : Bs w lo hi v l) (hl : l.length ≤ 140737488355000) :
    Calls Try.prog 26 #[v] w fun e w' => e = .returned (hashV (sumB l)) ∧ Kept None w w' := by
  have pf := perm_first
  obtain ⟨ab, ab0, abS, abE⟩ := absorb_all l
  have e32 : ((eights (soaked l) 4).map u8v).toArray.size = 32 := by simp [eights_len]
  show Calls _ _ _ w fun e w' => e = .returned (hashV (eights (soaked l) 4)) ∧ Kept None w w'
  obtain ⟨so, hso⟩ : ∃ so, so = soaked l := ⟨_, rfl⟩
  rw [← ab0] at pf
  rw [← hso] at abE e32 ⊢
  have PF := hid pf
  have AS := hid abS
  have AE := hid abE
  have K3 := hid e32
  clear pf abS abE e32 hso ab0
  obtain ⟨a, cap, rfl, g1, g2, g3⟩ := hv.shape
  clear g3
  go_enter Try.func26, Try.ntmps26
  have hv0 := hv.kept ((Kept.refl None w).alloc (.cells (Array.replicate 32 (.int .u8 0)) 53)) (fun _ _ _ h => h)
  go_wp2_with (at_builtin; refine wpList_append_bo (l := []) (m := l) (base := w.heap.size + 1) (lo := lo) (hi := hi) rfl _ _ 22 rfl rtBytes rfl rfl ?h1 ?h2 ?h3 ?h4 ?h5)
  case h1 => exact Bo.nil _ _ _
  case h2 => exact hv0
  case h3 => simp; omega
  case h4 => simp
  intro a1 n1 c1 w1 b1 k1
  obtain ⟨z, hz, hR⟩ : ∃ z : Array Value, z.size = 32 ∧ Blk w1 w.heap.size z 53 := ⟨Array.replicate 32 (.int .u8 0), by simp, (Blk.new w _ _).kept k1 (fun h => by cases h)⟩
  have k2 : Kept None w w1 := ((Kept.refl _ _).alloc _).then k1 (fun i hi h => by cases h)
  have hs1 := k1.size
  simp only [World.size_alloc] at hs1
  have HZ := hid hz
  clear hv hv0 k1 hz
  go_wp2_with (at_builtin; refine wpList_append_byte rfl _ _ 22 rfl rtBytes rfl rfl b1 (by decide) (by decide) ?h1 ?h2 ?h3)
  case h1 => omega
  case h2 => exact hs1
  case h3 =>
  intro a2 n2 c2 w2 b2 k3
  have k4 : Kept None w w2 := k2.own k3 (fun k hk => by have := (b1.own k hk).1; omega)
  have hR2 : Blk w2 w.heap.size z 53 := hR.kept k3 (fun h => by have := (b1.own _ h).1; omega)
  have b3 : Ob w2 (w.heap.size + 1) (.slice a2 n2 c2) ((l ++ [1]) ++ List.replicate 0 0) := by
    rw [show Go.Pm.byteOf 1 = 1 from rfl] at b2
    simpa using b2
  clear b1 b2 k2 k3 hR
  go_wp2
  go_loopw [3] (fun x wr => ∃ j : Nat, j ≤ noughts l ∧ (∃ a n c, x = .slice a n c) ∧ Ob wr (w.heap.size + 1) x ((l ++ [1]) ++ List.replicate j 0) ∧ Kept None w wr ∧ Blk wr w.heap.size z 53) (fun x _ => l.length + 9 - Sp.lenOf x)
  case atStart => exact ⟨0, Nat.zero_le _, ⟨_, _, _, rfl⟩, b3, k4, hR2⟩
  case round =>
    clear b3 k4 hR2
    obtain ⟨j, hj, ⟨a3, n3, c3, rfl⟩, hb, hkk, hR⟩ := hrel
    have hn3 : n3 = l.length + 1 + j := by
      obtain ⟨_, _, hf⟩ := hb.form
      injection hf with _ h2 _
      rw [h2]; simp; omega
    have hn8 : noughts l < 8 := Nat.mod_lt _ (by decide)
    have hsz : w.heap.size + 1 ≤ wr.heap.size := hR.lt
    by_cases h8 : n3 % 8 = 0
    · have hj2 : j = noughts l := by unfold noughts at hj ⊢; omega
      have b5 : Ob wr (w.heap.size + 1) (.slice a3 n3 c3) (padded l) := by rw [padded_is, ← hj2]; exact hb
      have hpl := padded_len l
      have hn4 : n3 = 8 * (l.length / 8 + 1) := by
        obtain ⟨_, _, hf⟩ := b5.form
        injection hf with _ h2 _
        rw [h2, hpl]
      obtain ⟨M, hM⟩ : ∃ M, M = l.length / 8 + 1 := ⟨_, rfl⟩
      rw [← hM] at hn4 hpl AE
      have hM2 : M ≤ 17592186044500 := by omega
      have h8' : ((n3 : Int) % 8 != 0) = false := by simp; omega
      have HPL := hid hpl
      have HN := hid hn4
      clear hj hj2 hb hn3 hn8 hpl hM hn4
      go_wp2_with fail
      refine (PF.out _).mono ?_
      rintro e1 w3 ⟨rfl, k3⟩
      have hR3 := hR.kept k3 (fun h => h)
      have b6 := b5.kept k3 (fun _ _ h => h)
      have k4 := hkk.then k3 (fun _ _ h => h)
      have hs3 := k3.size
      have hz3 := hR3.lt
      clear hkk hR b5 k3
      go_wp2
      obtain ⟨wo, rfl⟩ : ∃ wo : World, wo = wr := ⟨_, rfl⟩
      go_loopw [5] (fun i wr => ∃ j : Nat, j ≤ M ∧ i = .int .i64 (8 * (j : Int)) ∧ Kept None w wr ∧ Blk wr w3.heap.size (Sp.sc (ab j)) 60 ∧ Blk wr w.heap.size z 53 ∧ Ob wr (w.heap.size + 1) (.slice a3 n3 c3) (padded l)) (fun i _ => 8 * M - (intOf i).toNat)
      case atStart => exact ⟨0, Nat.zero_le _, by simp, k4.alloc _, Blk.new _ _ _, hR3.alloc _, b6.alloc _⟩
      case round =>
        have hown : ∀ k, (Value.slice a3 n3 c3).ownBlock = some k → w.heap.size + 1 ≤ k ∧ k < w3.heap.size := b6.own
        clear k4 hR3 b6
        obtain ⟨j, hj, rfl, hkk, hS, hR, hb⟩ := hrel
        by_cases hlt : j < M
        · have hn3 := HN.out
          have hpl := HPL.out
          have hbs := hb.bs (Nat.le_refl _)
          obtain ⟨a', s1, p1⟩ := slice_mid tBytes zBytes hbs .i64 .i64 (8 * (j : Int)) (8 * (j : Int) + 8) (by omega) (by omega) (by omega)
          rw [show (8 * (j : Int)).toNat = 8 * j by omega, show (8 * (j : Int) + 8).toNat = 8 * j + 8 by omega, show 8 * j + 8 - 8 * j = 8 by omega] at s1 p1
          rw [← List.map_take, ← List.map_drop] at p1
          have hlr : leV (((padded l).take (8 * j + 8)).drop (8 * j)) = leV ((padded l).drop (8 * j)) := by
            rw [List.drop_take, show 8 * j + 8 - 8 * j = 8 by omega, leV_take]
          have hl8 : (((padded l).take (8 * j + 8)).drop (8 * j)).length = 8 := by rw [List.length_drop, List.length_take, hpl]; omega
          have hc3 : n3 ≤ c3 ∧ c3 ≤ 9223372036854775807 := by
            obtain ⟨_, _, e, h1, h2, _⟩ := hbs.shape
            injection e with e1 e2 e3
            omega
          have hlt2 : 8 * j < n3 := by omega
          have hlt3 : n3 ≤ 140737488356000 := by omega
          have hlts := hS.lt
          obtain ⟨hc31, hc32⟩ := hc3
          have ew : IntKind.i64.wrap (8 * (j : Int) + 8) = 8 * (j : Int) + 8 := by rw [IntKind.wrap_i64]; omega
          have hx := mixed_a (ab j) (leV ((padded l).drop (8 * j))) (leV_ge _) (leV_lt _)
          have HST := hid (AS.out j)
          have HX := hid (And.intro hlr (And.intro hl8 (And.intro hx ew)))
          clear hn3 hpl hlr hl8 hx ew hbs
          go_wp2
          refine wp_tail 10 (by kernel_rfl) (by kernel_rfl) (fun wy ky => ?_)
          have hS' := hS.kept ky (fun h => h)
          have hR' := hR.kept ky (fun h => h)
          have hb' := hb.kept ky (fun _ _ h => h)
          have hk' := hkk.then ky (fun _ _ h => h)
          have hv' := Vs.kept p1 ky (fun _ _ _ h => h)
          have c0 := hS'.cell 0
          have f0 := hS'.free 0
          simp at c0
          have ew := HX.out.2.2.2
          simp only [List.take_succ_cons, List.take_zero, List.drop_succ_cons, List.drop_zero]
          repeat still_step
          still_call (Calls.same (word _ _ _ _ wy hv' HX.out.2.1))
          repeat still_step
          refine wpStill_nil ?_
          clear ew
          rw [HX.out.1, HX.out.2.2.1]
          generalize hx' : leV ((padded l).drop (8 * j)) = x at *
          have hS2 : Blk (wy.setCell ⟨w3.heap.size, 0, none⟩ (.int .u64 (U ((ab j).mixed (W x)).a))) w3.heap.size (Sp.sc ((ab j).mixed (W x))) 60 := hS'.set 0 _
          have ky2 := (Kept.one wy w3.heap.size 0 (.int .u64 (U ((ab j).mixed (W x)).a)))
          have HX2 := hid hx'
          clear hx' HX hS hR hkk hb p1 hv' hS' ky
          go_wp2_with (first | (refine wpList_load_blk rfl _ _ rfl rfl hS2 Sp.aS ?_) | fail)
          refine (perm _ _).mono ?_
          rintro e1 w4 ⟨rfl, k1⟩
          rw [← HST.out]
          have hS3 := hS2.kept k1 (fun h => h)
          have hk3 : Kept None w w4 := (hk'.then ky2 (fun i hi (h : i = w3.heap.size) => by omega)).then k1 (fun _ _ h => h)
          have hb3 := (hb'.kept ky2 (fun i h1 (h : i = w3.heap.size) => by have := hown i h1; omega)).kept k1 (fun _ _ h => h)
          have hR3 := (hR'.kept ky2 (fun (h : w.heap.size = w3.heap.size) => by omega)).kept k1 (fun h => h)
          clear hS2 hk' hb' hR' ky2 k1 c0 f0
          go_wp2_with (first | (refine wpList_store_blk rfl _ _ _ rfl rfl rfl hS3 Sp.aS rfl (Sp.sc_all _) ?_; intro w5 hS4 k4) | fail)
          exact ⟨⟨j + 1, by omega, by go_num, hk3.then k4 (fun i hi (h : i = w3.heap.size) => by omega), hS4, hR3.kept k4 (fun (h : w.heap.size = w3.heap.size) => by omega), hb3.kept k4 (fun i h1 (h : i = w3.heap.size) => by have := hown i h1; omega)⟩, by simp only [intOf]; omega⟩
        · have hjM : j = M := by omega
          subst hjM
          rw [← AE.out] at hS
          have hn3 := HN.out
          have hge : n3 ≤ 8 * j := by omega
          have hlts := hS.lt
          clear hn3 hb hown
          go_wp2
          obtain ⟨wp, rfl⟩ : ∃ wp : World, wp = wr := ⟨_, rfl⟩
          go_loopw [7] (fun i wr => ∃ k : Nat, k ≤ 4 ∧ i = .int .i64 k ∧ Kept None w wr ∧ Blk wr w3.heap.size (Sp.sc (Go.Pm.squeeze so (k - 1))) 60 ∧ Blk wr w.heap.size z 53 ∧ Blk wr wp.heap.size (Sp.sofar so k).toArray 53) (fun i _ => 4 - (intOf i).toNat)
          case atStart => exact ⟨0, Nat.zero_le _, rfl, hkk.alloc _, hS.alloc _, hR.alloc _, Sp.sofar_zero so ▸ Blk.new _ _ _⟩
          case round =>
            clear hkk hS hR
            obtain ⟨k, hk, rfl, hkk, hS, hR, hH⟩ := hrel
            by_cases hlt : k < 4
            · have hwp := hH.lt
              rcases Nat.eq_zero_or_pos k with h0 | h0
              case' inl =>
                obtain ⟨wx, hwx⟩ : ∃ wx, wx = wr := ⟨_, rfl⟩
                have hkx : Kept None w wx := by rw [hwx]; exact hkk
                have hSx : Blk wx w3.heap.size (Sp.sc (Go.Pm.squeeze so k)) 60 := by rw [hwx, h0]; rw [h0] at hS; exact hS
                have hRx : Blk wx w.heap.size z 53 := by rw [hwx]; exact hR
                have hHx : Blk wx wp.heap.size (Sp.sofar so k).toArray 53 := by rw [hwx]; exact hH
                rw [← hwx]
                have h0' : ¬ 0 < k := by omega
                clear hkk hS hR hH hwx h0
                have c0 := hSx.cell 0
                simp at c0
                go_wp2_with fail
              case' inr =>
                have h0' : 0 < k := h0
                go_wp2_with (first | (refine wpList_load_blk rfl _ _ rfl rfl hS Sp.aS ?_) | fail)
                refine (perm _ _).mono ?_
                rintro e1 w4 ⟨rfl, k1⟩
                rw [show (Go.Pm.squeeze so (k - 1)).perm = Go.Pm.squeeze so k by obtain ⟨i, rfl⟩ : ∃ i, k = i + 1 := ⟨k - 1, by omega⟩; rfl]
                have hS1 := hS.kept k1 (fun h => h)
                go_wp2_with (first | (refine wpList_store_blk rfl _ _ _ rfl rfl rfl hS1 Sp.aS rfl (Sp.sc_all _) ?_; intro wx hSx k2; have c0 := hSx.cell 0; simp at c0) | fail)
                have hkx : Kept None w wx := (hkk.then k1 (fun _ _ h => h)).then k2 (fun i hi (h : i = w3.heap.size) => by omega)
                have hRx := (hR.kept k1 (fun h => h)).kept k2 (fun (h : w.heap.size = w3.heap.size) => by omega)
                have hHx := (hH.kept k1 (fun h => h)).kept k2 (fun (h : wp.heap.size = w3.heap.size) => by omega)
                clear hkk hS hR hH hS1 k1 k2 h0
              all_goals
                have hu := U_ge (Go.Pm.squeeze so k).a
                have hu2 := U_lt (Go.Pm.squeeze so k).a
                refine (num _ _ hu hu2).mono ?_
                rintro e2 w6 ⟨v6, rfl, k6, b6⟩
                obtain ⟨X, hX⟩ : ∃ X, X = leB (U (Go.Pm.squeeze so k).a) := ⟨_, rfl⟩
                rw [← hX] at b6
                have hX8 : X.length = 8 := by rw [hX]; rfl
                have hend := Sp.sofar_splice so k hlt
                rw [← hX] at hend
                have hfull := Sp.sofar_len so k hk
                have hS6 := hSx.kept k6 (fun h => h)
                have hR6 := hRx.kept k6 (fun h => h)
                have hH6 : Blk w6 wp.heap.size (splice (Sp.sofar so k) (8 * k) ((X.map u8v).take 0)).toArray 53 := by
                  have : splice (Sp.sofar so k) (8 * k) ((X.map u8v).take 0) = Sp.sofar so k := by simp [splice]
                  rw [this]; exact hHx.kept k6 (fun h => h)
                have hk6 := hkx.then k6 (fun _ _ h => h)
                have hwx := hHx.lt
                have hbo : ∀ i, v6.ownBlock = some i → wp.heap.size < i := fun i hi => by have := (b6.own i hi).1; omega
                obtain ⟨a6, c6, rfl⟩ := b6.form
                rw [hX8] at b6 hbo ⊢
                have HE := hid (And.intro hX8 (And.intro hend hfull))
                clear hu hu2 hX hX8 hend hfull hSx hRx hHx hkx k6 c0
                obtain ⟨wq, rfl⟩ : ∃ wq : World, wq = wx := ⟨_, rfl⟩
                go_wp2
                go_loopw [9] (fun q wr => ∃ m : Nat, m ≤ 8 ∧ q = .int .i64 m ∧ Kept None w wr ∧ Blk wr w3.heap.size (Sp.sc (Go.Pm.squeeze so k)) 60 ∧ Blk wr w.heap.size z 53 ∧ Blk wr wp.heap.size (splice (Sp.sofar so k) (8 * k) ((X.map u8v).take m)).toArray 53 ∧ Ob wr wq.heap.size (.slice a6 8 c6) X) (fun q _ => 8 - (intOf q).toNat)
                case atStart => exact ⟨0, Nat.zero_le _, rfl, hk6, hS6, hR6, hH6, b6⟩
                case round =>
                  clear hk6 hS6 hR6 hH6 b6
                  obtain ⟨m, hm, rfl, hkk, hS, hR, hH, hb⟩ := hrel
                  by_cases hm8 : m < 8
                  · obtain ⟨hX8, hend, hfull⟩ := HE.out
                    obtain ⟨b, o, rfl, q1, q2, q3, hcs⟩ := Bs.ne (hb.bs (Nat.le_refl _)) (by omega)
                    have hc := hcs m (by omega)
                    have hxm : (X.map u8v)[m]? = some (.int .u8 (bAt X m)) := by
                      rw [List.getElem?_map, List.getElem?_eq_getElem (by omega), Option.map_some, u8v_at X m (by omega)]
                    have hst := splice_step (Sp.sofar so k) (X.map u8v) (8 * k) m (by simp; omega) (by simp; omega) _ hxm
                    have hlen : (splice (Sp.sofar so k) (8 * k) ((X.map u8v).take m)).length = 32 := by
                      rw [length_splice _ _ _ (by simp; omega), hfull]
                    obtain ⟨y, hy⟩ : ∃ y, wr.cell? ⟨wp.heap.size, 8 * k + m, none⟩ = some y := ⟨_, (hH.cell (8 * k + m)).trans (by rw [List.getElem?_toArray, List.getElem?_eq_getElem (by omega)])⟩
                    have fy := hH.free (8 * k + m)
                    have hH2 : Blk (wr.setCell ⟨wp.heap.size, 8 * k + m, none⟩ (.int .u8 (bAt X m))) wp.heap.size (splice (Sp.sofar so k) (8 * k) ((X.map u8v).take (m + 1))).toArray 53 := by
                      have := hH.set (8 * k + m) (.int .u8 (bAt X m))
                      rw [List.setIfInBounds_toArray, hst] at this
                      exact this
                    have kH := Kept.one wr wp.heap.size (8 * k + m) (.int .u8 (bAt X m))
                    have b0 := bAt_ge X m
                    have b1 := bAt_lt X m
                    have et : (8 * (k : Int) + (m : Int)).toNat = 8 * k + m := by omega
                    have hbo' := hbo b rfl
                    have hS2 := hS.kept kH (fun (h : w3.heap.size = wp.heap.size) => by omega)
                    have hR2 := hR.kept kH (fun (h : w.heap.size = wp.heap.size) => by omega)
                    have hk2 := hkk.then kH (fun i hi (h : i = wp.heap.size) => by omega)
                    have hb2 := hb.kept kH (fun i hi (h : i = wp.heap.size) => by have := hbo i hi; omega)
                    clear hcs hxm hst hlen hX8 hend hfull hS hR hkk hb kH hH
                    generalize bAt X m = c at *
                    go_wp2
                    exact ⟨⟨m + 1, by omega, by go_num, hk2, hS2, hR2, hH2, hb2⟩, by simp only [intOf]; omega⟩
                  · have hm8' : m = 8 := by omega
                    have hH2 : Blk wr wp.heap.size (Sp.sofar so (k + 1)).toArray 53 := by
                      rw [← HE.out.2.1]
                      rw [hm8', List.take_of_length_le (by simp [HE.out.1])] at hH
                      exact hH
                    clear hm8' hH hb hbo
                    go_wp2
                    exact ⟨⟨k + 1, by omega, by go_num, hkk, hS, hR, hH2⟩, by simp only [intOf]; omega⟩
            · have hk4 : k = 4 := by omega
              subst hk4
              rw [Sp.sofar_four] at hH
              have aH' : AggTy Try.prog 53 ((eights so 4).map u8v).toArray.size := by rw [K3.out]; exact Sp.aH
              have E := hid (HZ.out.trans K3.out.symm)
              go_wp2_with (first | (refine wpList_load_blk rfl _ _ rfl rfl hH aH' ?_) | (refine wpList_store_blk rfl _ _ _ rfl rfl rfl hR aH' E.out (u8v_all _) ?_; intro w6 hR6 k6) | fail)
              exact bodyPost_ret (v := hashV (eights so 4)) (results_blk rfl _ rfl hR6 aH') rfl ⟨rfl, hkk.then k6 (fun i hi (h : i = w.heap.size) => by omega)⟩
    · have hj1 : j + 1 ≤ noughts l := by
        unfold noughts at hj ⊢
        omega
      have h8' : decide ((n3 : Int) % 8 = 0) = false := by simp; omega
      have h8'' : ((n3 : Int) % 8 != 0) = true := by simp; omega
      have H3 := hid hn3
      clear hn3
      go_wp2_with (at_builtin; refine wpList_append_byte rfl _ _ 22 rfl rtBytes rfl rfl hb (by decide) (by decide) ?m1 ?m2 ?m3)
      case m1 => simp; omega
      case m2 => exact hsz
      case m3 =>
        intro a4 n4 c4 w4 b4 k5
        have k6 : Kept None w w4 := hkk.own k5 (fun k hk => by have := (hb.own k hk).1; omega)
        have hR4 : Blk w4 w.heap.size z 53 := hR.kept k5 (fun h => by have := (hb.own _ h).1; omega)
        have b5 : Ob w4 (w.heap.size + 1) (.slice a4 n4 c4) ((l ++ [1]) ++ List.replicate (j + 1) 0) := by
          rw [show Go.Pm.byteOf 0 = 0 from rfl] at b4
          rw [replicate_one]
          simpa using b4
        have hn4 : n4 = l.length + 1 + (j + 1) := by
          obtain ⟨_, _, hf⟩ := b5.form
          injection hf with _ h2 _
          rw [h2]; simp; omega
        have hn3 := H3.out
        clear hb hkk hR b4 k5
        have H4 := hid (And.intro hn3 hn4)
        clear hn3 hn4
        go_wp2
        have hn3 := H4.out.1
        have hn4 := H4.out.2
        exact ⟨⟨j + 1, hj1, ⟨_, _, _, rfl⟩, b5, k6, hR4⟩, by simp only [Sp.lenOf]; omega⟩
end Ref
end Go.Proofs.Ytkjidligfcihgaa

/- postmarkref1.Text, Tag, by their contracts. -/
namespace Go.Proofs.Ytkjidligfcihgaa
open Go.RowKit Go.Pm
namespace Ref

set_option maxRecDepth 100000 in
set_option maxHeartbeats 1000000 in
/-- postmarkref1.Text. -/
theorem text (tag : Int) (v : Value) (lo hi lo' hi' : Nat) (ls : List (List UInt8)) (w : World) (ht0 : 0 ≤ tag) (ht1 : tag < 256) (hv : Bss w lo hi lo' hi' v ls) (hn : ls.length ≤ 1099511627776) (hl : total ls ≤ 1099511627776) :
    Calls Try.prog 27 #[.int .u8 tag, v] w fun e w' => ∃ v', e = .returned v' ∧ Kept None w w' ∧ Ob w' w.heap.size v' (textB tag ls) := by
  obtain ⟨a, cap, rfl, g1, g2, g3⟩ := hv.shape
  have b0 : Ob (w.alloc (.cells #[.int .u8 tag] 5)) w.heap.size (.slice (some ⟨w.heap.size, 0, none⟩) 1 1) (textB tag (ls.take 0)) := by
    have := Bo.new w 5 [Go.Pm.byteOf tag] #[.int .u8 tag] (by simp [u8v_byteOf' ht0 ht1]) 1 rfl (by decide)
    simpa [textB] using this
  have k0 : Kept None w (w.alloc (.cells #[.int .u8 tag] 5)) := (Kept.refl _ _).alloc _
  go_enter Try.func27, Try.ntmps27
  go_wp2
  go_loopw [5, 6] (fun t i wr => ∃ k : Nat, k ≤ ls.length ∧ i = .int .i64 k ∧ (∃ a n c, t = .slice a n c) ∧ Ob wr w.heap.size t (textB tag (ls.take k)) ∧ Kept None w wr) (fun _ i _ => ls.length - (intOf i).toNat)
  case atStart => exact ⟨0, Nat.zero_le _, rfl, ⟨_, _, _, rfl⟩, b0, k0⟩
  case round =>
    clear b0 k0
    obtain ⟨k, hk, rfl, ⟨a3, n3, c3, rfl⟩, hb, hkk⟩ := hrel
    have hsz := hkk.size
    by_cases hlt : k < ls.length
    · have hvr := hv.kept hkk (fun _ _ _ h => h) (fun _ _ _ h => h)
      obtain ⟨b, o, rfl, q1, q2, q3, hc⟩ := Bss.at hvr (by omega)
      obtain ⟨a', c', hc', hb'⟩ := hc k hlt
      have hlen := at_total ls k hlt
      have HP := hid (textB_take tag ls k hlt)
      have htl : (textB tag (ls.take k)).length ≤ 1 + 8 * ls.length + total ls := by
        rw [textB_length, List.length_take]
        have := total_take_le ls k
        omega
      clear hc hvr hv g3
      generalize ls[k] = x at *
      go_wp2_with fail
      refine (lump _ _ _ _ _ hb' (by omega)).mono ?_
      rintro e1 w4 ⟨v4, rfl, k4, b4⟩
      have hyl : (leB x.length ++ x).length = x.length + 8 := by simp [leB_length]; omega
      have HP' := HP.out
      generalize leB x.length ++ x = y at *
      have HP2 := hid HP'
      clear HP HP'
      have hb4 := hb.kept k4 (fun _ _ h => h)
      have hk5 := hkk.then k4 (fun _ _ h => h)
      have hs4 := k4.size
      have hb4' := b4.bs (Nat.le_refl _)
      obtain ⟨a4, c4, rfl⟩ := b4.form
      have HY := hid hyl
      clear hyl hb hkk k4 b4 hb'
      go_wp2_with (at_builtin; refine wpList_append_bo rfl _ _ 22 rfl rtBytes rfl rfl hb4 hb4' ?m1 ?m2 ?m3)
      case m1 => have := HY.out; omega
      case m2 => omega
      case m3 =>
        intro a5 n5 c5 w5 hb5 hk6
        have hk7 : Kept None w w5 := hk5.own hk6 (fun i h => by have := (hb4.own i h).1; omega)
        rw [← HP2.out] at hb5
        clear hb4 hb4' hk5 hk6 HP2
        go_wp2
        go_roundw
        case rel => exact ⟨k + 1, by omega, by go_num, ⟨_, _, _, rfl⟩, hb5, hk7⟩
        case measure => simp [intOf]; omega
    · have hb6 : Ob wr w.heap.size (.slice a3 n3 c3) (textB tag ls) := by rw [List.take_of_length_le (by omega)] at hb; exact hb
      clear hb hv g3
      go_wp2
      go_ret
      exact ⟨_, rfl, hkk, hb6⟩

set_option maxRecDepth 100000 in
set_option maxHeartbeats 400000 in
/-- postmarkref1.Tag. -/
theorem tag (tg : Int) (v : Value) (lo hi lo' hi' : Nat) (ls : List (List UInt8)) (w : World) (ht0 : 0 ≤ tg) (ht1 : tg < 256) (hv : Bss w lo hi lo' hi' v ls) (hn : ls.length ≤ 1099511627776) (hl : total ls ≤ 1099511627776) :
    Calls Try.prog 22 #[.int .u8 tg, v] w fun e w' => e = .returned (hashV (sumB (textB tg ls))) ∧ Kept None w w' := by
  have hs := fun v lo hi w h => sum v lo hi (textB tg ls) w h (by rw [textB_length]; omega)
  have e32 := sumB_len (textB tg ls)
  obtain ⟨res, hres⟩ : ∃ res, res = sumB (textB tg ls) := ⟨_, rfl⟩
  rw [← hres] at hs e32 ⊢
  have HS := hid hs
  have H32 := hid e32
  clear hs e32 hres
  obtain ⟨a, cap, rfl, g1, g2, g3⟩ := hv.shape
  clear g3
  go_enter Try.func22, Try.ntmps22
  go_wp2_with fail
  have hv1 := hv.kept ((Kept.refl None w).alloc (.cells (Array.replicate 32 (.int .u8 0)) 53)) (fun _ _ _ h => h) (fun _ _ _ h => h)
  refine (text tg _ lo hi lo' hi' ls _ ht0 ht1 hv1 hn hl).mono ?_
  rintro e1 w1 ⟨v1, rfl, k1, b1⟩
  obtain ⟨z, hz, hR⟩ : ∃ z : Array Value, z.size = 32 ∧ Blk w1 w.heap.size z 53 := ⟨Array.replicate 32 (.int .u8 0), by simp, (Blk.new w _ _).kept k1 (fun h => h)⟩
  have k2 : Kept None w w1 := ((Kept.refl _ _).alloc _).trans k1
  clear hv hv1 k1
  go_wp2_with fail
  refine (HS.out _ _ _ _ (b1.bs (Nat.le_refl _))).mono ?_
  rintro e2 w2 ⟨rfl, k3⟩
  have hR2 := hR.kept k3 (fun h => h)
  have k4 := k2.then k3 (fun _ _ h => h)
  have e32 : (res.map u8v).toArray.size = 32 := by simpa using H32.out
  have aH' : AggTy Try.prog 53 (res.map u8v).toArray.size := by rw [e32]; exact Sp.aH
  have E := hid (hz.trans e32.symm)
  clear hR k3 k2 b1 e32 hz
  go_wp2_with (first | (refine wpList_store_blk rfl _ _ _ rfl rfl rfl hR2 aH' E.out (u8v_all _) ?_; intro w6 hR6 k6) | fail)
  exact bodyPost_ret (v := hashV res) (results_blk rfl _ rfl hR6 aH') rfl ⟨rfl, k4.then k6 (fun i hi (h : i = w.heap.size) => by omega)⟩
end Ref
end Go.Proofs.Ytkjidligfcihgaa
