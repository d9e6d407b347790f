/- postmarkref1.turn, round, Perm, by their contracts. -/
import Derived.Test.YtbckjkfdkgomiaaSqueeze
import Derived.Test.YtbckjkfdkgomiaaRefA
namespace Go.Proofs.Ytbckjkfdkgomiaa
open Go.RowKit Go.Pm
namespace Ref

set_option maxHeartbeats 400000 in
theorem turn (x : U64) (n : Nat) (N : Int) (hN : N = n) (w : World) (h0 : 0 < n) (h1 : n < 64) :
    Calls Try.prog 92 #[.int .u64 (U x), .int .i64 N] w fun e w' => e = .returned (.int .u64 (U (rot x n))) ∧ Kept None w w' := by
  subst hN
  have g0 := U_ge x
  have g1 := U_lt x
  go_enter Try.func92, Try.ntmps92
  go_wp2
  go_quiet (fail)
  go_wp2
  go_ret
  have e1 := U_shr x n
  have e2 := U_shl x (64 - n)
  push_cast at e1 e2
  refine ⟨?_, Kept.toDrewN _ _ _⟩
  show Ending.returned (.int .u64 (bits .or .u64 (U x / 2 ^ n) (IntKind.u64.wrap (U x * 2 ^ (64 - n))))) = _
  rw [e1, e2, U_or]
  rfl

/-- The first k of t's words. -/
def tc (t : S5) : Nat → Array Value
  | 0 => #[.int .u64 0, .int .u64 0, .int .u64 0, .int .u64 0, .int .u64 0]
  | 1 => #[.int .u64 (U t.a), .int .u64 0, .int .u64 0, .int .u64 0, .int .u64 0]
  | 2 => #[.int .u64 (U t.a), .int .u64 (U t.b), .int .u64 0, .int .u64 0, .int .u64 0]
  | 3 => #[.int .u64 (U t.a), .int .u64 (U t.b), .int .u64 (U t.c), .int .u64 0, .int .u64 0]
  | 4 => #[.int .u64 (U t.a), .int .u64 (U t.b), .int .u64 (U t.c), .int .u64 (U t.d), .int .u64 0]
  | _ => #[.int .u64 (U t.a), .int .u64 (U t.b), .int .u64 (U t.c), .int .u64 (U t.d), .int .u64 (U t.e)]

theorem sgn : (if IntKind.u64.signed = true then (-1 : Int) else IntKind.u64.max) = IntKind.u64.max := rfl
theorem tc_size (t : S5) (k : Nat) : (tc t k).size = 5 := by unfold tc; split <;> rfl
theorem chi_a (s : S5) : bits .xor .u64 (U s.a) (bits .and .u64 (bits .xor .u64 IntKind.u64.max (U s.b)) (U s.c)) = U s.chi.a := by simp only [U_xor, U_and, U_not']; rfl
theorem chi_b (s : S5) : bits .xor .u64 (U s.b) (bits .and .u64 (bits .xor .u64 IntKind.u64.max (U s.c)) (U s.d)) = U s.chi.b := by simp only [U_xor, U_and, U_not']; rfl
theorem chi_c (s : S5) : bits .xor .u64 (U s.c) (bits .and .u64 (bits .xor .u64 IntKind.u64.max (U s.d)) (U s.e)) = U s.chi.c := by simp only [U_xor, U_and, U_not']; rfl
theorem chi_d (s : S5) : bits .xor .u64 (U s.d) (bits .and .u64 (bits .xor .u64 IntKind.u64.max (U s.e)) (U s.a)) = U s.chi.d := by simp only [U_xor, U_and, U_not']; rfl
theorem chi_e (s : S5) : bits .xor .u64 (U s.e) (bits .and .u64 (bits .xor .u64 IntKind.u64.max (U s.a)) (U s.b)) = U s.chi.e := by simp only [U_xor, U_and, U_not']; rfl

/-- What is known in a region that spreads a word: the state's block; the two turned words (operations 4, 8); the state's block behind the store (operation 11). -/
def planTurn (r : Nat) (cur new : Array Value) (x : U64) (n m : Nat) : List Fct :=
  [{ k := 100, uses := [], fact := fun _ W => Blk W r cur 98 },
   { k := 4, uses := [], pure := fun v => v = .int .u64 (U (rot x n)) },
   { k := 8, uses := [], pure := fun v => v = .int .u64 (U (rot x m)) },
   { k := 11, uses := [100], spends := [100], fact := fun _ W => Blk W r new 98 }]
theorem planTurn_pure {r : Nat} {cur new : Array Value} {x : U64} {n m : Nat} : ∀ f ∈ planTurn r cur new x n m, ∃ v, f.pure v := by
  intro f hf
  simp only [planTurn, List.mem_cons, List.not_mem_nil, or_false] at hf
  rcases hf with rfl | rfl | rfl | rfl
  · exact ⟨undef, trivial⟩
  · exact ⟨_, rfl⟩
  · exact ⟨_, rfl⟩
  · exact ⟨undef, trivial⟩
theorem planTurn_keeps {base : World → Prop} {r i : Nat} {cur new : Array Value} {x : U64} {n m : Nat} {W W' : World} (hk : Kept None W W') : (planOf base (planTurn r cur new x n m)).keeps i W W' := by
  refine keeps_of fun f hf _ _ _ u hfu => ?_
  simp only [planTurn, List.mem_cons, List.not_mem_nil, or_false] at hf
  rcases hf with rfl | rfl | rfl | rfl
  · exact Blk.kept hfu hk (fun h => h)
  · trivial
  · trivial
  · exact Blk.kept hfu hk (fun h => h)
theorem planTurn_keeps11 {base : World → Prop} {r : Nat} {cur new : Array Value} {x : U64} {n m : Nat} {W W' : World} : (planOf base (planTurn r cur new x n m)).keeps 11 W W' := by
  refine keeps_of fun f hf hs _ hne u hfu => ?_
  simp only [planTurn, List.mem_cons, List.not_mem_nil, or_false] at hf
  rcases hf with rfl | rfl | rfl | rfl
  · exact absurd (List.Mem.head _) hs
  · trivial
  · trivial
  · exact absurd rfl hne
theorem lin_xor (x : U64) (n m : Nat) : bits .xor .u64 (bits .xor .u64 (U x) (U (rot x n))) (U (rot x m)) = U (lin x n m) := by simp only [U_xor]; rfl

set_option maxRecDepth 100000 in
set_option maxHeartbeats 4000000 in
theorem round (s : S5) (c : U64) (w : World) :
    Calls Try.prog 89 #[Sp.sv s, .int .u64 (U c)] w fun e w' => e = .returned (Sp.sv (s.round c)) ∧ Kept None w w' := by
  obtain ⟨p, hp⟩ : ∃ p, p = s.add c := ⟨_, rfl⟩
  have ca := chi_a p
  have cb := chi_b p
  have cc := chi_c p
  have cd := chi_d p
  have ce := chi_e p
  show Calls _ _ _ w fun e w' => e = .returned (Sp.sv (((s.add c).chi).mix.spread)) ∧ Kept None w w'
  rw [← hp]
  have hp' : Sp.sc p = #[.int .u64 (bits .xor .u64 (U s.a) (U s.e)), .int .u64 (U s.b), .int .u64 (bits .xor .u64 (bits .xor .u64 (U s.c) (U c)) (U s.b)), .int .u64 (U s.d), .int .u64 (bits .xor .u64 (U s.e) (U s.d))] := by
    rw [hp]; simp only [U_xor]; rfl
  obtain ⟨q, hq⟩ : ∃ q, q = p.chi := ⟨_, rfl⟩
  rw [← hq] at ca cb cc cd ce ⊢
  obtain ⟨r, hr⟩ : ∃ r, r = q.mix.spread := ⟨_, rfl⟩
  rw [← hr]
  have HP := hid hp'
  have HR := hid hr
  have HC := hid (And.intro ca (And.intro cb (And.intro cc (And.intro cd ce))))
  clear ca cb cc cd ce hp hp' hq hr
  obtain ⟨a, b, x, d, e⟩ := s
  go_enter Try.func89, Try.ntmps89
  go_wp2
  go_loopw [6] (fun i wr => ∃ k : Nat, k ≤ 5 ∧ i = .int .i64 k ∧ Kept None w wr ∧ Blk wr w.heap.size (Sp.sc p) 98 ∧ (∃ z : Array Value, z.size = 5 ∧ Blk wr (w.heap.size + 1) z 98) ∧ Blk wr (w.heap.size + 1 + 1) (tc q k) 98) (fun i _ => 5 - (intOf i).toNat)
  case atStart =>
    refine ⟨0, by omega, rfl, (((Kept.refl _ _).alloc _).alloc _).alloc _, ?_, ⟨_, ?_, (Blk.new2 _ _ _ _).alloc _⟩, Blk.new3 _ _ _ _ _⟩
    · rw [HP.out]; exact ((Blk.new _ _ _).alloc _).alloc _
    · rfl
  case round =>
    obtain ⟨k, hk, rfl, hkk, hS, ⟨z, hz, hR⟩, hT⟩ := hrel
    by_cases h5 : k < 5
    · have hk5 : k = 0 ∨ k = 1 ∨ k = 2 ∨ k = 3 ∨ k = 4 := by omega
      clear hk h5
      rcases hk5 with rfl | rfl | rfl | rfl | rfl
      all_goals
        go_wp2
        refine wp_tail 18 (by kernel_rfl) (by kernel_rfl) (fun wy ky => ?_)
        have hS' := hS.kept ky (fun h => h)
        have hT' := hT.kept ky (fun h => h)
        have c0 := hS'.cell 0
        have c1 := hS'.cell 1
        have c2 := hS'.cell 2
        have c3 := hS'.cell 3
        have c4 := hS'.cell 4
        simp at c0 c1 c2 c3 c4
        have w1 : IntKind.i64.wrap 1 = 1 := by decide
        have w2 : IntKind.i64.wrap 2 = 2 := by decide
        have w3 : IntKind.i64.wrap 3 = 3 := by decide
        have w4 : IntKind.i64.wrap 4 = 4 := by decide
        have w5 : IntKind.i64.wrap 5 = 5 := by decide
        have w6 : IntKind.i64.wrap 6 = 6 := by decide
        have m1 : (1 : Int).tmod 5 = 1 := by decide
        have m2 : (2 : Int).tmod 5 = 2 := by decide
        have m3 : (3 : Int).tmod 5 = 3 := by decide
        have m4 : (4 : Int).tmod 5 = 4 := by decide
        have m5 : (5 : Int).tmod 5 = 0 := by decide
        have m6 : (6 : Int).tmod 5 = 1 := by decide
        simp only [List.take_succ_cons, List.take_zero, List.drop_succ_cons, List.drop_zero]
        repeat still_step
        refine wpStill_nil ?_
        try simp only [sgn]
        simp only [HC.out.1, HC.out.2.1, HC.out.2.2.1, HC.out.2.2.2.1, HC.out.2.2.2.2]
        clear w1 w2 w3 w4 w5 w6 m1 m2 m3 m4 m5 m6 c0 c1 c2 c3 c4 hS'
      · have f0 := hT'.free 0
        have t0 := hT'.cell 0
        have hT2 : Blk _ _ (tc q 1) _ := hT'.set 0 (.int .u64 (U q.a))
        have kT := Kept.one wy (w.heap.size + 1 + 1) 0 (.int .u64 (U q.a))
        simp [tc] at t0
        go_wp2
        exact ⟨⟨1, by omega, rfl, (hkk.then ky (fun _ _ h => h)).then kT (fun i hi (h : i = w.heap.size + 1 + 1) => by omega), (hS.kept ky (fun h => h)).kept kT (fun (h : w.heap.size = w.heap.size + 1 + 1) => by omega), ⟨z, hz, (hR.kept ky (fun h => h)).kept kT (fun (h : w.heap.size + 1 = w.heap.size + 1 + 1) => by omega)⟩, hT2⟩, by simp [intOf]⟩
      · have f0 := hT'.free 1
        have t0 := hT'.cell 1
        have hT2 : Blk _ _ (tc q 2) _ := hT'.set 1 (.int .u64 (U q.b))
        have kT := Kept.one wy (w.heap.size + 1 + 1) 1 (.int .u64 (U q.b))
        simp [tc] at t0
        go_wp2
        exact ⟨⟨2, by omega, rfl, (hkk.then ky (fun _ _ h => h)).then kT (fun i hi (h : i = w.heap.size + 1 + 1) => by omega), (hS.kept ky (fun h => h)).kept kT (fun (h : w.heap.size = w.heap.size + 1 + 1) => by omega), ⟨z, hz, (hR.kept ky (fun h => h)).kept kT (fun (h : w.heap.size + 1 = w.heap.size + 1 + 1) => by omega)⟩, hT2⟩, by simp [intOf]⟩
      · have f0 := hT'.free 2
        have t0 := hT'.cell 2
        have hT2 : Blk _ _ (tc q 3) _ := hT'.set 2 (.int .u64 (U q.c))
        have kT := Kept.one wy (w.heap.size + 1 + 1) 2 (.int .u64 (U q.c))
        simp [tc] at t0
        go_wp2
        exact ⟨⟨3, by omega, rfl, (hkk.then ky (fun _ _ h => h)).then kT (fun i hi (h : i = w.heap.size + 1 + 1) => by omega), (hS.kept ky (fun h => h)).kept kT (fun (h : w.heap.size = w.heap.size + 1 + 1) => by omega), ⟨z, hz, (hR.kept ky (fun h => h)).kept kT (fun (h : w.heap.size + 1 = w.heap.size + 1 + 1) => by omega)⟩, hT2⟩, by simp [intOf]⟩
      · have f0 := hT'.free 3
        have t0 := hT'.cell 3
        have hT2 : Blk _ _ (tc q 4) _ := hT'.set 3 (.int .u64 (U q.d))
        have kT := Kept.one wy (w.heap.size + 1 + 1) 3 (.int .u64 (U q.d))
        simp [tc] at t0
        go_wp2
        exact ⟨⟨4, by omega, rfl, (hkk.then ky (fun _ _ h => h)).then kT (fun i hi (h : i = w.heap.size + 1 + 1) => by omega), (hS.kept ky (fun h => h)).kept kT (fun (h : w.heap.size = w.heap.size + 1 + 1) => by omega), ⟨z, hz, (hR.kept ky (fun h => h)).kept kT (fun (h : w.heap.size + 1 = w.heap.size + 1 + 1) => by omega)⟩, hT2⟩, by simp [intOf]⟩
      · have f0 := hT'.free 4
        have t0 := hT'.cell 4
        have hT2 : Blk _ _ (tc q 5) _ := hT'.set 4 (.int .u64 (U q.e))
        have kT := Kept.one wy (w.heap.size + 1 + 1) 4 (.int .u64 (U q.e))
        simp [tc] at t0
        go_wp2
        exact ⟨⟨5, by omega, rfl, (hkk.then ky (fun _ _ h => h)).then kT (fun i hi (h : i = w.heap.size + 1 + 1) => by omega), (hS.kept ky (fun h => h)).kept kT (fun (h : w.heap.size = w.heap.size + 1 + 1) => by omega), ⟨z, hz, (hR.kept ky (fun h => h)).kept kT (fun (h : w.heap.size + 1 = w.heap.size + 1 + 1) => by omega)⟩, hT2⟩, by simp [intOf]⟩
    · have h5' : k = 5 := by omega
      subst h5'
      have hT0 : Blk wr (w.heap.size + 1 + 1) (Sp.sc q) 98 := hT
      have mb := U_xor q.b q.a
      have ma := U_xor q.a q.e
      have md := U_xor q.d q.c
      have mc := U_not' q.c
      change _ = U q.mix.b at mb
      change _ = U q.mix.a at ma
      change _ = U q.mix.d at md
      change _ = U q.mix.c at mc
      have me : U q.e = U q.mix.e := rfl
      obtain ⟨m, hm⟩ : ∃ m, m = q.mix := ⟨_, rfl⟩
      rw [← hm] at ma mb mc md me
      have HM := hid (And.intro ma (And.intro mb (And.intro mc (And.intro md me))))
      have hRm : r = m.spread := by rw [hm]; exact HR.out
      have HR2 := hid hRm
      clear ma mb mc md me hm HR hRm
      have c0 := hT0.cell 0
      have c1 := hT0.cell 1
      have c2 := hT0.cell 2
      have c3 := hT0.cell 3
      have c4 := hT0.cell 4
      have f0 := hT0.free 0
      have f1 := hT0.free 1
      have f2 := hT0.free 2
      have f3 := hT0.free 3
      simp at c0 c1 c2 c3 c4
      go_wp2
      simp only [HM.out.1, HM.out.2.1, HM.out.2.2.1, HM.out.2.2.2.1]
      have hT1 : Blk ((((wr.setCell ⟨w.heap.size + 1 + 1, 1, none⟩ (.int .u64 (U m.b))).setCell ⟨w.heap.size + 1 + 1, 0, none⟩ (.int .u64 (U m.a))).setCell ⟨w.heap.size + 1 + 1, 3, none⟩ (.int .u64 (U m.d))).setCell ⟨w.heap.size + 1 + 1, 2, none⟩ (.int .u64 (U m.c))) (w.heap.size + 1 + 1) (Sp.sc m) 98 := by
        have h1 := (((hT0.set 1 (.int .u64 (U m.b))).set 0 (.int .u64 (U m.a))).set 3 (.int .u64 (U m.d))).set 2 (.int .u64 (U m.c))
        rw [show Sp.sc m = #[.int .u64 (U m.a), .int .u64 (U m.b), .int .u64 (U m.c), .int .u64 (U m.d), .int .u64 (U q.e)] by rw [HM.out.2.2.2.2]]
        exact h1
      have kA : Kept (Just (w.heap.size + 1 + 1)) wr ((((wr.setCell ⟨w.heap.size + 1 + 1, 1, none⟩ (.int .u64 (U m.b))).setCell ⟨w.heap.size + 1 + 1, 0, none⟩ (.int .u64 (U m.a))).setCell ⟨w.heap.size + 1 + 1, 3, none⟩ (.int .u64 (U m.d))).setCell ⟨w.heap.size + 1 + 1, 2, none⟩ (.int .u64 (U m.c))) :=
        (((Kept.one wr _ 1 _).one' 0 _).one' 3 _).one' 2 _
      clear c0 c1 c2 c3 c4 f0 f1 f2 f3 hT0 hT
      obtain ⟨wA, hwA⟩ : ∃ wA, wA = ((((wr.setCell ⟨w.heap.size + 1 + 1, 1, none⟩ (.int .u64 (U m.b))).setCell ⟨w.heap.size + 1 + 1, 0, none⟩ (.int .u64 (U m.a))).setCell ⟨w.heap.size + 1 + 1, 3, none⟩ (.int .u64 (U m.d))).setCell ⟨w.heap.size + 1 + 1, 2, none⟩ (.int .u64 (U m.c))) := ⟨_, rfl⟩
      rw [← hwA] at hT1 kA ⊢
      have hk0 : Kept None w wA := hkk.then kA (fun i hi (h : i = w.heap.size + 1 + 1) => by omega)
      have hS0 := hS.kept kA (fun (h : w.heap.size = w.heap.size + 1 + 1) => by omega)
      have hR0 := hR.kept kA (fun (h : w.heap.size + 1 = w.heap.size + 1 + 1) => by omega)
      clear hwA kA hkk hS hR HC HP
      -- word 0
      refine wp_region_plan (Kept (Just w.heap.size) wA) (planTurn w.heap.size #[.int .u64 (U p.a), .int .u64 (U p.b), .int .u64 (U p.c), .int .u64 (U p.d), .int .u64 (U p.e)] #[.int .u64 (U (lin m.a 19 28)), .int .u64 (U p.b), .int .u64 (U p.c), .int .u64 (U p.d), .int .u64 (U p.e)] m.a 19 28) [100] (by kernel_rfl) (by kernel_rfl) (by kernel_rfl) rfl planTurn_pure (Kept.refl _ _).drew (fun j hj => by
          obtain rfl : j = 100 := by simpa using hj
          exact hS0.drew) ?_
      iterate 4 (refine wpPar_pure rfl (by rfl) _ (fun W hW => by
          have c0 : W.cell? ⟨w.heap.size + 1 + 1, 0, none⟩ = some (.int .u64 (U m.a)) := (hT1.kept hW (fun (h : w.heap.size + 1 + 1 = w.heap.size) => by omega)).cell 0
          go_simp
          exact rfl) ?_; simp only [Act.put, List.setIfInBounds_toArray, List.set_cons_zero, List.set_cons_succ])
      refine wpPar_adds rfl (by rfl) (fun W hW _ => ?_) (fun v hv' => ?_)
      · unfold Gives
        go_simp
        refine gives_call (turn _ 19 _ rfl W (by decide) (by decide)) ?_
        rintro e w3 ⟨rfl, k3⟩
        exact ⟨_, rfl, hW.then k3 (fun _ _ h => h.elim), rfl, trivial, planTurn_keeps k3⟩
      obtain rfl : v = .int .u64 (U (rot m.a 19)) := hv'
      simp only [Act.put, List.setIfInBounds_toArray, List.set_cons_zero, List.set_cons_succ]
      iterate 3 (refine wpPar_pure rfl (by rfl) _ (fun W hW => by
          have c0 : W.cell? ⟨w.heap.size + 1 + 1, 0, none⟩ = some (.int .u64 (U m.a)) := (hT1.kept hW (fun (h : w.heap.size + 1 + 1 = w.heap.size) => by omega)).cell 0
          go_simp
          exact rfl) ?_; simp only [Act.put, List.setIfInBounds_toArray, List.set_cons_zero, List.set_cons_succ])
      refine wpPar_adds rfl (by rfl) (fun W hW _ => ?_) (fun v hv' => ?_)
      · unfold Gives
        go_simp
        refine gives_call (turn _ 28 _ rfl W (by decide) (by decide)) ?_
        rintro e w3 ⟨rfl, k3⟩
        exact ⟨_, rfl, hW.then k3 (fun _ _ h => h.elim), rfl, trivial, planTurn_keeps k3⟩
      obtain rfl : v = .int .u64 (U (rot m.a 28)) := hv'
      simp only [Act.put, List.setIfInBounds_toArray, List.set_cons_zero, List.set_cons_succ]
      iterate 2 (refine wpPar_pure rfl (by rfl) _ (fun W hW => by
          go_simp
          exact rfl) ?_; simp only [Act.put, List.setIfInBounds_toArray, List.set_cons_zero, List.set_cons_succ])
      simp only [lin_xor]
      refine wpPar_adds rfl (by rfl) (fun W hW hd => ?_) (fun v' _ => ?_)
      · have hB : Blk W w.heap.size #[.int .u64 (U p.a), .int .u64 (U p.b), .int .u64 (U p.c), .int .u64 (U p.d), .int .u64 (U p.e)] 98 := hd 100 (List.Mem.head _)
        have c0 := hB.cell 0
        have f0 := hB.free 0
        simp at c0
        have hB2 : Blk _ _ #[.int .u64 (U (lin m.a 19 28)), .int .u64 (U p.b), .int .u64 (U p.c), .int .u64 (U p.d), .int .u64 (U p.e)] _ := hB.set 0 (.int .u64 (U (lin m.a 19 28)))
        unfold Gives
        go_simp
        exact ⟨hW.one' 0 _, trivial, hB2, planTurn_keeps11⟩
      simp only [Act.put]
      refine wpPar_nil (fun w1 hW hG => ?_)
      have hS1 : Blk w1 w.heap.size #[.int .u64 (U (lin m.a 19 28)), .int .u64 (U p.b), .int .u64 (U p.c), .int .u64 (U p.d), .int .u64 (U p.e)] 98 := hG 11
      have hk1 : Kept None w w1 := hk0.then hW (fun i hi (h : i = w.heap.size) => by omega)
      have hR1 := hR0.kept hW (fun (h : w.heap.size + 1 = w.heap.size) => by omega)
      have hT2 := hT1.kept hW (fun (h : w.heap.size + 1 + 1 = w.heap.size) => by omega)
      clear hG hS0 hk0 hR0 hT1 hW
      go_wp2
      -- word 1
      refine wp_region_plan (Kept (Just w.heap.size) w1) (planTurn w.heap.size #[.int .u64 (U (lin m.a 19 28)), .int .u64 (U p.b), .int .u64 (U p.c), .int .u64 (U p.d), .int .u64 (U p.e)] #[.int .u64 (U (lin m.a 19 28)), .int .u64 (U (lin m.b 61 39)), .int .u64 (U p.c), .int .u64 (U p.d), .int .u64 (U p.e)] m.b 61 39) [100] (by kernel_rfl) (by kernel_rfl) (by kernel_rfl) rfl planTurn_pure (Kept.refl _ _).drew (fun j hj => by
          obtain rfl : j = 100 := by simpa using hj
          exact hS1.drew) ?_
      iterate 4 (refine wpPar_pure rfl (by rfl) _ (fun W hW => by
          have c0 : W.cell? ⟨w.heap.size + 1 + 1, 1, none⟩ = some (.int .u64 (U m.b)) := (hT2.kept hW (fun (h : w.heap.size + 1 + 1 = w.heap.size) => by omega)).cell 1
          go_simp
          exact rfl) ?_; simp only [Act.put, List.setIfInBounds_toArray, List.set_cons_zero, List.set_cons_succ])
      refine wpPar_adds rfl (by rfl) (fun W hW _ => ?_) (fun v hv' => ?_)
      · unfold Gives
        go_simp
        refine gives_call (turn _ 61 _ rfl W (by decide) (by decide)) ?_
        rintro e w3 ⟨rfl, k3⟩
        exact ⟨_, rfl, hW.then k3 (fun _ _ h => h.elim), rfl, trivial, planTurn_keeps k3⟩
      obtain rfl : v = .int .u64 (U (rot m.b 61)) := hv'
      simp only [Act.put, List.setIfInBounds_toArray, List.set_cons_zero, List.set_cons_succ]
      iterate 3 (refine wpPar_pure rfl (by rfl) _ (fun W hW => by
          have c0 : W.cell? ⟨w.heap.size + 1 + 1, 1, none⟩ = some (.int .u64 (U m.b)) := (hT2.kept hW (fun (h : w.heap.size + 1 + 1 = w.heap.size) => by omega)).cell 1
          go_simp
          exact rfl) ?_; simp only [Act.put, List.setIfInBounds_toArray, List.set_cons_zero, List.set_cons_succ])
      refine wpPar_adds rfl (by rfl) (fun W hW _ => ?_) (fun v hv' => ?_)
      · unfold Gives
        go_simp
        refine gives_call (turn _ 39 _ rfl W (by decide) (by decide)) ?_
        rintro e w3 ⟨rfl, k3⟩
        exact ⟨_, rfl, hW.then k3 (fun _ _ h => h.elim), rfl, trivial, planTurn_keeps k3⟩
      obtain rfl : v = .int .u64 (U (rot m.b 39)) := hv'
      simp only [Act.put, List.setIfInBounds_toArray, List.set_cons_zero, List.set_cons_succ]
      iterate 2 (refine wpPar_pure rfl (by rfl) _ (fun W hW => by
          go_simp
          exact rfl) ?_; simp only [Act.put, List.setIfInBounds_toArray, List.set_cons_zero, List.set_cons_succ])
      simp only [lin_xor]
      refine wpPar_adds rfl (by rfl) (fun W hW hd => ?_) (fun v' _ => ?_)
      · have hB : Blk W w.heap.size #[.int .u64 (U (lin m.a 19 28)), .int .u64 (U p.b), .int .u64 (U p.c), .int .u64 (U p.d), .int .u64 (U p.e)] 98 := hd 100 (List.Mem.head _)
        have c0 := hB.cell 1
        have f0 := hB.free 1
        simp at c0
        have hB2 : Blk _ _ #[.int .u64 (U (lin m.a 19 28)), .int .u64 (U (lin m.b 61 39)), .int .u64 (U p.c), .int .u64 (U p.d), .int .u64 (U p.e)] _ := hB.set 1 (.int .u64 (U (lin m.b 61 39)))
        unfold Gives
        go_simp
        exact ⟨hW.one' 1 _, trivial, hB2, planTurn_keeps11⟩
      simp only [Act.put]
      refine wpPar_nil (fun w2 hW hG => ?_)
      have hS2 : Blk w2 w.heap.size #[.int .u64 (U (lin m.a 19 28)), .int .u64 (U (lin m.b 61 39)), .int .u64 (U p.c), .int .u64 (U p.d), .int .u64 (U p.e)] 98 := hG 11
      have hk2 : Kept None w w2 := hk1.then hW (fun i hi (h : i = w.heap.size) => by omega)
      have hR2 := hR1.kept hW (fun (h : w.heap.size + 1 = w.heap.size) => by omega)
      have hT3 := hT2.kept hW (fun (h : w.heap.size + 1 + 1 = w.heap.size) => by omega)
      clear hG hS1 hk1 hR1 hT2 hW
      go_wp2
      -- word 2
      refine wp_region_plan (Kept (Just w.heap.size) w2) (planTurn w.heap.size #[.int .u64 (U (lin m.a 19 28)), .int .u64 (U (lin m.b 61 39)), .int .u64 (U p.c), .int .u64 (U p.d), .int .u64 (U p.e)] #[.int .u64 (U (lin m.a 19 28)), .int .u64 (U (lin m.b 61 39)), .int .u64 (U (lin m.c 1 6)), .int .u64 (U p.d), .int .u64 (U p.e)] m.c 1 6) [100] (by kernel_rfl) (by kernel_rfl) (by kernel_rfl) rfl planTurn_pure (Kept.refl _ _).drew (fun j hj => by
          obtain rfl : j = 100 := by simpa using hj
          exact hS2.drew) ?_
      iterate 4 (refine wpPar_pure rfl (by rfl) _ (fun W hW => by
          have c0 : W.cell? ⟨w.heap.size + 1 + 1, 2, none⟩ = some (.int .u64 (U m.c)) := (hT3.kept hW (fun (h : w.heap.size + 1 + 1 = w.heap.size) => by omega)).cell 2
          go_simp
          exact rfl) ?_; simp only [Act.put, List.setIfInBounds_toArray, List.set_cons_zero, List.set_cons_succ])
      refine wpPar_adds rfl (by rfl) (fun W hW _ => ?_) (fun v hv' => ?_)
      · unfold Gives
        go_simp
        refine gives_call (turn _ 1 _ rfl W (by decide) (by decide)) ?_
        rintro e w3 ⟨rfl, k3⟩
        exact ⟨_, rfl, hW.then k3 (fun _ _ h => h.elim), rfl, trivial, planTurn_keeps k3⟩
      obtain rfl : v = .int .u64 (U (rot m.c 1)) := hv'
      simp only [Act.put, List.setIfInBounds_toArray, List.set_cons_zero, List.set_cons_succ]
      iterate 3 (refine wpPar_pure rfl (by rfl) _ (fun W hW => by
          have c0 : W.cell? ⟨w.heap.size + 1 + 1, 2, none⟩ = some (.int .u64 (U m.c)) := (hT3.kept hW (fun (h : w.heap.size + 1 + 1 = w.heap.size) => by omega)).cell 2
          go_simp
          exact rfl) ?_; simp only [Act.put, List.setIfInBounds_toArray, List.set_cons_zero, List.set_cons_succ])
      refine wpPar_adds rfl (by rfl) (fun W hW _ => ?_) (fun v hv' => ?_)
      · unfold Gives
        go_simp
        refine gives_call (turn _ 6 _ rfl W (by decide) (by decide)) ?_
        rintro e w3 ⟨rfl, k3⟩
        exact ⟨_, rfl, hW.then k3 (fun _ _ h => h.elim), rfl, trivial, planTurn_keeps k3⟩
      obtain rfl : v = .int .u64 (U (rot m.c 6)) := hv'
      simp only [Act.put, List.setIfInBounds_toArray, List.set_cons_zero, List.set_cons_succ]
      iterate 2 (refine wpPar_pure rfl (by rfl) _ (fun W hW => by
          go_simp
          exact rfl) ?_; simp only [Act.put, List.setIfInBounds_toArray, List.set_cons_zero, List.set_cons_succ])
      simp only [lin_xor]
      refine wpPar_adds rfl (by rfl) (fun W hW hd => ?_) (fun v' _ => ?_)
      · have hB : Blk W w.heap.size #[.int .u64 (U (lin m.a 19 28)), .int .u64 (U (lin m.b 61 39)), .int .u64 (U p.c), .int .u64 (U p.d), .int .u64 (U p.e)] 98 := hd 100 (List.Mem.head _)
        have c0 := hB.cell 2
        have f0 := hB.free 2
        simp at c0
        have hB2 : Blk _ _ #[.int .u64 (U (lin m.a 19 28)), .int .u64 (U (lin m.b 61 39)), .int .u64 (U (lin m.c 1 6)), .int .u64 (U p.d), .int .u64 (U p.e)] _ := hB.set 2 (.int .u64 (U (lin m.c 1 6)))
        unfold Gives
        go_simp
        exact ⟨hW.one' 2 _, trivial, hB2, planTurn_keeps11⟩
      simp only [Act.put]
      refine wpPar_nil (fun w3 hW hG => ?_)
      have hS3 : Blk w3 w.heap.size #[.int .u64 (U (lin m.a 19 28)), .int .u64 (U (lin m.b 61 39)), .int .u64 (U (lin m.c 1 6)), .int .u64 (U p.d), .int .u64 (U p.e)] 98 := hG 11
      have hk3 : Kept None w w3 := hk2.then hW (fun i hi (h : i = w.heap.size) => by omega)
      have hR3 := hR2.kept hW (fun (h : w.heap.size + 1 = w.heap.size) => by omega)
      have hT4 := hT3.kept hW (fun (h : w.heap.size + 1 + 1 = w.heap.size) => by omega)
      clear hG hS2 hk2 hR2 hT3 hW
      go_wp2
      -- word 3
      refine wp_region_plan (Kept (Just w.heap.size) w3) (planTurn w.heap.size #[.int .u64 (U (lin m.a 19 28)), .int .u64 (U (lin m.b 61 39)), .int .u64 (U (lin m.c 1 6)), .int .u64 (U p.d), .int .u64 (U p.e)] #[.int .u64 (U (lin m.a 19 28)), .int .u64 (U (lin m.b 61 39)), .int .u64 (U (lin m.c 1 6)), .int .u64 (U (lin m.d 10 17)), .int .u64 (U p.e)] m.d 10 17) [100] (by kernel_rfl) (by kernel_rfl) (by kernel_rfl) rfl planTurn_pure (Kept.refl _ _).drew (fun j hj => by
          obtain rfl : j = 100 := by simpa using hj
          exact hS3.drew) ?_
      iterate 4 (refine wpPar_pure rfl (by rfl) _ (fun W hW => by
          have c0 : W.cell? ⟨w.heap.size + 1 + 1, 3, none⟩ = some (.int .u64 (U m.d)) := (hT4.kept hW (fun (h : w.heap.size + 1 + 1 = w.heap.size) => by omega)).cell 3
          go_simp
          exact rfl) ?_; simp only [Act.put, List.setIfInBounds_toArray, List.set_cons_zero, List.set_cons_succ])
      refine wpPar_adds rfl (by rfl) (fun W hW _ => ?_) (fun v hv' => ?_)
      · unfold Gives
        go_simp
        refine gives_call (turn _ 10 _ rfl W (by decide) (by decide)) ?_
        rintro e w3 ⟨rfl, k3⟩
        exact ⟨_, rfl, hW.then k3 (fun _ _ h => h.elim), rfl, trivial, planTurn_keeps k3⟩
      obtain rfl : v = .int .u64 (U (rot m.d 10)) := hv'
      simp only [Act.put, List.setIfInBounds_toArray, List.set_cons_zero, List.set_cons_succ]
      iterate 3 (refine wpPar_pure rfl (by rfl) _ (fun W hW => by
          have c0 : W.cell? ⟨w.heap.size + 1 + 1, 3, none⟩ = some (.int .u64 (U m.d)) := (hT4.kept hW (fun (h : w.heap.size + 1 + 1 = w.heap.size) => by omega)).cell 3
          go_simp
          exact rfl) ?_; simp only [Act.put, List.setIfInBounds_toArray, List.set_cons_zero, List.set_cons_succ])
      refine wpPar_adds rfl (by rfl) (fun W hW _ => ?_) (fun v hv' => ?_)
      · unfold Gives
        go_simp
        refine gives_call (turn _ 17 _ rfl W (by decide) (by decide)) ?_
        rintro e w3 ⟨rfl, k3⟩
        exact ⟨_, rfl, hW.then k3 (fun _ _ h => h.elim), rfl, trivial, planTurn_keeps k3⟩
      obtain rfl : v = .int .u64 (U (rot m.d 17)) := hv'
      simp only [Act.put, List.setIfInBounds_toArray, List.set_cons_zero, List.set_cons_succ]
      iterate 2 (refine wpPar_pure rfl (by rfl) _ (fun W hW => by
          go_simp
          exact rfl) ?_; simp only [Act.put, List.setIfInBounds_toArray, List.set_cons_zero, List.set_cons_succ])
      simp only [lin_xor]
      refine wpPar_adds rfl (by rfl) (fun W hW hd => ?_) (fun v' _ => ?_)
      · have hB : Blk W w.heap.size #[.int .u64 (U (lin m.a 19 28)), .int .u64 (U (lin m.b 61 39)), .int .u64 (U (lin m.c 1 6)), .int .u64 (U p.d), .int .u64 (U p.e)] 98 := hd 100 (List.Mem.head _)
        have c0 := hB.cell 3
        have f0 := hB.free 3
        simp at c0
        have hB2 : Blk _ _ #[.int .u64 (U (lin m.a 19 28)), .int .u64 (U (lin m.b 61 39)), .int .u64 (U (lin m.c 1 6)), .int .u64 (U (lin m.d 10 17)), .int .u64 (U p.e)] _ := hB.set 3 (.int .u64 (U (lin m.d 10 17)))
        unfold Gives
        go_simp
        exact ⟨hW.one' 3 _, trivial, hB2, planTurn_keeps11⟩
      simp only [Act.put]
      refine wpPar_nil (fun w4 hW hG => ?_)
      have hS4 : Blk w4 w.heap.size #[.int .u64 (U (lin m.a 19 28)), .int .u64 (U (lin m.b 61 39)), .int .u64 (U (lin m.c 1 6)), .int .u64 (U (lin m.d 10 17)), .int .u64 (U p.e)] 98 := hG 11
      have hk4 : Kept None w w4 := hk3.then hW (fun i hi (h : i = w.heap.size) => by omega)
      have hR4 := hR3.kept hW (fun (h : w.heap.size + 1 = w.heap.size) => by omega)
      have hT5 := hT4.kept hW (fun (h : w.heap.size + 1 + 1 = w.heap.size) => by omega)
      clear hG hS3 hk3 hR3 hT4 hW
      go_wp2
      -- word 4
      refine wp_region_plan (Kept (Just w.heap.size) w4) (planTurn w.heap.size #[.int .u64 (U (lin m.a 19 28)), .int .u64 (U (lin m.b 61 39)), .int .u64 (U (lin m.c 1 6)), .int .u64 (U (lin m.d 10 17)), .int .u64 (U p.e)] #[.int .u64 (U (lin m.a 19 28)), .int .u64 (U (lin m.b 61 39)), .int .u64 (U (lin m.c 1 6)), .int .u64 (U (lin m.d 10 17)), .int .u64 (U (lin m.e 7 41))] m.e 7 41) [100] (by kernel_rfl) (by kernel_rfl) (by kernel_rfl) rfl planTurn_pure (Kept.refl _ _).drew (fun j hj => by
          obtain rfl : j = 100 := by simpa using hj
          exact hS4.drew) ?_
      iterate 4 (refine wpPar_pure rfl (by rfl) _ (fun W hW => by
          have c0 : W.cell? ⟨w.heap.size + 1 + 1, 4, none⟩ = some (.int .u64 (U m.e)) := (hT5.kept hW (fun (h : w.heap.size + 1 + 1 = w.heap.size) => by omega)).cell 4
          go_simp
          exact rfl) ?_; simp only [Act.put, List.setIfInBounds_toArray, List.set_cons_zero, List.set_cons_succ])
      refine wpPar_adds rfl (by rfl) (fun W hW _ => ?_) (fun v hv' => ?_)
      · unfold Gives
        go_simp
        refine gives_call (turn _ 7 _ rfl W (by decide) (by decide)) ?_
        rintro e w3 ⟨rfl, k3⟩
        exact ⟨_, rfl, hW.then k3 (fun _ _ h => h.elim), rfl, trivial, planTurn_keeps k3⟩
      obtain rfl : v = .int .u64 (U (rot m.e 7)) := hv'
      simp only [Act.put, List.setIfInBounds_toArray, List.set_cons_zero, List.set_cons_succ]
      iterate 3 (refine wpPar_pure rfl (by rfl) _ (fun W hW => by
          have c0 : W.cell? ⟨w.heap.size + 1 + 1, 4, none⟩ = some (.int .u64 (U m.e)) := (hT5.kept hW (fun (h : w.heap.size + 1 + 1 = w.heap.size) => by omega)).cell 4
          go_simp
          exact rfl) ?_; simp only [Act.put, List.setIfInBounds_toArray, List.set_cons_zero, List.set_cons_succ])
      refine wpPar_adds rfl (by rfl) (fun W hW _ => ?_) (fun v hv' => ?_)
      · unfold Gives
        go_simp
        refine gives_call (turn _ 41 _ rfl W (by decide) (by decide)) ?_
        rintro e w3 ⟨rfl, k3⟩
        exact ⟨_, rfl, hW.then k3 (fun _ _ h => h.elim), rfl, trivial, planTurn_keeps k3⟩
      obtain rfl : v = .int .u64 (U (rot m.e 41)) := hv'
      simp only [Act.put, List.setIfInBounds_toArray, List.set_cons_zero, List.set_cons_succ]
      iterate 2 (refine wpPar_pure rfl (by rfl) _ (fun W hW => by
          go_simp
          exact rfl) ?_; simp only [Act.put, List.setIfInBounds_toArray, List.set_cons_zero, List.set_cons_succ])
      simp only [lin_xor]
      refine wpPar_adds rfl (by rfl) (fun W hW hd => ?_) (fun v' _ => ?_)
      · have hB : Blk W w.heap.size #[.int .u64 (U (lin m.a 19 28)), .int .u64 (U (lin m.b 61 39)), .int .u64 (U (lin m.c 1 6)), .int .u64 (U (lin m.d 10 17)), .int .u64 (U p.e)] 98 := hd 100 (List.Mem.head _)
        have c0 := hB.cell 4
        have f0 := hB.free 4
        simp at c0
        have hB2 : Blk _ _ #[.int .u64 (U (lin m.a 19 28)), .int .u64 (U (lin m.b 61 39)), .int .u64 (U (lin m.c 1 6)), .int .u64 (U (lin m.d 10 17)), .int .u64 (U (lin m.e 7 41))] _ := hB.set 4 (.int .u64 (U (lin m.e 7 41)))
        unfold Gives
        go_simp
        exact ⟨hW.one' 4 _, trivial, hB2, planTurn_keeps11⟩
      simp only [Act.put]
      refine wpPar_nil (fun w5 hW hG => ?_)
      have hS5 : Blk w5 w.heap.size #[.int .u64 (U (lin m.a 19 28)), .int .u64 (U (lin m.b 61 39)), .int .u64 (U (lin m.c 1 6)), .int .u64 (U (lin m.d 10 17)), .int .u64 (U (lin m.e 7 41))] 98 := hG 11
      have hk5 : Kept None w w5 := hk4.then hW (fun i hi (h : i = w.heap.size) => by omega)
      have hR5 := hR4.kept hW (fun (h : w.heap.size + 1 = w.heap.size) => by omega)
      have hT6 := hT5.kept hW (fun (h : w.heap.size + 1 + 1 = w.heap.size) => by omega)
      clear hG hS4 hk4 hR4 hT5 hW
      have hS6 : Blk w5 w.heap.size (Sp.sc r) 98 := by rw [HR2.out]; exact hS5
      clear hS5 HR2 HM
      have E := hid hz
      clear hz
      go_wp2_with (first | (refine wpList_load_blk rfl _ _ rfl rfl hS6 Sp.aS ?_) | (refine wpList_store_blk rfl _ _ _ rfl rfl rfl hR5 Sp.aS E.out (Sp.sc_all _) ?_; intro w6 hR6 k6) | fail)
      exact bodyPost_ret (v := Sp.sv r) (results_blk rfl _ rfl hR6 Sp.aS) rfl ⟨rfl, hk5.then k6 (fun i hi (h : i = w.heap.size + 1) => by omega)⟩
end Ref
end Go.Proofs.Ytbckjkfdkgomiaa
