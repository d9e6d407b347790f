/- Texts joined: LowRefSponge, RefSgnM, RUpEnt, RUpSgn, LowSeat, DirCP16, StoP17, Lat17, EqF, StoQ17, Dec17. -/
import Derived.Test.YtdobmebhjmgkmaaPk3
import Derived.Test.YtdobmebhjmgkmaaPk2
import Derived.Test.YtdobmebhjmgkmaaPk1
/- postmarkref1.turn, round, Perm, by their contracts. -/
namespace Go.Proofs.Ytdobmebhjmgkmaa
open Go.RowKit Go.Pm
namespace Ref

set_option maxRecDepth 100000 in
set_option maxHeartbeats 400000 in
theorem turn (x : U64) (n : Nat) (N : Int) (hN : N = n) (w : World) (h0 : 0 < n) (h1 : n < 64) :
    Calls Try.prog 76 #[.int .u64 (U x), .int .i64 N] w fun e w' => e = .returned (.int .u64 (U (rot x n))) ∧ Kept None w w' := by
  subst hN
  have g0 := U_ge x
  have g1 := U_lt x
  go_enter Try.func76, Try.ntmps76
  go_wp2
  go_quiet (fail)
  go_wp2
  go_ret
  have e1 := U_shr x n
  have e2 := U_shl x (64 - n)
  push_cast at e1 e2
  refine ⟨?_, Kept.toDrewN _ _ _⟩
  show Ending.returned (.int .u64 (bits .or .u64 (U x / 2 ^ n) (IntKind.u64.wrap (U x * 2 ^ (64 - n))))) = _
  rw [e1, e2, U_or]
  rfl

/-- The first k of t's words. -/
def tc (t : S5) : Nat → Array Value
  | 0 => #[.int .u64 0, .int .u64 0, .int .u64 0, .int .u64 0, .int .u64 0]
  | 1 => #[.int .u64 (U t.a), .int .u64 0, .int .u64 0, .int .u64 0, .int .u64 0]
  | 2 => #[.int .u64 (U t.a), .int .u64 (U t.b), .int .u64 0, .int .u64 0, .int .u64 0]
  | 3 => #[.int .u64 (U t.a), .int .u64 (U t.b), .int .u64 (U t.c), .int .u64 0, .int .u64 0]
  | 4 => #[.int .u64 (U t.a), .int .u64 (U t.b), .int .u64 (U t.c), .int .u64 (U t.d), .int .u64 0]
  | _ => #[.int .u64 (U t.a), .int .u64 (U t.b), .int .u64 (U t.c), .int .u64 (U t.d), .int .u64 (U t.e)]

theorem sgn : (if IntKind.u64.signed = true then (-1 : Int) else IntKind.u64.max) = IntKind.u64.max := rfl
theorem tc_size (t : S5) (k : Nat) : (tc t k).size = 5 := by unfold tc; split <;> rfl
theorem chi_a (s : S5) : bits .xor .u64 (U s.a) (bits .and .u64 (bits .xor .u64 IntKind.u64.max (U s.b)) (U s.c)) = U s.chi.a := by simp only [U_xor, U_and, U_not']; rfl
theorem chi_b (s : S5) : bits .xor .u64 (U s.b) (bits .and .u64 (bits .xor .u64 IntKind.u64.max (U s.c)) (U s.d)) = U s.chi.b := by simp only [U_xor, U_and, U_not']; rfl
theorem chi_c (s : S5) : bits .xor .u64 (U s.c) (bits .and .u64 (bits .xor .u64 IntKind.u64.max (U s.d)) (U s.e)) = U s.chi.c := by simp only [U_xor, U_and, U_not']; rfl
theorem chi_d (s : S5) : bits .xor .u64 (U s.d) (bits .and .u64 (bits .xor .u64 IntKind.u64.max (U s.e)) (U s.a)) = U s.chi.d := by simp only [U_xor, U_and, U_not']; rfl
theorem chi_e (s : S5) : bits .xor .u64 (U s.e) (bits .and .u64 (bits .xor .u64 IntKind.u64.max (U s.a)) (U s.b)) = U s.chi.e := by simp only [U_xor, U_and, U_not']; rfl

/-- What is known in a region that spreads a word: the state's block; the two turned words (operations 4, 8); the state's block behind the store (operation 11). -/
def planTurn (r : Nat) (cur new : Array Value) (x : U64) (n m : Nat) : List Fct :=
  [{ k := 100, uses := [], fact := fun _ W => Blk W r cur 97 },
   { k := 4, uses := [], pure := fun v => v = .int .u64 (U (rot x n)) },
   { k := 8, uses := [], pure := fun v => v = .int .u64 (U (rot x m)) },
   { k := 11, uses := [100], spends := [100], fact := fun _ W => Blk W r new 97 }]
theorem planTurn_pure {r : Nat} {cur new : Array Value} {x : U64} {n m : Nat} : ∀ f ∈ planTurn r cur new x n m, ∃ v, f.pure v := by
  intro f hf
  simp only [planTurn, List.mem_cons, List.not_mem_nil, or_false] at hf
  rcases hf with rfl | rfl | rfl | rfl
  · exact ⟨undef, trivial⟩
  · exact ⟨_, rfl⟩
  · exact ⟨_, rfl⟩
  · exact ⟨undef, trivial⟩
theorem planTurn_keeps {base : World → Prop} {r i : Nat} {cur new : Array Value} {x : U64} {n m : Nat} {W W' : World} (hk : Kept None W W') : (planOf base (planTurn r cur new x n m)).keeps i W W' := by
  refine keeps_of fun f hf _ _ _ u hfu => ?_
  simp only [planTurn, List.mem_cons, List.not_mem_nil, or_false] at hf
  rcases hf with rfl | rfl | rfl | rfl
  · exact Blk.kept hfu hk (fun h => h)
  · trivial
  · trivial
  · exact Blk.kept hfu hk (fun h => h)
theorem planTurn_keeps11 {base : World → Prop} {r : Nat} {cur new : Array Value} {x : U64} {n m : Nat} {W W' : World} : (planOf base (planTurn r cur new x n m)).keeps 11 W W' := by
  refine keeps_of fun f hf hs _ hne u hfu => ?_
  simp only [planTurn, List.mem_cons, List.not_mem_nil, or_false] at hf
  rcases hf with rfl | rfl | rfl | rfl
  · exact absurd (List.Mem.head _) hs
  · trivial
  · trivial
  · exact absurd rfl hne
theorem lin_xor (x : U64) (n m : Nat) : bits .xor .u64 (bits .xor .u64 (U x) (U (rot x n))) (U (rot x m)) = U (lin x n m) := by simp only [U_xor]; rfl

set_option maxRecDepth 100000 in
set_option maxHeartbeats 4000000 in
theorem round (s : S5) (c : U64) (w : World) :
    Calls Try.prog 71 #[Sp.sv s, .int .u64 (U c)] w fun e w' => e = .returned (Sp.sv (s.round c)) ∧ Kept None w w' := by
  obtain ⟨p, hp⟩ : ∃ p, p = s.add c := ⟨_, rfl⟩
  have ca := chi_a p
  have cb := chi_b p
  have cc := chi_c p
  have cd := chi_d p
  have ce := chi_e p
  show Calls _ _ _ w fun e w' => e = .returned (Sp.sv (((s.add c).chi).mix.spread)) ∧ Kept None w w'
  rw [← hp]
  have hp' : Sp.sc p = #[.int .u64 (bits .xor .u64 (U s.a) (U s.e)), .int .u64 (U s.b), .int .u64 (bits .xor .u64 (bits .xor .u64 (U s.c) (U c)) (U s.b)), .int .u64 (U s.d), .int .u64 (bits .xor .u64 (U s.e) (U s.d))] := by
    rw [hp]; simp only [U_xor]; rfl
  obtain ⟨q, hq⟩ : ∃ q, q = p.chi := ⟨_, rfl⟩
  rw [← hq] at ca cb cc cd ce ⊢
  obtain ⟨r, hr⟩ : ∃ r, r = q.mix.spread := ⟨_, rfl⟩
  rw [← hr]
  have HP := hid hp'
  have HR := hid hr
  have HC := hid (And.intro ca (And.intro cb (And.intro cc (And.intro cd ce))))
  clear ca cb cc cd ce hp hp' hq hr
  obtain ⟨a, b, x, d, e⟩ := s
  go_enter Try.func71, Try.ntmps71
  go_wp2
  go_loopw [6] (fun i wr => ∃ k : Nat, k ≤ 5 ∧ i = .int .i64 k ∧ Kept None w wr ∧ Blk wr w.heap.size (Sp.sc p) 97 ∧ (∃ z : Array Value, z.size = 5 ∧ Blk wr (w.heap.size + 1) z 97) ∧ Blk wr (w.heap.size + 1 + 1) (tc q k) 97) (fun i _ => 5 - (intOf i).toNat)
  case atStart =>
    refine ⟨0, by omega, rfl, (((Kept.refl _ _).alloc _).alloc _).alloc _, ?_, ⟨_, ?_, (Blk.new2 _ _ _ _).alloc _⟩, Blk.new3 _ _ _ _ _⟩
    · rw [HP.out]; exact ((Blk.new _ _ _).alloc _).alloc _
    · rfl
  case round =>
    obtain ⟨k, hk, rfl, hkk, hS, ⟨z, hz, hR⟩, hT⟩ := hrel
    by_cases h5 : k < 5
    · have hk5 : k = 0 ∨ k = 1 ∨ k = 2 ∨ k = 3 ∨ k = 4 := by omega
      clear hk h5
      rcases hk5 with rfl | rfl | rfl | rfl | rfl
      all_goals
        go_wp2
        refine wp_tail 18 (by kernel_rfl) (by kernel_rfl) (fun wy ky => ?_)
        have hS' := hS.kept ky (fun h => h)
        have hT' := hT.kept ky (fun h => h)
        have c0 := hS'.cell 0
        have c1 := hS'.cell 1
        have c2 := hS'.cell 2
        have c3 := hS'.cell 3
        have c4 := hS'.cell 4
        simp at c0 c1 c2 c3 c4
        have w1 : IntKind.i64.wrap 1 = 1 := by decide
        have w2 : IntKind.i64.wrap 2 = 2 := by decide
        have w3 : IntKind.i64.wrap 3 = 3 := by decide
        have w4 : IntKind.i64.wrap 4 = 4 := by decide
        have w5 : IntKind.i64.wrap 5 = 5 := by decide
        have w6 : IntKind.i64.wrap 6 = 6 := by decide
        have m1 : (1 : Int).tmod 5 = 1 := by decide
        have m2 : (2 : Int).tmod 5 = 2 := by decide
        have m3 : (3 : Int).tmod 5 = 3 := by decide
        have m4 : (4 : Int).tmod 5 = 4 := by decide
        have m5 : (5 : Int).tmod 5 = 0 := by decide
        have m6 : (6 : Int).tmod 5 = 1 := by decide
        simp only [List.take_succ_cons, List.take_zero, List.drop_succ_cons, List.drop_zero]
        repeat still_step
        refine wpStill_nil ?_
        try simp only [sgn]
        simp only [HC.out.1, HC.out.2.1, HC.out.2.2.1, HC.out.2.2.2.1, HC.out.2.2.2.2]
        clear w1 w2 w3 w4 w5 w6 m1 m2 m3 m4 m5 m6 c0 c1 c2 c3 c4 hS'
      · have f0 := hT'.free 0
        have t0 := hT'.cell 0
        have hT2 : Blk _ _ (tc q 1) _ := hT'.set 0 (.int .u64 (U q.a))
        have kT := Kept.one wy (w.heap.size + 1 + 1) 0 (.int .u64 (U q.a))
        simp [tc] at t0
        go_wp2
        exact ⟨⟨1, by omega, rfl, (hkk.then ky (fun _ _ h => h)).then kT (fun i hi (h : i = w.heap.size + 1 + 1) => by omega), (hS.kept ky (fun h => h)).kept kT (fun (h : w.heap.size = w.heap.size + 1 + 1) => by omega), ⟨z, hz, (hR.kept ky (fun h => h)).kept kT (fun (h : w.heap.size + 1 = w.heap.size + 1 + 1) => by omega)⟩, hT2⟩, by simp [intOf]⟩
      · have f0 := hT'.free 1
        have t0 := hT'.cell 1
        have hT2 : Blk _ _ (tc q 2) _ := hT'.set 1 (.int .u64 (U q.b))
        have kT := Kept.one wy (w.heap.size + 1 + 1) 1 (.int .u64 (U q.b))
        simp [tc] at t0
        go_wp2
        exact ⟨⟨2, by omega, rfl, (hkk.then ky (fun _ _ h => h)).then kT (fun i hi (h : i = w.heap.size + 1 + 1) => by omega), (hS.kept ky (fun h => h)).kept kT (fun (h : w.heap.size = w.heap.size + 1 + 1) => by omega), ⟨z, hz, (hR.kept ky (fun h => h)).kept kT (fun (h : w.heap.size + 1 = w.heap.size + 1 + 1) => by omega)⟩, hT2⟩, by simp [intOf]⟩
      · have f0 := hT'.free 2
        have t0 := hT'.cell 2
        have hT2 : Blk _ _ (tc q 3) _ := hT'.set 2 (.int .u64 (U q.c))
        have kT := Kept.one wy (w.heap.size + 1 + 1) 2 (.int .u64 (U q.c))
        simp [tc] at t0
        go_wp2
        exact ⟨⟨3, by omega, rfl, (hkk.then ky (fun _ _ h => h)).then kT (fun i hi (h : i = w.heap.size + 1 + 1) => by omega), (hS.kept ky (fun h => h)).kept kT (fun (h : w.heap.size = w.heap.size + 1 + 1) => by omega), ⟨z, hz, (hR.kept ky (fun h => h)).kept kT (fun (h : w.heap.size + 1 = w.heap.size + 1 + 1) => by omega)⟩, hT2⟩, by simp [intOf]⟩
      · have f0 := hT'.free 3
        have t0 := hT'.cell 3
        have hT2 : Blk _ _ (tc q 4) _ := hT'.set 3 (.int .u64 (U q.d))
        have kT := Kept.one wy (w.heap.size + 1 + 1) 3 (.int .u64 (U q.d))
        simp [tc] at t0
        go_wp2
        exact ⟨⟨4, by omega, rfl, (hkk.then ky (fun _ _ h => h)).then kT (fun i hi (h : i = w.heap.size + 1 + 1) => by omega), (hS.kept ky (fun h => h)).kept kT (fun (h : w.heap.size = w.heap.size + 1 + 1) => by omega), ⟨z, hz, (hR.kept ky (fun h => h)).kept kT (fun (h : w.heap.size + 1 = w.heap.size + 1 + 1) => by omega)⟩, hT2⟩, by simp [intOf]⟩
      · have f0 := hT'.free 4
        have t0 := hT'.cell 4
        have hT2 : Blk _ _ (tc q 5) _ := hT'.set 4 (.int .u64 (U q.e))
        have kT := Kept.one wy (w.heap.size + 1 + 1) 4 (.int .u64 (U q.e))
        simp [tc] at t0
        go_wp2
        exact ⟨⟨5, by omega, rfl, (hkk.then ky (fun _ _ h => h)).then kT (fun i hi (h : i = w.heap.size + 1 + 1) => by omega), (hS.kept ky (fun h => h)).kept kT (fun (h : w.heap.size = w.heap.size + 1 + 1) => by omega), ⟨z, hz, (hR.kept ky (fun h => h)).kept kT (fun (h : w.heap.size + 1 = w.heap.size + 1 + 1) => by omega)⟩, hT2⟩, by simp [intOf]⟩
    · have h5' : k = 5 := by omega
      subst h5'
      have hT0 : Blk wr (w.heap.size + 1 + 1) (Sp.sc q) 97 := hT
      have mb := U_xor q.b q.a
      have ma := U_xor q.a q.e
      have md := U_xor q.d q.c
      have mc := U_not' q.c
      change _ = U q.mix.b at mb
      change _ = U q.mix.a at ma
      change _ = U q.mix.d at md
      change _ = U q.mix.c at mc
      have me : U q.e = U q.mix.e := rfl
      obtain ⟨m, hm⟩ : ∃ m, m = q.mix := ⟨_, rfl⟩
      rw [← hm] at ma mb mc md me
      have HM := hid (And.intro ma (And.intro mb (And.intro mc (And.intro md me))))
      have hRm : r = m.spread := by rw [hm]; exact HR.out
      have HR2 := hid hRm
      clear ma mb mc md me hm HR hRm
      have c0 := hT0.cell 0
      have c1 := hT0.cell 1
      have c2 := hT0.cell 2
      have c3 := hT0.cell 3
      have c4 := hT0.cell 4
      have f0 := hT0.free 0
      have f1 := hT0.free 1
      have f2 := hT0.free 2
      have f3 := hT0.free 3
      simp at c0 c1 c2 c3 c4
      go_wp2
      simp only [HM.out.1, HM.out.2.1, HM.out.2.2.1, HM.out.2.2.2.1]
      have hT1 : Blk ((((wr.setCell ⟨w.heap.size + 1 + 1, 1, none⟩ (.int .u64 (U m.b))).setCell ⟨w.heap.size + 1 + 1, 0, none⟩ (.int .u64 (U m.a))).setCell ⟨w.heap.size + 1 + 1, 3, none⟩ (.int .u64 (U m.d))).setCell ⟨w.heap.size + 1 + 1, 2, none⟩ (.int .u64 (U m.c))) (w.heap.size + 1 + 1) (Sp.sc m) 97 := by
        have h1 := (((hT0.set 1 (.int .u64 (U m.b))).set 0 (.int .u64 (U m.a))).set 3 (.int .u64 (U m.d))).set 2 (.int .u64 (U m.c))
        rw [show Sp.sc m = #[.int .u64 (U m.a), .int .u64 (U m.b), .int .u64 (U m.c), .int .u64 (U m.d), .int .u64 (U q.e)] by rw [HM.out.2.2.2.2]]
        exact h1
      have kA : Kept (Just (w.heap.size + 1 + 1)) wr ((((wr.setCell ⟨w.heap.size + 1 + 1, 1, none⟩ (.int .u64 (U m.b))).setCell ⟨w.heap.size + 1 + 1, 0, none⟩ (.int .u64 (U m.a))).setCell ⟨w.heap.size + 1 + 1, 3, none⟩ (.int .u64 (U m.d))).setCell ⟨w.heap.size + 1 + 1, 2, none⟩ (.int .u64 (U m.c))) :=
        (((Kept.one wr _ 1 _).one' 0 _).one' 3 _).one' 2 _
      clear c0 c1 c2 c3 c4 f0 f1 f2 f3 hT0 hT
      obtain ⟨wA, hwA⟩ : ∃ wA, wA = ((((wr.setCell ⟨w.heap.size + 1 + 1, 1, none⟩ (.int .u64 (U m.b))).setCell ⟨w.heap.size + 1 + 1, 0, none⟩ (.int .u64 (U m.a))).setCell ⟨w.heap.size + 1 + 1, 3, none⟩ (.int .u64 (U m.d))).setCell ⟨w.heap.size + 1 + 1, 2, none⟩ (.int .u64 (U m.c))) := ⟨_, rfl⟩
      rw [← hwA] at hT1 kA ⊢
      have hk0 : Kept None w wA := hkk.then kA (fun i hi (h : i = w.heap.size + 1 + 1) => by omega)
      have hS0 := hS.kept kA (fun (h : w.heap.size = w.heap.size + 1 + 1) => by omega)
      have hR0 := hR.kept kA (fun (h : w.heap.size + 1 = w.heap.size + 1 + 1) => by omega)
      clear hwA kA hkk hS hR HC HP
      -- word 0
      refine wp_region_plan (Kept (Just w.heap.size) wA) (planTurn w.heap.size #[.int .u64 (U p.a), .int .u64 (U p.b), .int .u64 (U p.c), .int .u64 (U p.d), .int .u64 (U p.e)] #[.int .u64 (U (lin m.a 19 28)), .int .u64 (U p.b), .int .u64 (U p.c), .int .u64 (U p.d), .int .u64 (U p.e)] m.a 19 28) [100] (by kernel_rfl) (by kernel_rfl) (by kernel_rfl) rfl planTurn_pure (Kept.refl _ _).drew (fun j hj => by
          obtain rfl : j = 100 := by simpa using hj
          exact hS0.drew) ?_
      iterate 4 (refine wpPar_pure rfl (by rfl) _ (fun W hW => by
          have c0 : W.cell? ⟨w.heap.size + 1 + 1, 0, none⟩ = some (.int .u64 (U m.a)) := (hT1.kept hW (fun (h : w.heap.size + 1 + 1 = w.heap.size) => by omega)).cell 0
          go_simp
          exact rfl) ?_; simp only [Act.put, List.setIfInBounds_toArray, List.set_cons_zero, List.set_cons_succ])
      refine wpPar_adds rfl (by rfl) (fun W hW _ => ?_) (fun v hv' => ?_)
      · unfold Gives
        go_simp
        refine gives_call (turn _ 19 _ rfl W (by decide) (by decide)) ?_
        rintro e w3 ⟨rfl, k3⟩
        exact ⟨_, rfl, hW.then k3 (fun _ _ h => h.elim), rfl, trivial, planTurn_keeps k3⟩
      obtain rfl : v = .int .u64 (U (rot m.a 19)) := hv'
      simp only [Act.put, List.setIfInBounds_toArray, List.set_cons_zero, List.set_cons_succ]
      iterate 3 (refine wpPar_pure rfl (by rfl) _ (fun W hW => by
          have c0 : W.cell? ⟨w.heap.size + 1 + 1, 0, none⟩ = some (.int .u64 (U m.a)) := (hT1.kept hW (fun (h : w.heap.size + 1 + 1 = w.heap.size) => by omega)).cell 0
          go_simp
          exact rfl) ?_; simp only [Act.put, List.setIfInBounds_toArray, List.set_cons_zero, List.set_cons_succ])
      refine wpPar_adds rfl (by rfl) (fun W hW _ => ?_) (fun v hv' => ?_)
      · unfold Gives
        go_simp
        refine gives_call (turn _ 28 _ rfl W (by decide) (by decide)) ?_
        rintro e w3 ⟨rfl, k3⟩
        exact ⟨_, rfl, hW.then k3 (fun _ _ h => h.elim), rfl, trivial, planTurn_keeps k3⟩
      obtain rfl : v = .int .u64 (U (rot m.a 28)) := hv'
      simp only [Act.put, List.setIfInBounds_toArray, List.set_cons_zero, List.set_cons_succ]
      iterate 2 (refine wpPar_pure rfl (by rfl) _ (fun W hW => by
          go_simp
          exact rfl) ?_; simp only [Act.put, List.setIfInBounds_toArray, List.set_cons_zero, List.set_cons_succ])
      simp only [lin_xor]
      refine wpPar_adds rfl (by rfl) (fun W hW hd => ?_) (fun v' _ => ?_)
      · have hB : Blk W w.heap.size #[.int .u64 (U p.a), .int .u64 (U p.b), .int .u64 (U p.c), .int .u64 (U p.d), .int .u64 (U p.e)] 97 := hd 100 (List.Mem.head _)
        have c0 := hB.cell 0
        have f0 := hB.free 0
        simp at c0
        have hB2 : Blk _ _ #[.int .u64 (U (lin m.a 19 28)), .int .u64 (U p.b), .int .u64 (U p.c), .int .u64 (U p.d), .int .u64 (U p.e)] _ := hB.set 0 (.int .u64 (U (lin m.a 19 28)))
        unfold Gives
        go_simp
        exact ⟨hW.one' 0 _, trivial, hB2, planTurn_keeps11⟩
      simp only [Act.put]
      refine wpPar_nil (fun w1 hW hG => ?_)
      have hS1 : Blk w1 w.heap.size #[.int .u64 (U (lin m.a 19 28)), .int .u64 (U p.b), .int .u64 (U p.c), .int .u64 (U p.d), .int .u64 (U p.e)] 97 := hG 11
      have hk1 : Kept None w w1 := hk0.then hW (fun i hi (h : i = w.heap.size) => by omega)
      have hR1 := hR0.kept hW (fun (h : w.heap.size + 1 = w.heap.size) => by omega)
      have hT2 := hT1.kept hW (fun (h : w.heap.size + 1 + 1 = w.heap.size) => by omega)
      clear hG hS0 hk0 hR0 hT1 hW
      go_wp2
      -- word 1
      refine wp_region_plan (Kept (Just w.heap.size) w1) (planTurn w.heap.size #[.int .u64 (U (lin m.a 19 28)), .int .u64 (U p.b), .int .u64 (U p.c), .int .u64 (U p.d), .int .u64 (U p.e)] #[.int .u64 (U (lin m.a 19 28)), .int .u64 (U (lin m.b 61 39)), .int .u64 (U p.c), .int .u64 (U p.d), .int .u64 (U p.e)] m.b 61 39) [100] (by kernel_rfl) (by kernel_rfl) (by kernel_rfl) rfl planTurn_pure (Kept.refl _ _).drew (fun j hj => by
          obtain rfl : j = 100 := by simpa using hj
          exact hS1.drew) ?_
      iterate 4 (refine wpPar_pure rfl (by rfl) _ (fun W hW => by
          have c0 : W.cell? ⟨w.heap.size + 1 + 1, 1, none⟩ = some (.int .u64 (U m.b)) := (hT2.kept hW (fun (h : w.heap.size + 1 + 1 = w.heap.size) => by omega)).cell 1
          go_simp
          exact rfl) ?_; simp only [Act.put, List.setIfInBounds_toArray, List.set_cons_zero, List.set_cons_succ])
      refine wpPar_adds rfl (by rfl) (fun W hW _ => ?_) (fun v hv' => ?_)
      · unfold Gives
        go_simp
        refine gives_call (turn _ 61 _ rfl W (by decide) (by decide)) ?_
        rintro e w3 ⟨rfl, k3⟩
        exact ⟨_, rfl, hW.then k3 (fun _ _ h => h.elim), rfl, trivial, planTurn_keeps k3⟩
      obtain rfl : v = .int .u64 (U (rot m.b 61)) := hv'
      simp only [Act.put, List.setIfInBounds_toArray, List.set_cons_zero, List.set_cons_succ]
      iterate 3 (refine wpPar_pure rfl (by rfl) _ (fun W hW => by
          have c0 : W.cell? ⟨w.heap.size + 1 + 1, 1, none⟩ = some (.int .u64 (U m.b)) := (hT2.kept hW (fun (h : w.heap.size + 1 + 1 = w.heap.size) => by omega)).cell 1
          go_simp
          exact rfl) ?_; simp only [Act.put, List.setIfInBounds_toArray, List.set_cons_zero, List.set_cons_succ])
      refine wpPar_adds rfl (by rfl) (fun W hW _ => ?_) (fun v hv' => ?_)
      · unfold Gives
        go_simp
        refine gives_call (turn _ 39 _ rfl W (by decide) (by decide)) ?_
        rintro e w3 ⟨rfl, k3⟩
        exact ⟨_, rfl, hW.then k3 (fun _ _ h => h.elim), rfl, trivial, planTurn_keeps k3⟩
      obtain rfl : v = .int .u64 (U (rot m.b 39)) := hv'
      simp only [Act.put, List.setIfInBounds_toArray, List.set_cons_zero, List.set_cons_succ]
      iterate 2 (refine wpPar_pure rfl (by rfl) _ (fun W hW => by
          go_simp
          exact rfl) ?_; simp only [Act.put, List.setIfInBounds_toArray, List.set_cons_zero, List.set_cons_succ])
      simp only [lin_xor]
      refine wpPar_adds rfl (by rfl) (fun W hW hd => ?_) (fun v' _ => ?_)
      · have hB : Blk W w.heap.size #[.int .u64 (U (lin m.a 19 28)), .int .u64 (U p.b), .int .u64 (U p.c), .int .u64 (U p.d), .int .u64 (U p.e)] 97 := hd 100 (List.Mem.head _)
        have c0 := hB.cell 1
        have f0 := hB.free 1
        simp at c0
        have hB2 : Blk _ _ #[.int .u64 (U (lin m.a 19 28)), .int .u64 (U (lin m.b 61 39)), .int .u64 (U p.c), .int .u64 (U p.d), .int .u64 (U p.e)] _ := hB.set 1 (.int .u64 (U (lin m.b 61 39)))
        unfold Gives
        go_simp
        exact ⟨hW.one' 1 _, trivial, hB2, planTurn_keeps11⟩
      simp only [Act.put]
      refine wpPar_nil (fun w2 hW hG => ?_)
      have hS2 : Blk w2 w.heap.size #[.int .u64 (U (lin m.a 19 28)), .int .u64 (U (lin m.b 61 39)), .int .u64 (U p.c), .int .u64 (U p.d), .int .u64 (U p.e)] 97 := hG 11
      have hk2 : Kept None w w2 := hk1.then hW (fun i hi (h : i = w.heap.size) => by omega)
      have hR2 := hR1.kept hW (fun (h : w.heap.size + 1 = w.heap.size) => by omega)
      have hT3 := hT2.kept hW (fun (h : w.heap.size + 1 + 1 = w.heap.size) => by omega)
      clear hG hS1 hk1 hR1 hT2 hW
      go_wp2
      -- word 2
      refine wp_region_plan (Kept (Just w.heap.size) w2) (planTurn w.heap.size #[.int .u64 (U (lin m.a 19 28)), .int .u64 (U (lin m.b 61 39)), .int .u64 (U p.c), .int .u64 (U p.d), .int .u64 (U p.e)] #[.int .u64 (U (lin m.a 19 28)), .int .u64 (U (lin m.b 61 39)), .int .u64 (U (lin m.c 1 6)), .int .u64 (U p.d), .int .u64 (U p.e)] m.c 1 6) [100] (by kernel_rfl) (by kernel_rfl) (by kernel_rfl) rfl planTurn_pure (Kept.refl _ _).drew (fun j hj => by
          obtain rfl : j = 100 := by simpa using hj
          exact hS2.drew) ?_
      iterate 4 (refine wpPar_pure rfl (by rfl) _ (fun W hW => by
          have c0 : W.cell? ⟨w.heap.size + 1 + 1, 2, none⟩ = some (.int .u64 (U m.c)) := (hT3.kept hW (fun (h : w.heap.size + 1 + 1 = w.heap.size) => by omega)).cell 2
          go_simp
          exact rfl) ?_; simp only [Act.put, List.setIfInBounds_toArray, List.set_cons_zero, List.set_cons_succ])
      refine wpPar_adds rfl (by rfl) (fun W hW _ => ?_) (fun v hv' => ?_)
      · unfold Gives
        go_simp
        refine gives_call (turn _ 1 _ rfl W (by decide) (by decide)) ?_
        rintro e w3 ⟨rfl, k3⟩
        exact ⟨_, rfl, hW.then k3 (fun _ _ h => h.elim), rfl, trivial, planTurn_keeps k3⟩
      obtain rfl : v = .int .u64 (U (rot m.c 1)) := hv'
      simp only [Act.put, List.setIfInBounds_toArray, List.set_cons_zero, List.set_cons_succ]
      iterate 3 (refine wpPar_pure rfl (by rfl) _ (fun W hW => by
          have c0 : W.cell? ⟨w.heap.size + 1 + 1, 2, none⟩ = some (.int .u64 (U m.c)) := (hT3.kept hW (fun (h : w.heap.size + 1 + 1 = w.heap.size) => by omega)).cell 2
          go_simp
          exact rfl) ?_; simp only [Act.put, List.setIfInBounds_toArray, List.set_cons_zero, List.set_cons_succ])
      refine wpPar_adds rfl (by rfl) (fun W hW _ => ?_) (fun v hv' => ?_)
      · unfold Gives
        go_simp
        refine gives_call (turn _ 6 _ rfl W (by decide) (by decide)) ?_
        rintro e w3 ⟨rfl, k3⟩
        exact ⟨_, rfl, hW.then k3 (fun _ _ h => h.elim), rfl, trivial, planTurn_keeps k3⟩
      obtain rfl : v = .int .u64 (U (rot m.c 6)) := hv'
      simp only [Act.put, List.setIfInBounds_toArray, List.set_cons_zero, List.set_cons_succ]
      iterate 2 (refine wpPar_pure rfl (by rfl) _ (fun W hW => by
          go_simp
          exact rfl) ?_; simp only [Act.put, List.setIfInBounds_toArray, List.set_cons_zero, List.set_cons_succ])
      simp only [lin_xor]
      refine wpPar_adds rfl (by rfl) (fun W hW hd => ?_) (fun v' _ => ?_)
      · have hB : Blk W w.heap.size #[.int .u64 (U (lin m.a 19 28)), .int .u64 (U (lin m.b 61 39)), .int .u64 (U p.c), .int .u64 (U p.d), .int .u64 (U p.e)] 97 := hd 100 (List.Mem.head _)
        have c0 := hB.cell 2
        have f0 := hB.free 2
        simp at c0
        have hB2 : Blk _ _ #[.int .u64 (U (lin m.a 19 28)), .int .u64 (U (lin m.b 61 39)), .int .u64 (U (lin m.c 1 6)), .int .u64 (U p.d), .int .u64 (U p.e)] _ := hB.set 2 (.int .u64 (U (lin m.c 1 6)))
        unfold Gives
        go_simp
        exact ⟨hW.one' 2 _, trivial, hB2, planTurn_keeps11⟩
      simp only [Act.put]
      refine wpPar_nil (fun w3 hW hG => ?_)
      have hS3 : Blk w3 w.heap.size #[.int .u64 (U (lin m.a 19 28)), .int .u64 (U (lin m.b 61 39)), .int .u64 (U (lin m.c 1 6)), .int .u64 (U p.d), .int .u64 (U p.e)] 97 := hG 11
      have hk3 : Kept None w w3 := hk2.then hW (fun i hi (h : i = w.heap.size) => by omega)
      have hR3 := hR2.kept hW (fun (h : w.heap.size + 1 = w.heap.size) => by omega)
      have hT4 := hT3.kept hW (fun (h : w.heap.size + 1 + 1 = w.heap.size) => by omega)
      clear hG hS2 hk2 hR2 hT3 hW
      go_wp2
      -- word 3
      refine wp_region_plan (Kept (Just w.heap.size) w3) (planTurn w.heap.size #[.int .u64 (U (lin m.a 19 28)), .int .u64 (U (lin m.b 61 39)), .int .u64 (U (lin m.c 1 6)), .int .u64 (U p.d), .int .u64 (U p.e)] #[.int .u64 (U (lin m.a 19 28)), .int .u64 (U (lin m.b 61 39)), .int .u64 (U (lin m.c 1 6)), .int .u64 (U (lin m.d 10 17)), .int .u64 (U p.e)] m.d 10 17) [100] (by kernel_rfl) (by kernel_rfl) (by kernel_rfl) rfl planTurn_pure (Kept.refl _ _).drew (fun j hj => by
          obtain rfl : j = 100 := by simpa using hj
          exact hS3.drew) ?_
      iterate 4 (refine wpPar_pure rfl (by rfl) _ (fun W hW => by
          have c0 : W.cell? ⟨w.heap.size + 1 + 1, 3, none⟩ = some (.int .u64 (U m.d)) := (hT4.kept hW (fun (h : w.heap.size + 1 + 1 = w.heap.size) => by omega)).cell 3
          go_simp
          exact rfl) ?_; simp only [Act.put, List.setIfInBounds_toArray, List.set_cons_zero, List.set_cons_succ])
      refine wpPar_adds rfl (by rfl) (fun W hW _ => ?_) (fun v hv' => ?_)
      · unfold Gives
        go_simp
        refine gives_call (turn _ 10 _ rfl W (by decide) (by decide)) ?_
        rintro e w3 ⟨rfl, k3⟩
        exact ⟨_, rfl, hW.then k3 (fun _ _ h => h.elim), rfl, trivial, planTurn_keeps k3⟩
      obtain rfl : v = .int .u64 (U (rot m.d 10)) := hv'
      simp only [Act.put, List.setIfInBounds_toArray, List.set_cons_zero, List.set_cons_succ]
      iterate 3 (refine wpPar_pure rfl (by rfl) _ (fun W hW => by
          have c0 : W.cell? ⟨w.heap.size + 1 + 1, 3, none⟩ = some (.int .u64 (U m.d)) := (hT4.kept hW (fun (h : w.heap.size + 1 + 1 = w.heap.size) => by omega)).cell 3
          go_simp
          exact rfl) ?_; simp only [Act.put, List.setIfInBounds_toArray, List.set_cons_zero, List.set_cons_succ])
      refine wpPar_adds rfl (by rfl) (fun W hW _ => ?_) (fun v hv' => ?_)
      · unfold Gives
        go_simp
        refine gives_call (turn _ 17 _ rfl W (by decide) (by decide)) ?_
        rintro e w3 ⟨rfl, k3⟩
        exact ⟨_, rfl, hW.then k3 (fun _ _ h => h.elim), rfl, trivial, planTurn_keeps k3⟩
      obtain rfl : v = .int .u64 (U (rot m.d 17)) := hv'
      simp only [Act.put, List.setIfInBounds_toArray, List.set_cons_zero, List.set_cons_succ]
      iterate 2 (refine wpPar_pure rfl (by rfl) _ (fun W hW => by
          go_simp
          exact rfl) ?_; simp only [Act.put, List.setIfInBounds_toArray, List.set_cons_zero, List.set_cons_succ])
      simp only [lin_xor]
      refine wpPar_adds rfl (by rfl) (fun W hW hd => ?_) (fun v' _ => ?_)
      · have hB : Blk W w.heap.size #[.int .u64 (U (lin m.a 19 28)), .int .u64 (U (lin m.b 61 39)), .int .u64 (U (lin m.c 1 6)), .int .u64 (U p.d), .int .u64 (U p.e)] 97 := hd 100 (List.Mem.head _)
        have c0 := hB.cell 3
        have f0 := hB.free 3
        simp at c0
        have hB2 : Blk _ _ #[.int .u64 (U (lin m.a 19 28)), .int .u64 (U (lin m.b 61 39)), .int .u64 (U (lin m.c 1 6)), .int .u64 (U (lin m.d 10 17)), .int .u64 (U p.e)] _ := hB.set 3 (.int .u64 (U (lin m.d 10 17)))
        unfold Gives
        go_simp
        exact ⟨hW.one' 3 _, trivial, hB2, planTurn_keeps11⟩
      simp only [Act.put]
      refine wpPar_nil (fun w4 hW hG => ?_)
      have hS4 : Blk w4 w.heap.size #[.int .u64 (U (lin m.a 19 28)), .int .u64 (U (lin m.b 61 39)), .int .u64 (U (lin m.c 1 6)), .int .u64 (U (lin m.d 10 17)), .int .u64 (U p.e)] 97 := hG 11
      have hk4 : Kept None w w4 := hk3.then hW (fun i hi (h : i = w.heap.size) => by omega)
      have hR4 := hR3.kept hW (fun (h : w.heap.size + 1 = w.heap.size) => by omega)
      have hT5 := hT4.kept hW (fun (h : w.heap.size + 1 + 1 = w.heap.size) => by omega)
      clear hG hS3 hk3 hR3 hT4 hW
      go_wp2
      -- word 4
      refine wp_region_plan (Kept (Just w.heap.size) w4) (planTurn w.heap.size #[.int .u64 (U (lin m.a 19 28)), .int .u64 (U (lin m.b 61 39)), .int .u64 (U (lin m.c 1 6)), .int .u64 (U (lin m.d 10 17)), .int .u64 (U p.e)] #[.int .u64 (U (lin m.a 19 28)), .int .u64 (U (lin m.b 61 39)), .int .u64 (U (lin m.c 1 6)), .int .u64 (U (lin m.d 10 17)), .int .u64 (U (lin m.e 7 41))] m.e 7 41) [100] (by kernel_rfl) (by kernel_rfl) (by kernel_rfl) rfl planTurn_pure (Kept.refl _ _).drew (fun j hj => by
          obtain rfl : j = 100 := by simpa using hj
          exact hS4.drew) ?_
      iterate 4 (refine wpPar_pure rfl (by rfl) _ (fun W hW => by
          have c0 : W.cell? ⟨w.heap.size + 1 + 1, 4, none⟩ = some (.int .u64 (U m.e)) := (hT5.kept hW (fun (h : w.heap.size + 1 + 1 = w.heap.size) => by omega)).cell 4
          go_simp
          exact rfl) ?_; simp only [Act.put, List.setIfInBounds_toArray, List.set_cons_zero, List.set_cons_succ])
      refine wpPar_adds rfl (by rfl) (fun W hW _ => ?_) (fun v hv' => ?_)
      · unfold Gives
        go_simp
        refine gives_call (turn _ 7 _ rfl W (by decide) (by decide)) ?_
        rintro e w3 ⟨rfl, k3⟩
        exact ⟨_, rfl, hW.then k3 (fun _ _ h => h.elim), rfl, trivial, planTurn_keeps k3⟩
      obtain rfl : v = .int .u64 (U (rot m.e 7)) := hv'
      simp only [Act.put, List.setIfInBounds_toArray, List.set_cons_zero, List.set_cons_succ]
      iterate 3 (refine wpPar_pure rfl (by rfl) _ (fun W hW => by
          have c0 : W.cell? ⟨w.heap.size + 1 + 1, 4, none⟩ = some (.int .u64 (U m.e)) := (hT5.kept hW (fun (h : w.heap.size + 1 + 1 = w.heap.size) => by omega)).cell 4
          go_simp
          exact rfl) ?_; simp only [Act.put, List.setIfInBounds_toArray, List.set_cons_zero, List.set_cons_succ])
      refine wpPar_adds rfl (by rfl) (fun W hW _ => ?_) (fun v hv' => ?_)
      · unfold Gives
        go_simp
        refine gives_call (turn _ 41 _ rfl W (by decide) (by decide)) ?_
        rintro e w3 ⟨rfl, k3⟩
        exact ⟨_, rfl, hW.then k3 (fun _ _ h => h.elim), rfl, trivial, planTurn_keeps k3⟩
      obtain rfl : v = .int .u64 (U (rot m.e 41)) := hv'
      simp only [Act.put, List.setIfInBounds_toArray, List.set_cons_zero, List.set_cons_succ]
      iterate 2 (refine wpPar_pure rfl (by rfl) _ (fun W hW => by
          go_simp
          exact rfl) ?_; simp only [Act.put, List.setIfInBounds_toArray, List.set_cons_zero, List.set_cons_succ])
      simp only [lin_xor]
      refine wpPar_adds rfl (by rfl) (fun W hW hd => ?_) (fun v' _ => ?_)
      · have hB : Blk W w.heap.size #[.int .u64 (U (lin m.a 19 28)), .int .u64 (U (lin m.b 61 39)), .int .u64 (U (lin m.c 1 6)), .int .u64 (U (lin m.d 10 17)), .int .u64 (U p.e)] 97 := hd 100 (List.Mem.head _)
        have c0 := hB.cell 4
        have f0 := hB.free 4
        simp at c0
        have hB2 : Blk _ _ #[.int .u64 (U (lin m.a 19 28)), .int .u64 (U (lin m.b 61 39)), .int .u64 (U (lin m.c 1 6)), .int .u64 (U (lin m.d 10 17)), .int .u64 (U (lin m.e 7 41))] _ := hB.set 4 (.int .u64 (U (lin m.e 7 41)))
        unfold Gives
        go_simp
        exact ⟨hW.one' 4 _, trivial, hB2, planTurn_keeps11⟩
      simp only [Act.put]
      refine wpPar_nil (fun w5 hW hG => ?_)
      have hS5 : Blk w5 w.heap.size #[.int .u64 (U (lin m.a 19 28)), .int .u64 (U (lin m.b 61 39)), .int .u64 (U (lin m.c 1 6)), .int .u64 (U (lin m.d 10 17)), .int .u64 (U (lin m.e 7 41))] 97 := hG 11
      have hk5 : Kept None w w5 := hk4.then hW (fun i hi (h : i = w.heap.size) => by omega)
      have hR5 := hR4.kept hW (fun (h : w.heap.size + 1 = w.heap.size) => by omega)
      have hT6 := hT5.kept hW (fun (h : w.heap.size + 1 + 1 = w.heap.size) => by omega)
      clear hG hS4 hk4 hR4 hT5 hW
      have hS6 : Blk w5 w.heap.size (Sp.sc r) 97 := by rw [HR2.out]; exact hS5
      clear hS5 HR2 HM
      have E := hid hz
      clear hz
      go_wp2_with (first | (refine wpList_load_blk rfl _ _ rfl rfl hS6 Sp.aS ?_) | (refine wpList_store_blk rfl _ _ _ rfl rfl rfl hR5 Sp.aS E.out (Sp.sc_all _) ?_; intro w6 hR6 k6) | fail)
      exact bodyPost_ret (v := Sp.sv r) (results_blk rfl _ rfl hR6 Sp.aS) rfl ⟨rfl, hk5.then k6 (fun i hi (h : i = w.heap.size + 1) => by omega)⟩
end Ref
end Go.Proofs.Ytdobmebhjmgkmaa

/- postmarkref1.Perm, by its contract. -/
namespace Go.Proofs.Ytdobmebhjmgkmaa
open Go.RowKit Go.Pm
namespace Ref

/-- The rounds' numbers, as the reference has them. -/
abbrev constC : Array Value := #[.int .u64 240, .int .u64 225, .int .u64 210, .int .u64 195, .int .u64 180, .int .u64 165, .int .u64 150, .int .u64 135, .int .u64 120, .int .u64 105, .int .u64 90, .int .u64 75]
theorem constC_at : ∀ k : Nat, k < 12 → constC[k]? = some (.int .u64 (240 - 15 * k)) := by
  intro k hk
  match k, hk with
  | 0, _ => rfl
  | 1, _ => rfl
  | 2, _ => rfl
  | 3, _ => rfl
  | 4, _ => rfl
  | 5, _ => rfl
  | 6, _ => rfl
  | 7, _ => rfl
  | 8, _ => rfl
  | 9, _ => rfl
  | 10, _ => rfl
  | 11, _ => rfl

set_option maxRecDepth 100000 in
set_option maxHeartbeats 1000000 in
theorem perm (s : S5) (w : World) :
    Calls Try.prog 67 #[Sp.sv s] w fun e w' => e = .returned (Sp.sv s.perm) ∧ Kept None w w' := by
  obtain ⟨st, hst⟩ : ∃ st : Nat → S5, ∀ k, st k = (consts.take k).foldl S5.round s := ⟨_, fun _ => rfl⟩
  have h0 : st 0 = s := hst 0
  have hs : ∀ k : Nat, k < 12 → ∀ n : U64, U n = 240 - 15 * k → st (k + 1) = (st k).round n := fun k hk n hn => by rw [hst, hst]; exact consts_step k hk n hn s
  have he : s.perm = st 12 := by rw [hst]; rfl
  rw [he]
  have H0 := hid h0
  have HS := hid hs
  clear h0 hs he hst
  go_enter Try.func67, Try.ntmps67
  go_wp2
  go_loopw [4] (fun i wr => ∃ k : Nat, k ≤ 12 ∧ i = .int .i64 k ∧ Kept None w wr ∧ Blk wr w.heap.size (Sp.sc (st k)) 97 ∧ (∃ z : Array Value, z.size = 5 ∧ Blk wr (w.heap.size + 1) z 97) ∧ Blk wr (w.heap.size + 1 + 1) constC 100) (fun i _ => 12 - (intOf i).toNat)
  case atStart =>
    refine ⟨0, by omega, rfl, (((Kept.refl _ _).alloc _).alloc _).alloc _, ?_, ⟨_, ?_, (Blk.new2 _ _ _ _).alloc _⟩, Blk.new3 _ _ _ _ _⟩
    · rw [H0.out]; exact ((Blk.new _ _ _).alloc _).alloc _
    · rfl
  case round =>
    obtain ⟨k, hk, rfl, hkk, hS, ⟨z, hz, hR⟩, hC⟩ := hrel
    by_cases hlt : k < 12
    · obtain ⟨n, hn⟩ : ∃ n : U64, U n = 240 - 15 * k := ⟨W (240 - 15 * k), U_W _ (by omega) (by omega)⟩
      have hc := hC.cell k
      rw [constC_at k hlt, ← hn] at hc
      have HN := hid (HS.out k hlt n hn)
      clear hn
      go_wp2
      refine wp_tail 4 (by kernel_rfl) (by kernel_rfl) (fun wy ky => ?_)
      have hS' := hS.kept ky (fun h => h)
      have hR' := hR.kept ky (fun h => h)
      have hC' := hC.kept ky (fun h => h)
      have hk' := hkk.then ky (fun _ _ h => h)
      have hc' : wy.cell? ⟨w.heap.size + 1 + 1, k, none⟩ = some (.int .u64 (U n)) := by
        rw [← hc]; exact (hC'.cell k).trans (hC.cell k).symm
      have c0 := hS'.cell 0
      have c1 := hS'.cell 1
      have c2 := hS'.cell 2
      have c3 := hS'.cell 3
      have c4 := hS'.cell 4
      simp at c0 c1 c2 c3 c4
      clear hc ky hS hR hC hkk
      simp only [List.take_succ_cons, List.take_zero, List.drop_succ_cons, List.drop_zero]
      repeat still_step
      refine wpStill_nil ?_
      clear c0 c1 c2 c3 c4 hc'
      go_wp2_with fail
      refine (round (st k) n _).mono ?_
      rintro e1 w1 ⟨rfl, k1⟩
      rw [← HN.out]
      have hS1 := hS'.kept k1 (fun h => h)
      have hR1 := hR'.kept k1 (fun h => h)
      have hC1 := hC'.kept k1 (fun h => h)
      have hk1 := hk'.then k1 (fun _ _ h => h)
      clear hS' hR' hC' hk' k1 HN
      go_wp2_with (first | (refine wpList_store_blk rfl _ _ _ rfl rfl rfl hS1 Sp.aS rfl (Sp.sc_all _) ?_; intro w2 hS2 k2) | fail)
      have hC2 := hC1.kept k2 (fun (h : w.heap.size + 1 + 1 = w.heap.size) => by omega)
      have hR2 := hR1.kept k2 (fun (h : w.heap.size + 1 = w.heap.size) => by omega)
      have hk2 := hk1.then k2 (fun i hi (h : i = w.heap.size) => by omega)
      clear hS1 hR1 hC1 hk1 k2
      go_wp2
      go_roundw
      case rel => exact ⟨k + 1, by omega, by go_num, hk2, hS2, ⟨z, hz, hR2⟩, hC2⟩
      case measure => simp [intOf]; omega
    · have h12 : k = 12 := by omega
      subst h12
      have E := hid hz
      clear hz hC
      go_wp2_with (first | (refine wpList_load_blk rfl _ _ rfl rfl hS Sp.aS ?_) | (refine wpList_store_blk rfl _ _ _ rfl rfl rfl hR Sp.aS E.out (Sp.sc_all _) ?_; intro w6 hR6 k6) | fail)
      exact bodyPost_ret (v := Sp.sv (st 12)) (results_blk rfl _ rfl hR6 Sp.aS) rfl ⟨rfl, hkk.then k6 (fun i hi (h : i = w.heap.size + 1) => by omega)⟩
end Ref
end Go.Proofs.Ytdobmebhjmgkmaa

/- postmarkref1.Sum, by its contract. -/
namespace Go.Proofs.Ytdobmebhjmgkmaa
open Go.RowKit Go.Pm
namespace Ref

theorem perm_first (w : World) : Calls Try.prog 67 #[.agg #[.int .u64 8800401358850, .int .u64 0, .int .u64 0, .int .u64 0, .int .u64 0]] w fun e w' => e = .returned (Sp.sv first) ∧ Kept None w w' :=
  perm ⟨0x0000080100cc0002, 0, 0, 0, 0⟩ w

set_option maxRecDepth 100000 in
set_option maxHeartbeats 2000000 in
theorem sum (v : Value) (lo hi : Nat) (l : List UInt8) (w : World) (hv : Bs w lo hi v l) (hl : l.length ≤ 140737488355000) :
    Calls Try.prog 59 #[v] w fun e w' => e = .returned (hashV (sumB l)) ∧ Kept None w w' := by
  have pf := perm_first
  obtain ⟨ab, ab0, abS, abE⟩ := absorb_all l
  have e32 : ((eights (soaked l) 4).map u8v).toArray.size = 32 := by simp [eights_len]
  show Calls _ _ _ w fun e w' => e = .returned (hashV (eights (soaked l) 4)) ∧ Kept None w w'
  obtain ⟨so, hso⟩ : ∃ so, so = soaked l := ⟨_, rfl⟩
  rw [← ab0] at pf
  rw [← hso] at abE e32 ⊢
  have PF := hid pf
  have AS := hid abS
  have AE := hid abE
  have K3 := hid e32
  clear pf abS abE e32 hso ab0
  obtain ⟨a, cap, rfl, g1, g2, g3⟩ := hv.shape
  clear g3
  go_enter Try.func59, Try.ntmps59
  have hv0 := hv.kept ((Kept.refl None w).alloc (.cells (Array.replicate 32 (.int .u8 0)) 83)) (fun _ _ _ h => h)
  go_wp2_with (at_builtin; refine wpList_append_bo (l := []) (m := l) (base := w.heap.size + 1) (lo := lo) (hi := hi) rfl _ _ 22 rfl rtBytes rfl rfl ?h1 ?h2 ?h3 ?h4 ?h5)
  case h1 => exact Bo.nil _ _ _
  case h2 => exact hv0
  case h3 => simp; omega
  case h4 => simp
  intro a1 n1 c1 w1 b1 k1
  obtain ⟨z, hz, hR⟩ : ∃ z : Array Value, z.size = 32 ∧ Blk w1 w.heap.size z 83 := ⟨Array.replicate 32 (.int .u8 0), by simp, (Blk.new w _ _).kept k1 (fun h => by cases h)⟩
  have k2 : Kept None w w1 := ((Kept.refl _ _).alloc _).then k1 (fun i hi h => by cases h)
  have hs1 := k1.size
  simp only [World.size_alloc] at hs1
  have HZ := hid hz
  clear hv hv0 k1 hz
  go_wp2_with (at_builtin; refine wpList_append_byte rfl _ _ 22 rfl rtBytes rfl rfl b1 (by decide) (by decide) ?h1 ?h2 ?h3)
  case h1 => omega
  case h2 => exact hs1
  case h3 =>
  intro a2 n2 c2 w2 b2 k3
  have k4 : Kept None w w2 := k2.own k3 (fun k hk => by have := (b1.own k hk).1; omega)
  have hR2 : Blk w2 w.heap.size z 83 := hR.kept k3 (fun h => by have := (b1.own _ h).1; omega)
  have b3 : Ob w2 (w.heap.size + 1) (.slice a2 n2 c2) ((l ++ [1]) ++ List.replicate 0 0) := by
    rw [show Go.Pm.byteOf 1 = 1 from rfl] at b2
    simpa using b2
  clear b1 b2 k2 k3 hR
  go_wp2
  go_loopw [3] (fun x wr => ∃ j : Nat, j ≤ noughts l ∧ (∃ a n c, x = .slice a n c) ∧ Ob wr (w.heap.size + 1) x ((l ++ [1]) ++ List.replicate j 0) ∧ Kept None w wr ∧ Blk wr w.heap.size z 83) (fun x _ => l.length + 9 - Sp.lenOf x)
  case atStart => exact ⟨0, Nat.zero_le _, ⟨_, _, _, rfl⟩, b3, k4, hR2⟩
  case round =>
    clear b3 k4 hR2
    obtain ⟨j, hj, ⟨a3, n3, c3, rfl⟩, hb, hkk, hR⟩ := hrel
    have hn3 : n3 = l.length + 1 + j := by
      obtain ⟨_, _, hf⟩ := hb.form
      injection hf with _ h2 _
      rw [h2]; simp; omega
    have hn8 : noughts l < 8 := Nat.mod_lt _ (by decide)
    have hsz : w.heap.size + 1 ≤ wr.heap.size := hR.lt
    by_cases h8 : n3 % 8 = 0
    · have hj2 : j = noughts l := by unfold noughts at hj ⊢; omega
      have b5 : Ob wr (w.heap.size + 1) (.slice a3 n3 c3) (padded l) := by rw [padded_is, ← hj2]; exact hb
      have hpl := padded_len l
      have hn4 : n3 = 8 * (l.length / 8 + 1) := by
        obtain ⟨_, _, hf⟩ := b5.form
        injection hf with _ h2 _
        rw [h2, hpl]
      obtain ⟨M, hM⟩ : ∃ M, M = l.length / 8 + 1 := ⟨_, rfl⟩
      rw [← hM] at hn4 hpl AE
      have hM2 : M ≤ 17592186044500 := by omega
      have h8' : ((n3 : Int) % 8 != 0) = false := by simp; omega
      have HPL := hid hpl
      have HN := hid hn4
      clear hj hj2 hb hn3 hn8 hpl hM hn4
      go_wp2_with fail
      refine (PF.out _).mono ?_
      rintro e1 w3 ⟨rfl, k3⟩
      have hR3 := hR.kept k3 (fun h => h)
      have b6 := b5.kept k3 (fun _ _ h => h)
      have k4 := hkk.then k3 (fun _ _ h => h)
      have hs3 := k3.size
      have hz3 := hR3.lt
      clear hkk hR b5 k3
      go_wp2
      obtain ⟨wo, rfl⟩ : ∃ wo : World, wo = wr := ⟨_, rfl⟩
      go_loopw [5] (fun i wr => ∃ j : Nat, j ≤ M ∧ i = .int .i64 (8 * (j : Int)) ∧ Kept None w wr ∧ Blk wr w3.heap.size (Sp.sc (ab j)) 97 ∧ Blk wr w.heap.size z 83 ∧ Ob wr (w.heap.size + 1) (.slice a3 n3 c3) (padded l)) (fun i _ => 8 * M - (intOf i).toNat)
      case atStart => exact ⟨0, Nat.zero_le _, by simp, k4.alloc _, Blk.new _ _ _, hR3.alloc _, b6.alloc _⟩
      case round =>
        have hown : ∀ k, (Value.slice a3 n3 c3).ownBlock = some k → w.heap.size + 1 ≤ k ∧ k < w3.heap.size := b6.own
        clear k4 hR3 b6
        obtain ⟨j, hj, rfl, hkk, hS, hR, hb⟩ := hrel
        by_cases hlt : j < M
        · have hn3 := HN.out
          have hpl := HPL.out
          have hbs := hb.bs (Nat.le_refl _)
          obtain ⟨a', s1, p1⟩ := slice_mid tBytes zBytes hbs .i64 .i64 (8 * (j : Int)) (8 * (j : Int) + 8) (by omega) (by omega) (by omega)
          rw [show (8 * (j : Int)).toNat = 8 * j by omega, show (8 * (j : Int) + 8).toNat = 8 * j + 8 by omega, show 8 * j + 8 - 8 * j = 8 by omega] at s1 p1
          rw [← List.map_take, ← List.map_drop] at p1
          have hlr : leV (((padded l).take (8 * j + 8)).drop (8 * j)) = leV ((padded l).drop (8 * j)) := by
            rw [List.drop_take, show 8 * j + 8 - 8 * j = 8 by omega, leV_take]
          have hl8 : (((padded l).take (8 * j + 8)).drop (8 * j)).length = 8 := by rw [List.length_drop, List.length_take, hpl]; omega
          have hc3 : n3 ≤ c3 ∧ c3 ≤ 9223372036854775807 := by
            obtain ⟨_, _, e, h1, h2, _⟩ := hbs.shape
            injection e with e1 e2 e3
            omega
          have hlt2 : 8 * j < n3 := by omega
          have hlt3 : n3 ≤ 140737488356000 := by omega
          have hlts := hS.lt
          obtain ⟨hc31, hc32⟩ := hc3
          have ew : IntKind.i64.wrap (8 * (j : Int) + 8) = 8 * (j : Int) + 8 := by rw [IntKind.wrap_i64]; omega
          have hx := mixed_a (ab j) (leV ((padded l).drop (8 * j))) (leV_ge _) (leV_lt _)
          have HST := hid (AS.out j)
          have HX := hid (And.intro hlr (And.intro hl8 (And.intro hx ew)))
          clear hn3 hpl hlr hl8 hx ew hbs
          go_wp2
          refine wp_tail 10 (by kernel_rfl) (by kernel_rfl) (fun wy ky => ?_)
          have hS' := hS.kept ky (fun h => h)
          have hR' := hR.kept ky (fun h => h)
          have hb' := hb.kept ky (fun _ _ h => h)
          have hk' := hkk.then ky (fun _ _ h => h)
          have hv' := Vs.kept p1 ky (fun _ _ _ h => h)
          have c0 := hS'.cell 0
          have f0 := hS'.free 0
          simp at c0
          have ew := HX.out.2.2.2
          simp only [List.take_succ_cons, List.take_zero, List.drop_succ_cons, List.drop_zero]
          repeat still_step
          still_call (Calls.same (word _ _ _ _ wy hv' HX.out.2.1))
          repeat still_step
          refine wpStill_nil ?_
          clear ew
          rw [HX.out.1, HX.out.2.2.1]
          generalize hx' : leV ((padded l).drop (8 * j)) = x at *
          have hS2 : Blk (wy.setCell ⟨w3.heap.size, 0, none⟩ (.int .u64 (U ((ab j).mixed (W x)).a))) w3.heap.size (Sp.sc ((ab j).mixed (W x))) 97 := hS'.set 0 _
          have ky2 := (Kept.one wy w3.heap.size 0 (.int .u64 (U ((ab j).mixed (W x)).a)))
          have HX2 := hid hx'
          clear hx' HX hS hR hkk hb p1 hv' hS' ky
          go_wp2_with (first | (refine wpList_load_blk rfl _ _ rfl rfl hS2 Sp.aS ?_) | fail)
          refine (perm _ _).mono ?_
          rintro e1 w4 ⟨rfl, k1⟩
          rw [← HST.out]
          have hS3 := hS2.kept k1 (fun h => h)
          have hk3 : Kept None w w4 := (hk'.then ky2 (fun i hi (h : i = w3.heap.size) => by omega)).then k1 (fun _ _ h => h)
          have hb3 := (hb'.kept ky2 (fun i h1 (h : i = w3.heap.size) => by have := hown i h1; omega)).kept k1 (fun _ _ h => h)
          have hR3 := (hR'.kept ky2 (fun (h : w.heap.size = w3.heap.size) => by omega)).kept k1 (fun h => h)
          clear hS2 hk' hb' hR' ky2 k1 c0 f0
          go_wp2_with (first | (refine wpList_store_blk rfl _ _ _ rfl rfl rfl hS3 Sp.aS rfl (Sp.sc_all _) ?_; intro w5 hS4 k4) | fail)
          exact ⟨⟨j + 1, by omega, by go_num, hk3.then k4 (fun i hi (h : i = w3.heap.size) => by omega), hS4, hR3.kept k4 (fun (h : w.heap.size = w3.heap.size) => by omega), hb3.kept k4 (fun i h1 (h : i = w3.heap.size) => by have := hown i h1; omega)⟩, by simp only [intOf]; omega⟩
        · have hjM : j = M := by omega
          subst hjM
          rw [← AE.out] at hS
          have hn3 := HN.out
          have hge : n3 ≤ 8 * j := by omega
          have hlts := hS.lt
          clear hn3 hb hown
          go_wp2
          obtain ⟨wp, rfl⟩ : ∃ wp : World, wp = wr := ⟨_, rfl⟩
          go_loopw [7] (fun i wr => ∃ k : Nat, k ≤ 4 ∧ i = .int .i64 k ∧ Kept None w wr ∧ Blk wr w3.heap.size (Sp.sc (Go.Pm.squeeze so (k - 1))) 97 ∧ Blk wr w.heap.size z 83 ∧ Blk wr wp.heap.size (Sp.sofar so k).toArray 83) (fun i _ => 4 - (intOf i).toNat)
          case atStart => exact ⟨0, Nat.zero_le _, rfl, hkk.alloc _, hS.alloc _, hR.alloc _, Sp.sofar_zero so ▸ Blk.new _ _ _⟩
          case round =>
            clear hkk hS hR
            obtain ⟨k, hk, rfl, hkk, hS, hR, hH⟩ := hrel
            by_cases hlt : k < 4
            · have hwp := hH.lt
              rcases Nat.eq_zero_or_pos k with h0 | h0
              case' inl =>
                obtain ⟨wx, hwx⟩ : ∃ wx, wx = wr := ⟨_, rfl⟩
                have hkx : Kept None w wx := by rw [hwx]; exact hkk
                have hSx : Blk wx w3.heap.size (Sp.sc (Go.Pm.squeeze so k)) 97 := by rw [hwx, h0]; rw [h0] at hS; exact hS
                have hRx : Blk wx w.heap.size z 83 := by rw [hwx]; exact hR
                have hHx : Blk wx wp.heap.size (Sp.sofar so k).toArray 83 := by rw [hwx]; exact hH
                rw [← hwx]
                have h0' : ¬ 0 < k := by omega
                clear hkk hS hR hH hwx h0
                have c0 := hSx.cell 0
                simp at c0
                go_wp2_with fail
              case' inr =>
                have h0' : 0 < k := h0
                go_wp2_with (first | (refine wpList_load_blk rfl _ _ rfl rfl hS Sp.aS ?_) | fail)
                refine (perm _ _).mono ?_
                rintro e1 w4 ⟨rfl, k1⟩
                rw [show (Go.Pm.squeeze so (k - 1)).perm = Go.Pm.squeeze so k by obtain ⟨i, rfl⟩ : ∃ i, k = i + 1 := ⟨k - 1, by omega⟩; rfl]
                have hS1 := hS.kept k1 (fun h => h)
                go_wp2_with (first | (refine wpList_store_blk rfl _ _ _ rfl rfl rfl hS1 Sp.aS rfl (Sp.sc_all _) ?_; intro wx hSx k2; have c0 := hSx.cell 0; simp at c0) | fail)
                have hkx : Kept None w wx := (hkk.then k1 (fun _ _ h => h)).then k2 (fun i hi (h : i = w3.heap.size) => by omega)
                have hRx := (hR.kept k1 (fun h => h)).kept k2 (fun (h : w.heap.size = w3.heap.size) => by omega)
                have hHx := (hH.kept k1 (fun h => h)).kept k2 (fun (h : wp.heap.size = w3.heap.size) => by omega)
                clear hkk hS hR hH hS1 k1 k2 h0
              all_goals
                have hu := U_ge (Go.Pm.squeeze so k).a
                have hu2 := U_lt (Go.Pm.squeeze so k).a
                refine (num _ _ hu hu2).mono ?_
                rintro e2 w6 ⟨v6, rfl, k6, b6⟩
                obtain ⟨X, hX⟩ : ∃ X, X = leB (U (Go.Pm.squeeze so k).a) := ⟨_, rfl⟩
                rw [← hX] at b6
                have hX8 : X.length = 8 := by rw [hX]; rfl
                have hend := Sp.sofar_splice so k hlt
                rw [← hX] at hend
                have hfull := Sp.sofar_len so k hk
                have hS6 := hSx.kept k6 (fun h => h)
                have hR6 := hRx.kept k6 (fun h => h)
                have hH6 : Blk w6 wp.heap.size (splice (Sp.sofar so k) (8 * k) ((X.map u8v).take 0)).toArray 83 := by
                  have : splice (Sp.sofar so k) (8 * k) ((X.map u8v).take 0) = Sp.sofar so k := by simp [splice]
                  rw [this]; exact hHx.kept k6 (fun h => h)
                have hk6 := hkx.then k6 (fun _ _ h => h)
                have hwx := hHx.lt
                have hbo : ∀ i, v6.ownBlock = some i → wp.heap.size < i := fun i hi => by have := (b6.own i hi).1; omega
                obtain ⟨a6, c6, rfl⟩ := b6.form
                rw [hX8] at b6 hbo ⊢
                have HE := hid (And.intro hX8 (And.intro hend hfull))
                clear hu hu2 hX hX8 hend hfull hSx hRx hHx hkx k6 c0
                obtain ⟨wq, rfl⟩ : ∃ wq : World, wq = wx := ⟨_, rfl⟩
                go_wp2
                go_loopw [9] (fun q wr => ∃ m : Nat, m ≤ 8 ∧ q = .int .i64 m ∧ Kept None w wr ∧ Blk wr w3.heap.size (Sp.sc (Go.Pm.squeeze so k)) 97 ∧ Blk wr w.heap.size z 83 ∧ Blk wr wp.heap.size (splice (Sp.sofar so k) (8 * k) ((X.map u8v).take m)).toArray 83 ∧ Ob wr wq.heap.size (.slice a6 8 c6) X) (fun q _ => 8 - (intOf q).toNat)
                case atStart => exact ⟨0, Nat.zero_le _, rfl, hk6, hS6, hR6, hH6, b6⟩
                case round =>
                  clear hk6 hS6 hR6 hH6 b6
                  obtain ⟨m, hm, rfl, hkk, hS, hR, hH, hb⟩ := hrel
                  by_cases hm8 : m < 8
                  · obtain ⟨hX8, hend, hfull⟩ := HE.out
                    obtain ⟨b, o, rfl, q1, q2, q3, hcs⟩ := Bs.ne (hb.bs (Nat.le_refl _)) (by omega)
                    have hc := hcs m (by omega)
                    have hxm : (X.map u8v)[m]? = some (.int .u8 (bAt X m)) := by
                      rw [List.getElem?_map, List.getElem?_eq_getElem (by omega), Option.map_some, u8v_at X m (by omega)]
                    have hst := splice_step (Sp.sofar so k) (X.map u8v) (8 * k) m (by simp; omega) (by simp; omega) _ hxm
                    have hlen : (splice (Sp.sofar so k) (8 * k) ((X.map u8v).take m)).length = 32 := by
                      rw [length_splice _ _ _ (by simp; omega), hfull]
                    obtain ⟨y, hy⟩ : ∃ y, wr.cell? ⟨wp.heap.size, 8 * k + m, none⟩ = some y := ⟨_, (hH.cell (8 * k + m)).trans (by rw [List.getElem?_toArray, List.getElem?_eq_getElem (by omega)])⟩
                    have fy := hH.free (8 * k + m)
                    have hH2 : Blk (wr.setCell ⟨wp.heap.size, 8 * k + m, none⟩ (.int .u8 (bAt X m))) wp.heap.size (splice (Sp.sofar so k) (8 * k) ((X.map u8v).take (m + 1))).toArray 83 := by
                      have := hH.set (8 * k + m) (.int .u8 (bAt X m))
                      rw [List.setIfInBounds_toArray, hst] at this
                      exact this
                    have kH := Kept.one wr wp.heap.size (8 * k + m) (.int .u8 (bAt X m))
                    have b0 := bAt_ge X m
                    have b1 := bAt_lt X m
                    have et : (8 * (k : Int) + (m : Int)).toNat = 8 * k + m := by omega
                    have hbo' := hbo b rfl
                    have hS2 := hS.kept kH (fun (h : w3.heap.size = wp.heap.size) => by omega)
                    have hR2 := hR.kept kH (fun (h : w.heap.size = wp.heap.size) => by omega)
                    have hk2 := hkk.then kH (fun i hi (h : i = wp.heap.size) => by omega)
                    have hb2 := hb.kept kH (fun i hi (h : i = wp.heap.size) => by have := hbo i hi; omega)
                    clear hcs hxm hst hlen hX8 hend hfull hS hR hkk hb kH hH
                    generalize bAt X m = c at *
                    go_wp2
                    exact ⟨⟨m + 1, by omega, by go_num, hk2, hS2, hR2, hH2, hb2⟩, by simp only [intOf]; omega⟩
                  · have hm8' : m = 8 := by omega
                    have hH2 : Blk wr wp.heap.size (Sp.sofar so (k + 1)).toArray 83 := by
                      rw [← HE.out.2.1]
                      rw [hm8', List.take_of_length_le (by simp [HE.out.1])] at hH
                      exact hH
                    clear hm8' hH hb hbo
                    go_wp2
                    exact ⟨⟨k + 1, by omega, by go_num, hkk, hS, hR, hH2⟩, by simp only [intOf]; omega⟩
            · have hk4 : k = 4 := by omega
              subst hk4
              rw [Sp.sofar_four] at hH
              have aH' : AggTy Try.prog 83 ((eights so 4).map u8v).toArray.size := by rw [K3.out]; exact Sp.aH
              have E := hid (HZ.out.trans K3.out.symm)
              go_wp2_with (first | (refine wpList_load_blk rfl _ _ rfl rfl hH aH' ?_) | (refine wpList_store_blk rfl _ _ _ rfl rfl rfl hR aH' E.out (u8v_all _) ?_; intro w6 hR6 k6) | fail)
              exact bodyPost_ret (v := hashV (eights so 4)) (results_blk rfl _ rfl hR6 aH') rfl ⟨rfl, hkk.then k6 (fun i hi (h : i = w.heap.size) => by omega)⟩
    · have hj1 : j + 1 ≤ noughts l := by
        unfold noughts at hj ⊢
        omega
      have h8' : decide ((n3 : Int) % 8 = 0) = false := by simp; omega
      have h8'' : ((n3 : Int) % 8 != 0) = true := by simp; omega
      have H3 := hid hn3
      clear hn3
      go_wp2_with (at_builtin; refine wpList_append_byte rfl _ _ 22 rfl rtBytes rfl rfl hb (by decide) (by decide) ?m1 ?m2 ?m3)
      case m1 => simp; omega
      case m2 => exact hsz
      case m3 =>
        intro a4 n4 c4 w4 b4 k5
        have k6 : Kept None w w4 := hkk.own k5 (fun k hk => by have := (hb.own k hk).1; omega)
        have hR4 : Blk w4 w.heap.size z 83 := hR.kept k5 (fun h => by have := (hb.own _ h).1; omega)
        have b5 : Ob w4 (w.heap.size + 1) (.slice a4 n4 c4) ((l ++ [1]) ++ List.replicate (j + 1) 0) := by
          rw [show Go.Pm.byteOf 0 = 0 from rfl] at b4
          rw [replicate_one]
          simpa using b4
        have hn4 : n4 = l.length + 1 + (j + 1) := by
          obtain ⟨_, _, hf⟩ := b5.form
          injection hf with _ h2 _
          rw [h2]; simp; omega
        have hn3 := H3.out
        clear hb hkk hR b4 k5
        have H4 := hid (And.intro hn3 hn4)
        clear hn3 hn4
        go_wp2
        have hn3 := H4.out.1
        have hn4 := H4.out.2
        exact ⟨⟨j + 1, hj1, ⟨_, _, _, rfl⟩, b5, k6, hR4⟩, by simp only [Sp.lenOf]; omega⟩
end Ref
end Go.Proofs.Ytdobmebhjmgkmaa

/- postmarkref1.Text, Tag, by their contracts. -/
namespace Go.Proofs.Ytdobmebhjmgkmaa
open Go.RowKit Go.Pm
namespace Ref

set_option maxRecDepth 100000 in
set_option maxHeartbeats 1000000 in
/-- postmarkref1.Text. -/
theorem text (tag : Int) (v : Value) (lo hi lo' hi' : Nat) (ls : List (List UInt8)) (w : World) (ht0 : 0 ≤ tag) (ht1 : tag < 256) (hv : Bss w lo hi lo' hi' v ls) (hn : ls.length ≤ 1099511627776) (hl : total ls ≤ 1099511627776) :
    Calls Try.prog 60 #[.int .u8 tag, v] w fun e w' => ∃ v', e = .returned v' ∧ Kept None w w' ∧ Ob w' w.heap.size v' (textB tag ls) := by
  obtain ⟨a, cap, rfl, g1, g2, g3⟩ := hv.shape
  have b0 : Ob (w.alloc (.cells #[.int .u8 tag] 5)) w.heap.size (.slice (some ⟨w.heap.size, 0, none⟩) 1 1) (textB tag (ls.take 0)) := by
    have := Bo.new w 5 [Go.Pm.byteOf tag] #[.int .u8 tag] (by simp [u8v_byteOf' ht0 ht1]) 1 rfl (by decide)
    simpa [textB] using this
  have k0 : Kept None w (w.alloc (.cells #[.int .u8 tag] 5)) := (Kept.refl _ _).alloc _
  go_enter Try.func60, Try.ntmps60
  go_wp2
  go_loopw [5, 6] (fun t i wr => ∃ k : Nat, k ≤ ls.length ∧ i = .int .i64 k ∧ (∃ a n c, t = .slice a n c) ∧ Ob wr w.heap.size t (textB tag (ls.take k)) ∧ Kept None w wr) (fun _ i _ => ls.length - (intOf i).toNat)
  case atStart => exact ⟨0, Nat.zero_le _, rfl, ⟨_, _, _, rfl⟩, b0, k0⟩
  case round =>
    clear b0 k0
    obtain ⟨k, hk, rfl, ⟨a3, n3, c3, rfl⟩, hb, hkk⟩ := hrel
    have hsz := hkk.size
    by_cases hlt : k < ls.length
    · have hvr := hv.kept hkk (fun _ _ _ h => h) (fun _ _ _ h => h)
      obtain ⟨b, o, rfl, q1, q2, q3, hc⟩ := Bss.at hvr (by omega)
      obtain ⟨a', c', hc', hb'⟩ := hc k hlt
      have hlen := at_total ls k hlt
      have HP := hid (textB_take tag ls k hlt)
      have htl : (textB tag (ls.take k)).length ≤ 1 + 8 * ls.length + total ls := by
        rw [textB_length, List.length_take]
        have := total_take_le ls k
        omega
      clear hc hvr hv g3
      generalize ls[k] = x at *
      go_wp2_with fail
      refine (lump _ _ _ _ _ hb' (by omega)).mono ?_
      rintro e1 w4 ⟨v4, rfl, k4, b4⟩
      have hyl : (leB x.length ++ x).length = x.length + 8 := by simp [leB_length]; omega
      have HP' := HP.out
      generalize leB x.length ++ x = y at *
      have HP2 := hid HP'
      clear HP HP'
      have hb4 := hb.kept k4 (fun _ _ h => h)
      have hk5 := hkk.then k4 (fun _ _ h => h)
      have hs4 := k4.size
      have hb4' := b4.bs (Nat.le_refl _)
      obtain ⟨a4, c4, rfl⟩ := b4.form
      have HY := hid hyl
      clear hyl hb hkk k4 b4 hb'
      go_wp2_with (at_builtin; refine wpList_append_bo rfl _ _ 22 rfl rtBytes rfl rfl hb4 hb4' ?m1 ?m2 ?m3)
      case m1 => have := HY.out; omega
      case m2 => omega
      case m3 =>
        intro a5 n5 c5 w5 hb5 hk6
        have hk7 : Kept None w w5 := hk5.own hk6 (fun i h => by have := (hb4.own i h).1; omega)
        rw [← HP2.out] at hb5
        clear hb4 hb4' hk5 hk6 HP2
        go_wp2
        go_roundw
        case rel => exact ⟨k + 1, by omega, by go_num, ⟨_, _, _, rfl⟩, hb5, hk7⟩
        case measure => simp [intOf]; omega
    · have hb6 : Ob wr w.heap.size (.slice a3 n3 c3) (textB tag ls) := by rw [List.take_of_length_le (by omega)] at hb; exact hb
      clear hb hv g3
      go_wp2
      go_ret
      exact ⟨_, rfl, hkk, hb6⟩

set_option maxRecDepth 100000 in
set_option maxHeartbeats 400000 in
/-- postmarkref1.Tag. -/
theorem tag (tg : Int) (v : Value) (lo hi lo' hi' : Nat) (ls : List (List UInt8)) (w : World) (ht0 : 0 ≤ tg) (ht1 : tg < 256) (hv : Bss w lo hi lo' hi' v ls) (hn : ls.length ≤ 1099511627776) (hl : total ls ≤ 1099511627776) :
    Calls Try.prog 44 #[.int .u8 tg, v] w fun e w' => e = .returned (hashV (sumB (textB tg ls))) ∧ Kept None w w' := by
  have hs := fun v lo hi w h => sum v lo hi (textB tg ls) w h (by rw [textB_length]; omega)
  have e32 := sumB_len (textB tg ls)
  obtain ⟨res, hres⟩ : ∃ res, res = sumB (textB tg ls) := ⟨_, rfl⟩
  rw [← hres] at hs e32 ⊢
  have HS := hid hs
  have H32 := hid e32
  clear hs e32 hres
  obtain ⟨a, cap, rfl, g1, g2, g3⟩ := hv.shape
  clear g3
  go_enter Try.func44, Try.ntmps44
  go_wp2_with fail
  have hv1 := hv.kept ((Kept.refl None w).alloc (.cells (Array.replicate 32 (.int .u8 0)) 83)) (fun _ _ _ h => h) (fun _ _ _ h => h)
  refine (text tg _ lo hi lo' hi' ls _ ht0 ht1 hv1 hn hl).mono ?_
  rintro e1 w1 ⟨v1, rfl, k1, b1⟩
  obtain ⟨z, hz, hR⟩ : ∃ z : Array Value, z.size = 32 ∧ Blk w1 w.heap.size z 83 := ⟨Array.replicate 32 (.int .u8 0), by simp, (Blk.new w _ _).kept k1 (fun h => h)⟩
  have k2 : Kept None w w1 := ((Kept.refl _ _).alloc _).trans k1
  clear hv hv1 k1
  go_wp2_with fail
  refine (HS.out _ _ _ _ (b1.bs (Nat.le_refl _))).mono ?_
  rintro e2 w2 ⟨rfl, k3⟩
  have hR2 := hR.kept k3 (fun h => h)
  have k4 := k2.then k3 (fun _ _ h => h)
  have e32 : (res.map u8v).toArray.size = 32 := by simpa using H32.out
  have aH' : AggTy Try.prog 83 (res.map u8v).toArray.size := by rw [e32]; exact Sp.aH
  have E := hid (hz.trans e32.symm)
  clear hR k3 k2 b1 e32 hz
  go_wp2_with (first | (refine wpList_store_blk rfl _ _ _ rfl rfl rfl hR2 aH' E.out (u8v_all _) ?_; intro w6 hR6 k6) | fail)
  exact bodyPost_ret (v := hashV res) (results_blk rfl _ rfl hR6 aH') rfl ⟨rfl, k4.then k6 (fun i hi (h : i = w.heap.size) => by omega)⟩
end Ref
end Go.Proofs.Ytdobmebhjmgkmaa
namespace Go.Proofs.Ytdobmebhjmgkmaa
open Go.RowKit Go.Pm
namespace Ref
theorem box_bs (w : World) (h : List UInt8) (t : TypeId) (hl : h.length = 32) : Bs (w.alloc (.cells (h.map u8v).toArray t)) w.heap.size (w.heap.size + 1) (.slice (some ⟨w.heap.size, 0, none⟩) 8 32) (h.take 8) := by
  have h0 := Vs.new w (h.map u8v).toArray t 32 (by simp [hl]) (by decide)
  rw [show (h.map u8v).toArray.size = 32 by simp [hl]] at h0
  have h1 := h0.sliced 0 8 (by decide) (by decide)
  unfold Bs
  simpa [List.map_take, Addr.add_zero'] using h1

set_option maxRecDepth 100000 in
set_option maxHeartbeats 400000 in
theorem number (h : List UInt8) (hl : h.length = 32) (w : World) : Calls Try.prog 43 #[hashV h] w fun e w' => e = .returned (.int .u64 (numB h : Nat)) ∧ Kept None w w' := by
  have hb := box_bs w h 83 hl
  have k1 : Kept None w (w.alloc (.cells (h.map u8v).toArray 83)) := (Kept.refl _ _).alloc _
  have HE := hid (Sg.num_end h)
  have g0 := leV_ge (h.take 8)
  go_enter Try.func43, Try.ntmps43
  go_wp2_with fail
  refine (word _ _ _ (h.take 8) _ hb (by simp [hl])).mono ?_
  rintro e w1 ⟨rfl, rfl⟩
  go_wp2
  go_ret
  exact ⟨by rw [HE.out]; rfl, k1⟩

set_option maxRecDepth 100000 in
set_option maxHeartbeats 400000 in
theorem pub (x : Nat) (w : World) : Calls Try.prog 32 #[.int .u64 x] w fun e w' => e = .returned (.int .u64 (pubN x : Nat)) ∧ Kept None w w' := by
  have hp := fun w => pow 7 (x % order61) 2305843009213693951 w
  rw [show modOf 2305843009213693951 = prime61 by decide, show powm prime61 7 (x % order61) = pubN x from rfl, show ((x % order61 : Nat) : Int) = (x : Int) % 2305843009213693950 by rw [Int.natCast_emod]; rfl] at hp
  generalize pubN x = p at *
  have HP := hid hp
  clear hp
  go_enter Try.func32, Try.ntmps32
  go_wp2_with fail
  refine (HP.out _).mono ?_
  rintro e w1 ⟨rfl, k1⟩
  go_wp2
  go_ret
  exact ⟨rfl, k1⟩

set_option maxRecDepth 100000 in
set_option maxHeartbeats 1000000 in
theorem point (r y : Nat) (v : Value) (lo hi : Nat) (m : List UInt8) (w : World) (hr : r < 18446744073709551616) (hy : y < 18446744073709551616) (hv : Bs w lo hi v m) (hl : m.length ≤ 549755813888) :
    Calls Try.prog 46 #[.int .u64 r, .int .u64 y, v] w fun e w' => e = .returned (.int .u64 (chN r y m : Nat)) ∧ Kept None w w' := by
  have ht := fun v lo hi lo' hi' w hv => tag 101 v lo hi lo' hi' [leB r, leB y, m] w (by decide) (by decide) hv (by simp) (by simp [total, leB_length]; omega)
  have hn := fun w => number (sumB (textB 101 [leB r, leB y, m])) (sumB_len _) w
  rw [show numB (sumB (textB 101 [leB r, leB y, m])) = chN r y m from rfl] at hn
  obtain ⟨h, hh⟩ : ∃ h, h = sumB (textB 101 [leB r, leB y, m]) := ⟨_, rfl⟩
  obtain ⟨c, hc⟩ : ∃ c, c = chN r y m := ⟨_, rfl⟩
  rw [← hh] at ht hn
  rw [← hc] at hn ⊢
  have HT := hid ht
  have HN := hid hn
  clear ht hn hh hc
  obtain ⟨a, cap, rfl, g1, g2, g3⟩ := hv.shape
  clear g3
  go_enter Try.func46, Try.ntmps46
  go_wp2_with fail
  refine (num r _ (by omega) (by omega)).mono ?_
  rintro e w1 ⟨v1, rfl, k1, b1⟩
  have b1' := b1.bs (Nat.le_refl _)
  obtain ⟨a1, c1, rfl⟩ := b1.form
  rw [leB_length] at b1' ⊢
  clear b1
  go_wp2_with fail
  refine (num y _ (by omega) (by omega)).mono ?_
  rintro e w2 ⟨v2, rfl, k2, b2⟩
  have b2' := b2.bs (Nat.le_refl _)
  obtain ⟨a2, c2, rfl⟩ := b2.form
  rw [leB_length] at b2' ⊢
  have b1'' := b1'.kept k2 (fun _ _ _ h => h)
  have hv2 := (hv.kept k1 (fun _ _ _ h => h)).kept k2 (fun _ _ _ h => h)
  have k02 := k1.trans k2
  clear b2 hv b1' k1 k2
  go_wp2_with fail
  have hbs := Bss.new w2 #[.slice a1 8 c1, .slice a2 8 c2, .slice a m.length cap] 22 [leB r, leB y, m] 3 rfl (by decide) ⟨b1''.all, b2'.all, hv2.all, trivial⟩
  refine (HT.out _ _ _ _ _ _ hbs).mono ?_
  rintro e w3 ⟨rfl, k3⟩
  have k03 := (k02.alloc _).then k3 (fun _ _ h => h)
  clear hbs k02 k3 b1'' b2' hv2
  go_wp2_with fail
  refine (HN.out _).mono ?_
  rintro e w4 ⟨rfl, k4⟩
  have k04 := k03.then k4 (fun _ _ h => h)
  go_wp2
  go_ret
  exact ⟨rfl, k04⟩

set_option maxRecDepth 100000 in
set_option maxHeartbeats 1000000 in
theorem sign (x : Nat) (v : Value) (lo hi : Nat) (m : List UInt8) (w : World) (hv : Bs w lo hi v m) (hl : m.length ≤ 549755813888) :
    Calls Try.prog 34 #[.int .u64 x, v] w fun e w' => e = .returned (Sg.sigV (sigR x m) (sigS x m)) ∧ Kept None w w' := by
  have hx : ((x % order61 : Nat) : Int) = (x : Int) % 2305843009213693950 := by rw [Int.natCast_emod]; rfl
  have hx1 : x % order61 < 18446744073709551616 := Nat.lt_trans (Nat.mod_lt x (by decide)) (by decide)
  have hnum := fun w => num ((x % order61 : Nat) : Int) w (by omega) (by omega)
  have ht := fun v lo hi lo' hi' w hv => tag 107 v lo hi lo' hi' [leB ((x % order61 : Nat) : Int), m] w (by decide) (by decide) hv (by simp) (by simp [total, leB_length]; omega)
  have hn := fun w => number (sumB (textB 107 [leB ((x % order61 : Nat) : Int), m])) (sumB_len _) w
  rw [show numB (sumB (textB 107 [leB ((x % order61 : Nat) : Int), m])) = keyN (x % order61) m from rfl] at hn
  have h7 := fun w => pow 7 (keyN (x % order61) m) 2305843009213693951 w
  have hp := fun w => pub (x % order61) w
  have hc := fun w hv => point (sigR x m) (pubN x) v lo hi m w (Nat.lt_trans (sigR_lt x m) (by decide)) (Nat.lt_trans (pubN_lt x) (by decide)) hv hl
  have hm := fun w => mul (x % order61) (chN (sigR x m) (pubN x) m) 2305843009213693950 w
  have ha := fun w => add (keyN (x % order61) m) ((x % order61) * chN (sigR x m) (pubN x) m % order61) 2305843009213693950 w
  rw [show modOf 2305843009213693950 = order61 by decide] at hm ha
  rw [show modOf 2305843009213693951 = prime61 by decide] at h7
  rw [show (keyN (x % order61) m + (x % order61) * chN (sigR x m) (pubN x) m % order61) % order61 = sigS x m from rfl] at ha
  rw [show powm prime61 7 (keyN (x % order61) m) = sigR x m from rfl] at h7
  rw [pubN_mod] at hp
  obtain ⟨R, hR⟩ : ∃ R, R = sigR x m := ⟨_, rfl⟩
  obtain ⟨S, hS⟩ : ∃ S, S = sigS x m := ⟨_, rfl⟩
  obtain ⟨Y, hY⟩ : ∃ Y, Y = pubN x := ⟨_, rfl⟩
  rw [← hR] at h7 hc hm ha ⊢
  rw [← hS] at ha ⊢
  rw [← hY] at hp hc hm ha
  obtain ⟨K, hK⟩ : ∃ K, K = keyN (x % order61) m := ⟨_, rfl⟩
  obtain ⟨C, hC⟩ : ∃ C, C = chN R Y m := ⟨_, rfl⟩
  obtain ⟨h, hh⟩ : ∃ h, h = sumB (textB 107 [leB ((x % order61 : Nat) : Int), m]) := ⟨_, rfl⟩
  obtain ⟨B, hB⟩ : ∃ B, B = leB ((x % order61 : Nat) : Int) := ⟨_, rfl⟩
  have l8 : B.length = 8 := by rw [hB]; exact leB_length _
  rw [← hh] at ht hn
  rw [← hB] at ht hnum
  rw [← hK] at hn h7 ha
  rw [← hC] at hc hm ha
  obtain ⟨M, hM⟩ : ∃ M, M = x % order61 * C % order61 := ⟨_, rfl⟩
  rw [← hM] at hm ha
  rw [hx] at hp hm hnum
  have HU := hid hnum
  have HT := hid ht
  have HA := hid (And.intro hp (And.intro hc (And.intro hm (And.intro ha (And.intro hn h7)))))
  clear hp hc hm ha hn h7 ht hnum hR hS hY hK hC hM hh hB hx hx1
  obtain ⟨a, cap, rfl, g1, g2, g3⟩ := hv.shape
  clear g3
  go_enter Try.func34, Try.ntmps34
  go_wp2_with fail
  have hv1 := hv.kept ((Kept.refl None w).alloc (.cells #[.int .u64 0, .int .u64 0] 25)) (fun _ _ _ h => h)
  refine (HU.out _).mono ?_
  rintro e w1 ⟨v1, rfl, k1, b1⟩
  have b1' := b1.bs (Nat.le_refl _)
  obtain ⟨a1, c1, rfl⟩ := b1.form
  rw [l8] at b1' ⊢
  have hB1 : Blk w1 w.heap.size #[.int .u64 0, .int .u64 0] 25 := (Blk.new w _ _).kept k1 (fun h => h)
  have k01 : Kept None w w1 := ((Kept.refl None w).alloc _).trans k1
  have hv2 := hv1.kept k1 (fun _ _ _ h => h)
  clear hv hv1 k1 b1
  go_wp2_with fail
  have hbs := Bss.new w1 #[.slice a1 8 c1, .slice a m.length cap] 22 [B, m] 2 rfl (by decide) ⟨b1'.all, hv2.all, trivial⟩
  refine (HT.out _ _ _ _ _ _ hbs).mono ?_
  rintro e w2 ⟨rfl, k2⟩
  have kk := ((Kept.refl None w1).alloc _).trans k2
  have hB2 := hB1.kept kk (fun h => h)
  have k02 := k01.trans kk
  have hv3 := hv2.kept kk (fun _ _ _ h => h)
  clear hB1 k01 hv2 k2 kk hbs b1'
  go_wp2_with fail
  refine (HA.out.2.2.2.2.1 _).mono ?_
  rintro e w3 ⟨rfl, kk⟩
  have hB3 := hB2.kept kk (fun h => h)
  have k03 := k02.trans kk
  have hv4 := hv3.kept kk (fun _ _ _ h => h)
  clear hB2 k02 hv3 kk
  go_wp2_with fail
  refine (HA.out.2.2.2.2.2 _).mono ?_
  rintro e w4 ⟨rfl, kk⟩
  have hB4 := hB3.kept kk (fun h => h)
  have k04 := k03.trans kk
  have hv5 := hv4.kept kk (fun _ _ _ h => h)
  clear hB3 k03 hv4 kk
  go_wp2_with fail
  refine (HA.out.1 _).mono ?_
  rintro e w5 ⟨rfl, kk⟩
  have hB5 := hB4.kept kk (fun h => h)
  have k05 := k04.trans kk
  have hv6 := hv5.kept kk (fun _ _ _ h => h)
  clear hB4 k04 hv5 kk
  go_wp2_with fail
  refine (HA.out.2.1 _ hv6).mono ?_
  rintro e w6 ⟨rfl, kk⟩
  have hB6 := hB5.kept kk (fun h => h)
  have k06 := k05.trans kk
  clear hB5 k05 hv6 kk
  go_wp2_with fail
  refine (HA.out.2.2.1 _).mono ?_
  rintro e w7 ⟨rfl, kk⟩
  have hB7 := hB6.kept kk (fun h => h)
  have k07 := k06.trans kk
  clear hB6 k06 kk
  go_wp2_with fail
  refine (HA.out.2.2.2.1 _).mono ?_
  rintro e w8 ⟨rfl, kk⟩
  have hB8 := hB7.kept kk (fun h => h)
  have k08 := k07.trans kk
  clear hB7 k07 kk
  go_wp2_with (first | (refine wpList_store_blk rfl _ _ _ rfl rfl rfl hB8 Sg.aSig rfl (Sg.sig_all _ _) ?_; intro w9 hR9 k9) | fail)
  exact bodyPost_ret (v := Sg.sigV R S) (results_blk rfl _ rfl hR9 Sg.aSig) rfl ⟨rfl, k08.then k9 (fun i hi (h : i = w.heap.size) => by omega)⟩

end Ref
end Go.Proofs.Ytdobmebhjmgkmaa
namespace Go.Proofs.Ytdobmebhjmgkmaa
open Go.RowKit Go.Pm
namespace RUp
set_option maxHeartbeats 1000000 in
/-- postmarkref5.Entry. -/
theorem entry (n : ByteArray) (v c : Int) (k r s : Nat) (w : World) : Calls Try.prog 36 #[updV n v k c r s] w fun e w' => e = .returned (entV n v k) ∧ Kept None w w' := by
  have k0 : Kept None w ((w.alloc (.cells #[.string n, .int .i64 v, .int .u64 (k : Int), .int .i64 c, .int .u64 (r : Int), .int .u64 (s : Int)] 27)).alloc (.cells #[.string ⟨#[]⟩, .int .i64 0, .int .u64 0] 48)) := ((Kept.refl _ _).alloc _).alloc _
  have hR := Blk.new2 w (.cells #[.string n, .int .i64 v, .int .u64 (k : Int), .int .i64 c, .int .u64 (r : Int), .int .u64 (s : Int)] 27) #[.string ⟨#[]⟩, .int .i64 0, .int .u64 0] 48
  go_enter Try.func36, Try.ntmps36
  go_wp2_with (first | (refine wpList_store_blk rfl _ _ _ rfl rfl rfl hR Up.aEnt rfl (Up.ent_all _ _ _) ?_; intro w6 hR6 k6) | fail)
  exact bodyPost_ret (v := entV n v k) (results_blk rfl _ rfl hR6 Up.aEnt) rfl ⟨rfl, k0.then k6 (fun i hi (h : i = w.heap.size + 1) => by omega)⟩

set_option maxRecDepth 100000 in
set_option maxHeartbeats 1000000 in
/-- postmarkref5.Right. -/
theorem right (n : ByteArray) (v c : Int) (k r s : Nat) (w : World) : Calls Try.prog 28 #[updV n v k c r s] w fun e w' => e = .returned (.bool (rightB n.size v k c)) ∧ Kept None w w' := by
  have he := fun w => entry n v c k r s w
  have hq := fun w => entryRight n v k w
  have e1 : rightB n.size v k c = (entR n.size v k && (c == 0 || c == 1)) := by
    unfold rightB
    rfl
  rw [e1]
  have hB0 := Blk.new w #[.string n, .int .i64 v, .int .u64 (k : Int), .int .i64 c, .int .u64 (r : Int), .int .u64 (s : Int)] 27
  have k0 : Kept None w (w.alloc (.cells #[.string n, .int .i64 v, .int .u64 (k : Int), .int .i64 c, .int .u64 (r : Int), .int .u64 (s : Int)] 27)) := (Kept.refl _ _).alloc _
  cases hb : entR n.size v k with
  | false =>
    rw [hb] at hq
    have H := hid (And.intro he hq)
    clear he hq hb e1
    go_enter Try.func28, Try.ntmps28
    go_wp2_with (first | (refine wpList_load_blk rfl _ _ rfl rfl hB0 Up.aUpd ?_) | fail)
    refine (H.out.1 _).mono ?_
    rintro e w1 ⟨rfl, k1⟩
    have k01 := k0.trans k1
    go_wp2_with fail
    refine (H.out.2 _).mono ?_
    rintro e w2 ⟨rfl, k2⟩
    have k02 := k01.trans k2
    go_wp2
    go_ret
    exact ⟨rfl, k02⟩
  | true =>
    rw [hb] at hq
    have H := hid (And.intro he hq)
    clear he hq hb e1
    go_enter Try.func28, Try.ntmps28
    go_wp2_with (first | (refine wpList_load_blk rfl _ _ rfl rfl hB0 Up.aUpd ?_) | fail)
    refine (H.out.1 _).mono ?_
    rintro e w1 ⟨rfl, k1⟩
    have k01 := k0.trans k1
    have hB1 := hB0.kept k1 (fun h => h)
    go_wp2_with fail
    refine (H.out.2 _).mono ?_
    rintro e w2 ⟨rfl, k2⟩
    have k02 := k01.trans k2
    have hB2 := hB1.kept k2 (fun h => h)
    have c3 : w2.cell? ⟨w.heap.size, 3, none⟩ = some (.int .i64 c) := hB2.cell 3
    clear hB0 hB1 k0 k1 k01 k2 H
    go_wp2
    all_goals
      go_ret
      first | exact ⟨rfl, k02⟩ | exact ⟨by simp; omega, k02⟩

end RUp
end Go.Proofs.Ytdobmebhjmgkmaa
namespace Go.Proofs.Ytdobmebhjmgkmaa
open Go.RowKit Go.Pm
namespace RUp
set_option maxRecDepth 100000 in
set_option maxHeartbeats 4000000 in
/-- postmarkref5.Message. -/
theorem message (n : ByteArray) (v : Int) (k : Nat) (w : World) (hn : n.size ≤ 274877906944) (hk : k < 18446744073709551616) : Calls Try.prog 35 #[entV n v k] w fun e w' => ∃ u, e = .returned u ∧ Kept None w w' ∧ Ob w' w.heap.size u (msgB n v k) := by
  have hf := fun w => fields n v k w hn hk
  have hl := fieldsB_len n v k
  have he : 85 :: fieldsB n v k = msgB n v k := rfl
  obtain ⟨F, hF⟩ : ∃ F, F = fieldsB n v k := ⟨_, rfl⟩
  obtain ⟨M, hM⟩ : ∃ M, M = msgB n v k := ⟨_, rfl⟩
  rw [← hF] at hf hl he
  rw [← hM] at he ⊢
  have H := hid (And.intro hf (And.intro hl (And.intro hn he)))
  clear hf hl he hF hM hn hk
  have hB0 : Blk ((w.alloc (.cells #[.string n, .int .i64 v, .int .u64 (k : Int)] 48)).alloc (.cells #[.int .u8 85] 5)) w.heap.size #[.string n, .int .i64 v, .int .u64 (k : Int)] 48 := (Blk.new w _ _).alloc _
  have k0 : Kept None w ((w.alloc (.cells #[.string n, .int .i64 v, .int .u64 (k : Int)] 48)).alloc (.cells #[.int .u8 85] 5)) := ((Kept.refl _ _).alloc _).alloc _
  have b0 : Ob ((w.alloc (.cells #[.string n, .int .i64 v, .int .u64 (k : Int)] 48)).alloc (.cells #[.int .u8 85] 5)) (w.heap.size + 1) (.slice (some ⟨w.heap.size + 1, 0, none⟩) 1 1) [85] := by
    have h := Bo.new (w.alloc (.cells #[.string n, .int .i64 v, .int .u64 (k : Int)] 48)) 5 [85] #[.int .u8 85] (by rfl) 1 rfl (by decide)
    simpa using h
  go_enter Try.func35, Try.ntmps35
  go_wp2_with (first | (refine wpList_load_blk rfl _ _ rfl rfl hB0 Up.aEnt ?_) | fail)
  refine (H.out.1 _).mono ?_
  rintro e w1 ⟨u, rfl, k1, b1⟩
  have k01 := k0.trans k1
  have b01 := b0.kept k1 (fun _ _ h => h)
  have d1 := b1.bs (Nat.le_refl _)
  have hs1 : w.heap.size + 1 ≤ w1.heap.size := (hB0.kept k1 (fun h => h)).lt
  obtain ⟨a1, c1, rfl⟩ := b1.form
  clear hB0 k0 b0 k1 b1
  go_wp2_with (first | (at_builtin; refine wpList_append_bo (l := [85]) (m := F) (base := w.heap.size + 1) rfl _ _ 22 rfl rtBytes rfl rfl b01 d1 (by have := H.out; simp; omega) hs1 ?k5) | fail)
  case k5 =>
    intro a5 n5 c5 w5 b5 k5
    have k05 := Kept.own k01 k5 (fun k hk => Nat.le_of_succ_le (b01.own k hk).1)
    rw [H.out.2.2.2] at b5
    have b6 := b5.base (Nat.le_succ w.heap.size)
    clear b01 k01 k5 d1 b5
    go_wp2
    go_ret
    exact ⟨_, rfl, k05, b6⟩

set_option maxRecDepth 100000 in
set_option maxHeartbeats 4000000 in
/-- postmarkref5.Sign. -/
theorem sign (x : Nat) (n : ByteArray) (v c : Int) (k r s : Nat) (w : World) (hn : n.size ≤ 274877906944) (hk : k < 18446744073709551616) :
    Calls Try.prog 20 #[.int .u64 x, updV n v k c r s] w fun e w' => e = .returned (updV n v k c (sigR x (msgB n v k)) (sigS x (msgB n v k))) ∧ Kept None w w' := by
  have hs := fun v' lo hi w h => Ref.sign x v' lo hi (msgB n v k) w h (by rw [msgB_len]; omega)
  have hm := fun w => message n v k w hn hk
  have he := fun w => entry n v c k r s w
  obtain ⟨R, hR⟩ : ∃ R, R = sigR x (msgB n v k) := ⟨_, rfl⟩
  obtain ⟨S, hS⟩ : ∃ S, S = sigS x (msgB n v k) := ⟨_, rfl⟩
  obtain ⟨M, hM⟩ : ∃ M, M = msgB n v k := ⟨_, rfl⟩
  rw [← hR, ← hS] at hs ⊢
  rw [← hM] at hs hm
  have H := hid (And.intro hs (And.intro hm he))
  clear hs hm he hR hS hM hn hk
  go_enter Try.func20, Try.ntmps20
  have hB0 : Blk ((w.alloc (.cells #[.string n, .int .i64 v, .int .u64 (k : Int), .int .i64 c, .int .u64 (r : Int), .int .u64 (s : Int)] 27)).alloc (.cells #[.string ⟨#[]⟩, .int .i64 0, .int .u64 0, .int .i64 0, .int .u64 0, .int .u64 0] 27)) w.heap.size #[.string n, .int .i64 v, .int .u64 (k : Int), .int .i64 c, .int .u64 (r : Int), .int .u64 (s : Int)] 27 := (Blk.new w _ _).alloc _
  have hR0 := Blk.new2 w (.cells #[.string n, .int .i64 v, .int .u64 (k : Int), .int .i64 c, .int .u64 (r : Int), .int .u64 (s : Int)] 27) #[.string ⟨#[]⟩, .int .i64 0, .int .u64 0, .int .i64 0, .int .u64 0, .int .u64 0] 27
  have k0 : Kept None w ((w.alloc (.cells #[.string n, .int .i64 v, .int .u64 (k : Int), .int .i64 c, .int .u64 (r : Int), .int .u64 (s : Int)] 27)).alloc (.cells #[.string ⟨#[]⟩, .int .i64 0, .int .u64 0, .int .i64 0, .int .u64 0, .int .u64 0] 27)) := ((Kept.refl _ _).alloc _).alloc _
  go_wp2_with (first | (refine wpList_load_blk rfl _ _ rfl rfl hB0 Up.aUpd ?_) | fail)
  refine (H.out.2.2 _).mono ?_
  rintro e w1 ⟨rfl, k1⟩
  have hB1 := hB0.kept k1 (fun h => h)
  have hR1 := hR0.kept k1 (fun h => h)
  have k01 := k0.trans k1
  clear hB0 hR0 k0 k1
  go_wp2_with fail
  refine (H.out.2.1 _).mono ?_
  rintro e w2 ⟨u, rfl, k2, b2⟩
  have hB2 := hB1.kept k2 (fun h => h)
  have hR2 := hR1.kept k2 (fun h => h)
  have k02 := k01.trans k2
  have b2' := b2.bs (Nat.le_refl _)
  clear hB1 hR1 k01 k2 b2
  obtain ⟨a2, c2, rfl, g1, g2, g3⟩ := b2'.shape
  clear g3
  go_wp2_with fail
  refine (H.out.1 _ _ _ _ b2').mono ?_
  rintro e w3 ⟨rfl, k3⟩
  have hB3 := hB2.kept k3 (fun h => h)
  have hR3 := hR2.kept k3 (fun h => h)
  have k03 := k02.trans k3
  clear hB2 hR2 k02 k3 b2' H
  have c4 : w3.cell? ⟨w.heap.size, 4, none⟩ = some (.int .u64 (r : Int)) := hB3.cell 4
  have c5 : w3.cell? ⟨w.heap.size, 5, none⟩ = some (.int .u64 (s : Int)) := hB3.cell 5
  have f4 := hB3.free 4
  have f5 := hB3.free 5
  have hB4 : Blk ((w3.setCell ⟨w.heap.size, 4, none⟩ (.int .u64 (R : Int))).setCell ⟨w.heap.size, 5, none⟩ (.int .u64 (S : Int))) w.heap.size #[.string n, .int .i64 v, .int .u64 (k : Int), .int .i64 c, .int .u64 (R : Int), .int .u64 (S : Int)] 27 := (hB3.set 4 _).set 5 _
  have hR4 := (hR3.setOther (a := ⟨w.heap.size, 4, none⟩) (by show w.heap.size + 1 ≠ w.heap.size; omega) (.int .u64 (R : Int))).setOther (a := ⟨w.heap.size, 5, none⟩) (by show w.heap.size + 1 ≠ w.heap.size; omega) (.int .u64 (S : Int))
  have k04 := (k03.setNew (Nat.le_refl _) 4 (.int .u64 (R : Int))).setNew (Nat.le_refl _) 5 (.int .u64 (S : Int))
  clear hB3 hR3 k03
  go_wp2_with (first | (refine wpList_load_blk rfl _ _ rfl rfl hB4 Up.aUpd ?_) | (refine wpList_store_blk rfl _ _ _ rfl rfl rfl hR4 Up.aUpd rfl (Up.upd_all _ _ _ _ _ _) ?_; intro w6 hR6 k6) | fail)
  exact bodyPost_ret (v := updV n v k c R S) (results_blk rfl _ rfl hR6 Up.aUpd) rfl ⟨rfl, k04.then k6 (fun i hi (h : i = w.heap.size + 1) => by omega)⟩

end RUp
end Go.Proofs.Ytdobmebhjmgkmaa
/- Package postmarkseat: names, secrets, keys, requests of few numbers; by contract. -/
namespace Go.Proofs.Ytdobmebhjmgkmaa
open Go.RowKit Go.Pm
namespace Seat

def names : List ByteArray := [⟨#[97]⟩, ⟨#[98]⟩, ⟨#[97, 110, 110]⟩, ⟨#[98, 111, 98]⟩, ⟨#[195, 169]⟩, ⟨#[48, 49, 50, 51, 52, 53, 54, 55, 56, 57, 48, 49, 50, 51, 52, 53, 54, 55, 56, 57, 48, 49, 50, 51, 52, 53, 54, 55, 56, 57, 48, 122]⟩]
/-- Name. -/
def nameS (k : Nat) : ByteArray := names.getD (k % 6) ⟨#[]⟩
theorem nameS_size (k : Nat) : 1 ≤ (nameS k).size ∧ (nameS k).size ≤ 32 := by
  have h : ∀ j, j < 6 → 1 ≤ (names.getD j ⟨#[]⟩).size ∧ (names.getD j ⟨#[]⟩).size ≤ 32 := by decide
  exact h _ (Nat.mod_lt _ (by decide))

set_option maxRecDepth 100000 in
set_option maxHeartbeats 1000000 in
theorem name (k : Nat) (w : World) : Calls Try.prog 10 #[.int .u8 k] w fun e w' => e = .returned (.string (nameS k)) ∧ Kept None w w' := by
  have hk := Nat.mod_lt k (show 0 < 6 by decide)
  have hc : k % 6 = 0 ∨ k % 6 = 1 ∨ k % 6 = 2 ∨ k % 6 = 3 ∨ k % 6 = 4 ∨ k % 6 = 5 := by omega
  have hn : ∀ j, k % 6 = j → nameS k = names.getD j ⟨#[]⟩ := fun j h => by unfold nameS; rw [h]
  rcases hc with h | h | h | h | h | h
  all_goals
    rw [hn _ h]
    have hi : (k : Int) % 6 = ((k % 6 : Nat) : Int) := by omega
    rw [h] at hi
    clear hn hk h
    go_enter Try.func10, Try.ntmps10
    go_wp2
    go_ret
    exact ⟨rfl, (Kept.refl _ _).alloc _⟩

/-- A name's number, byte by byte. -/
def nameI : List UInt8 → Int → Int
  | [], a => a
  | b :: l, a => nameI l (IntKind.u64.wrap (IntKind.u64.wrap (a * 31) + (b.toNat : Int)))
theorem nameI_snoc (l : List UInt8) (b : UInt8) (a : Int) : nameI (l ++ [b]) a = IntKind.u64.wrap (IntKind.u64.wrap (nameI l a * 31) + (b.toNat : Int)) := by
  induction l generalizing a with
  | nil => rfl
  | cons c l ih => exact ih _

theorem name_step (n : ByteArray) (k : Nat) (h : k < n.size) (a : Int) : nameI ((strB n).take (k + 1)) a = IntKind.u64.wrap (IntKind.u64.wrap (nameI ((strB n).take k) a * 31) + IntKind.u64.wrap (n[k].toNat : Int)) := by
  have hk : k < (strB n).length := by rw [strB_len]; exact h
  rw [List.take_succ_eq_append_getElem hk, nameI_snoc]
  have he : (strB n)[k] = n[k] := by simp [strB]; rfl
  rw [he]
  congr 2
  rw [IntKind.wrap_u64]
  have := n[k].toNat_lt
  omega

/-- Secret. -/
def secI (n : ByteArray) (v : Int) (alt : Bool) : Int :=
  let b := IntKind.u64.wrap (IntKind.u64.wrap ((nameI (strB n) (IntKind.u64.wrap ((n.size : Int) * 1000003))).tmod 1000000007 + IntKind.u64.wrap (IntKind.u64.wrap v * 7919)) + 11)
  if alt then IntKind.u64.wrap (b + 500) else b
def secN (n : ByteArray) (v : Int) (alt : Bool) : Nat := (secI n v alt).toNat
theorem secI_ge (n : ByteArray) (v : Int) (alt : Bool) : 0 ≤ secI n v alt := by
  unfold secI
  simp only [IntKind.wrap_u64]
  split <;> omega
theorem secI_lt (n : ByteArray) (v : Int) (alt : Bool) : secI n v alt < 18446744073709551616 := by
  unfold secI
  simp only [IntKind.wrap_u64]
  split <;> omega
theorem secN_eq (n : ByteArray) (v : Int) (alt : Bool) : ((secN n v alt : Nat) : Int) = secI n v alt := Int.toNat_of_nonneg (secI_ge n v alt)
theorem secN_lt (n : ByteArray) (v : Int) (alt : Bool) : secN n v alt < 18446744073709551616 := by
  have := secN_eq n v alt
  have := secI_lt n v alt
  omega

set_option maxRecDepth 100000 in
set_option maxHeartbeats 1000000 in
theorem secret (n : ByteArray) (v : Int) (alt : Bool) (w : World) (hn : n.size ≤ 9223372036854775807) : Calls Try.prog 19 #[.string n, .int .i64 v, .bool alt] w fun e w' => e = .returned (.int .u64 (secN n v alt : Nat)) ∧ w = w' := by
  rw [secN_eq]
  unfold secI
  obtain ⟨A0, hA0⟩ : ∃ A0, A0 = IntKind.u64.wrap ((n.size : Int) * 1000003) := ⟨_, rfl⟩
  have hA1 := hA0.symm
  rw [hA1]
  clear hA0
  obtain ⟨X, hX⟩ : ∃ X, X = nameI (strB n) A0 := ⟨_, rfl⟩
  rw [← hX]
  have HX := hid hX
  clear hX
  go_enter Try.func19, Try.ntmps19
  go_wp2
  go_loop [7, 8] (fun x i => ∃ k : Nat, k ≤ n.size ∧ i = .int .i64 k ∧ x = .int .u64 (nameI ((strB n).take k) A0)) (fun _ i => n.size - (intOf i).toNat)
  case atStart => exact ⟨0, Nat.zero_le _, rfl, rfl⟩
  case round =>
    obtain ⟨k, hk, rfl, rfl⟩ := hrel
    by_cases hlt : k < n.size
    · have hst := name_step n k hlt A0
      go_wp2
      go_round
      case rel => exact ⟨k + 1, by omega, by go_num, by rw [hst]⟩
      case measure => simp [intOf]; omega
    · obtain rfl : k = n.size := by omega
      have hall : (strB n).take n.size = strB n := List.take_of_length_le (by rw [strB_len]; exact Nat.le_refl _)
      rw [hall, ← HX.out]
      clear hall
      cases alt with
      | true =>
        go_wp2
        go_ret
        exact ⟨rfl, rfl⟩
      | false =>
        go_wp2
        go_ret
        exact ⟨rfl, rfl⟩

/-- Key. -/
def keyN (n : ByteArray) (v : Int) (alt : Bool) : Nat := pubN (secN n v alt)
theorem keyN_lt (n : ByteArray) (v : Int) (alt : Bool) : keyN n v alt < 18446744073709551616 := Nat.lt_trans (pubN_lt _) (by decide)
set_option maxHeartbeats 1000000 in
theorem key (n : ByteArray) (v : Int) (alt : Bool) (w : World) (hn : n.size ≤ 9223372036854775807) : Calls Try.prog 16 #[.string n, .int .i64 v, .bool alt] w fun e w' => e = .returned (.int .u64 (keyN n v alt : Nat)) ∧ Kept None w w' := by
  have h1 := fun w => secret n v alt w hn
  have h2 := fun w => Ref.pub (secN n v alt) w
  rw [show pubN (secN n v alt) = keyN n v alt from rfl] at h2
  obtain ⟨S, hS⟩ : ∃ S, S = secN n v alt := ⟨_, rfl⟩
  obtain ⟨K, hK⟩ : ∃ K, K = keyN n v alt := ⟨_, rfl⟩
  rw [← hS] at h1 h2
  rw [← hK] at h2 ⊢
  have H := hid (And.intro h1 h2)
  clear h1 h2 hS hK
  go_enter Try.func16, Try.ntmps16
  go_wp2_with fail
  refine (H.out.1 _).mono ?_
  rintro e w1 ⟨rfl, rfl⟩
  go_wp2_with fail
  refine (H.out.2 _).mono ?_
  rintro e w2 ⟨rfl, k2⟩
  go_wp2
  go_ret
  exact ⟨rfl, k2⟩

/-- Who signs. -/
def byN (n : ByteArray) (v : Int) (b5 b6 : Bool) : Nat := if b5 then (secN n (max (v - 1) 1) (b6 && v == 1) + 3) % 18446744073709551616 else secN n (max (v - 1) 1) (b6 && v == 1)
/-- Update. -/
def reqB (n : ByteArray) (v : Int) (cl : Nat) (b5 b6 b7 : Bool) : Req :=
  let k := keyN n v b6
  ⟨n, v, k, if b7 then 5 else (cl % 2 : Nat), sigR (byN n v b5 b6) (msgB n v k), sigS (byN n v b5 b6) (msgB n v k)⟩
def req (n : ByteArray) (v : Int) (cl how : Nat) : Req := reqB n v cl (how % 8 == 5) (how % 8 == 6) (how % 8 == 7)
end Seat
end Go.Proofs.Ytdobmebhjmgkmaa

/- postmarkseat.Update, where it is right. -/
namespace Go.Proofs.Ytdobmebhjmgkmaa
open Go.RowKit Go.Pm
namespace Seat

set_option maxRecDepth 100000 in
set_option maxHeartbeats 4000000 in
theorem upd_o1 (n : ByteArray) (cl how : Nat) (w : World) (hn : n.size ≤ 32) (e5 : ((how : Int) % 8 == 5) = false) (e6 : ((how : Int) % 8 == 6) = false) (e7 : ((how : Int) % 8 == 7) = false) :
    Calls Try.prog 12 #[.string n, .int .i64 1, .int .u8 cl, .int .u8 how] w fun e w' => e = .returned (reqB n 1 cl false false false).V ∧ Kept None w w' := by
  have j0 := fun w => key n 1 false w (by omega)
  have j1 := fun w => secret n 1 false w (by omega)
  have hby : byN n 1 false false = secN n 1 false := by
    have e1 : max ((1 : Int) - 1) 1 = 1 := by decide
    have e2 : ((1 : Int) == 1) = true := by decide
    unfold byN
    rw [e1, e2]
    rfl
  have hkl := keyN_lt n 1 false
  have j2 := fun w => RUp.sign (byN n 1 false false) n 1 ((cl % 2 : Nat) : Int) (keyN n 1 false) 0 0 w (by omega) hkl
  have hq : (reqB n 1 cl false false false).V = updV n 1 (keyN n 1 false) ((cl % 2 : Nat) : Int) (sigR (byN n 1 false false) (msgB n 1 (keyN n 1 false))) (sigS (byN n 1 false false) (msgB n 1 (keyN n 1 false))) := rfl
  rw [hq]
  have hC : (cl : Int) % 2 = ((cl % 2 : Nat) : Int) := by omega
  have hsl := secN_lt n 1 false
  rw [hby] at j2 ⊢
  clear hq hby
  obtain ⟨C, hCC⟩ : ∃ C : Int, C = ((cl % 2 : Nat) : Int) := ⟨_, rfl⟩
  rw [← hCC] at hC j2 ⊢
  obtain ⟨K, hK⟩ : ∃ K, K = keyN n 1 false := ⟨_, rfl⟩
  rw [← hK] at j0 j2 ⊢
  obtain ⟨B, hB⟩ : ∃ B, B = secN n 1 false := ⟨_, rfl⟩
  rw [← hB] at j1 j2 hsl ⊢
  
  
  
  obtain ⟨R, hR⟩ : ∃ R, R = sigR B (msgB n 1 K) := ⟨_, rfl⟩
  obtain ⟨S, hS⟩ : ∃ S, S = sigS B (msgB n 1 K) := ⟨_, rfl⟩
  rw [← hR, ← hS] at j2 ⊢
  have J := hid (And.intro j0 (And.intro j1 j2))
  clear j0 j1 j2 hCC hK hB hR hS hkl hsl hn
  have k0 : Kept None w ((w.alloc (.cells #[.string ⟨#[]⟩, .int .i64 0, .int .u64 0, .int .i64 0, .int .u64 0, .int .u64 0] 27)).alloc (.cells #[.string n, .int .i64 1, .int .u64 0, .int .i64 C, .int .u64 0, .int .u64 0] 27)) := ((Kept.refl _ _).alloc _).alloc _
  have v0 : Blk ((w.alloc (.cells #[.string ⟨#[]⟩, .int .i64 0, .int .u64 0, .int .i64 0, .int .u64 0, .int .u64 0] 27)).alloc (.cells #[.string n, .int .i64 1, .int .u64 0, .int .i64 C, .int .u64 0, .int .u64 0] 27)) w.heap.size #[.string ⟨#[]⟩, .int .i64 0, .int .u64 0, .int .i64 0, .int .u64 0, .int .u64 0] 27 := (Blk.new w _ _).alloc _
  have u0 := Blk.new2 w (.cells #[.string ⟨#[]⟩, .int .i64 0, .int .u64 0, .int .i64 0, .int .u64 0, .int .u64 0] 27) #[.string n, .int .i64 1, .int .u64 0, .int .i64 C, .int .u64 0, .int .u64 0] 27
  go_enter Try.func12, Try.ntmps12
  go_wp2_with fail
  refine (J.out.1 _).mono ?_
  rintro e w1 ⟨rfl, k1⟩
  have k01 := k0.trans k1
  have v1 := v0.kept k1 (fun h => h)
  have u1 := u0.kept k1 (fun h => h)
  have d2 : w1.cell? ⟨w.heap.size + 1, 2, none⟩ = some (.int .u64 0) := u1.cell 2
  have f2 := u1.free 2
  have u1' : Blk (w1.setCell ⟨w.heap.size + 1, 2, none⟩ (.int .u64 (K : Int))) (w.heap.size + 1) #[.string n, .int .i64 1, .int .u64 (K : Int), .int .i64 C, .int .u64 0, .int .u64 0] 27 := u1.set 2 _
  have v1' := v1.setOther (a := ⟨w.heap.size + 1, 2, none⟩) (by show w.heap.size ≠ w.heap.size + 1; omega) (.int .u64 (K : Int))
  have k01' := k01.setNew (b := w.heap.size + 1) (by omega) 2 (.int .u64 (K : Int))
  clear k0 v0 u0 k1 k01 v1 u1
  go_wp2_with fail
  refine (J.out.2.1 _).mono ?_
  rintro e w2 ⟨rfl, rfl⟩
  go_wp2_with (first | (refine wpList_load_blk rfl _ _ rfl rfl u1' Up.aUpd ?_) | fail)
  refine (J.out.2.2 _).mono ?_
  rintro e w3 ⟨rfl, k3⟩
  have k03 := k01'.trans k3
  have v3 := v1'.kept k3 (fun h => h)
  have u3 := u1'.kept k3 (fun h => h)
  clear k01' v1' u1' k3 d2 f2 J
  go_wp2_with (first | (refine wpList_store_blk rfl _ _ _ rfl rfl rfl u3 Up.aUpd rfl (Up.upd_all _ _ _ _ _ _) ?k4) | fail)
  case k4 =>
    intro w4 u4 k4
    have k04 := k03.then k4 (fun i hi (h : i = w.heap.size + 1) => by omega)
    have v4 := v3.kept k4 (fun (h : w.heap.size = w.heap.size + 1) => by omega)
    clear k03 v3 u3 k4
    go_wp2_with (first | (refine wpList_load_blk rfl _ _ rfl rfl u4 Up.aUpd ?_) | (refine wpList_store_blk rfl _ _ _ rfl rfl rfl v4 Up.aUpd rfl (Up.upd_all _ _ _ _ _ _) ?_; intro w7 hR7 k7) | fail)
    exact bodyPost_ret (v := updV n 1 K C R S) (results_blk rfl _ rfl hR7 Up.aUpd) rfl ⟨rfl, k04.then k7 (fun i hi (h : i = w.heap.size) => by omega)⟩

set_option maxRecDepth 100000 in
set_option maxHeartbeats 4000000 in
theorem upd_o0 (n : ByteArray) (v : Int) (cl how : Nat) (w : World) (hn : n.size ≤ 32) (h1 : 2 ≤ v) (h2 : v ≤ 1000) (e5 : ((how : Int) % 8 == 5) = false) (e6 : ((how : Int) % 8 == 6) = false) (e7 : ((how : Int) % 8 == 7) = false) :
    Calls Try.prog 12 #[.string n, .int .i64 v, .int .u8 cl, .int .u8 how] w fun e w' => e = .returned (reqB n v cl false false false).V ∧ Kept None w w' := by
  have j0 := fun w => key n v false w (by omega)
  have j1 := fun w => secret n (v - 1) false w (by omega)
  have hby : byN n v false false = secN n (v - 1) false := by
    unfold byN
    have e1 : max (v - 1) 1 = v - 1 := by omega
    have e2 : (v == 1) = false := by rw [beq_eq_false_iff_ne]; omega
    rw [e1]; rfl
  have hkl := keyN_lt n v false
  have j2 := fun w => RUp.sign (byN n v false false) n v ((cl % 2 : Nat) : Int) (keyN n v false) 0 0 w (by omega) hkl
  have hq : (reqB n v cl false false false).V = updV n v (keyN n v false) ((cl % 2 : Nat) : Int) (sigR (byN n v false false) (msgB n v (keyN n v false))) (sigS (byN n v false false) (msgB n v (keyN n v false))) := rfl
  rw [hq]
  have hC : (cl : Int) % 2 = ((cl % 2 : Nat) : Int) := by omega
  have hsl := secN_lt n (v - 1) false
  rw [hby] at j2 ⊢
  clear hq hby
  obtain ⟨C, hCC⟩ : ∃ C : Int, C = ((cl % 2 : Nat) : Int) := ⟨_, rfl⟩
  rw [← hCC] at hC j2 ⊢
  obtain ⟨K, hK⟩ : ∃ K, K = keyN n v false := ⟨_, rfl⟩
  rw [← hK] at j0 j2 ⊢
  obtain ⟨B, hB⟩ : ∃ B, B = secN n (v - 1) false := ⟨_, rfl⟩
  rw [← hB] at j1 j2 hsl ⊢
  
  
  
  obtain ⟨R, hR⟩ : ∃ R, R = sigR B (msgB n v K) := ⟨_, rfl⟩
  obtain ⟨S, hS⟩ : ∃ S, S = sigS B (msgB n v K) := ⟨_, rfl⟩
  rw [← hR, ← hS] at j2 ⊢
  have J := hid (And.intro j0 (And.intro j1 j2))
  clear j0 j1 j2 hCC hK hB hR hS hkl hsl hn
  have k0 : Kept None w ((w.alloc (.cells #[.string ⟨#[]⟩, .int .i64 0, .int .u64 0, .int .i64 0, .int .u64 0, .int .u64 0] 27)).alloc (.cells #[.string n, .int .i64 v, .int .u64 0, .int .i64 C, .int .u64 0, .int .u64 0] 27)) := ((Kept.refl _ _).alloc _).alloc _
  have v0 : Blk ((w.alloc (.cells #[.string ⟨#[]⟩, .int .i64 0, .int .u64 0, .int .i64 0, .int .u64 0, .int .u64 0] 27)).alloc (.cells #[.string n, .int .i64 v, .int .u64 0, .int .i64 C, .int .u64 0, .int .u64 0] 27)) w.heap.size #[.string ⟨#[]⟩, .int .i64 0, .int .u64 0, .int .i64 0, .int .u64 0, .int .u64 0] 27 := (Blk.new w _ _).alloc _
  have u0 := Blk.new2 w (.cells #[.string ⟨#[]⟩, .int .i64 0, .int .u64 0, .int .i64 0, .int .u64 0, .int .u64 0] 27) #[.string n, .int .i64 v, .int .u64 0, .int .i64 C, .int .u64 0, .int .u64 0] 27
  go_enter Try.func12, Try.ntmps12
  go_wp2_with fail
  refine (J.out.1 _).mono ?_
  rintro e w1 ⟨rfl, k1⟩
  have k01 := k0.trans k1
  have v1 := v0.kept k1 (fun h => h)
  have u1 := u0.kept k1 (fun h => h)
  have d2 : w1.cell? ⟨w.heap.size + 1, 2, none⟩ = some (.int .u64 0) := u1.cell 2
  have f2 := u1.free 2
  have u1' : Blk (w1.setCell ⟨w.heap.size + 1, 2, none⟩ (.int .u64 (K : Int))) (w.heap.size + 1) #[.string n, .int .i64 v, .int .u64 (K : Int), .int .i64 C, .int .u64 0, .int .u64 0] 27 := u1.set 2 _
  have v1' := v1.setOther (a := ⟨w.heap.size + 1, 2, none⟩) (by show w.heap.size ≠ w.heap.size + 1; omega) (.int .u64 (K : Int))
  have k01' := k01.setNew (b := w.heap.size + 1) (by omega) 2 (.int .u64 (K : Int))
  clear k0 v0 u0 k1 k01 v1 u1
  go_wp2_with fail
  refine (J.out.2.1 _).mono ?_
  rintro e w2 ⟨rfl, rfl⟩
  go_wp2_with (first | (refine wpList_load_blk rfl _ _ rfl rfl u1' Up.aUpd ?_) | fail)
  refine (J.out.2.2 _).mono ?_
  rintro e w3 ⟨rfl, k3⟩
  have k03 := k01'.trans k3
  have v3 := v1'.kept k3 (fun h => h)
  have u3 := u1'.kept k3 (fun h => h)
  clear k01' v1' u1' k3 d2 f2 J
  go_wp2_with (first | (refine wpList_store_blk rfl _ _ _ rfl rfl rfl u3 Up.aUpd rfl (Up.upd_all _ _ _ _ _ _) ?k4) | fail)
  case k4 =>
    intro w4 u4 k4
    have k04 := k03.then k4 (fun i hi (h : i = w.heap.size + 1) => by omega)
    have v4 := v3.kept k4 (fun (h : w.heap.size = w.heap.size + 1) => by omega)
    clear k03 v3 u3 k4
    go_wp2_with (first | (refine wpList_load_blk rfl _ _ rfl rfl u4 Up.aUpd ?_) | (refine wpList_store_blk rfl _ _ _ rfl rfl rfl v4 Up.aUpd rfl (Up.upd_all _ _ _ _ _ _) ?_; intro w7 hR7 k7) | fail)
    exact bodyPost_ret (v := updV n v K C R S) (results_blk rfl _ rfl hR7 Up.aUpd) rfl ⟨rfl, k04.then k7 (fun i hi (h : i = w.heap.size) => by omega)⟩
end Seat
end Go.Proofs.Ytdobmebhjmgkmaa

/- postmarkseat.Update, where another one signs. -/
namespace Go.Proofs.Ytdobmebhjmgkmaa
open Go.RowKit Go.Pm
namespace Seat

set_option maxRecDepth 100000 in
set_option maxHeartbeats 4000000 in
theorem upd_a1 (n : ByteArray) (cl how : Nat) (w : World) (hn : n.size ≤ 32) (e5 : ((how : Int) % 8 == 5) = true) (e6 : ((how : Int) % 8 == 6) = false) (e7 : ((how : Int) % 8 == 7) = false) :
    Calls Try.prog 12 #[.string n, .int .i64 1, .int .u8 cl, .int .u8 how] w fun e w' => e = .returned (reqB n 1 cl true false false).V ∧ Kept None w w' := by
  have j0 := fun w => key n 1 false w (by omega)
  have j1 := fun w => secret n 1 false w (by omega)
  have hby : byN n 1 true false = (secN n 1 false + 3) % 18446744073709551616 := by
    have e1 : max ((1 : Int) - 1) 1 = 1 := by decide
    have e2 : ((1 : Int) == 1) = true := by decide
    unfold byN
    rw [e1, e2]
    rfl
  have hkl := keyN_lt n 1 false
  have j2 := fun w => RUp.sign (byN n 1 true false) n 1 ((cl % 2 : Nat) : Int) (keyN n 1 false) 0 0 w (by omega) hkl
  have hq : (reqB n 1 cl true false false).V = updV n 1 (keyN n 1 false) ((cl % 2 : Nat) : Int) (sigR (byN n 1 true false) (msgB n 1 (keyN n 1 false))) (sigS (byN n 1 true false) (msgB n 1 (keyN n 1 false))) := rfl
  rw [hq]
  have hC : (cl : Int) % 2 = ((cl % 2 : Nat) : Int) := by omega
  have hsl := secN_lt n 1 false
  rw [hby] at j2 ⊢
  clear hq hby
  obtain ⟨C, hCC⟩ : ∃ C : Int, C = ((cl % 2 : Nat) : Int) := ⟨_, rfl⟩
  rw [← hCC] at hC j2 ⊢
  obtain ⟨K, hK⟩ : ∃ K, K = keyN n 1 false := ⟨_, rfl⟩
  rw [← hK] at j0 j2 ⊢
  obtain ⟨B, hB⟩ : ∃ B, B = secN n 1 false := ⟨_, rfl⟩
  rw [← hB] at j1 j2 hsl ⊢
  have hb3 : IntKind.u64.wrap ((B : Int) + 3) = (((B + 3) % 18446744073709551616 : Nat) : Int) := by rw [IntKind.wrap_u64]; omega
  obtain ⟨B3, hB3⟩ : ∃ B3, B3 = (B + 3) % 18446744073709551616 := ⟨_, rfl⟩
  rw [← hB3] at hb3 j2 ⊢
  obtain ⟨R, hR⟩ : ∃ R, R = sigR B3 (msgB n 1 K) := ⟨_, rfl⟩
  obtain ⟨S, hS⟩ : ∃ S, S = sigS B3 (msgB n 1 K) := ⟨_, rfl⟩
  rw [← hR, ← hS] at j2 ⊢
  have J := hid (And.intro j0 (And.intro j1 j2))
  clear j0 j1 j2 hCC hK hB hR hS hkl hsl hn hB3
  have k0 : Kept None w ((w.alloc (.cells #[.string ⟨#[]⟩, .int .i64 0, .int .u64 0, .int .i64 0, .int .u64 0, .int .u64 0] 27)).alloc (.cells #[.string n, .int .i64 1, .int .u64 0, .int .i64 C, .int .u64 0, .int .u64 0] 27)) := ((Kept.refl _ _).alloc _).alloc _
  have v0 : Blk ((w.alloc (.cells #[.string ⟨#[]⟩, .int .i64 0, .int .u64 0, .int .i64 0, .int .u64 0, .int .u64 0] 27)).alloc (.cells #[.string n, .int .i64 1, .int .u64 0, .int .i64 C, .int .u64 0, .int .u64 0] 27)) w.heap.size #[.string ⟨#[]⟩, .int .i64 0, .int .u64 0, .int .i64 0, .int .u64 0, .int .u64 0] 27 := (Blk.new w _ _).alloc _
  have u0 := Blk.new2 w (.cells #[.string ⟨#[]⟩, .int .i64 0, .int .u64 0, .int .i64 0, .int .u64 0, .int .u64 0] 27) #[.string n, .int .i64 1, .int .u64 0, .int .i64 C, .int .u64 0, .int .u64 0] 27
  go_enter Try.func12, Try.ntmps12
  go_wp2_with fail
  refine (J.out.1 _).mono ?_
  rintro e w1 ⟨rfl, k1⟩
  have k01 := k0.trans k1
  have v1 := v0.kept k1 (fun h => h)
  have u1 := u0.kept k1 (fun h => h)
  have d2 : w1.cell? ⟨w.heap.size + 1, 2, none⟩ = some (.int .u64 0) := u1.cell 2
  have f2 := u1.free 2
  have u1' : Blk (w1.setCell ⟨w.heap.size + 1, 2, none⟩ (.int .u64 (K : Int))) (w.heap.size + 1) #[.string n, .int .i64 1, .int .u64 (K : Int), .int .i64 C, .int .u64 0, .int .u64 0] 27 := u1.set 2 _
  have v1' := v1.setOther (a := ⟨w.heap.size + 1, 2, none⟩) (by show w.heap.size ≠ w.heap.size + 1; omega) (.int .u64 (K : Int))
  have k01' := k01.setNew (b := w.heap.size + 1) (by omega) 2 (.int .u64 (K : Int))
  clear k0 v0 u0 k1 k01 v1 u1
  go_wp2_with fail
  refine (J.out.2.1 _).mono ?_
  rintro e w2 ⟨rfl, rfl⟩
  go_wp2_with (first | (refine wpList_load_blk rfl _ _ rfl rfl u1' Up.aUpd ?_) | fail)
  refine (J.out.2.2 _).mono ?_
  rintro e w3 ⟨rfl, k3⟩
  have k03 := k01'.trans k3
  have v3 := v1'.kept k3 (fun h => h)
  have u3 := u1'.kept k3 (fun h => h)
  clear k01' v1' u1' k3 d2 f2 J
  go_wp2_with (first | (refine wpList_store_blk rfl _ _ _ rfl rfl rfl u3 Up.aUpd rfl (Up.upd_all _ _ _ _ _ _) ?k4) | fail)
  case k4 =>
    intro w4 u4 k4
    have k04 := k03.then k4 (fun i hi (h : i = w.heap.size + 1) => by omega)
    have v4 := v3.kept k4 (fun (h : w.heap.size = w.heap.size + 1) => by omega)
    clear k03 v3 u3 k4
    go_wp2_with (first | (refine wpList_load_blk rfl _ _ rfl rfl u4 Up.aUpd ?_) | (refine wpList_store_blk rfl _ _ _ rfl rfl rfl v4 Up.aUpd rfl (Up.upd_all _ _ _ _ _ _) ?_; intro w7 hR7 k7) | fail)
    exact bodyPost_ret (v := updV n 1 K C R S) (results_blk rfl _ rfl hR7 Up.aUpd) rfl ⟨rfl, k04.then k7 (fun i hi (h : i = w.heap.size) => by omega)⟩

set_option maxRecDepth 100000 in
set_option maxHeartbeats 4000000 in
theorem upd_a0 (n : ByteArray) (v : Int) (cl how : Nat) (w : World) (hn : n.size ≤ 32) (h1 : 2 ≤ v) (h2 : v ≤ 1000) (e5 : ((how : Int) % 8 == 5) = true) (e6 : ((how : Int) % 8 == 6) = false) (e7 : ((how : Int) % 8 == 7) = false) :
    Calls Try.prog 12 #[.string n, .int .i64 v, .int .u8 cl, .int .u8 how] w fun e w' => e = .returned (reqB n v cl true false false).V ∧ Kept None w w' := by
  have j0 := fun w => key n v false w (by omega)
  have j1 := fun w => secret n (v - 1) false w (by omega)
  have hby : byN n v true false = (secN n (v - 1) false + 3) % 18446744073709551616 := by
    unfold byN
    have e1 : max (v - 1) 1 = v - 1 := by omega
    have e2 : (v == 1) = false := by rw [beq_eq_false_iff_ne]; omega
    rw [e1]; rfl
  have hkl := keyN_lt n v false
  have j2 := fun w => RUp.sign (byN n v true false) n v ((cl % 2 : Nat) : Int) (keyN n v false) 0 0 w (by omega) hkl
  have hq : (reqB n v cl true false false).V = updV n v (keyN n v false) ((cl % 2 : Nat) : Int) (sigR (byN n v true false) (msgB n v (keyN n v false))) (sigS (byN n v true false) (msgB n v (keyN n v false))) := rfl
  rw [hq]
  have hC : (cl : Int) % 2 = ((cl % 2 : Nat) : Int) := by omega
  have hsl := secN_lt n (v - 1) false
  rw [hby] at j2 ⊢
  clear hq hby
  obtain ⟨C, hCC⟩ : ∃ C : Int, C = ((cl % 2 : Nat) : Int) := ⟨_, rfl⟩
  rw [← hCC] at hC j2 ⊢
  obtain ⟨K, hK⟩ : ∃ K, K = keyN n v false := ⟨_, rfl⟩
  rw [← hK] at j0 j2 ⊢
  obtain ⟨B, hB⟩ : ∃ B, B = secN n (v - 1) false := ⟨_, rfl⟩
  rw [← hB] at j1 j2 hsl ⊢
  have hb3 : IntKind.u64.wrap ((B : Int) + 3) = (((B + 3) % 18446744073709551616 : Nat) : Int) := by rw [IntKind.wrap_u64]; omega
  obtain ⟨B3, hB3⟩ : ∃ B3, B3 = (B + 3) % 18446744073709551616 := ⟨_, rfl⟩
  rw [← hB3] at hb3 j2 ⊢
  obtain ⟨R, hR⟩ : ∃ R, R = sigR B3 (msgB n v K) := ⟨_, rfl⟩
  obtain ⟨S, hS⟩ : ∃ S, S = sigS B3 (msgB n v K) := ⟨_, rfl⟩
  rw [← hR, ← hS] at j2 ⊢
  have J := hid (And.intro j0 (And.intro j1 j2))
  clear j0 j1 j2 hCC hK hB hR hS hkl hsl hn hB3
  have k0 : Kept None w ((w.alloc (.cells #[.string ⟨#[]⟩, .int .i64 0, .int .u64 0, .int .i64 0, .int .u64 0, .int .u64 0] 27)).alloc (.cells #[.string n, .int .i64 v, .int .u64 0, .int .i64 C, .int .u64 0, .int .u64 0] 27)) := ((Kept.refl _ _).alloc _).alloc _
  have v0 : Blk ((w.alloc (.cells #[.string ⟨#[]⟩, .int .i64 0, .int .u64 0, .int .i64 0, .int .u64 0, .int .u64 0] 27)).alloc (.cells #[.string n, .int .i64 v, .int .u64 0, .int .i64 C, .int .u64 0, .int .u64 0] 27)) w.heap.size #[.string ⟨#[]⟩, .int .i64 0, .int .u64 0, .int .i64 0, .int .u64 0, .int .u64 0] 27 := (Blk.new w _ _).alloc _
  have u0 := Blk.new2 w (.cells #[.string ⟨#[]⟩, .int .i64 0, .int .u64 0, .int .i64 0, .int .u64 0, .int .u64 0] 27) #[.string n, .int .i64 v, .int .u64 0, .int .i64 C, .int .u64 0, .int .u64 0] 27
  go_enter Try.func12, Try.ntmps12
  go_wp2_with fail
  refine (J.out.1 _).mono ?_
  rintro e w1 ⟨rfl, k1⟩
  have k01 := k0.trans k1
  have v1 := v0.kept k1 (fun h => h)
  have u1 := u0.kept k1 (fun h => h)
  have d2 : w1.cell? ⟨w.heap.size + 1, 2, none⟩ = some (.int .u64 0) := u1.cell 2
  have f2 := u1.free 2
  have u1' : Blk (w1.setCell ⟨w.heap.size + 1, 2, none⟩ (.int .u64 (K : Int))) (w.heap.size + 1) #[.string n, .int .i64 v, .int .u64 (K : Int), .int .i64 C, .int .u64 0, .int .u64 0] 27 := u1.set 2 _
  have v1' := v1.setOther (a := ⟨w.heap.size + 1, 2, none⟩) (by show w.heap.size ≠ w.heap.size + 1; omega) (.int .u64 (K : Int))
  have k01' := k01.setNew (b := w.heap.size + 1) (by omega) 2 (.int .u64 (K : Int))
  clear k0 v0 u0 k1 k01 v1 u1
  go_wp2_with fail
  refine (J.out.2.1 _).mono ?_
  rintro e w2 ⟨rfl, rfl⟩
  go_wp2_with (first | (refine wpList_load_blk rfl _ _ rfl rfl u1' Up.aUpd ?_) | fail)
  refine (J.out.2.2 _).mono ?_
  rintro e w3 ⟨rfl, k3⟩
  have k03 := k01'.trans k3
  have v3 := v1'.kept k3 (fun h => h)
  have u3 := u1'.kept k3 (fun h => h)
  clear k01' v1' u1' k3 d2 f2 J
  go_wp2_with (first | (refine wpList_store_blk rfl _ _ _ rfl rfl rfl u3 Up.aUpd rfl (Up.upd_all _ _ _ _ _ _) ?k4) | fail)
  case k4 =>
    intro w4 u4 k4
    have k04 := k03.then k4 (fun i hi (h : i = w.heap.size + 1) => by omega)
    have v4 := v3.kept k4 (fun (h : w.heap.size = w.heap.size + 1) => by omega)
    clear k03 v3 u3 k4
    go_wp2_with (first | (refine wpList_load_blk rfl _ _ rfl rfl u4 Up.aUpd ?_) | (refine wpList_store_blk rfl _ _ _ rfl rfl rfl v4 Up.aUpd rfl (Up.upd_all _ _ _ _ _ _) ?_; intro w7 hR7 k7) | fail)
    exact bodyPost_ret (v := updV n v K C R S) (results_blk rfl _ rfl hR7 Up.aUpd) rfl ⟨rfl, k04.then k7 (fun i hi (h : i = w.heap.size) => by omega)⟩
end Seat
end Go.Proofs.Ytdobmebhjmgkmaa

/- postmarkseat.Update, where it has another key. -/
namespace Go.Proofs.Ytdobmebhjmgkmaa
open Go.RowKit Go.Pm
namespace Seat

set_option maxRecDepth 100000 in
set_option maxHeartbeats 4000000 in
theorem upd_b1 (n : ByteArray) (cl how : Nat) (w : World) (hn : n.size ≤ 32) (e5 : ((how : Int) % 8 == 5) = false) (e6 : ((how : Int) % 8 == 6) = true) (e7 : ((how : Int) % 8 == 7) = false) :
    Calls Try.prog 12 #[.string n, .int .i64 1, .int .u8 cl, .int .u8 how] w fun e w' => e = .returned (reqB n 1 cl false true false).V ∧ Kept None w w' := by
  have j0 := fun w => key n 1 true w (by omega)
  have j1 := fun w => secret n 1 true w (by omega)
  have hby : byN n 1 false true = secN n 1 true := by
    have e1 : max ((1 : Int) - 1) 1 = 1 := by decide
    have e2 : ((1 : Int) == 1) = true := by decide
    unfold byN
    rw [e1, e2]
    rfl
  have hkl := keyN_lt n 1 true
  have j2 := fun w => RUp.sign (byN n 1 false true) n 1 ((cl % 2 : Nat) : Int) (keyN n 1 true) 0 0 w (by omega) hkl
  have hq : (reqB n 1 cl false true false).V = updV n 1 (keyN n 1 true) ((cl % 2 : Nat) : Int) (sigR (byN n 1 false true) (msgB n 1 (keyN n 1 true))) (sigS (byN n 1 false true) (msgB n 1 (keyN n 1 true))) := rfl
  rw [hq]
  have hC : (cl : Int) % 2 = ((cl % 2 : Nat) : Int) := by omega
  have hsl := secN_lt n 1 true
  rw [hby] at j2 ⊢
  clear hq hby
  obtain ⟨C, hCC⟩ : ∃ C : Int, C = ((cl % 2 : Nat) : Int) := ⟨_, rfl⟩
  rw [← hCC] at hC j2 ⊢
  obtain ⟨K, hK⟩ : ∃ K, K = keyN n 1 true := ⟨_, rfl⟩
  rw [← hK] at j0 j2 ⊢
  obtain ⟨B, hB⟩ : ∃ B, B = secN n 1 true := ⟨_, rfl⟩
  rw [← hB] at j1 j2 hsl ⊢
  
  
  
  obtain ⟨R, hR⟩ : ∃ R, R = sigR B (msgB n 1 K) := ⟨_, rfl⟩
  obtain ⟨S, hS⟩ : ∃ S, S = sigS B (msgB n 1 K) := ⟨_, rfl⟩
  rw [← hR, ← hS] at j2 ⊢
  have J := hid (And.intro j0 (And.intro j1 j2))
  clear j0 j1 j2 hCC hK hB hR hS hkl hsl hn
  have k0 : Kept None w ((w.alloc (.cells #[.string ⟨#[]⟩, .int .i64 0, .int .u64 0, .int .i64 0, .int .u64 0, .int .u64 0] 27)).alloc (.cells #[.string n, .int .i64 1, .int .u64 0, .int .i64 C, .int .u64 0, .int .u64 0] 27)) := ((Kept.refl _ _).alloc _).alloc _
  have v0 : Blk ((w.alloc (.cells #[.string ⟨#[]⟩, .int .i64 0, .int .u64 0, .int .i64 0, .int .u64 0, .int .u64 0] 27)).alloc (.cells #[.string n, .int .i64 1, .int .u64 0, .int .i64 C, .int .u64 0, .int .u64 0] 27)) w.heap.size #[.string ⟨#[]⟩, .int .i64 0, .int .u64 0, .int .i64 0, .int .u64 0, .int .u64 0] 27 := (Blk.new w _ _).alloc _
  have u0 := Blk.new2 w (.cells #[.string ⟨#[]⟩, .int .i64 0, .int .u64 0, .int .i64 0, .int .u64 0, .int .u64 0] 27) #[.string n, .int .i64 1, .int .u64 0, .int .i64 C, .int .u64 0, .int .u64 0] 27
  go_enter Try.func12, Try.ntmps12
  go_wp2_with fail
  refine (J.out.1 _).mono ?_
  rintro e w1 ⟨rfl, k1⟩
  have k01 := k0.trans k1
  have v1 := v0.kept k1 (fun h => h)
  have u1 := u0.kept k1 (fun h => h)
  have d2 : w1.cell? ⟨w.heap.size + 1, 2, none⟩ = some (.int .u64 0) := u1.cell 2
  have f2 := u1.free 2
  have u1' : Blk (w1.setCell ⟨w.heap.size + 1, 2, none⟩ (.int .u64 (K : Int))) (w.heap.size + 1) #[.string n, .int .i64 1, .int .u64 (K : Int), .int .i64 C, .int .u64 0, .int .u64 0] 27 := u1.set 2 _
  have v1' := v1.setOther (a := ⟨w.heap.size + 1, 2, none⟩) (by show w.heap.size ≠ w.heap.size + 1; omega) (.int .u64 (K : Int))
  have k01' := k01.setNew (b := w.heap.size + 1) (by omega) 2 (.int .u64 (K : Int))
  clear k0 v0 u0 k1 k01 v1 u1
  go_wp2_with fail
  refine (J.out.2.1 _).mono ?_
  rintro e w2 ⟨rfl, rfl⟩
  go_wp2_with (first | (refine wpList_load_blk rfl _ _ rfl rfl u1' Up.aUpd ?_) | fail)
  refine (J.out.2.2 _).mono ?_
  rintro e w3 ⟨rfl, k3⟩
  have k03 := k01'.trans k3
  have v3 := v1'.kept k3 (fun h => h)
  have u3 := u1'.kept k3 (fun h => h)
  clear k01' v1' u1' k3 d2 f2 J
  go_wp2_with (first | (refine wpList_store_blk rfl _ _ _ rfl rfl rfl u3 Up.aUpd rfl (Up.upd_all _ _ _ _ _ _) ?k4) | fail)
  case k4 =>
    intro w4 u4 k4
    have k04 := k03.then k4 (fun i hi (h : i = w.heap.size + 1) => by omega)
    have v4 := v3.kept k4 (fun (h : w.heap.size = w.heap.size + 1) => by omega)
    clear k03 v3 u3 k4
    go_wp2_with (first | (refine wpList_load_blk rfl _ _ rfl rfl u4 Up.aUpd ?_) | (refine wpList_store_blk rfl _ _ _ rfl rfl rfl v4 Up.aUpd rfl (Up.upd_all _ _ _ _ _ _) ?_; intro w7 hR7 k7) | fail)
    exact bodyPost_ret (v := updV n 1 K C R S) (results_blk rfl _ rfl hR7 Up.aUpd) rfl ⟨rfl, k04.then k7 (fun i hi (h : i = w.heap.size) => by omega)⟩

set_option maxRecDepth 100000 in
set_option maxHeartbeats 4000000 in
theorem upd_b0 (n : ByteArray) (v : Int) (cl how : Nat) (w : World) (hn : n.size ≤ 32) (h1 : 2 ≤ v) (h2 : v ≤ 1000) (e5 : ((how : Int) % 8 == 5) = false) (e6 : ((how : Int) % 8 == 6) = true) (e7 : ((how : Int) % 8 == 7) = false) :
    Calls Try.prog 12 #[.string n, .int .i64 v, .int .u8 cl, .int .u8 how] w fun e w' => e = .returned (reqB n v cl false true false).V ∧ Kept None w w' := by
  have j0 := fun w => key n v true w (by omega)
  have ev : (v == 1) = false := by rw [beq_eq_false_iff_ne]; omega
  have j1 := fun w => secret n (v - 1) false w (by omega)
  have hby : byN n v false true = secN n (v - 1) false := by
    unfold byN
    have e1 : max (v - 1) 1 = v - 1 := by omega
    have e2 : (v == 1) = false := by rw [beq_eq_false_iff_ne]; omega
    rw [e1, e2]; rfl
  have hkl := keyN_lt n v true
  have j2 := fun w => RUp.sign (byN n v false true) n v ((cl % 2 : Nat) : Int) (keyN n v true) 0 0 w (by omega) hkl
  have hq : (reqB n v cl false true false).V = updV n v (keyN n v true) ((cl % 2 : Nat) : Int) (sigR (byN n v false true) (msgB n v (keyN n v true))) (sigS (byN n v false true) (msgB n v (keyN n v true))) := rfl
  rw [hq]
  have hC : (cl : Int) % 2 = ((cl % 2 : Nat) : Int) := by omega
  have hsl := secN_lt n (v - 1) false
  rw [hby] at j2 ⊢
  clear hq hby
  obtain ⟨C, hCC⟩ : ∃ C : Int, C = ((cl % 2 : Nat) : Int) := ⟨_, rfl⟩
  rw [← hCC] at hC j2 ⊢
  obtain ⟨K, hK⟩ : ∃ K, K = keyN n v true := ⟨_, rfl⟩
  rw [← hK] at j0 j2 ⊢
  obtain ⟨B, hB⟩ : ∃ B, B = secN n (v - 1) false := ⟨_, rfl⟩
  rw [← hB] at j1 j2 hsl ⊢
  
  
  
  obtain ⟨R, hR⟩ : ∃ R, R = sigR B (msgB n v K) := ⟨_, rfl⟩
  obtain ⟨S, hS⟩ : ∃ S, S = sigS B (msgB n v K) := ⟨_, rfl⟩
  rw [← hR, ← hS] at j2 ⊢
  have J := hid (And.intro j0 (And.intro j1 j2))
  clear j0 j1 j2 hCC hK hB hR hS hkl hsl hn
  have k0 : Kept None w ((w.alloc (.cells #[.string ⟨#[]⟩, .int .i64 0, .int .u64 0, .int .i64 0, .int .u64 0, .int .u64 0] 27)).alloc (.cells #[.string n, .int .i64 v, .int .u64 0, .int .i64 C, .int .u64 0, .int .u64 0] 27)) := ((Kept.refl _ _).alloc _).alloc _
  have v0 : Blk ((w.alloc (.cells #[.string ⟨#[]⟩, .int .i64 0, .int .u64 0, .int .i64 0, .int .u64 0, .int .u64 0] 27)).alloc (.cells #[.string n, .int .i64 v, .int .u64 0, .int .i64 C, .int .u64 0, .int .u64 0] 27)) w.heap.size #[.string ⟨#[]⟩, .int .i64 0, .int .u64 0, .int .i64 0, .int .u64 0, .int .u64 0] 27 := (Blk.new w _ _).alloc _
  have u0 := Blk.new2 w (.cells #[.string ⟨#[]⟩, .int .i64 0, .int .u64 0, .int .i64 0, .int .u64 0, .int .u64 0] 27) #[.string n, .int .i64 v, .int .u64 0, .int .i64 C, .int .u64 0, .int .u64 0] 27
  go_enter Try.func12, Try.ntmps12
  go_wp2_with fail
  refine (J.out.1 _).mono ?_
  rintro e w1 ⟨rfl, k1⟩
  have k01 := k0.trans k1
  have v1 := v0.kept k1 (fun h => h)
  have u1 := u0.kept k1 (fun h => h)
  have d2 : w1.cell? ⟨w.heap.size + 1, 2, none⟩ = some (.int .u64 0) := u1.cell 2
  have f2 := u1.free 2
  have u1' : Blk (w1.setCell ⟨w.heap.size + 1, 2, none⟩ (.int .u64 (K : Int))) (w.heap.size + 1) #[.string n, .int .i64 v, .int .u64 (K : Int), .int .i64 C, .int .u64 0, .int .u64 0] 27 := u1.set 2 _
  have v1' := v1.setOther (a := ⟨w.heap.size + 1, 2, none⟩) (by show w.heap.size ≠ w.heap.size + 1; omega) (.int .u64 (K : Int))
  have k01' := k01.setNew (b := w.heap.size + 1) (by omega) 2 (.int .u64 (K : Int))
  clear k0 v0 u0 k1 k01 v1 u1
  go_wp2_with fail
  refine (J.out.2.1 _).mono ?_
  rintro e w2 ⟨rfl, rfl⟩
  go_wp2_with (first | (refine wpList_load_blk rfl _ _ rfl rfl u1' Up.aUpd ?_) | fail)
  refine (J.out.2.2 _).mono ?_
  rintro e w3 ⟨rfl, k3⟩
  have k03 := k01'.trans k3
  have v3 := v1'.kept k3 (fun h => h)
  have u3 := u1'.kept k3 (fun h => h)
  clear k01' v1' u1' k3 d2 f2 J
  go_wp2_with (first | (refine wpList_store_blk rfl _ _ _ rfl rfl rfl u3 Up.aUpd rfl (Up.upd_all _ _ _ _ _ _) ?k4) | fail)
  case k4 =>
    intro w4 u4 k4
    have k04 := k03.then k4 (fun i hi (h : i = w.heap.size + 1) => by omega)
    have v4 := v3.kept k4 (fun (h : w.heap.size = w.heap.size + 1) => by omega)
    clear k03 v3 u3 k4
    go_wp2_with (first | (refine wpList_load_blk rfl _ _ rfl rfl u4 Up.aUpd ?_) | (refine wpList_store_blk rfl _ _ _ rfl rfl rfl v4 Up.aUpd rfl (Up.upd_all _ _ _ _ _ _) ?_; intro w7 hR7 k7) | fail)
    exact bodyPost_ret (v := updV n v K C R S) (results_blk rfl _ rfl hR7 Up.aUpd) rfl ⟨rfl, k04.then k7 (fun i hi (h : i = w.heap.size) => by omega)⟩
end Seat
end Go.Proofs.Ytdobmebhjmgkmaa

/- postmarkseat.Update, where it has no class. -/
namespace Go.Proofs.Ytdobmebhjmgkmaa
open Go.RowKit Go.Pm
namespace Seat

set_option maxRecDepth 100000 in
set_option maxHeartbeats 4000000 in
theorem upd_c1 (n : ByteArray) (cl how : Nat) (w : World) (hn : n.size ≤ 32) (e5 : ((how : Int) % 8 == 5) = false) (e6 : ((how : Int) % 8 == 6) = false) (e7 : ((how : Int) % 8 == 7) = true) :
    Calls Try.prog 12 #[.string n, .int .i64 1, .int .u8 cl, .int .u8 how] w fun e w' => e = .returned (reqB n 1 cl false false true).V ∧ Kept None w w' := by
  have j0 := fun w => key n 1 false w (by omega)
  have j1 := fun w => secret n 1 false w (by omega)
  have hby : byN n 1 false false = secN n 1 false := by
    have e1 : max ((1 : Int) - 1) 1 = 1 := by decide
    have e2 : ((1 : Int) == 1) = true := by decide
    unfold byN
    rw [e1, e2]
    rfl
  have hkl := keyN_lt n 1 false
  have j2 := fun w => RUp.sign (byN n 1 false false) n 1 ((cl % 2 : Nat) : Int) (keyN n 1 false) 0 0 w (by omega) hkl
  have hq : (reqB n 1 cl false false true).V = updV n 1 (keyN n 1 false) 5 (sigR (byN n 1 false false) (msgB n 1 (keyN n 1 false))) (sigS (byN n 1 false false) (msgB n 1 (keyN n 1 false))) := rfl
  rw [hq]
  have hC : (cl : Int) % 2 = ((cl % 2 : Nat) : Int) := by omega
  have hsl := secN_lt n 1 false
  rw [hby] at j2 ⊢
  clear hq hby
  obtain ⟨C, hCC⟩ : ∃ C : Int, C = ((cl % 2 : Nat) : Int) := ⟨_, rfl⟩
  rw [← hCC] at hC j2
  obtain ⟨K, hK⟩ : ∃ K, K = keyN n 1 false := ⟨_, rfl⟩
  rw [← hK] at j0 j2 ⊢
  obtain ⟨B, hB⟩ : ∃ B, B = secN n 1 false := ⟨_, rfl⟩
  rw [← hB] at j1 j2 hsl ⊢
  
  
  
  obtain ⟨R, hR⟩ : ∃ R, R = sigR B (msgB n 1 K) := ⟨_, rfl⟩
  obtain ⟨S, hS⟩ : ∃ S, S = sigS B (msgB n 1 K) := ⟨_, rfl⟩
  rw [← hR, ← hS] at j2 ⊢
  have J := hid (And.intro j0 (And.intro j1 j2))
  clear j0 j1 j2 hCC hK hB hR hS hkl hsl hn
  have k0 : Kept None w ((w.alloc (.cells #[.string ⟨#[]⟩, .int .i64 0, .int .u64 0, .int .i64 0, .int .u64 0, .int .u64 0] 27)).alloc (.cells #[.string n, .int .i64 1, .int .u64 0, .int .i64 C, .int .u64 0, .int .u64 0] 27)) := ((Kept.refl _ _).alloc _).alloc _
  have v0 : Blk ((w.alloc (.cells #[.string ⟨#[]⟩, .int .i64 0, .int .u64 0, .int .i64 0, .int .u64 0, .int .u64 0] 27)).alloc (.cells #[.string n, .int .i64 1, .int .u64 0, .int .i64 C, .int .u64 0, .int .u64 0] 27)) w.heap.size #[.string ⟨#[]⟩, .int .i64 0, .int .u64 0, .int .i64 0, .int .u64 0, .int .u64 0] 27 := (Blk.new w _ _).alloc _
  have u0 := Blk.new2 w (.cells #[.string ⟨#[]⟩, .int .i64 0, .int .u64 0, .int .i64 0, .int .u64 0, .int .u64 0] 27) #[.string n, .int .i64 1, .int .u64 0, .int .i64 C, .int .u64 0, .int .u64 0] 27
  go_enter Try.func12, Try.ntmps12
  go_wp2_with fail
  refine (J.out.1 _).mono ?_
  rintro e w1 ⟨rfl, k1⟩
  have k01 := k0.trans k1
  have v1 := v0.kept k1 (fun h => h)
  have u1 := u0.kept k1 (fun h => h)
  have d2 : w1.cell? ⟨w.heap.size + 1, 2, none⟩ = some (.int .u64 0) := u1.cell 2
  have f2 := u1.free 2
  have u1' : Blk (w1.setCell ⟨w.heap.size + 1, 2, none⟩ (.int .u64 (K : Int))) (w.heap.size + 1) #[.string n, .int .i64 1, .int .u64 (K : Int), .int .i64 C, .int .u64 0, .int .u64 0] 27 := u1.set 2 _
  have v1' := v1.setOther (a := ⟨w.heap.size + 1, 2, none⟩) (by show w.heap.size ≠ w.heap.size + 1; omega) (.int .u64 (K : Int))
  have k01' := k01.setNew (b := w.heap.size + 1) (by omega) 2 (.int .u64 (K : Int))
  clear k0 v0 u0 k1 k01 v1 u1
  go_wp2_with fail
  refine (J.out.2.1 _).mono ?_
  rintro e w2 ⟨rfl, rfl⟩
  go_wp2_with (first | (refine wpList_load_blk rfl _ _ rfl rfl u1' Up.aUpd ?_) | fail)
  refine (J.out.2.2 _).mono ?_
  rintro e w3 ⟨rfl, k3⟩
  have k03 := k01'.trans k3
  have v3 := v1'.kept k3 (fun h => h)
  have u3 := u1'.kept k3 (fun h => h)
  clear k01' v1' u1' k3 d2 f2 J
  go_wp2_with (first | (refine wpList_store_blk rfl _ _ _ rfl rfl rfl u3 Up.aUpd rfl (Up.upd_all _ _ _ _ _ _) ?k4) | fail)
  case k4 =>
    intro w4 u4 k4
    have k04 := k03.then k4 (fun i hi (h : i = w.heap.size + 1) => by omega)
    have v4 := v3.kept k4 (fun (h : w.heap.size = w.heap.size + 1) => by omega)
    have d3 : w4.cell? ⟨w.heap.size + 1, 3, none⟩ = some (.int .i64 C) := u4.cell 3
    have f3 := u4.free 3
    have u4' : Blk (w4.setCell ⟨w.heap.size + 1, 3, none⟩ (.int .i64 5)) (w.heap.size + 1) #[.string n, .int .i64 1, .int .u64 (K : Int), .int .i64 5, .int .u64 (R : Int), .int .u64 (S : Int)] 27 := u4.set 3 _
    have v4' := v4.setOther (a := ⟨w.heap.size + 1, 3, none⟩) (by show w.heap.size ≠ w.heap.size + 1; omega) (.int .i64 5)
    have k04' := k04.setNew (b := w.heap.size + 1) (by omega) 3 (.int .i64 5)
    clear k03 v3 u3 k4 u4 v4 k04
    go_wp2_with (first | (refine wpList_load_blk rfl _ _ rfl rfl u4' Up.aUpd ?_) | (refine wpList_store_blk rfl _ _ _ rfl rfl rfl v4' Up.aUpd rfl (Up.upd_all _ _ _ _ _ _) ?_; intro w7 hR7 k7) | fail)
    exact bodyPost_ret (v := updV n 1 K 5 R S) (results_blk rfl _ rfl hR7 Up.aUpd) rfl ⟨rfl, k04'.then k7 (fun i hi (h : i = w.heap.size) => by omega)⟩

set_option maxRecDepth 100000 in
set_option maxHeartbeats 4000000 in
theorem upd_c0 (n : ByteArray) (v : Int) (cl how : Nat) (w : World) (hn : n.size ≤ 32) (h1 : 2 ≤ v) (h2 : v ≤ 1000) (e5 : ((how : Int) % 8 == 5) = false) (e6 : ((how : Int) % 8 == 6) = false) (e7 : ((how : Int) % 8 == 7) = true) :
    Calls Try.prog 12 #[.string n, .int .i64 v, .int .u8 cl, .int .u8 how] w fun e w' => e = .returned (reqB n v cl false false true).V ∧ Kept None w w' := by
  have j0 := fun w => key n v false w (by omega)
  have j1 := fun w => secret n (v - 1) false w (by omega)
  have hby : byN n v false false = secN n (v - 1) false := by
    unfold byN
    have e1 : max (v - 1) 1 = v - 1 := by omega
    have e2 : (v == 1) = false := by rw [beq_eq_false_iff_ne]; omega
    rw [e1]; rfl
  have hkl := keyN_lt n v false
  have j2 := fun w => RUp.sign (byN n v false false) n v ((cl % 2 : Nat) : Int) (keyN n v false) 0 0 w (by omega) hkl
  have hq : (reqB n v cl false false true).V = updV n v (keyN n v false) 5 (sigR (byN n v false false) (msgB n v (keyN n v false))) (sigS (byN n v false false) (msgB n v (keyN n v false))) := rfl
  rw [hq]
  have hC : (cl : Int) % 2 = ((cl % 2 : Nat) : Int) := by omega
  have hsl := secN_lt n (v - 1) false
  rw [hby] at j2 ⊢
  clear hq hby
  obtain ⟨C, hCC⟩ : ∃ C : Int, C = ((cl % 2 : Nat) : Int) := ⟨_, rfl⟩
  rw [← hCC] at hC j2
  obtain ⟨K, hK⟩ : ∃ K, K = keyN n v false := ⟨_, rfl⟩
  rw [← hK] at j0 j2 ⊢
  obtain ⟨B, hB⟩ : ∃ B, B = secN n (v - 1) false := ⟨_, rfl⟩
  rw [← hB] at j1 j2 hsl ⊢
  
  
  
  obtain ⟨R, hR⟩ : ∃ R, R = sigR B (msgB n v K) := ⟨_, rfl⟩
  obtain ⟨S, hS⟩ : ∃ S, S = sigS B (msgB n v K) := ⟨_, rfl⟩
  rw [← hR, ← hS] at j2 ⊢
  have J := hid (And.intro j0 (And.intro j1 j2))
  clear j0 j1 j2 hCC hK hB hR hS hkl hsl hn
  have k0 : Kept None w ((w.alloc (.cells #[.string ⟨#[]⟩, .int .i64 0, .int .u64 0, .int .i64 0, .int .u64 0, .int .u64 0] 27)).alloc (.cells #[.string n, .int .i64 v, .int .u64 0, .int .i64 C, .int .u64 0, .int .u64 0] 27)) := ((Kept.refl _ _).alloc _).alloc _
  have v0 : Blk ((w.alloc (.cells #[.string ⟨#[]⟩, .int .i64 0, .int .u64 0, .int .i64 0, .int .u64 0, .int .u64 0] 27)).alloc (.cells #[.string n, .int .i64 v, .int .u64 0, .int .i64 C, .int .u64 0, .int .u64 0] 27)) w.heap.size #[.string ⟨#[]⟩, .int .i64 0, .int .u64 0, .int .i64 0, .int .u64 0, .int .u64 0] 27 := (Blk.new w _ _).alloc _
  have u0 := Blk.new2 w (.cells #[.string ⟨#[]⟩, .int .i64 0, .int .u64 0, .int .i64 0, .int .u64 0, .int .u64 0] 27) #[.string n, .int .i64 v, .int .u64 0, .int .i64 C, .int .u64 0, .int .u64 0] 27
  go_enter Try.func12, Try.ntmps12
  go_wp2_with fail
  refine (J.out.1 _).mono ?_
  rintro e w1 ⟨rfl, k1⟩
  have k01 := k0.trans k1
  have v1 := v0.kept k1 (fun h => h)
  have u1 := u0.kept k1 (fun h => h)
  have d2 : w1.cell? ⟨w.heap.size + 1, 2, none⟩ = some (.int .u64 0) := u1.cell 2
  have f2 := u1.free 2
  have u1' : Blk (w1.setCell ⟨w.heap.size + 1, 2, none⟩ (.int .u64 (K : Int))) (w.heap.size + 1) #[.string n, .int .i64 v, .int .u64 (K : Int), .int .i64 C, .int .u64 0, .int .u64 0] 27 := u1.set 2 _
  have v1' := v1.setOther (a := ⟨w.heap.size + 1, 2, none⟩) (by show w.heap.size ≠ w.heap.size + 1; omega) (.int .u64 (K : Int))
  have k01' := k01.setNew (b := w.heap.size + 1) (by omega) 2 (.int .u64 (K : Int))
  clear k0 v0 u0 k1 k01 v1 u1
  go_wp2_with fail
  refine (J.out.2.1 _).mono ?_
  rintro e w2 ⟨rfl, rfl⟩
  go_wp2_with (first | (refine wpList_load_blk rfl _ _ rfl rfl u1' Up.aUpd ?_) | fail)
  refine (J.out.2.2 _).mono ?_
  rintro e w3 ⟨rfl, k3⟩
  have k03 := k01'.trans k3
  have v3 := v1'.kept k3 (fun h => h)
  have u3 := u1'.kept k3 (fun h => h)
  clear k01' v1' u1' k3 d2 f2 J
  go_wp2_with (first | (refine wpList_store_blk rfl _ _ _ rfl rfl rfl u3 Up.aUpd rfl (Up.upd_all _ _ _ _ _ _) ?k4) | fail)
  case k4 =>
    intro w4 u4 k4
    have k04 := k03.then k4 (fun i hi (h : i = w.heap.size + 1) => by omega)
    have v4 := v3.kept k4 (fun (h : w.heap.size = w.heap.size + 1) => by omega)
    have d3 : w4.cell? ⟨w.heap.size + 1, 3, none⟩ = some (.int .i64 C) := u4.cell 3
    have f3 := u4.free 3
    have u4' : Blk (w4.setCell ⟨w.heap.size + 1, 3, none⟩ (.int .i64 5)) (w.heap.size + 1) #[.string n, .int .i64 v, .int .u64 (K : Int), .int .i64 5, .int .u64 (R : Int), .int .u64 (S : Int)] 27 := u4.set 3 _
    have v4' := v4.setOther (a := ⟨w.heap.size + 1, 3, none⟩) (by show w.heap.size ≠ w.heap.size + 1; omega) (.int .i64 5)
    have k04' := k04.setNew (b := w.heap.size + 1) (by omega) 3 (.int .i64 5)
    clear k03 v3 u3 k4 u4 v4 k04
    go_wp2_with (first | (refine wpList_load_blk rfl _ _ rfl rfl u4' Up.aUpd ?_) | (refine wpList_store_blk rfl _ _ _ rfl rfl rfl v4' Up.aUpd rfl (Up.upd_all _ _ _ _ _ _) ?_; intro w7 hR7 k7) | fail)
    exact bodyPost_ret (v := updV n v K 5 R S) (results_blk rfl _ rfl hR7 Up.aUpd) rfl ⟨rfl, k04'.then k7 (fun i hi (h : i = w.heap.size) => by omega)⟩
end Seat
end Go.Proofs.Ytdobmebhjmgkmaa

/- postmarkseat.Update, by contract. -/
namespace Go.Proofs.Ytdobmebhjmgkmaa
open Go.RowKit Go.Pm
namespace Seat

theorem update (n : ByteArray) (v : Int) (cl how : Nat) (w : World) (hn : n.size ≤ 32) (hv0 : 1 ≤ v) (hv1 : v ≤ 1000) :
    Calls Try.prog 12 #[.string n, .int .i64 v, .int .u8 cl, .int .u8 how] w fun e w' => e = .returned (req n v cl how).V ∧ Kept None w w' := by
  have hb : ∀ j : Nat, ((how : Int) % 8 == (j : Int)) = (how % 8 == j) := fun j => by
    rw [Bool.eq_iff_iff, beq_iff_eq, beq_iff_eq]
    omega
  have h5 : ((how : Int) % 8 == 5) = (how % 8 == 5) := hb 5
  have h6 : ((how : Int) % 8 == 6) = (how % 8 == 6) := hb 6
  have h7 : ((how : Int) % 8 == 7) = (how % 8 == 7) := hb 7
  have hc : how % 8 = 5 ∨ how % 8 = 6 ∨ how % 8 = 7 ∨ (how % 8 ≠ 5 ∧ how % 8 ≠ 6 ∧ how % 8 ≠ 7) := by omega
  unfold req
  rcases hc with h | h | h | ⟨ha, hb', hc⟩
  · rw [h] at h5 h6 h7 ⊢
    by_cases h1 : v = 1
    · subst h1; exact upd_a1 n cl how w hn h5 h6 h7
    · exact upd_a0 n v cl how w hn (by omega) hv1 h5 h6 h7
  · rw [h] at h5 h6 h7 ⊢
    by_cases h1 : v = 1
    · subst h1; exact upd_b1 n cl how w hn h5 h6 h7
    · exact upd_b0 n v cl how w hn (by omega) hv1 h5 h6 h7
  · rw [h] at h5 h6 h7 ⊢
    by_cases h1 : v = 1
    · subst h1; exact upd_c1 n cl how w hn h5 h6 h7
    · exact upd_c0 n v cl how w hn (by omega) hv1 h5 h6 h7
  · have g5 : (how % 8 == 5) = false := by simpa using ha
    have g6 : (how % 8 == 6) = false := by simpa using hb'
    have g7 : (how % 8 == 7) = false := by simpa using hc
    rw [g5] at h5 ⊢
    rw [g6] at h6 ⊢
    rw [g7] at h7 ⊢
    by_cases h1 : v = 1
    · subst h1; exact upd_o1 n cl how w hn h5 h6 h7
    · exact upd_o0 n v cl how w hn (by omega) hv1 h5 h6 h7
end Seat
end Go.Proofs.Ytdobmebhjmgkmaa
namespace Go.Pm
open Go Go.RowKit
/-- Keys are words; of the names nothing is asked. -/
def KW (l : List Kno) : Prop := ∀ x ∈ l, x.e.k < 18446744073709551616
def EW (l : List Ent) : Prop := ∀ x ∈ l, x.k < 18446744073709551616
theorem KOk.w {l : List Kno} (h : KOk l) : KW l := fun x hx => (h x hx).2
theorem EOk.w {l : List Ent} (h : EOk l) : EW l := fun x hx => (h x hx).2
theorem addF_w {l : List Kno} {p : Int} {b : List Ent} (hl : KW l) (hb : EW b) : KW (addF l p b).1 ∧ (addF l p b).1.length ≤ l.length + b.length := by
  cases h : (addF l p b).2 with
  | false =>
    rw [addF_no h]
    exact ⟨hl, Nat.le_add_right _ _⟩
  | true =>
    have ha := addF_yes h
    refine ⟨fun x hx => ?_, Nat.le_of_eq ha.len⟩
    rcases (ha.mem x).1 hx with ⟨e, he, rfl⟩ | hx
    · exact hb e he
    · exact hl x hx
end Go.Pm
namespace Go.Proofs.Ytdobmebhjmgkmaa
open Go.RowKit Go.Pm
namespace P17
/-- The entry that a story adds. -/
def entS (d : List Kno) (x : UInt8) : Ent := ⟨Seat.nameS x.toNat, wrap64 ((latF d (Seat.nameS x.toNat)).1.e.v + 1), Seat.keyN (Seat.nameS x.toNat) (wrap64 ((latF d (Seat.nameS x.toNat)).1.e.v + 1)) false⟩
/-- What is known behind so many of the numbers. -/
def storyK (l : List UInt8) : Nat → List Kno
  | 0 => []
  | i + 1 => match l[i]? with
    | none => storyK l i
    | some x => (addF (storyK l i) ((i + 1 : Nat) : Int) [entS (storyK l i) x]).1
def penS (d : List Kno) (p : List Pn) (x : UInt8) (j : Nat) : Pn := ⟨Seat.req (Seat.nameS x.toNat) (nextP d p (Seat.nameS x.toNat)).1 x.toNat 0, 0, (j : Int), false⟩
/-- Who waits behind so many of the numbers. -/
def storyP (d : List Kno) (m : List UInt8) : Nat → List Pn
  | 0 => []
  | j + 1 => match m[j]? with
    | none => storyP d m j
    | some x => storyP d m j ++ [penS d (storyP d m j) x j]
theorem storyK_step (l : List UInt8) (i : Nat) (h : i < l.length) : storyK l (i + 1) = (addF (storyK l i) ((i + 1 : Nat) : Int) [entS (storyK l i) l[i]]).1 := by
  rw [storyK, List.getElem?_eq_getElem h]
theorem storyP_step (d : List Kno) (m : List UInt8) (j : Nat) (h : j < m.length) : storyP d m (j + 1) = storyP d m j ++ [penS d (storyP d m j) m[j] j] := by
  rw [storyP, List.getElem?_eq_getElem h]
structure StK (d : List Kno) (i : Nat) : Prop where
  rt : RtK d
  ok : KOk d
  bnd : ∀ x ∈ d, 1 ≤ x.e.v ∧ x.e.v ≤ (i : Int) ∧ x.p ≤ (i : Int)
  len : d.length ≤ i
theorem lat_bnd {d : List Kno} {i : Nat} (h : StK d i) (nm : ByteArray) : 0 ≤ (latF d nm).1.e.v ∧ (latF d nm).1.e.v ≤ (i : Int) := by
  have s := latF_spec d nm
  cases hb : (latF d nm).2 with
  | true =>
    have := h.bnd _ (s.yes hb).1
    omega
  | false =>
    rw [(s.no hb).1]
    exact ⟨Int.le_refl _, Int.natCast_nonneg _⟩
theorem entS_ok (d : List Kno) (x : UInt8) : (entS d x).Ok := ⟨Nat.le_trans (Seat.nameS_size _).2 (by decide), Seat.keyN_lt _ _ _⟩
theorem wrap_small {z : Int} (h0 : 0 ≤ z) (h1 : z ≤ 1000000) : wrap64 z = z := by unfold wrap64; omega
theorem entS_v {d : List Kno} {i : Nat} (h : StK d i) (hi : i ≤ 1000) (x : UInt8) : (entS d x).v = (latF d (Seat.nameS x.toNat)).1.e.v + 1 := by
  have := lat_bnd h (Seat.nameS x.toNat)
  exact wrap_small (by omega) (by omega)
theorem StK.step {d : List Kno} {i : Nat} (h : StK d i) (hi : i ≤ 1000) (x : UInt8) : StK (addF d ((i + 1 : Nat) : Int) [entS d x]).1 (i + 1) := by
  have hv := entS_v h hi x
  have hb := lat_bnd h (Seat.nameS x.toNat)
  cases ho : (addF d ((i + 1 : Nat) : Int) [entS d x]).2 with
  | false =>
    rw [addF_no ho]
    exact ⟨h.rt, h.ok, fun y hy => by have := h.bnd y hy; omega, by have := h.len; omega⟩
  | true =>
    have ha := addF_yes ho
    refine ⟨ha.right h.rt, fun y hy => ?_, fun y hy => ?_, by rw [ha.len]; have := h.len; simp; omega⟩
    · rcases (ha.mem y).1 hy with ⟨e, he, rfl⟩ | hy
      · rw [List.mem_singleton.1 he]
        exact entS_ok d x
      · exact h.ok y hy
    · rcases (ha.mem y).1 hy with ⟨e, he, rfl⟩ | hy
      · rw [List.mem_singleton.1 he]
        simp only
        rw [hv]
        omega
      · have := h.bnd y hy
        omega
theorem storyK_ok (l : List UInt8) : ∀ i, i ≤ l.length → i ≤ 1000 → StK (storyK l i) i
  | 0, _, _ => ⟨⟨(fun _ h => by cases h), List.Pairwise.nil, (fun _ h => by cases h)⟩, (fun _ h => by cases h), (fun _ h => by cases h), Nat.le_refl _⟩
  | i + 1, h, h1 => by
    rw [storyK_step l i (by omega)]
    exact (storyK_ok l i (by omega) (by omega)).step (by omega) _
/-- Those who wait: how great their versions are. -/
structure StP (p : List Pn) (b : Nat) : Prop where
  bnd : ∀ x ∈ p, 1 ≤ x.u.v ∧ x.u.v ≤ (b : Int)
  fits : ∀ x ∈ p, x.u.Fits ∧ inI x.tick
theorem nxF_bnd {nm : ByteArray} {b : Int} : ∀ (p : List Pn) (s : Int × Nat), 0 ≤ s.1 → s.1 ≤ b → (∀ x ∈ p, 1 ≤ x.u.v ∧ x.u.v ≤ b) → 0 ≤ (nxF s p nm).1 ∧ (nxF s p nm).1 ≤ b
  | [], _, h0, h1, _ => ⟨h0, h1⟩
  | x :: p, s, h0, h1, hp => by
    have hx := hp x (List.mem_cons_self ..)
    show 0 ≤ (nxF (nxS nm s x) p nm).1 ∧ (nxF (nxS nm s x) p nm).1 ≤ b
    refine nxF_bnd p _ ?_ ?_ (fun y hy => hp y (List.mem_cons_of_mem _ hy))
    · unfold nxS
      split
      · show 0 ≤ x.u.v; omega
      · exact h0
    · unfold nxS
      split
      · exact hx.2
      · exact h1
theorem next_bnd {d : List Kno} {p : List Pn} {i b : Nat} (h : StK d i) (hp : StP p b) (hib : i ≤ b) (hb : b ≤ 1000) (nm : ByteArray) : 1 ≤ (nextP d p nm).1 ∧ (nextP d p nm).1 ≤ (b : Int) + 1 := by
  have h1 := lat_bnd h nm
  have h2 := nxF_bnd (nm := nm) (b := (b : Int)) p ((latF d nm).1.e.v, (latF d nm).1.e.k) h1.1 (by show (latF d nm).1.e.v ≤ _; omega) hp.bnd
  unfold nextP
  simp only
  rw [wrap_small (by omega) (by omega)]
  omega
theorem req_fits (n : ByteArray) {v : Int} (h0 : 0 ≤ v) (h1 : v ≤ 1000000) (cl how : Nat) : (Seat.req n v cl how).Fits := by
  refine ⟨⟨by show -9223372036854775808 ≤ v; omega, by show v < 9223372036854775808; omega⟩, Seat.keyN_lt _ _ _, ?_, Nat.lt_trans (sigR_lt _ _) (by decide), Nat.lt_trans (sigS_lt _ _) (by decide)⟩
  show -9223372036854775808 ≤ (if (how % 8 == 7) = true then (5 : Int) else ((cl % 2 : Nat) : Int)) ∧ (if (how % 8 == 7) = true then (5 : Int) else ((cl % 2 : Nat) : Int)) < 9223372036854775808
  split <;> omega
theorem StP.step {d : List Kno} {p : List Pn} {i b : Nat} (h : StK d i) (hp : StP p b) (hib : i ≤ b) (hb : b ≤ 1000) (x : UInt8) (j : Nat) : StP (p ++ [penS d p x j]) (b + 1) := by
  have hn := next_bnd h hp hib hb (Seat.nameS x.toNat)
  refine ⟨fun y hy => ?_, fun y hy => ?_⟩
  · rcases List.mem_append.1 hy with hy | hy
    · have := hp.bnd y hy
      omega
    · rw [List.mem_singleton.1 hy]
      show 1 ≤ (nextP d p (Seat.nameS x.toNat)).1 ∧ (nextP d p (Seat.nameS x.toNat)).1 ≤ _
      omega
  · rcases List.mem_append.1 hy with hy | hy
    · exact hp.fits y hy
    · rw [List.mem_singleton.1 hy]
      exact ⟨req_fits _ (by omega) (by omega) _ _, by show inI 0; exact ⟨by decide, by decide⟩⟩
theorem storyP_ok {d : List Kno} {i : Nat} (h : StK d i) (m : List UInt8) : ∀ j, j ≤ m.length → i + j ≤ 1000 → StP (storyP d m j) (i + j) ∧ (storyP d m j).length = j
  | 0, _, _ => ⟨⟨(fun _ h => by cases h), (fun _ h => by cases h)⟩, rfl⟩
  | j + 1, hj, hb => by
    have ih := storyP_ok h m j (by omega) (by omega)
    rw [storyP_step d m j (by omega)]
    exact ⟨ih.1.step h (Nat.le_add_right _ _) (by omega) _ _, by rw [List.length_append, ih.2]; rfl⟩
end P17
end Go.Proofs.Ytdobmebhjmgkmaa
namespace Go.Pm
open Go Go.RowKit
theorem lat_is {d : List Kno} (hp : d.Pairwise KLt) {nm : ByteArray} {x : Kno} (hx : x ∈ d) (hn : x.e.n.toList = nm.toList) (hm : ∀ y ∈ d, y.e.n.toList = nm.toList → y.e.v ≤ x.e.v) : latF d nm = (x, true) := by
  have s := latF_spec d nm
  obtain ⟨t1, t2⟩ := s.top x hx hn
  obtain ⟨y1, y2⟩ := s.yes t1
  have h := hm _ y1 y2
  exact Prod.ext (show (latF d nm).1 = x from key_one hp y1 hx (y2.trans hn.symm) (by omega)) t1
theorem lat_none {d : List Kno} {nm : ByteArray} (h : ∀ x ∈ d, x.e.n.toList ≠ nm.toList) : latF d nm = (Kno.none, false) := by
  have s := latF_spec d nm
  cases hb : (latF d nm).2 with
  | true => exact absurd (s.yes hb).2 (h _ (s.yes hb).1)
  | false => exact Prod.ext (s.no hb).1 hb
theorem lat_same {a b : List Kno} (ha : a.Pairwise KLt) {nm : ByteArray} (h : ∀ x : Kno, x.e.n.toList = nm.toList → (x ∈ a ↔ x ∈ b)) : latF a nm = latF b nm := by
  have s := latF_spec b nm
  cases hb : (latF b nm).2 with
  | true =>
    obtain ⟨y1, y2⟩ := s.yes hb
    rw [lat_is ha ((h _ y2).2 y1) y2 (fun y hy hn => (s.top y ((h y hn).1 hy) hn).2)]
    exact Prod.ext rfl hb.symm
  | false =>
    rw [lat_none (fun x hx hn => (s.no hb).2 x ((h x hn).1 hx) hn)]
    exact (Prod.ext (s.no hb).1 hb).symm
theorem lat_name {d : List Kno} {a b : ByteArray} (h : a.toList = b.toList) : latF d a = latF d b := by
  unfold latF latS eqN
  rw [h]
theorem add_one {d : List Kno} {p : Int} {e : Ent} (hp : 1 ≤ p) (hnew : ∀ y ∈ d, y.p < p) (hg : goodE d e) : Adds d p [e] (addF d p [e]).1 := by
  refine addF_yes ?_
  obtain ⟨o, ho⟩ := addN_some (l := d) (p := p) (b := [e]) (fun x hx => by rw [List.mem_singleton.1 hx]; exact hg) (List.pairwise_singleton _ _) 1 (Nat.le_refl _)
  unfold addF
  rw [if_neg (by omega), if_neg (by
    intro h
    obtain ⟨y, hy, h2⟩ := List.any_eq_true.1 h
    have := hnew y hy
    have := of_decide_eq_true h2
    omega)]
  rw [show [e].length = 1 from rfl, ho]
  rfl
theorem add_lat {d : List Kno} (hd : RtK d) {p : Int} {e : Ent} {out : List Kno} (ha : Adds d p [e] out) {nm : ByteArray} (hn : e.n.toList = nm.toList) : latF out nm = (⟨e, p⟩, true) := by
  have hv := good_v hd (ha.good e (List.mem_singleton.2 rfl))
  refine lat_is (ha.right hd).lt ((ha.mem _).2 (.inl ⟨e, List.mem_singleton.2 rfl, rfl⟩)) hn (fun y hy hyn => ?_)
  rcases (ha.mem y).1 hy with ⟨e', he', rfl⟩ | hy
  · rw [List.mem_singleton.1 he']
    exact Int.le_refl _
  · have := ((latF_spec d e.n).top y hy (hyn.trans hn.symm)).2
    show y.e.v ≤ e.v
    omega
theorem add_lat_other {d : List Kno} (hd : RtK d) {p : Int} {e : Ent} {out : List Kno} (ha : Adds d p [e] out) {nm : ByteArray} (hn : e.n.toList ≠ nm.toList) : latF out nm = latF d nm := by
  refine lat_same (ha.right hd).lt (fun x hx => ?_)
  rw [ha.mem x]
  constructor
  · rintro (⟨e', he', rfl⟩ | h)
    · rw [List.mem_singleton.1 he'] at hx
      exact absurd hx hn
    · exact h
  · exact .inr
end Go.Pm
namespace Go.Pm
open Go Go.RowKit
theorem bytes_ext {a b : ByteArray} : a = b ↔ a.data.toList = b.data.toList := by
  obtain ⟨⟨x⟩⟩ := a
  obtain ⟨⟨y⟩⟩ := b
  simp
theorem toList_iff {a b : ByteArray} : a.toList = b.toList ↔ a = b := by
  rw [bytes_ext, ByteArray.toList_eq, ByteArray.toList_eq]
theorem take_eq_step {α : Type} {l m : List α} {i : Nat} (h : l.take i = m.take i) (hl : i < l.length) (hm : i < m.length) (he : l[i] = m[i]) : l.take (i + 1) = m.take (i + 1) := by
  rw [List.take_succ_eq_append_getElem hl, List.take_succ_eq_append_getElem hm, h, he]
theorem eqF_nil {P : Program} {w : World} {xs ys : Array Value} {d : Nat} {fs : List Field} (h : fs.map (fun f => (f.name == "_", f.type, f.offset)) = []) : (Op.eqFields d xs ys fs).run P w = .ok true w := by
  obtain rfl := List.map_eq_nil_iff.1 h
  simp [Op.eqFields]
theorem eqF_step {P : Program} {w : World} {xs ys : Array Value} {d : Nat} {fs : List Field} {t : TypeId} {o : Nat} {rest : List (Bool × TypeId × Nat)} (h : fs.map (fun f => (f.name == "_", f.type, f.offset)) = (false, t, o) :: rest)
    {a b : Value} {r c : Bool} (pa : (part t xs o).run P w = .ok a w) (pb : (part t ys o).run P w = .ok b w) (he : (Op.equalIn d t a b).run P w = .ok r w)
    (hc : ∀ gs : List Field, gs.map (fun f => (f.name == "_", f.type, f.offset)) = rest → (Op.eqFields d xs ys gs).run P w = .ok c w) : (Op.eqFields d xs ys fs).run P w = .ok (r && c) w := by
  match fs, h with
  | f :: gs, h =>
    simp only [List.map_cons, List.cons.injEq, Prod.mk.injEq, beq_eq_false_iff_ne] at h
    obtain ⟨⟨f1, f2, f3⟩, g⟩ := h
    cases r <;> simp only [Op.eqFields, f1, ne_eq, not_false_eq_true, if_true, f2, f3, Sem.run_bind, pa, pb, he, Result.andThen_ok, Sem.run_pure, Bool.not_true, Bool.not_false, Bool.false_eq_true, if_false, hc gs g, Bool.true_and, Bool.false_and]
theorem part_agg {P : Program} {w : World} {xs : Array Value} {t : TypeId} {o n : Nat} (ha : ∀ w, (isAgg t).run P w = .ok true w) (hs : ∀ w, (sizeOf t).run P w = .ok n w) : (part t xs o).run P w = .ok (.agg (xs.extract o (o + n))) w := by
  simp only [part, Sem.run_bind, ha, hs, Result.andThen_ok, if_true, Sem.run_pure]
theorem part_one {P : Program} {w : World} {xs : Array Value} {t : TypeId} {o : Nat} {v : Value} (ha : ∀ w, (isAgg t).run P w = .ok false w) (h : xs[o]? = some v) : (part t xs o).run P w = .ok v w := by
  simp only [part, Sem.run_bind, ha, Result.andThen_ok, Bool.false_eq_true, if_false, h, Sem.run_pure]
end Go.Pm
namespace Go.Proofs.Ytdobmebhjmgkmaa
open Go.RowKit Go.Pm
namespace P17
theorem names_all (k : Nat) : Seat.nameS k = Seat.nameS (k % 6) := by unfold Seat.nameS; rw [Nat.mod_mod]
/-- Two numbers' names are alike just where the numbers are, modulo 6. -/
theorem names_eq (a b : Nat) : eqN (Seat.nameS a) (Seat.nameS b) = (a % 6 == b % 6) := by
  have h : ∀ i, i < 6 → ∀ j, j < 6 → eqN (Seat.nameS i) (Seat.nameS j) = (i == j) := by decide +kernel
  rw [names_all a, names_all b]
  exact h _ (Nat.mod_lt _ (by decide)) _ (Nat.mod_lt _ (by decide))
/-- How often a name came. -/
def cnt (l : List UInt8) (nm : ByteArray) : Nat := (l.filter (fun x => eqN (Seat.nameS x.toNat) nm)).length
theorem cnt_le (l : List UInt8) (nm : ByteArray) : cnt l nm ≤ l.length := List.length_filter_le _ _
theorem cnt_snoc (l : List UInt8) (x : UInt8) (nm : ByteArray) : cnt (l ++ [x]) nm = cnt l nm + (if eqN (Seat.nameS x.toNat) nm = true then 1 else 0) := by
  unfold cnt
  rw [List.filter_append, List.length_append]
  cases h : eqN (Seat.nameS x.toNat) nm
  · rw [List.filter_cons, h]
    rfl
  · rw [List.filter_cons, h]
    rfl
def keyOf (nm : ByteArray) (c : Nat) : Nat := if c = 0 then 0 else Seat.keyN nm (c : Int) false
theorem keyOf_succ (nm : ByteArray) (c : Nat) : keyOf nm (c + 1) = Seat.keyN nm ((c : Int) + 1) false := by
  unfold keyOf
  rw [if_neg (by omega)]
  rfl
theorem eqN_eq {a b : ByteArray} (h : eqN a b = true) : a = b := toList_iff.1 (eqN_iff.1 h)
theorem entS_good {d : List Kno} {i : Nat} (h : StK d i) (hi : i ≤ 1000) (x : UInt8) : goodE d (entS d x) := by
  have hv := entS_v h hi x
  have hb := lat_bnd h (Seat.nameS x.toNat)
  have hn := Seat.nameS_size x.toNat
  have hk1 : 1 ≤ (entS d x).k := pubN_pos _
  have hk2 : (entS d x).k < prime61 := pubN_lt _
  refine ⟨?_, ?_⟩
  · unfold entR
    simp only [Bool.and_eq_true, decide_eq_true_eq]
    exact ⟨⟨⟨⟨⟨hn.1, hn.2⟩, by omega⟩, by omega⟩, hk1⟩, hk2⟩
  · show _ = IntKind.i64.wrap ((latF d (Seat.nameS x.toNat)).1.e.v + 1)
    rw [hv, IntKind.wrap_i64]
    omega
/-- The story's directory: each name's latest version is how often it came. -/
structure StQ (d : List Kno) (i : Nat) (f : ByteArray → Nat) : Prop where
  ok : StK d i
  lat : ∀ nm, (latF d nm).1.e.v = (f nm : Int) ∧ (latF d nm).1.e.k = keyOf nm (f nm)
theorem StQ.step {d : List Kno} {i : Nat} {f : ByteArray → Nat} (h : StQ d i f) (hi : i ≤ 1000) (x : UInt8) : StQ (addF d ((i + 1 : Nat) : Int) [entS d x]).1 (i + 1) (fun nm => f nm + (if eqN (Seat.nameS x.toNat) nm = true then 1 else 0)) := by
  have hg := entS_good h.ok hi x
  have ha := add_one (p := ((i + 1 : Nat) : Int)) (by omega) (fun y hy => by have := (h.ok.bnd y hy).2.2; omega) hg
  refine ⟨h.ok.step hi x, fun nm => ?_⟩
  cases he : eqN (Seat.nameS x.toNat) nm with
  | true =>
    have e := eqN_eq he
    rw [add_lat h.ok.rt ha (nm := nm) (by rw [← e]; rfl)]
    have hl := (h.lat (Seat.nameS x.toNat)).1
    have hv := entS_v h.ok hi x
    subst e
    rw [if_pos rfl]
    refine ⟨by show (entS d x).v = _; rw [hv, hl]; rfl, ?_⟩
    show Seat.keyN (Seat.nameS x.toNat) (entS d x).v false = _
    rw [hv, hl, keyOf_succ]
  | false =>
    rw [add_lat_other h.ok.rt ha (nm := nm) (eqN_no.1 he), if_neg (by decide)]
    exact h.lat nm
theorem storyK_q (l : List UInt8) : ∀ i, i ≤ l.length → i ≤ 1000 → StQ (storyK l i) i (cnt (l.take i))
  | 0, _, _ => ⟨storyK_ok l 0 (Nat.zero_le _) (by decide), fun nm => ⟨rfl, rfl⟩⟩
  | i + 1, h, h1 => by
    rw [storyK_step l i (by omega)]
    have ih := storyK_q l i (by omega) (by omega)
    have := ih.step (by omega) l[i]
    rw [take_one l i (by omega)]
    rw [show cnt (l.take i ++ [l[i]]) = fun nm => cnt (l.take i) nm + (if eqN (Seat.nameS l[i].toNat) nm = true then 1 else 0) from funext fun nm => cnt_snoc _ _ nm]
    exact this
/-- Those who wait: they go on, one behind another. -/
structure WtQ (d : List Kno) (p : List Pn) (f g : ByteArray → Nat) : Prop where
  next : ∀ nm, nxF ((latF d nm).1.e.v, (latF d nm).1.e.k) p nm = (((f nm + g nm : Nat) : Int), keyOf nm (f nm + g nm))
  each : ∀ x ∈ p, (f x.u.n : Int) < x.u.v ∧ x.u.v ≤ ((f x.u.n + g x.u.n : Nat) : Int) ∧ x.u.k = Seat.keyN x.u.n x.u.v false ∧ ∃ z : UInt8, x.u.n = Seat.nameS z.toNat
theorem WtQ.pok {d : List Kno} {p : List Pn} {f g : ByteArray → Nat} (h : WtQ d p f g) (hf : ∀ x ∈ p, x.u.Fits) : PnOk p := by
  refine ⟨hf, fun x hx => ?_, fun x hx y hy hn hv => ?_⟩
  · have := (h.each x hx).1
    omega
  · have e : x.u.n = y.u.n := toList_iff.1 hn
    rw [(h.each x hx).2.2.1, (h.each y hy).2.2.1, e, hv]
theorem nextP_q {d : List Kno} {p : List Pn} {f g : ByteArray → Nat} (h : WtQ d p f g) (nm : ByteArray) (hb : f nm + g nm ≤ 100000) : nextP d p nm = (((f nm + g nm : Nat) : Int) + 1, keyOf nm (f nm + g nm)) := by
  unfold nextP
  rw [h.next nm]
  simp only
  rw [wrap_small (by omega) (by omega)]
theorem WtQ.step {d : List Kno} {p : List Pn} {f g : ByteArray → Nat} (h : WtQ d p f g) (hb : ∀ nm, f nm + g nm ≤ 100000) (x : UInt8) (j : Nat) : WtQ d (p ++ [penS d p x j]) f (fun nm => g nm + (if eqN (Seat.nameS x.toNat) nm = true then 1 else 0)) := by
  have hn := nextP_q h (Seat.nameS x.toNat) (hb _)
  have hv : (penS d p x j).u.v = ((f (Seat.nameS x.toNat) + g (Seat.nameS x.toNat) : Nat) : Int) + 1 := by
    show (nextP d p (Seat.nameS x.toNat)).1 = _
    rw [hn]
  have hk : (penS d p x j).u.k = Seat.keyN (Seat.nameS x.toNat) (penS d p x j).u.v false := rfl
  refine ⟨fun nm => ?_, fun y hy => ?_⟩
  · unfold nxF
    rw [List.foldl_append]
    have hi := h.next nm
    unfold nxF at hi
    rw [hi]
    show nxS nm _ (penS d p x j) = _
    unfold nxS
    have e0 : eqN (penS d p x j).u.n nm = eqN (Seat.nameS x.toNat) nm := rfl
    rw [e0]
    cases he : eqN (Seat.nameS x.toNat) nm with
    | true =>
      have e := eqN_eq he
      rw [hk, hv, e, decide_eq_true (by omega)]
      simp only [Bool.and_self, if_true, ← Nat.add_assoc, keyOf_succ]
      rfl
    | false =>
      rw [Bool.false_and, if_neg (by decide), if_neg (by decide)]
      rfl
  · rcases List.mem_append.1 hy with q | q
    · obtain ⟨h1, h2, h3, h4⟩ := h.each y q
      refine ⟨h1, ?_, h3, h4⟩
      split <;> omega
    · rw [List.mem_singleton.1 q]
      have en : (penS d p x j).u.n = Seat.nameS x.toNat := rfl
      rw [hv, en]
      refine ⟨by omega, ?_, ?_, x, rfl⟩
      · rw [if_pos (by unfold eqN; exact beq_self_eq_true _)]
        omega
      · rw [hk, hv]
theorem storyP_q {d : List Kno} {i : Nat} {f : ByteArray → Nat} (h : StQ d i f) (m : List UInt8) (hf : ∀ nm, f nm ≤ 1000) (hm : m.length ≤ 1000) : ∀ j, j ≤ m.length → WtQ d (storyP d m j) f (cnt (m.take j))
  | 0, _ => ⟨fun nm => by
      show ((latF d nm).1.e.v, (latF d nm).1.e.k) = _
      rw [(h.lat nm).1, (h.lat nm).2]
      rfl, fun _ hx => by cases hx⟩
  | j + 1, hj => by
    have ih := storyP_q h m hf hm j (by omega)
    rw [storyP_step d m j (by omega), take_one m j (by omega)]
    rw [show cnt (m.take j ++ [m[j]]) = fun nm => cnt (m.take j) nm + (if eqN (Seat.nameS m[j].toNat) nm = true then 1 else 0) from funext fun nm => cnt_snoc _ _ nm]
    refine ih.step (fun nm => ?_) _ _
    have h1 := hf nm
    have h2 := cnt_le (m.take j) nm
    rw [List.length_take] at h2
    omega
end P17
end Go.Proofs.Ytdobmebhjmgkmaa
namespace Go.Proofs.Ytdobmebhjmgkmaa
open Go.RowKit Go.Pm
namespace P17
theorem req_right (n : ByteArray) {v : Int} (cl how : Nat) (hn : 1 ≤ n.size ∧ n.size ≤ 32) (hv : 1 ≤ v ∧ v ≤ 1073741824) (h7 : (how % 8 == 7) = false) : (Seat.req n v cl how).right = true := by
  refine (rightB_iff _ _ _ _).2 ⟨⟨hn.1, hn.2, hv.1, hv.2, pubN_pos _, pubN_lt _⟩, ?_⟩
  show (if (how % 8 == 7) = true then (5 : Int) else ((cl % 2 : Nat) : Int)) = 0 ∨ (if (how % 8 == 7) = true then (5 : Int) else ((cl % 2 : Nat) : Int)) = 1
  rw [h7, if_neg (by decide)]
  omega
theorem req_check (n : ByteArray) (v : Int) (cl : Nat) : checkN (Seat.keyN n (max (v - 1) 1) false) (msgB (Seat.req n v cl 0).n (Seat.req n v cl 0).v (Seat.req n v cl 0).k) (Seat.req n v cl 0).r (Seat.req n v cl 0).s = true := by
  show checkN (pubN (Seat.secN n (max (v - 1) 1) false)) (msgB n v (Seat.keyN n v false)) (sigR (Seat.secN n (max (v - 1) 1) (false && v == 1)) (msgB n v (Seat.keyN n v false))) (sigS (Seat.secN n (max (v - 1) 1) (false && v == 1)) (msgB n v (Seat.keyN n v false))) = true
  rw [Bool.false_and]
  exact check_sign _ _
section
variable {d : List Kno} {p : List Pn} {f g : ByteArray → Nat} {i : Nat}
theorem fin_none (h : StQ d i f) (nm : ByteArray) {v : Int} (hv : (f nm : Int) < v) : finK d nm v = (Kno.none, false) := finK_none (fun x hx hn he => by
  have h1 := ((latF_spec d nm).top x hx hn).2
  rw [(h.lat nm).1] at h1
  omega)
theorem wait_none (h : WtQ d p f g) (nm : ByteArray) {v : Int} (hv : ((f nm + g nm : Nat) : Int) < v) : waitP p nm v = none := by
  unfold waitP
  rw [List.find?_eq_none]
  intro x hx hc
  unfold isP at hc
  rw [Bool.and_eq_true, decide_eq_true_eq] at hc
  have h1 := (h.each x hx).2.1
  rw [eqN_eq hc.1] at h1
  omega
theorem dec_new (hd : StQ d i f) (hp : WtQ d p f g) {u : Req} (hr : u.right = true) (hv : ((f u.n + g u.n : Nat) : Int) < u.v) (hb : f u.n + g u.n ≤ 100000) : decP d p u = freshP (((f u.n + g u.n : Nat) : Int) + 1, keyOf u.n (f u.n + g u.n)) u := by
  unfold decP
  rw [if_pos hr, fin_none hd u.n (by omega), if_neg (by decide), wait_none hp u.n hv, nextP_q hp u.n hb]
  rfl
theorem dec_gap (hd : StQ d i f) (hp : WtQ d p f g) {u : Req} (hr : u.right = true) (hv : ((f u.n + g u.n : Nat) : Int) + 1 < u.v) (hb : f u.n + g u.n ≤ 100000) : decP d p u = (0, 27) := by
  rw [dec_new hd hp hr (by omega) hb]
  unfold freshP
  rw [if_neg (show ¬ u.v = ((f u.n + g u.n : Nat) : Int) + 1 by omega)]
theorem dec_fresh (hd : StQ d i f) (hp : WtQ d p f g) (n : ByteArray) (cl : Nat) (hn : 1 ≤ n.size ∧ n.size ≤ 32) (hb : f n + g n ≤ 100000) : decP d p (Seat.req n (((f n + g n : Nat) : Int) + 1) cl 0) = (0, 0) := by
  obtain ⟨V, hV⟩ : ∃ V : Int, V = ((f n + g n : Nat) : Int) + 1 := ⟨_, rfl⟩
  rw [← hV]
  have hr := req_right n (v := V) cl 0 hn (by omega) (by decide)
  have e := dec_new hd hp (u := Seat.req n V cl 0) hr (by show ((f n + g n : Nat) : Int) < V; omega) hb
  rw [e]
  show freshP (((f n + g n : Nat) : Int) + 1, keyOf n (f n + g n)) (Seat.req n V cl 0) = _
  rw [← hV]
  unfold freshP
  have hk : (if V = 1 then (Seat.req n V cl 0).k else keyOf n (f n + g n)) = Seat.keyN n (max (V - 1) 1) false := by
    by_cases h0 : f n + g n = 0
    · have h1 : V = 1 := by omega
      rw [if_pos h1, h1]
      rfl
    · rw [if_neg (by omega)]
      unfold keyOf
      rw [if_neg h0]
      congr 1
      omega
  simp only [hk]
  rw [if_pos (show (Seat.req n V cl 0).v = V from rfl), req_check, if_pos rfl]
theorem dec_form {u : Req} (hr : u.right = false) : decP d p u = (0, 23) := by
  unfold decP
  rw [hr, if_neg (by decide)]
/-- Who is known is told so. -/
theorem dec_known (hd : StQ d i f) {x : Kno} (hx : x ∈ d) {u : Req} (hr : u.right = true) (hn : u.n = x.e.n) (hv : u.v = x.e.v) : decP d p u = keyP x.e.k u 2 := by
  unfold decP
  rw [if_pos hr, finK_some hd.ok.rt.lt hx (nm := u.n) (by rw [hn]) hv.symm, if_pos rfl]
/-- Who waits is told so. -/
theorem dec_waits (hd : StQ d i f) (hp : WtQ d p f g) {x : Pn} (hx : x ∈ p) {u : Req} (hr : u.right = true) (hn : u.n = x.u.n) (hv : u.v = x.u.v) : decP d p u = keyP x.u.k u 1 := by
  have he := hp.each x hx
  unfold decP
  rw [if_pos hr, fin_none hd u.n (by rw [hn, hv]; exact he.1), if_neg (by decide)]
  have hw : ∃ y ∈ p, waitP p u.n u.v = some y ∧ y.u.n = u.n ∧ y.u.v = u.v := by
    cases hf : waitP p u.n u.v with
    | none =>
      unfold waitP at hf
      rw [List.find?_eq_none] at hf
      exact absurd (show isP u.n u.v x = true by
        unfold isP
        rw [Bool.and_eq_true, decide_eq_true_eq, hn, hv]
        exact ⟨eqN_iff.2 rfl, rfl⟩) (hf x hx)
    | some y =>
      unfold waitP at hf
      have h1 := List.find?_some hf
      unfold isP at h1
      rw [Bool.and_eq_true, decide_eq_true_eq] at h1
      exact ⟨y, List.mem_of_find?_eq_some hf, rfl, eqN_eq h1.1, h1.2⟩
  obtain ⟨y, hy, e1, e2, e3⟩ := hw
  rw [e1]
  show keyP y.u.k u 1 = _
  rw [(hp.each y hy).2.2.1, he.2.2.1, e2, e3, hn, hv]
end
end P17
end Go.Proofs.Ytdobmebhjmgkmaa
