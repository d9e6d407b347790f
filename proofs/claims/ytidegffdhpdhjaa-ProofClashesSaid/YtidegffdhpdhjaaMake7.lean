/- Package proof, Make: by contract. -/
import Derived.Test.YtidegffdhpdhjaaDown7
namespace Go.Pm
open Go Go.RowKit
/-- It tells a way and what is left at its end. -/
abbrev Fct.way (k lo : Nat) (hs : List (List UInt8)) (l : List It) (uses : List Nat := []) : Fct := { k := k, uses := uses, pure := fun u => ∃ a c b d, u = .tuple #[.slice a hs.length c, .slice b l.length d], fact := fun u W => ∃ x y, u = .tuple #[x, y] ∧ Rh lo W x hs ∧ ∃ lo' hi', Its W lo' hi' y l }
theorem Steady.way {l : List Fct} {k lo : Nat} {us : List Nat} {hs : List (List UInt8)} {m : List It} (h : Steady l) : Steady (.way k lo hs m us :: l) := .cons ⟨_, none, 0, none, 0, rfl⟩ (fun _ _ _ hk ⟨x, y, h1, h2, lo', hi', h3⟩ => ⟨x, y, h1, h2.kept hk, lo', hi', h3.kept hk (fun _ _ _ h => h)⟩) h
theorem wpList_build_run {P : Program} {ops : Array Oper} {rest : List Oper} {o : Oper} {a : Act} {w : World} {Q : Exit → Act → World → Prop} (hgd : o.guard = none) {t : TypeId} {parts : Array (Nat × Operand)} {vs : Array (Nat × Value)} {v : Value} (ho : o.op = .build t parts) (hp : (parts.map fun (i, x) => (i, a.eval x)) = vs)
    (hr : (Instr.build t vs).run P w = .ok v w) (h : wpList P ops Q rest (a.put o.dst v) w) : wpList P ops Q (o :: rest) a w :=
  wpList_plain hgd fun _ hK => by
    have hb : (execOp a.eval o).run P w = .ok (.value v) w := run_execOp_build ho (by rw [hp]; exact hr)
    unfold Oper.wp
    rw [hb]
    exact hK _ _ h
theorem fill_pf (s : Value) (hs : s.cells = #[s]) (e : Int) (x : It) (hx : x.i.length = 32 ∧ x.v.length = 32) : Instr.fill (fun i => #[(0, 1), (1, 1), (2, 64)][i]?) (pfC (.slice none 0 0) zeroPf).toArray [(0, s), (1, .int .i64 e), (2, .agg (itC x).toArray)] = some (pfC s ⟨[], e, x⟩).toArray := by
  have h64 := itC_len hx
  have z64 : (itC zeroIt).length = 64 := itC_len ⟨rfl, rfl⟩
  rw [fill_cons (v := s) (off := 0) (size := 1) rfl (by rw [hs]; rfl) (by rw [hs]; simp [pfC])]
  have e1 : s.cells.zipIdx.foldl (fun cs (c, j) => cs.setIfInBounds (0 + j) c) (pfC (.slice none 0 0) zeroPf).toArray = (s :: .int .i64 0 :: itC zeroIt).toArray := by rw [hs]; rfl
  rw [e1, fill_cons (v := .int .i64 e) (off := 1) (size := 1) rfl rfl (by simp [Value.cells])]
  have e2 : (Value.int .i64 e).cells.zipIdx.foldl (fun cs (c, j) => cs.setIfInBounds (1 + j) c) (s :: .int .i64 0 :: itC zeroIt).toArray = (s :: .int .i64 e :: itC zeroIt).toArray := rfl
  rw [e2, fill_cons (v := .agg (itC x).toArray) (off := 2) (size := 64) rfl (by simpa [Value.cells] using h64) (by simp [Value.cells, h64, z64])]
  have e3 : (Value.agg (itC x).toArray).cells.zipIdx.foldl (fun cs (c, j) => cs.setIfInBounds (2 + j) c) (s :: .int .i64 e :: itC zeroIt).toArray = (s :: .int .i64 e :: itC x).toArray := by
    rw [show (Value.agg (itC x).toArray).cells = (itC x).toArray from rfl, ← Array.foldl_toList, Array.toList_zipIdx]
    refine (fold_put 2 (itC x) 0 _ (by simp [h64, z64])).trans ?_
    simp [h64, z64]
  rw [e3]
  rfl
end Go.Pm
namespace Go.Proofs.Ytidegffdhpdhjaa
open Go.RowKit Go.Pm
namespace Pr
theorem built_proof (parts : List (Nat × Value)) : Try.prog.built 63 parts = Instr.fill (fun i => #[(0, 1), (1, 1), (2, 64)][i]?) (pfC (.slice none 0 0) zeroPf).toArray parts := by kernel_rfl
/-- A proof out of its parts. -/
theorem build_proof (w : World) (a : Option Addr) (n c : Nat) (e : Int) (x : It) (hx : x.i.length = 32 ∧ x.v.length = 32) (ps : List (List UInt8)) : (Instr.build 63 #[(0, .slice a n c), (1, .int .i64 e), (2, .agg (itC x).toArray)]).run Try.prog w = .ok (pfV (.slice a n c) ⟨ps, e, x⟩) w := by
  refine run_build w _ _ _ ?_
  rw [built_proof]
  exact fill_pf (.slice a n c) rfl e x hx
set_option maxRecDepth 100000 in
set_option maxHeartbeats 1000000 in
theorem make_nil (l : List It) (i : List UInt8) (ps : List (List UInt8)) (v : Value) (lo hi : Nat) (w : World) (hv : Its w lo hi v l) (hl : l.length ≤ 549755813888) (hi32 : i.length = 32) (hd : downI 256 (setI l) i 0 = (ps, [])) :
    Calls Try.prog 57 #[v, hashV i] w fun e w' => ∃ u, e = .returned (pfV u ⟨ps, 1, zeroIt⟩) ∧ Kept None w w' ∧ Rh w.heap.size w' u ps := by
  have hD : ∀ v lo hi w, Its w lo hi v (setI l) → Calls Try.prog 102 #[v, .agg (i.map u8v).toArray, .int .i64 0] w fun e w' => ∃ u r, e = .returned (.tuple #[u, r]) ∧ Kept None w w' ∧ Rh w.heap.size w' u ps ∧ Its w' lo hi r [] := fun v lo hi w h => by
    have h2 := down i hi32 256 (setI l) 0 v lo hi w h (srt_setI l) (fun _ _ _ _ k hk => by omega) (by omega) (by omega) (by omega) (Nat.le_trans (len_setI l) hl)
    rw [hd] at h2
    exact h2
  have hS : ∀ w, Its w lo hi v l → Calls Try.prog 103 #[v, .slice none 0 0] w _ := fun w h => Tr.set v (.slice none 0 0) lo hi 0 0 l [] w h (Its.nil _ _ _) (by simpa using (by omega : l.length ≤ 1099511627776))
  rw [List.append_nil] at hS
  have aL := aH32 hi32
  show Calls Try.prog 57 #[v, .agg (i.map u8v).toArray] w _
  obtain ⟨L, hL⟩ : ∃ L : Array Value, L = (i.map u8v).toArray := ⟨_, rfl⟩
  rw [← hL] at hD aL ⊢
  have HD := hid hD
  have HS := hid hS
  have HV := hid hv
  have k0 : Kept None w ((w.alloc (.cells L 23)).alloc (.cells Try.zeroCells63 63)) := ((Kept.refl _ _).alloc _).alloc _
  have bL : Blk ((w.alloc (.cells L 23)).alloc (.cells Try.zeroCells63 63)) w.heap.size L 23 := (Blk.new w _ _).alloc _
  have v0 : Blk ((w.alloc (.cells L 23)).alloc (.cells Try.zeroCells63 63)) (w.heap.size + 1) Try.zeroCells63 63 := Blk.new2 w _ _ _
  obtain ⟨z, hz, hZ⟩ := Blk.any (n := 66) v0 (by rfl)
  obtain ⟨a, cap, rfl, g1, g2, g3⟩ := hv.form
  clear hD hS hv hd v0 g3 hL
  go_enter Try.func57, Try.ntmps57
  go_wp2_with fail
  refine wp_nm ?_
  intro w1 e1
  rw [← e1] at k0 bL hZ
  clear e1
  have hv1 := HV.out.kept k0 (fun _ _ _ h => h)
  have BL := hid bL
  have HV1 := hid hv1
  clear bL hv1
  have hs : Steady [.its 1 (setI l), .way 3 w1.heap.size ps [] [1]] := Steady.its (Steady.way (Steady.nil))
  refine wp_region_kn w1 _ hs (Kept.refl _ _) (by kernel_rfl) (by kernel_rfl) (by kernel_rfl) ?_
  iterate 1 (refine wpPar_pure rfl (by rfl) _ (fun W hW => by
      go_simp
      exact rfl) ?_; simp only [Act.put, List.setIfInBounds_toArray, List.set_cons_zero, List.set_cons_succ])
  refine wpKn_adds hs rfl (by rfl) (fun W hW hd => ?_) (fun v1 hv => ?_)
  · unfold Gives
    go_simp
    refine gives_call (HS.out W (HV1.out.kept hW (fun _ _ _ h => h))) ?_
    rintro e w3 ⟨u, rfl, b3, k3⟩
    obtain ⟨a3, c3, rfl⟩ := b3.form
    exact ⟨_, rfl, k3, ⟨_, _, rfl⟩, _, _, b3.its (Nat.le_refl _)⟩
  obtain ⟨a1, c1, rfl⟩ : ∃ a c, v1 = .slice a (setI l).length c := hv
  simp only [Act.put, List.setIfInBounds_toArray, List.set_cons_zero, List.set_cons_succ]
  refine wpPar_pure rfl (by rfl) _ (fun W hW => exec_load_blk _ _ rfl rfl (BL.out.kept hW (fun h => h)) aL) ?_; simp only [Act.put, List.setIfInBounds_toArray, List.set_cons_zero, List.set_cons_succ]
  refine wpKn_adds hs rfl (by rfl) (fun W hW hd => ?_) (fun v3 hv => ?_)
  · unfold Gives
    obtain ⟨lo1, hi1, h1⟩ : ∃ lo hi, Its W lo hi (.slice a1 (setI l).length c1) (setI l) := hd 1 (List.Mem.head _)
    go_simp
    refine gives_call (HD.out _ _ _ _ h1) ?_
    rintro e w3 ⟨u, r, rfl, k3, p3, r3⟩
    obtain ⟨a3, c3, rfl⟩ := p3.form
    obtain ⟨b3, d3, rfl, _, _, _⟩ := r3.form
    exact ⟨_, rfl, k3, ⟨_, _, _, _, rfl⟩, _, _, rfl, p3.mono hW.size, _, _, r3⟩
  obtain ⟨a3, c3, b3, d3, rfl⟩ : ∃ a c b d, v3 = .tuple #[.slice a ps.length c, .slice b 0 d] := hv
  simp only [Act.put, List.setIfInBounds_toArray, List.set_cons_zero, List.set_cons_succ]
  iterate 5 (refine wpPar_pure rfl (by rfl) _ (fun W hW => by
      go_simp
      exact rfl) ?_; simp only [Act.put, List.setIfInBounds_toArray, List.set_cons_zero, List.set_cons_succ])
  refine wpPar_nil (fun W hW hG => ?_)
  obtain ⟨x3, y3, hxy, p3, lo3, hi3, r3⟩ : ∃ q1 q2, Value.tuple #[.slice a3 ps.length c3, .slice b3 0 d3] = .tuple #[q1, q2] ∧ Rh w1.heap.size W q1 ps ∧ ∃ lo' hi', Its W lo' hi' q2 [] := hG 3
  simp only [Value.tuple.injEq, Array.mk.injEq, List.cons.injEq, and_true] at hxy
  obtain ⟨rfl, rfl⟩ := hxy
  have kW := k0.trans hW
  have hZW := hZ.kept hW (fun h => h)
  have bLW := BL.out.kept hW (fun h => h)
  have hlt := hid hZ.lt
  have hle := hid k0.size
  clear hG hs hW k0 hZ BL HV1 HS HD
  have hall := pfC_one (p := ⟨ps, 1, zeroIt⟩) p3
  have HALL := hid hall
  clear hall r3 bLW
  go_wp2_with (first | (refine wpList_store_blk rfl _ _ _ rfl rfl rfl hZW aP66 hz HALL.out ?_; intro w9 hR9 k9) | fail)
  exact bodyPost_ret (v := pfV (.slice a3 ps.length c3) ⟨ps, 1, zeroIt⟩) (results_blk rfl _ rfl hR9 aP66) rfl ⟨_, rfl, kW.then k9 (fun i hi (h : i = w.heap.size + 1) => by omega), (p3.keptS k9 (fun k h1 h => by have := hlt.out; have h : k = w.heap.size + 1 := h; omega)).mono hle.out⟩

set_option maxRecDepth 100000 in
set_option maxHeartbeats 1000000 in
theorem make_here (l : List It) (x : It) (i : List UInt8) (ps : List (List UInt8)) (v : Value) (lo hi : Nat) (w : World) (hv : Its w lo hi v l) (hl : l.length ≤ 549755813888) (hi32 : i.length = 32) (hd : downI 256 (setI l) i 0 = (ps, [x])) (hx : x.i = i) :
    Calls Try.prog 57 #[v, hashV i] w fun e w' => ∃ u, e = .returned (pfV u ⟨ps, 0, x⟩) ∧ Kept None w w' ∧ Rh w.heap.size w' u ps := by
  have hD : ∀ v lo hi w, Its w lo hi v (setI l) → Calls Try.prog 102 #[v, .agg (i.map u8v).toArray, .int .i64 0] w fun e w' => ∃ u r, e = .returned (.tuple #[u, r]) ∧ Kept None w w' ∧ Rh w.heap.size w' u ps ∧ Its w' lo hi r [x] := fun v lo hi w h => by
    have h2 := down i hi32 256 (setI l) 0 v lo hi w h (srt_setI l) (fun _ _ _ _ k hk => by omega) (by omega) (by omega) (by omega) (Nat.le_trans (len_setI l) hl)
    rw [hd] at h2
    exact h2
  have hS : ∀ w, Its w lo hi v l → Calls Try.prog 103 #[v, .slice none 0 0] w _ := fun w h => Tr.set v (.slice none 0 0) lo hi 0 0 l [] w h (Its.nil _ _ _) (by simpa using (by omega : l.length ≤ 1099511627776))
  rw [List.append_nil] at hS
  have aL := aH32 hi32
  have hR := fun f : downI 256 (setI l) i 0 = (ps, [x]) => downI_rest 256 (setI l) i 0 x (by rw [f]; exact List.mem_cons_self ..)
  have hx32 : x.i.length = 32 ∧ x.v.length = 32 := full_setI hv.1 x (hR hd).1
  have aX := aH32' hx32.1
  have aY := aI64' hx32
  have hE := Tr.eqHash x.i i hx32.1 hi32
  rw [show (x.i == i) = true by simpa using hx] at hE
  show Calls Try.prog 57 #[v, .agg (i.map u8v).toArray] w _
  obtain ⟨L, hL⟩ : ∃ L : Array Value, L = (i.map u8v).toArray := ⟨_, rfl⟩
  rw [← hL] at hD aL ⊢
  rw [← hL] at hE
  obtain ⟨CI, hCI⟩ : ∃ CI : List Value, CI = x.i.map u8v := ⟨_, rfl⟩
  obtain ⟨CX, hCX⟩ : ∃ CX : List Value, CX = itC x := ⟨_, rfl⟩
  rw [← hCI] at hE aX
  rw [← hCX] at aY
  have HD := hid hD
  have HS := hid hS
  have HV := hid hv
  have k0 : Kept None w ((w.alloc (.cells L 23)).alloc (.cells Try.zeroCells63 63)) := ((Kept.refl _ _).alloc _).alloc _
  have bL : Blk ((w.alloc (.cells L 23)).alloc (.cells Try.zeroCells63 63)) w.heap.size L 23 := (Blk.new w _ _).alloc _
  have v0 : Blk ((w.alloc (.cells L 23)).alloc (.cells Try.zeroCells63 63)) (w.heap.size + 1) Try.zeroCells63 63 := Blk.new2 w _ _ _
  obtain ⟨z, hz, hZ⟩ := Blk.any (n := 66) v0 (by rfl)
  obtain ⟨a, cap, rfl, g1, g2, g3⟩ := hv.form
  have HX := hid (And.intro hCI hCX)
  have HX32 := hid hx32
  clear hCI hCX
  clear hD hS hv hd v0 g3 hL hx hR hx32
  go_enter Try.func57, Try.ntmps57
  go_wp2_with fail
  refine wp_nm ?_
  intro w1 e1
  rw [← e1] at k0 bL hZ
  clear e1
  have hv1 := HV.out.kept k0 (fun _ _ _ h => h)
  have BL := hid bL
  have HV1 := hid hv1
  clear bL hv1
  have hs : Steady [.its 1 (setI l), .way 3 w1.heap.size ps [x] [1]] := Steady.its (Steady.way (Steady.nil))
  refine wp_region_kn w1 _ hs (Kept.refl _ _) (by kernel_rfl) (by kernel_rfl) (by kernel_rfl) ?_
  iterate 1 (refine wpPar_pure rfl (by rfl) _ (fun W hW => by
      go_simp
      exact rfl) ?_; simp only [Act.put, List.setIfInBounds_toArray, List.set_cons_zero, List.set_cons_succ])
  refine wpKn_adds hs rfl (by rfl) (fun W hW hd => ?_) (fun v1 hv => ?_)
  · unfold Gives
    go_simp
    refine gives_call (HS.out W (HV1.out.kept hW (fun _ _ _ h => h))) ?_
    rintro e w3 ⟨u, rfl, b3, k3⟩
    obtain ⟨a3, c3, rfl⟩ := b3.form
    exact ⟨_, rfl, k3, ⟨_, _, rfl⟩, _, _, b3.its (Nat.le_refl _)⟩
  obtain ⟨a1, c1, rfl⟩ : ∃ a c, v1 = .slice a (setI l).length c := hv
  simp only [Act.put, List.setIfInBounds_toArray, List.set_cons_zero, List.set_cons_succ]
  refine wpPar_pure rfl (by rfl) _ (fun W hW => exec_load_blk _ _ rfl rfl (BL.out.kept hW (fun h => h)) aL) ?_; simp only [Act.put, List.setIfInBounds_toArray, List.set_cons_zero, List.set_cons_succ]
  refine wpKn_adds hs rfl (by rfl) (fun W hW hd => ?_) (fun v3 hv => ?_)
  · unfold Gives
    obtain ⟨lo1, hi1, h1⟩ : ∃ lo hi, Its W lo hi (.slice a1 (setI l).length c1) (setI l) := hd 1 (List.Mem.head _)
    go_simp
    refine gives_call (HD.out _ _ _ _ h1) ?_
    rintro e w3 ⟨u, r, rfl, k3, p3, r3⟩
    obtain ⟨a3, c3, rfl⟩ := p3.form
    obtain ⟨b3, d3, rfl, _, _, _⟩ := r3.form
    exact ⟨_, rfl, k3, ⟨_, _, _, _, rfl⟩, _, _, rfl, p3.mono hW.size, _, _, r3⟩
  obtain ⟨a3, c3, b3, d3, rfl⟩ : ∃ a c b d, v3 = .tuple #[.slice a ps.length c, .slice b 1 d] := hv
  simp only [Act.put, List.setIfInBounds_toArray, List.set_cons_zero, List.set_cons_succ]
  iterate 5 (refine wpPar_pure rfl (by rfl) _ (fun W hW => by
      go_simp
      exact rfl) ?_; simp only [Act.put, List.setIfInBounds_toArray, List.set_cons_zero, List.set_cons_succ])
  refine wpPar_nil (fun W hW hG => ?_)
  obtain ⟨x3, y3, hxy, p3, lo3, hi3, r3⟩ : ∃ q1 q2, Value.tuple #[.slice a3 ps.length c3, .slice b3 1 d3] = .tuple #[q1, q2] ∧ Rh w1.heap.size W q1 ps ∧ ∃ lo' hi', Its W lo' hi' q2 [x] := hG 3
  simp only [Value.tuple.injEq, Array.mk.injEq, List.cons.injEq, and_true] at hxy
  obtain ⟨rfl, rfl⟩ := hxy
  have kW := k0.trans hW
  have hZW := hZ.kept hW (fun h => h)
  have bLW := BL.out.kept hW (fun h => h)
  have hlt := hid hZ.lt
  have hle := hid k0.size
  clear hG hs hW k0 hZ BL HV1 HS HD
  have hall := pfC_one (p := ⟨ps, 0, x⟩) p3
  have HALL := hid hall
  have HB := hid (fun W => build_proof W a3 ps.length c3 0 x HX32.out ps)
  obtain ⟨b, o, rfl, _, _, _, hc⟩ := r3.ne (by simp)
  have rX := hc 0 x rfl
  have rI := rangeAt_take rX 32
  rw [show (itC x).take 32 = x.i.map u8v from List.take_left' (by simp [HX32.out.1]), ← HX.out.1] at rI
  rw [← HX.out.2] at rX
  simp only [Nat.zero_mul, Nat.add_zero] at rI rX
  rw [← HX.out.2] at HB
  have RI := hid rI
  have BLW := hid bLW
  clear hall r3 bLW hc rI
  go_wp2_with fail
  have hs : Steady [] := Steady.nil
  refine wp_region_kn W _ hs (Kept.refl _ _) (by kernel_rfl) (by kernel_rfl) (by kernel_rfl) ?_
  iterate 3 (refine wpPar_pure rfl (by rfl) _ (fun W hW => by
      go_simp
      exact rfl) ?_; simp only [Act.put, List.setIfInBounds_toArray, List.set_cons_zero, List.set_cons_succ])
  refine wpPar_pure rfl (by rfl) _ (fun W hW => exec_load_at rfl rfl (rangeAt_kept RI.out hW) aX) ?_; simp only [Act.put, List.setIfInBounds_toArray, List.set_cons_zero, List.set_cons_succ]
  refine wpPar_pure rfl (by rfl) _ (fun W hW => exec_load_blk _ _ rfl rfl (BLW.out.kept hW (fun h => h)) aL) ?_; simp only [Act.put, List.setIfInBounds_toArray, List.set_cons_zero, List.set_cons_succ]
  iterate 1 (refine wpPar_pure rfl (by rfl) _ (fun W hW => by
      go_simp
      exact rfl) ?_; simp only [Act.put, List.setIfInBounds_toArray, List.set_cons_zero, List.set_cons_succ])
  refine wpPar_nil (fun W2 hW2 hG => ?_)
  have kW2 := kW.trans hW2
  have hZ2 := hZW.kept hW2 (fun h => h)
  have p32 := p3.kept hW2
  have rX2 := rangeAt_kept rX hW2
  have PP := hid p32
  have aPx : AggTy Try.prog 63 (pfC (.slice a3 ps.length c3) ⟨ps, 0, x⟩).toArray.size := by rw [show (pfC (.slice a3 ps.length c3) ⟨ps, 0, x⟩).toArray.size = 66 by simp [pfC, itC_len HX32.out]]; exact aP66
  have E := hid (hz.trans (show 66 = (pfC (.slice a3 ps.length c3) ⟨ps, 0, x⟩).toArray.size by simp [pfC, itC_len HX32.out]))
  clear hG hs hW2 hZW p3 rX kW hz hE p32 RI BLW
  go_wp2_with (first | (refine wpList_load_at rfl _ _ rfl rfl rX2 aY ?_; refine wpList_build_run (vs := #[(0, .slice a3 ps.length c3), (1, .int .i64 0), (2, .agg CX.toArray)]) rfl rfl (by simp only [List.map_toArray, List.map_cons, List.map_nil]; rfl) (HB.out W2) ?_) | (refine wpList_store_blk rfl _ _ _ rfl rfl rfl hZ2 aPx E.out HALL.out ?_; intro w9 hR9 k9) | fail)
  exact bodyPost_ret (v := pfV (.slice a3 ps.length c3) ⟨ps, 0, x⟩) (results_blk rfl _ rfl hR9 aPx) rfl ⟨_, rfl, kW2.then k9 (fun i hi (h : i = w.heap.size + 1) => by omega), (PP.out.keptS k9 (fun k h1 h => by have := hlt.out; have h : k = w.heap.size + 1 := h; omega)).mono hle.out⟩

set_option maxRecDepth 100000 in
set_option maxHeartbeats 1000000 in
theorem make_other (l : List It) (x : It) (i : List UInt8) (ps : List (List UInt8)) (v : Value) (lo hi : Nat) (w : World) (hv : Its w lo hi v l) (hl : l.length ≤ 549755813888) (hi32 : i.length = 32) (hd : downI 256 (setI l) i 0 = (ps, [x])) (hx : x.i ≠ i) :
    Calls Try.prog 57 #[v, hashV i] w fun e w' => ∃ u, e = .returned (pfV u ⟨ps, 2, x⟩) ∧ Kept None w w' ∧ Rh w.heap.size w' u ps := by
  have hD : ∀ v lo hi w, Its w lo hi v (setI l) → Calls Try.prog 102 #[v, .agg (i.map u8v).toArray, .int .i64 0] w fun e w' => ∃ u r, e = .returned (.tuple #[u, r]) ∧ Kept None w w' ∧ Rh w.heap.size w' u ps ∧ Its w' lo hi r [x] := fun v lo hi w h => by
    have h2 := down i hi32 256 (setI l) 0 v lo hi w h (srt_setI l) (fun _ _ _ _ k hk => by omega) (by omega) (by omega) (by omega) (Nat.le_trans (len_setI l) hl)
    rw [hd] at h2
    exact h2
  have hS : ∀ w, Its w lo hi v l → Calls Try.prog 103 #[v, .slice none 0 0] w _ := fun w h => Tr.set v (.slice none 0 0) lo hi 0 0 l [] w h (Its.nil _ _ _) (by simpa using (by omega : l.length ≤ 1099511627776))
  rw [List.append_nil] at hS
  have aL := aH32 hi32
  have hR := fun f : downI 256 (setI l) i 0 = (ps, [x]) => downI_rest 256 (setI l) i 0 x (by rw [f]; exact List.mem_cons_self ..)
  have hx32 : x.i.length = 32 ∧ x.v.length = 32 := full_setI hv.1 x (hR hd).1
  have aX := aH32' hx32.1
  have aY := aI64' hx32
  have hE := Tr.eqHash x.i i hx32.1 hi32
  rw [show (x.i == i) = false by simpa using hx] at hE
  show Calls Try.prog 57 #[v, .agg (i.map u8v).toArray] w _
  obtain ⟨L, hL⟩ : ∃ L : Array Value, L = (i.map u8v).toArray := ⟨_, rfl⟩
  rw [← hL] at hD aL ⊢
  rw [← hL] at hE
  obtain ⟨CI, hCI⟩ : ∃ CI : List Value, CI = x.i.map u8v := ⟨_, rfl⟩
  obtain ⟨CX, hCX⟩ : ∃ CX : List Value, CX = itC x := ⟨_, rfl⟩
  rw [← hCI] at hE aX
  rw [← hCX] at aY
  have HD := hid hD
  have HS := hid hS
  have HV := hid hv
  have k0 : Kept None w ((w.alloc (.cells L 23)).alloc (.cells Try.zeroCells63 63)) := ((Kept.refl _ _).alloc _).alloc _
  have bL : Blk ((w.alloc (.cells L 23)).alloc (.cells Try.zeroCells63 63)) w.heap.size L 23 := (Blk.new w _ _).alloc _
  have v0 : Blk ((w.alloc (.cells L 23)).alloc (.cells Try.zeroCells63 63)) (w.heap.size + 1) Try.zeroCells63 63 := Blk.new2 w _ _ _
  obtain ⟨z, hz, hZ⟩ := Blk.any (n := 66) v0 (by rfl)
  obtain ⟨a, cap, rfl, g1, g2, g3⟩ := hv.form
  have HX := hid (And.intro hCI hCX)
  have HX32 := hid hx32
  clear hCI hCX
  clear hD hS hv hd v0 g3 hL hx hR hx32
  go_enter Try.func57, Try.ntmps57
  go_wp2_with fail
  refine wp_nm ?_
  intro w1 e1
  rw [← e1] at k0 bL hZ
  clear e1
  have hv1 := HV.out.kept k0 (fun _ _ _ h => h)
  have BL := hid bL
  have HV1 := hid hv1
  clear bL hv1
  have hs : Steady [.its 1 (setI l), .way 3 w1.heap.size ps [x] [1]] := Steady.its (Steady.way (Steady.nil))
  refine wp_region_kn w1 _ hs (Kept.refl _ _) (by kernel_rfl) (by kernel_rfl) (by kernel_rfl) ?_
  iterate 1 (refine wpPar_pure rfl (by rfl) _ (fun W hW => by
      go_simp
      exact rfl) ?_; simp only [Act.put, List.setIfInBounds_toArray, List.set_cons_zero, List.set_cons_succ])
  refine wpKn_adds hs rfl (by rfl) (fun W hW hd => ?_) (fun v1 hv => ?_)
  · unfold Gives
    go_simp
    refine gives_call (HS.out W (HV1.out.kept hW (fun _ _ _ h => h))) ?_
    rintro e w3 ⟨u, rfl, b3, k3⟩
    obtain ⟨a3, c3, rfl⟩ := b3.form
    exact ⟨_, rfl, k3, ⟨_, _, rfl⟩, _, _, b3.its (Nat.le_refl _)⟩
  obtain ⟨a1, c1, rfl⟩ : ∃ a c, v1 = .slice a (setI l).length c := hv
  simp only [Act.put, List.setIfInBounds_toArray, List.set_cons_zero, List.set_cons_succ]
  refine wpPar_pure rfl (by rfl) _ (fun W hW => exec_load_blk _ _ rfl rfl (BL.out.kept hW (fun h => h)) aL) ?_; simp only [Act.put, List.setIfInBounds_toArray, List.set_cons_zero, List.set_cons_succ]
  refine wpKn_adds hs rfl (by rfl) (fun W hW hd => ?_) (fun v3 hv => ?_)
  · unfold Gives
    obtain ⟨lo1, hi1, h1⟩ : ∃ lo hi, Its W lo hi (.slice a1 (setI l).length c1) (setI l) := hd 1 (List.Mem.head _)
    go_simp
    refine gives_call (HD.out _ _ _ _ h1) ?_
    rintro e w3 ⟨u, r, rfl, k3, p3, r3⟩
    obtain ⟨a3, c3, rfl⟩ := p3.form
    obtain ⟨b3, d3, rfl, _, _, _⟩ := r3.form
    exact ⟨_, rfl, k3, ⟨_, _, _, _, rfl⟩, _, _, rfl, p3.mono hW.size, _, _, r3⟩
  obtain ⟨a3, c3, b3, d3, rfl⟩ : ∃ a c b d, v3 = .tuple #[.slice a ps.length c, .slice b 1 d] := hv
  simp only [Act.put, List.setIfInBounds_toArray, List.set_cons_zero, List.set_cons_succ]
  iterate 5 (refine wpPar_pure rfl (by rfl) _ (fun W hW => by
      go_simp
      exact rfl) ?_; simp only [Act.put, List.setIfInBounds_toArray, List.set_cons_zero, List.set_cons_succ])
  refine wpPar_nil (fun W hW hG => ?_)
  obtain ⟨x3, y3, hxy, p3, lo3, hi3, r3⟩ : ∃ q1 q2, Value.tuple #[.slice a3 ps.length c3, .slice b3 1 d3] = .tuple #[q1, q2] ∧ Rh w1.heap.size W q1 ps ∧ ∃ lo' hi', Its W lo' hi' q2 [x] := hG 3
  simp only [Value.tuple.injEq, Array.mk.injEq, List.cons.injEq, and_true] at hxy
  obtain ⟨rfl, rfl⟩ := hxy
  have kW := k0.trans hW
  have hZW := hZ.kept hW (fun h => h)
  have bLW := BL.out.kept hW (fun h => h)
  have hlt := hid hZ.lt
  have hle := hid k0.size
  clear hG hs hW k0 hZ BL HV1 HS HD
  have hall := pfC_one (p := ⟨ps, 2, x⟩) p3
  have HALL := hid hall
  have HB := hid (fun W => build_proof W a3 ps.length c3 2 x HX32.out ps)
  obtain ⟨b, o, rfl, _, _, _, hc⟩ := r3.ne (by simp)
  have rX := hc 0 x rfl
  have rI := rangeAt_take rX 32
  rw [show (itC x).take 32 = x.i.map u8v from List.take_left' (by simp [HX32.out.1]), ← HX.out.1] at rI
  rw [← HX.out.2] at rX
  simp only [Nat.zero_mul, Nat.add_zero] at rI rX
  rw [← HX.out.2] at HB
  have RI := hid rI
  have BLW := hid bLW
  clear hall r3 bLW hc rI
  go_wp2_with fail
  have hs : Steady [] := Steady.nil
  refine wp_region_kn W _ hs (Kept.refl _ _) (by kernel_rfl) (by kernel_rfl) (by kernel_rfl) ?_
  iterate 3 (refine wpPar_pure rfl (by rfl) _ (fun W hW => by
      go_simp
      exact rfl) ?_; simp only [Act.put, List.setIfInBounds_toArray, List.set_cons_zero, List.set_cons_succ])
  refine wpPar_pure rfl (by rfl) _ (fun W hW => exec_load_at rfl rfl (rangeAt_kept RI.out hW) aX) ?_; simp only [Act.put, List.setIfInBounds_toArray, List.set_cons_zero, List.set_cons_succ]
  refine wpPar_pure rfl (by rfl) _ (fun W hW => exec_load_blk _ _ rfl rfl (BLW.out.kept hW (fun h => h)) aL) ?_; simp only [Act.put, List.setIfInBounds_toArray, List.set_cons_zero, List.set_cons_succ]
  iterate 1 (refine wpPar_pure rfl (by rfl) _ (fun W hW => by
      go_simp
      exact rfl) ?_; simp only [Act.put, List.setIfInBounds_toArray, List.set_cons_zero, List.set_cons_succ])
  refine wpPar_nil (fun W2 hW2 hG => ?_)
  have kW2 := kW.trans hW2
  have hZ2 := hZW.kept hW2 (fun h => h)
  have p32 := p3.kept hW2
  have rX2 := rangeAt_kept rX hW2
  have PP := hid p32
  have aPx : AggTy Try.prog 63 (pfC (.slice a3 ps.length c3) ⟨ps, 2, x⟩).toArray.size := by rw [show (pfC (.slice a3 ps.length c3) ⟨ps, 2, x⟩).toArray.size = 66 by simp [pfC, itC_len HX32.out]]; exact aP66
  have E := hid (hz.trans (show 66 = (pfC (.slice a3 ps.length c3) ⟨ps, 2, x⟩).toArray.size by simp [pfC, itC_len HX32.out]))
  clear hG hs hW2 hZW p3 rX kW hz hE p32 RI BLW
  go_wp2_with (first | (refine wpList_load_at rfl _ _ rfl rfl rX2 aY ?_; refine wpList_build_run (vs := #[(0, .slice a3 ps.length c3), (1, .int .i64 2), (2, .agg CX.toArray)]) rfl rfl (by simp only [List.map_toArray, List.map_cons, List.map_nil]; rfl) (HB.out W2) ?_) | (refine wpList_store_blk rfl _ _ _ rfl rfl rfl hZ2 aPx E.out HALL.out ?_; intro w9 hR9 k9) | fail)
  exact bodyPost_ret (v := pfV (.slice a3 ps.length c3) ⟨ps, 2, x⟩) (results_blk rfl _ rfl hR9 aPx) rfl ⟨_, rfl, kW2.then k9 (fun i hi (h : i = w.heap.size + 1) => by omega), (PP.out.keptS k9 (fun k h1 h => by have := hlt.out; have h : k = w.heap.size + 1 := h; omega)).mono hle.out⟩

end Pr
end Go.Proofs.Ytidegffdhpdhjaa
