/- postmarklaw2.SpongeBlocks: true. -/
import Derived.Test.YtffmblafpkdhlaaKnown2
import Derived.Test.YtffmblafpkdhlaaApp
namespace Go.Proofs.Ytffmblafpkdhlaa
open Go.RowKit Go.Pm

abbrev Z32 : Array Value := #[.int .u8 0, .int .u8 0, .int .u8 0, .int .u8 0, .int .u8 0, .int .u8 0, .int .u8 0, .int .u8 0, .int .u8 0, .int .u8 0, .int .u8 0, .int .u8 0, .int .u8 0, .int .u8 0, .int .u8 0, .int .u8 0, .int .u8 0, .int .u8 0, .int .u8 0, .int .u8 0, .int .u8 0, .int .u8 0, .int .u8 0, .int .u8 0, .int .u8 0, .int .u8 0, .int .u8 0, .int .u8 0, .int .u8 0, .int .u8 0, .int .u8 0, .int .u8 0]
/-- The calls: sums by value; the byte 1 laid behind the bytes, twice. -/
def planBlocks (r q z m x : List UInt8) : List Fct :=
  [{ k := 4, uses := [], pure := fun v => v = hashV r },
   { k := 9, uses := [], pure := fun v => v = hashV q },
   { k := 17, uses := [], fact := fun v W => ∃ lo hi, Bs W lo hi v m },
   { k := 18, uses := [17], fact := fun v W => ∃ lo hi, Bs W lo hi v x },
   { k := 19, uses := [18], pure := fun v => v = hashV z },
   { k := 24, uses := [], fact := fun v W => ∃ lo hi, Bs W lo hi v m },
   { k := 25, uses := [24], fact := fun v W => ∃ lo hi, Bs W lo hi v x },
   { k := 26, uses := [25], pure := fun v => v = hashV z }]
theorem planBlocks_pure {r q z m x : List UInt8} : ∀ f ∈ planBlocks r q z m x, ∃ v, f.pure v := by
  intro f hf
  simp only [planBlocks, List.mem_cons, List.not_mem_nil, or_false] at hf
  rcases hf with rfl | rfl | rfl | rfl | rfl | rfl | rfl | rfl <;> first | exact ⟨_, rfl⟩ | exact ⟨undef, trivial⟩
theorem planBlocks_keeps {base : World → Prop} {r q z m x : List UInt8} {i : Nat} {W W' : World} (hk : Kept None W W') : (planOf base (planBlocks r q z m x)).keeps i W W' := by
  refine keeps_all fun f hf u hu => ?_
  simp only [planBlocks, List.mem_cons, List.not_mem_nil, or_false] at hf
  rcases hf with rfl | rfl | rfl | rfl | rfl | rfl | rfl | rfl
  all_goals first
    | exact trivial
    | (obtain ⟨lo, hi, h⟩ := hu; exact ⟨lo, hi, h.kept hk (fun _ _ _ h => h)⟩)

set_option maxHeartbeats 4000000 in
theorem spongeBlocks (n c : Int) (w : World) (n0 : 0 ≤ n) (n1 : n < 256) (c0 : 0 ≤ c) (c1 : c < 256) :
    Calls Try.prog 4 #[.int .u8 n, .int .u8 c] w fun e w' => e = .returned (.bool true) ∧ Kept None w w' := by
  obtain ⟨K, hK, hnK⟩ : ∃ K : Nat, K < 40 ∧ n % 40 = K := ⟨(n % 40).toNat, by omega, by omega⟩
  obtain ⟨i0, hi0, hz0, hz1, hz2⟩ := info_parts infoByte
  have hmk : ∀ W, (Instr.makeSlice 24 (.int .i64 ((K : Int) + 1)) (.int .i64 ((K : Int) + 1))).run Try.prog W = .ok (.slice (some ⟨W.heap.size, 0, none⟩) (K + 1) (K + 1)) (W.alloc (.cells (madeCells (Value.cells (.int .u8 0)) (K + 1)) 5)) := fun W => by
    have := run_makeSlice (P := Try.prog) W 24 5 i0 (.int .u8 0) tBytes' hi0 hz0 .i64 .i64 ((K : Int) + 1) ((K : Int) + 1) (by omega) (Int.le_refl _) (by rw [hz1]; omega) (by rw [hz2]; omega) (by omega)
    rw [show ((K : Int) + 1).toNat = K + 1 by omega, hz1, Nat.mul_one] at this
    exact this
  have hmc : (madeCells (Value.cells (.int .u8 0)) (K + 1)).size = K + 1 := by simp [madeCells]
  obtain ⟨M, hM⟩ : ∃ M, M = madeCells (Value.cells (.int .u8 0)) (K + 1) := ⟨_, rfl⟩
  rw [← hM] at hmc
  simp only [← hM] at hmk
  have HMC := hid hmc
  clear hmc hM hi0 hz0 hz1 hz2
  go_enter Try.func4, Try.ntmps4
  go_wp2_with fail
  refine (known _).mono ?_
  rintro e1 w1 ⟨rfl, k1⟩
  go_wp2
  have hB0 := Blk.new w1 M 5
  have k2 := k1.alloc (.cells M 5)
  have hlw := k1.size
  clear k1
  go_loopw [7] (fun i wr => ∃ k : Nat, k ≤ K + 1 ∧ i = .int .i64 k ∧ Kept None w wr ∧ ∃ cs : Array Value, Blk wr w1.heap.size cs 5 ∧ cs.size = K + 1 ∧ ∀ j, j < k → cs[j]? = some (.int .u8 c)) (fun i _ => K + 1 - (intOf i).toNat)
  case atStart => exact ⟨0, Nat.zero_le _, rfl, k2, M, hB0, HMC.out, fun j h => by omega⟩
  case round =>
    clear hB0 k2
    obtain ⟨k, hk, rfl, hkk, cs, hB, hcs, hj⟩ := hrel
    by_cases hlt : k < K + 1
    · obtain ⟨y, hy⟩ : ∃ y, wr.cell? ⟨w1.heap.size, k, none⟩ = some y := ⟨_, (hB.cell k).trans (by rw [Array.getElem?_eq_getElem (by omega)])⟩
      have fy := hB.free k
      have hB2 := hB.set k (.int .u8 c)
      have kB := Kept.one wr w1.heap.size k (.int .u8 c)
      have hfin : (cs.setIfInBounds k (.int .u8 c)).size = K + 1 ∧ ∀ j, j < k + 1 → (cs.setIfInBounds k (.int .u8 c))[j]? = some (.int .u8 c) := by
        refine ⟨by simpa using hcs, fun j h => ?_⟩
        rw [Array.getElem?_setIfInBounds]
        by_cases e : k = j
        · rw [if_pos e, if_pos (by omega)]
        · rw [if_neg e]; exact hj j (by omega)
      have HF := hid hfin
      have hk3 : Kept None w (wr.setCell ⟨w1.heap.size, k, none⟩ (.int .u8 c)) := hkk.then kB (fun i hi (h : i = w1.heap.size) => by omega)
      clear hfin hj hcs hB kB hkk
      go_wp2
      go_roundw
      case rel => exact ⟨k + 1, by omega, by go_num, hk3, _, hB2, HF.out.1, HF.out.2⟩
      case measure => simp [intOf]; omega
    · have hk' : k = K + 1 := by omega
      subst hk'
      have hbs : Bs wr w1.heap.size (w1.heap.size + 1) (.slice (some ⟨w1.heap.size, 0, none⟩) (K + 1) (K + 1)) (List.replicate (K + 1) (Go.Pm.byteOf c)) := by
        refine ⟨some ⟨w1.heap.size, 0, none⟩, K + 1, by simp, by simp, by unfold maxLen; omega, (fun h => by cases h), fun ad had i x hx => ?_⟩
        obtain rfl := Option.some.inj had
        refine ⟨Nat.le_refl _, Nat.lt_succ_self _, ?_⟩
        rw [Addr.add_lit, Nat.zero_add, hB.cell]
        have hi := (List.getElem?_eq_some_iff.1 hx).1
        simp at hi
        rw [hj i hi]
        rw [List.getElem?_map, List.getElem?_replicate, if_pos hi, Option.map_some, u8v_byteOf' c0 c1] at hx
        exact hx
      obtain ⟨a1, s1, p1⟩ := slice_to tBytes zBytes hbs .i64 (K : Int) (by omega) (by omega)
      rw [Int.toNat_natCast, ← List.map_take, List.take_replicate, Nat.min_eq_left (by omega)] at p1
      rw [Int.toNat_natCast] at s1
      have s3 : ∀ W, (Instr.slice 24 (.slice (some ⟨w1.heap.size, 0, none⟩) (K + 1) (K + 1)) none (some (.int .i64 (K : Int))) (some (.int .i64 (K : Int)))).run Try.prog W = .ok (.slice (some ⟨w1.heap.size, 0, none⟩) K K) W := fun W => by
        rw [run_slice_hm (P := Try.prog) W 24 (some ⟨w1.heap.size, 0, none⟩) (K + 1) (K + 1) tBytes .i64 .i64 (K : Int) (K : Int) (by omega) (Int.le_refl _) (by omega), zBytes]
        simp [Result.andThen, Go.sliced, Addr.add_zero']
      have p3 : Bs wr w1.heap.size (w1.heap.size + 1) (.slice (some ⟨w1.heap.size, 0, none⟩) K K) (List.replicate K (Go.Pm.byteOf c)) := by
        refine ⟨some ⟨w1.heap.size, 0, none⟩, K, by simp, by simp, by unfold maxLen; omega, (fun h => by cases h), fun ad had i x hx => ?_⟩
        obtain rfl := Option.some.inj had
        refine ⟨Nat.le_refl _, Nat.lt_succ_self _, ?_⟩
        rw [Addr.add_lit, Nat.zero_add, hB.cell]
        have hi := (List.getElem?_eq_some_iff.1 hx).1
        simp at hi
        rw [hj i (by omega)]
        rw [List.getElem?_map, List.getElem?_replicate, if_pos hi, Option.map_some, u8v_byteOf' c0 c1] at hx
        exact hx
      obtain ⟨bk, hbk⟩ : ∃ bk, bk = List.replicate K (Go.Pm.byteOf c) := ⟨_, rfl⟩
      obtain ⟨bf, hbf⟩ : ∃ bf, bf = List.replicate (K + 1) (Go.Pm.byteOf c) := ⟨_, rfl⟩
      have hbkl : bk.length = K := by rw [hbk]; simp
      have hbfl : bf.length = K + 1 := by rw [hbf]; simp
      rw [← hbk] at p3
      rw [← hbf] at hbs
      have p1' : Bs wr w1.heap.size (w1.heap.size + 1) (.slice a1 K (K + 1)) bk := by rw [hbk]; exact p1
      -- what the calls come to, under names
      have t1 := fun v lo hi w h => Sp.sum v lo hi bk w h
      have t2 := fun v lo hi w h => Sp.sum v lo hi bf w h
      have t3 := fun v lo hi w h => Ref.sum v lo hi bk w h (by omega)
      have t4 := fun v lo hi w h => Ref.sum v lo hi bf w h (by omega)
      have t5 := fun v lo hi w h => Sp.sum v lo hi (bk ++ [1]) w h
      have t6 := fun v lo hi w h => Ref.sum v lo hi (bk ++ [1]) w h (by simp; omega)
      have l1 := sumB_len bk
      have l2 := sumB_len bf
      have l3 := sumB_len (bk ++ [1])
      obtain ⟨r, hr⟩ : ∃ r, r = sumB bk := ⟨_, rfl⟩
      obtain ⟨q, hq⟩ : ∃ q, q = sumB bf := ⟨_, rfl⟩
      obtain ⟨z, hz⟩ : ∃ z, z = sumB (bk ++ [1]) := ⟨_, rfl⟩
      rw [← hr] at t1 t3 l1
      rw [← hq] at t2 t4 l2
      rw [← hz] at t5 t6 l3
      have e1 := eqHash r r l1 l1
      have e2 := eqHash q q l2 l2
      have e3 := eqHash z z l3 l3
      have g1 := gHash
      simp only [beq_self_eq_true] at e1 e2 e3
      have C := hid (And.intro t1 (And.intro t2 (And.intro t3 (And.intro t4 (And.intro t5 t6)))))
      have er : Z32.size = (r.map u8v).toArray.size := by simp [l1]
      have eq : Z32.size = (q.map u8v).toArray.size := by simp [l2]
      have aR : AggTy Try.prog 29 (r.map u8v).toArray.size := by rw [← er]; exact Sp.aH
      have aQ : AggTy Try.prog 29 (q.map u8v).toArray.size := by rw [← eq]; exact Sp.aH
      have ER := hid (And.intro er eq)
      have hgw := hB.lt
      have BL := hid hbkl
      clear t1 t2 t3 t4 t5 t6 l1 l2 l3 hr hq hz er eq hbk hbf hj hcs hB p1 hbfl BL hmk HMC hnK
      subst hbkl
      go_wp2_with fail
      refine (C.out.1 _ _ _ wr p1').mono ?_
      rintro e w2 ⟨rfl, k2⟩
      have hbs2 := hbs.kept k2 (fun _ _ _ h => h)
      go_wp2_with fail
      refine (C.out.2.1 _ _ _ w2 hbs2).mono ?_
      rintro e w3 ⟨rfl, k3⟩
      have k23 := k2.trans k3
      have kk3 := hkk.then k23 (fun _ _ h => h)
      have hlr := k23.size
      have q1 := p1'.kept k23 (fun _ _ _ h => h)
      have q2 := hbs.kept k23 (fun _ _ _ h => h)
      have q3 := p3.kept k23 (fun _ _ _ h => h)
      have hb8 : Blk ((w3.alloc (.cells Z32 29)).alloc (.cells Z32 29)) w3.heap.size Z32 29 := (Blk.new w3 _ _).alloc _
      have hb9 : Blk ((w3.alloc (.cells Z32 29)).alloc (.cells Z32 29)) (w3.heap.size + 1) Z32 29 := Blk.new2 w3 _ _ _
      have ka : Kept None w3 ((w3.alloc (.cells Z32 29)).alloc (.cells Z32 29)) := ((Kept.refl _ _).alloc _).alloc _
      have hg3 : w1.heap.size < w3.heap.size := by omega
      clear hbs2 k2 k3 k23 hkk p1' hbs p3
      go_wp2_with (first | (refine wpList_store_blk rfl _ _ _ rfl rfl rfl hb8 aR ER.out.1 (u8v_all _) ?_; intro w4 b8 k8; have b9 := hb9.kept k8 (fun (h : w3.heap.size + 1 = w3.heap.size) => by omega)) | (refine wpList_store_blk rfl _ _ _ rfl rfl rfl b9 aQ ER.out.2 (u8v_all _) ?_; intro w5 b10 k9) | fail)
      have b11 := b8.kept k9 (fun (h : w3.heap.size = w3.heap.size + 1) => by omega)
      have kk5 : Kept None w w5 := ((kk3.trans ka).then k8 (fun i hi (h : i = w3.heap.size) => by have := kk3.size; omega)).then k9 (fun i hi (h : i = w3.heap.size + 1) => by have := kk3.size; omega)
      have r1 := ((q1.kept ka (fun _ _ _ h => h)).kept k8 (fun i h1 h2 (h : i = w3.heap.size) => by omega)).kept k9 (fun i h1 h2 (h : i = w3.heap.size + 1) => by omega)
      have r2 := ((q2.kept ka (fun _ _ _ h => h)).kept k8 (fun i h1 h2 (h : i = w3.heap.size) => by omega)).kept k9 (fun i h1 h2 (h : i = w3.heap.size + 1) => by omega)
      have r3 := ((q3.kept ka (fun _ _ _ h => h)).kept k8 (fun i h1 h2 (h : i = w3.heap.size) => by omega)).kept k9 (fun i h1 h2 (h : i = w3.heap.size + 1) => by omega)
      clear kk3 q1 q2 q3 hb8 hb9 ka b8 b9 k8 k9
      have R1 := hid (And.intro r1 (And.intro r2 r3))
      clear r1 r2 r3
      refine wp_region_plan (Kept None w5) (planBlocks r q z [1] (bk ++ [1])) [] (by kernel_rfl) (by kernel_rfl) (by kernel_rfl) rfl planBlocks_pure (Kept.refl _ _).drew (fun j hj => by cases hj) ?_
      refine wpPar_pure rfl (by rfl) _ (fun W hW => exec_load_blk 29 _ rfl rfl (b11.kept hW (fun h => h)) aR) ?_
      simp only [Act.put, List.setIfInBounds_toArray, List.set_cons_zero, List.set_cons_succ]
      iterate 3 (refine wpPar_pure rfl (by rfl) _ (fun W hW => by
          go_simp
          exact rfl) ?_; simp only [Act.put, List.setIfInBounds_toArray, List.set_cons_zero, List.set_cons_succ])
      refine wpPar_adds rfl (by rfl) (fun W hW hd => ?_) (fun v hv' => ?_)
      · unfold Gives
        go_simp
        refine gives_call (C.out.2.2.1 _ _ _ W (R1.out.1.kept hW (fun _ _ _ h => h))) ?_
        rintro e w3 ⟨rfl, k3⟩
        exact ⟨_, rfl, hW.then k3 (fun _ _ h => h), rfl, trivial, planBlocks_keeps k3⟩
      obtain rfl : v = hashV r := hv'
      simp only [Act.put, List.setIfInBounds_toArray, List.set_cons_zero, List.set_cons_succ]
      iterate 2 (refine wpPar_pure rfl (by rfl) _ (fun W hW => by
          go_simp
          exact rfl) ?_; simp only [Act.put, List.setIfInBounds_toArray, List.set_cons_zero, List.set_cons_succ])
      refine wpPar_pure rfl (by rfl) _ (fun W hW => exec_load_blk 29 _ rfl rfl (b10.kept hW (fun h => h)) aQ) ?_
      simp only [Act.put, List.setIfInBounds_toArray, List.set_cons_zero, List.set_cons_succ]
      refine wpPar_pure rfl (by rfl) _ (fun W hW => by
          go_simp
          exact rfl) ?_
      simp only [Act.put, List.setIfInBounds_toArray, List.set_cons_zero, List.set_cons_succ]
      refine wpPar_adds rfl (by rfl) (fun W hW hd => ?_) (fun v hv' => ?_)
      · unfold Gives
        go_simp
        refine gives_call (C.out.2.2.2.1 _ _ _ W (R1.out.2.1.kept hW (fun _ _ _ h => h))) ?_
        rintro e w3 ⟨rfl, k3⟩
        exact ⟨_, rfl, hW.then k3 (fun _ _ h => h), rfl, trivial, planBlocks_keeps k3⟩
      obtain rfl : v = hashV q := hv'
      simp only [Act.put, List.setIfInBounds_toArray, List.set_cons_zero, List.set_cons_succ]
      iterate 7 (refine wpPar_pure rfl (by rfl) _ (fun W hW => by
          go_simp
          exact rfl) ?_; simp only [Act.put, List.setIfInBounds_toArray, List.set_cons_zero, List.set_cons_succ])
      refine wpPar_adds rfl (by rfl) (fun W hW hd => ?_) (fun v17 _ => ?_)
      · unfold Gives
        go_simp
        have hb := (Bo.new W 5 [1] #[.int .u8 1] rfl 1 rfl (by decide)).bs (hi := W.heap.size + 1) (by simp)
        exact ⟨hW.alloc _, trivial, ⟨_, _, hb⟩, planBlocks_keeps ((Kept.refl None W).alloc _)⟩
      simp only [Act.put, List.setIfInBounds_toArray, List.set_cons_zero, List.set_cons_succ]
      refine wpPar_adds rfl (by rfl) (fun W hW hd => ?_) (fun v18 _ => ?_)
      · obtain ⟨lo3, hi3, hb3⟩ : ∃ lo hi, Bs W lo hi v17 [1] := hd 17 (List.Mem.head _)
        obtain ⟨c9, w9, hr9, hb9, h91, h92, k99⟩ := run_append_new (P := Try.prog) (ty := 24) rtBytes (R1.out.2.2.kept hW (fun _ _ _ h => h)) hb3 (by decide) (by simp) (by simp; omega)
        exact gives_append (.tmp 50) (.tmp 51) 24 rfl rfl rfl hr9 ⟨hW.then k99 (fun _ _ h => h), trivial, ⟨_, _, rowB_bs hb9 h91 h92⟩, planBlocks_keeps k99⟩
      simp only [Act.put, List.setIfInBounds_toArray, List.set_cons_zero, List.set_cons_succ]
      refine wpPar_adds rfl (by rfl) (fun W hW hd => ?_) (fun v hv' => ?_)
      · obtain ⟨lo3, hi3, hb3⟩ : ∃ lo hi, Bs W lo hi v18 (bk ++ [1]) := hd 18 (List.Mem.head _)
        unfold Gives
        go_simp
        refine gives_call (C.out.2.2.2.2.1 _ _ _ W hb3) ?_
        rintro e w3 ⟨rfl, k3⟩
        exact ⟨_, rfl, hW.then k3 (fun _ _ h => h), rfl, trivial, planBlocks_keeps k3⟩
      obtain rfl : v = hashV z := hv'
      simp only [Act.put, List.setIfInBounds_toArray, List.set_cons_zero, List.set_cons_succ]
      iterate 4 (refine wpPar_pure rfl (by rfl) _ (fun W hW => by
          go_simp
          exact rfl) ?_; simp only [Act.put, List.setIfInBounds_toArray, List.set_cons_zero, List.set_cons_succ])
      refine wpPar_adds rfl (by rfl) (fun W hW hd => ?_) (fun v24 _ => ?_)
      · unfold Gives
        go_simp
        have hb := (Bo.new W 5 [1] #[.int .u8 1] rfl 1 rfl (by decide)).bs (hi := W.heap.size + 1) (by simp)
        exact ⟨hW.alloc _, trivial, ⟨_, _, hb⟩, planBlocks_keeps ((Kept.refl None W).alloc _)⟩
      simp only [Act.put, List.setIfInBounds_toArray, List.set_cons_zero, List.set_cons_succ]
      refine wpPar_adds rfl (by rfl) (fun W hW hd => ?_) (fun v25 _ => ?_)
      · obtain ⟨lo3, hi3, hb3⟩ : ∃ lo hi, Bs W lo hi v24 [1] := hd 24 (List.Mem.head _)
        obtain ⟨c9, w9, hr9, hb9, h91, h92, k99⟩ := run_append_new (P := Try.prog) (ty := 24) rtBytes (R1.out.2.2.kept hW (fun _ _ _ h => h)) hb3 (by decide) (by simp) (by simp; omega)
        exact gives_append (.tmp 57) (.tmp 58) 24 rfl rfl rfl hr9 ⟨hW.then k99 (fun _ _ h => h), trivial, ⟨_, _, rowB_bs hb9 h91 h92⟩, planBlocks_keeps k99⟩
      simp only [Act.put, List.setIfInBounds_toArray, List.set_cons_zero, List.set_cons_succ]
      refine wpPar_adds rfl (by rfl) (fun W hW hd => ?_) (fun v hv' => ?_)
      · obtain ⟨lo3, hi3, hb3⟩ : ∃ lo hi, Bs W lo hi v25 (bk ++ [1]) := hd 25 (List.Mem.head _)
        unfold Gives
        go_simp
        refine gives_call (C.out.2.2.2.2.2 _ _ _ W hb3) ?_
        rintro e w3 ⟨rfl, k3⟩
        exact ⟨_, rfl, hW.then k3 (fun _ _ h => h), rfl, trivial, planBlocks_keeps k3⟩
      obtain rfl : v = hashV z := hv'
      simp only [Act.put, List.setIfInBounds_toArray, List.set_cons_zero, List.set_cons_succ]
      iterate 3 (refine wpPar_pure rfl (by rfl) _ (fun W hW => by
          go_simp
          exact rfl) ?_; simp only [Act.put, List.setIfInBounds_toArray, List.set_cons_zero, List.set_cons_succ])
      refine wpPar_nil (fun w6 hw6 _ => ?_)
      have k6 : Kept None w w6 := kk5.trans hw6
      go_wp2
      go_ret
      exact ⟨rfl, k6⟩
end Go.Proofs.Ytffmblafpkdhlaa
