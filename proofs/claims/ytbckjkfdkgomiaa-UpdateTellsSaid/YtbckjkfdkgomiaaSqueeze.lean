/- sponge.squeeze, by its contract. -/
import Derived.Test.YtbckjkfdkgomiaaSponge
namespace Go.Proofs.Ytbckjkfdkgomiaa
open Go.RowKit Go.Pm
namespace Sp

theorem aS : AggTy Try.prog 98 5 := ⟨⟨.array 5 22, by kernel_rfl, rfl⟩, by kernel_rfl⟩
theorem aH : AggTy Try.prog 83 32 := ⟨⟨.array 32 5, by kernel_rfl, rfl⟩, by kernel_rfl⟩
/-- A state's cells. -/
abbrev sc (s : S5) : Array Value := #[.int .u64 (U s.a), .int .u64 (U s.b), .int .u64 (U s.c), .int .u64 (U s.d), .int .u64 (U s.e)]
theorem sc_all (s : S5) : (sc s).all (·.oneCell') = true := by simp [Value.oneCell']
/-- What has been squeezed so far, noughts behind it. -/
def sofar (s : S5) (k : Nat) : List Value := (eights s k).map u8v ++ List.replicate (32 - 8 * k) (.int .u8 0)

theorem sofar_zero (s : S5) : (sofar s 0).toArray = #[.int .u8 0, .int .u8 0, .int .u8 0, .int .u8 0, .int .u8 0, .int .u8 0, .int .u8 0, .int .u8 0, .int .u8 0, .int .u8 0, .int .u8 0, .int .u8 0, .int .u8 0, .int .u8 0, .int .u8 0, .int .u8 0, .int .u8 0, .int .u8 0, .int .u8 0, .int .u8 0, .int .u8 0, .int .u8 0, .int .u8 0, .int .u8 0, .int .u8 0, .int .u8 0, .int .u8 0, .int .u8 0, .int .u8 0, .int .u8 0, .int .u8 0, .int .u8 0] := rfl
theorem sofar_four (s : S5) : sofar s 4 = (eights s 4).map u8v := by unfold sofar; simp
theorem sofar_len (s : S5) (k : Nat) (hk : k ≤ 4) : (sofar s k).length = 32 := by unfold sofar; simp [eights_len]; omega
theorem zeros : ∀ n : Nat, (List.replicate n (Value.int .u8 0)).toArray = Array.replicate n (.int .u8 0) := fun n => by simp

theorem tHash : Try.prog.underlying 83 = some (.array (Try.prog.arrayLen 83) (Try.prog.elem 83)) := by kernel_rfl
theorem lHash : Try.prog.arrayLen 83 = 32 := by kernel_rfl
theorem zHash : ∀ W, (sizeOf (Try.prog.elem 83)).run Try.prog W = .ok 1 W := fun _ => by kernel_rfl
theorem cutHash (h k : Nat) (hk : k < 4) (W : World) : (Instr.sliceAt 83 (.pointer (some ⟨h, 0, none⟩)) (some (.int .i64 (8 * (k : Int)))) none none).run Try.prog W = .ok (.slice (some ⟨h, 8 * k, none⟩) (32 - 8 * k) (32 - 8 * k)) W := by
  rw [run_sliceAt_array_l W 83 ⟨h, 0, none⟩ tHash .i64 (8 * (k : Int)) (by omega) (by rw [lHash]; omega), zHash, lHash]
  have e : ((8 : Int) * (k : Int)).toNat = 8 * k := by omega
  simp only [Result.andThen, slicedAt, e]
  rw [if_neg (by omega), Nat.mul_one, Addr.add_lit, Nat.zero_add]
/-- What is known in the region that lays eight bytes into the hash: the hash's block; the bytes (operation 4); the hash behind the copy (operation 5). -/
def planSq (h H0 : Nat) (cur new : List Value) (l : List UInt8) : List Fct :=
  [{ k := 100, uses := [], fact := fun _ W => Blk W h cur.toArray 83 },
   { k := 4, uses := [], fact := fun v W => Ob W H0 v l },
   { k := 5, uses := [4, 100], spends := [100], fact := fun _ W => Blk W h new.toArray 83 }]
theorem planSq_pure {h H0 : Nat} {cur new : List Value} {l : List UInt8} : ∀ f ∈ planSq h H0 cur new l, ∃ v, f.pure v := by
  intro f hf
  simp only [planSq, List.mem_cons, List.not_mem_nil, or_false] at hf
  rcases hf with rfl | rfl | rfl <;> exact ⟨undef, trivial⟩
theorem planSq_keeps4 {base : World → Prop} {h H0 : Nat} {cur new : List Value} {l : List UInt8} {W W' : World} (hk : Kept None W W') : (planOf base (planSq h H0 cur new l)).keeps 4 W W' := by
  refine keeps_of fun f hf _ _ _ u hfu => ?_
  simp only [planSq, List.mem_cons, List.not_mem_nil, or_false] at hf
  rcases hf with rfl | rfl | rfl
  · exact Blk.kept hfu hk (fun h => h)
  · exact Bo.kept hfu hk (fun _ _ h => h)
  · exact Blk.kept hfu hk (fun h => h)
theorem planSq_keeps5 {base : World → Prop} {h H0 : Nat} {cur new : List Value} {l : List UInt8} {W W' : World} (hk : Kept (Just h) W W') (hh : h < H0) : (planOf base (planSq h H0 cur new l)).keeps 5 W W' := by
  refine keeps_of fun f hf hs _ hne u hfu => ?_
  simp only [planSq, List.mem_cons, List.not_mem_nil, or_false] at hf
  rcases hf with rfl | rfl | rfl
  · exact absurd (List.Mem.head _) hs
  · exact Bo.kept hfu hk (fun k hk' (e : k = h) => by have := (Bo.own hfu k hk').1; omega)
  · exact absurd rfl hne
theorem sofar_splice (s : S5) (k : Nat) (hk : k < 4) : splice (sofar s k) (8 * k) ((leB (U (Go.Pm.squeeze s k).a)).map u8v) = sofar s (k + 1) := by
  unfold splice sofar
  rw [List.take_left' (by simp [eights_len])]
  rw [show 8 * k + ((leB (U (Go.Pm.squeeze s k).a)).map u8v).length = ((eights s k).map u8v).length + 8 by simp [eights_len, leB_length]]
  rw [List.drop_append, List.drop_of_length_le (by simp)]
  simp only [eights, List.map_append, List.append_assoc, List.drop_replicate]
  congr 3
  simp
  omega

set_option maxHeartbeats 1000000 in
theorem sqz (s : S5) (w : World) :
    Calls Try.prog 87 #[sv s] w fun e w' => e = .returned (hashV (eights s 4)) ∧ Kept None w w' := by
  generalize hs0 : s = s0
  have HS := hid hs0
  clear hs0
  go_enter Try.func87, Try.ntmps87
  go_wp2
  go_loopw [4] (fun i wr => ∃ k : Nat, k ≤ 4 ∧ i = .int .i64 ((8 * k : Nat) : Int) ∧ Kept None w wr ∧ Blk wr w.heap.size (sc (squeeze s0 (k - 1))) 98 ∧ (∃ z : Array Value, z.size = 32 ∧ Blk wr (w.heap.size + 1) z 83) ∧
      Blk wr (w.heap.size + 1 + 1) (sofar s0 k).toArray 83) (fun i _ => 32 - (intOf i).toNat)
  case atStart =>
    refine ⟨0, by omega, rfl, (((Kept.refl _ _).alloc _).alloc _).alloc _, ?_, ⟨Array.replicate 32 (.int .u8 0), by simp, ?_⟩, ?_⟩
    · rw [← HS.out]; exact ((Blk.new _ _ _).alloc _).alloc _
    · exact (Blk.new2 _ _ _ _).alloc _
    · exact sofar_zero s0 ▸ Blk.new3 _ _ _ _ _
  case round =>
    obtain ⟨k, hk, rfl, hkk, hS, ⟨z, hz, hR⟩, hH⟩ := hrel
    have hsz := hkk.size
    by_cases h4 : k < 4
    · have hlt := hH.lt
      rcases Nat.eq_zero_or_pos k with h0 | h0
      case' inl =>
        obtain ⟨wx, hwx⟩ : ∃ wx, wx = wr := ⟨_, rfl⟩
        have hkx : Kept None w wx := by rw [hwx]; exact hkk
        have hSx : Blk wx w.heap.size (sc (Go.Pm.squeeze s0 k)) 98 := by rw [hwx, h0]; rw [h0] at hS; exact hS
        have hRx : Blk wx (w.heap.size + 1) z 83 := by rw [hwx]; exact hR
        have hHx : Blk wx (w.heap.size + 1 + 1) (sofar s0 k).toArray 83 := by rw [hwx]; exact hH
        rw [← hwx]
        have h0' : ¬ 0 < 8 * k := by omega
        clear hkk hS hR hH hwx hlt h0 hsz
        go_wp2
      case' inr =>
        have h0' : 0 < 8 * k := by omega
        go_wp2_with (first | (refine wpList_load_blk rfl _ _ rfl rfl hS aS ?_) | fail)
        refine (perm _ wr).mono ?_
        rintro e1 w1 ⟨rfl, k1⟩
        rw [show (Go.Pm.squeeze s0 (k - 1)).perm = Go.Pm.squeeze s0 k by obtain ⟨j, rfl⟩ : ∃ j, k = j + 1 := ⟨k - 1, by omega⟩; rfl]
        have hS1 := hS.kept k1 (fun h => h)
        go_wp2_with (first | (refine wpList_store_blk rfl _ _ _ rfl rfl rfl hS1 aS rfl (sc_all _) ?_; intro wx hSx k2))
        have hkx : Kept None w wx := (hkk.then k1 (fun _ _ h => h)).then k2 (fun i hi (h : i = _) => by omega)
        have hRx := (hR.kept k1 (fun h => h)).kept k2 (fun (h : _ = _) => by omega)
        have hHx := (hH.kept k1 (fun h => h)).kept k2 (fun (h : _ = _) => by omega)
        clear hkk hS hR hH hlt hS1 k1 k2 h0 hsz
      all_goals
        have hlx := hHx.lt
        have hu := U_ge (Go.Pm.squeeze s0 k).a
        have hu2 := U_lt (Go.Pm.squeeze s0 k).a
        have HU := hid (And.intro hu hu2)
        clear hu hu2
        try simp only [Act.put]
        refine wp_region_plan (Kept (Just (w.heap.size + 1 + 1)) wx) (planSq (w.heap.size + 1 + 1) wx.heap.size (sofar s0 k) (sofar s0 (k + 1)) (leB (U (Go.Pm.squeeze s0 k).a))) [100] (by kernel_rfl) (by kernel_rfl) (by kernel_rfl) rfl planSq_pure (Kept.refl _ _).drew (fun j hj => by
          obtain rfl : j = 100 := by simpa using hj
          exact hHx.drew) ?_
        iterate 4 (refine wpPar_pure rfl (by rfl) _ (fun W hW => by
          have c0 : W.cell? ⟨w.heap.size, 0, none⟩ = some (.int .u64 (U (Go.Pm.squeeze s0 k).a)) := (hSx.kept hW (fun (h : _ = _) => by omega)).cell 0
          have h1 := cutHash (w.heap.size + 1 + 1) k h4 W
          go_simp
          exact rfl) ?_; simp only [Act.put, List.setIfInBounds_toArray, List.set_cons_zero, List.set_cons_succ])
        refine wpPar_adds rfl (by rfl) (fun W hW _ => ?_) (fun v _ => ?_)
        · unfold Gives
          go_simp
          refine gives_call (Bin.num _ W HU.out.1 HU.out.2) ?_
          rintro e w3 ⟨v3, rfl, k3, hb3⟩
          exact ⟨_, rfl, hW.then k3 (fun _ _ h => h.elim), trivial, hb3.base hW.size, planSq_keeps4 k3⟩
        simp only [Act.put, List.setIfInBounds_toArray, List.set_cons_zero, List.set_cons_succ]
        refine wpPar_adds rfl (by rfl) (fun W hW hd => ?_) (fun v' _ => ?_)
        · have hv4 : Ob W wx.heap.size v (leB (U (Go.Pm.squeeze s0 k).a)) := hd 4 (List.Mem.head _)
          have hB : Blk W (w.heap.size + 1 + 1) (sofar s0 k).toArray 83 := hd 100 (List.Mem.tail _ (List.Mem.head _))
          refine gives_copy (.tmp 14) (.tmp 17) 32 32 rfl 5 tBytes' (by kernel_rfl) rfl rfl (hv4.bs (Nat.le_refl _)) (by rw [leB_length]; decide) hB (by rw [leB_length]; omega) (by rw [sofar_len _ _ hk, leB_length]; omega) ?_
          intro w' b' k'
          rw [sofar_splice _ _ h4] at b'
          exact ⟨hW.then k' (fun _ _ h => h), trivial, b', planSq_keeps5 k' hlx⟩
        simp only [Act.put, List.setIfInBounds_toArray, List.set_cons_zero, List.set_cons_succ]
        refine wpPar_nil (fun W hW hG => ?_)
        have hHn : Blk W (w.heap.size + 1 + 1) (sofar s0 (k + 1)).toArray 83 := hG 5
        have hkn : Kept None w W := hkx.then hW (fun i hi (h : i = _) => by omega)
        have hSn := hSx.kept hW (fun (h : _ = _) => by omega)
        have hRn := hRx.kept hW (fun (h : _ = _) => by omega)
        clear hkx hSx hRx hHx hW hG HU
        go_wp2
        go_roundw
        case rel => exact ⟨k + 1, by omega, by go_num, hkn, hSn, ⟨z, hz, hRn⟩, hHn⟩
        case measure => simp [intOf]; omega
    · have hk4 : k = 4 := by omega
      subst hk4
      rw [sofar_four] at hH
      have e32 : ((eights s0 4).map u8v).toArray.size = 32 := by simp [eights_len]
      have aH' : AggTy Try.prog 83 ((eights s0 4).map u8v).toArray.size := by rw [e32]; exact aH
      have hz' := hz.trans e32.symm
      have E := hid (And.intro hz hz')
      clear e32 hz hz'
      go_wp2_with (first | (refine wpList_load_blk rfl _ _ rfl rfl hH aH' ?_) | (refine wpList_store_blk rfl _ _ _ rfl rfl rfl hR aH' E.out.2 (u8v_all _) ?_; intro w2 b2 k2))
      exact bodyPost_ret (v := hashV (eights s0 4)) (results_blk rfl _ rfl b2 aH') rfl ⟨rfl, hkk.then k2 (fun i hi (h : i = _) => by omega)⟩
end Sp
end Go.Proofs.Ytbckjkfdkgomiaa
