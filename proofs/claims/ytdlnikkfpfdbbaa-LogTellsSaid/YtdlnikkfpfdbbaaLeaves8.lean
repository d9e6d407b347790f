/- postmarklaw8.leaves: by contract; rows of two hashes. -/
import Derived.Test.YtdlnikkfpfdbbaaLogCheck8
namespace Go.Pm
open Go Go.RowKit
theorem fill_two_row (z A B : Array Value) (hz : z.size = 64) (hA : A.size = 32) (hB : B.size = 32) : Instr.fill (fun i => some (i * 32, 32)) z [(0, .agg A), (1, .agg B)] = some (A ++ B) := by
  have h := fill_two z A B hz hA hB
  have ha := fold_put 0 A.toList 0 z (by simp; omega)
  have hb := fold_put 32 B.toList 0 (A ++ (z.toList.drop 32).toArray) (by simp; omega)
  have e1 : A.zipIdx.foldl (fun cs (c, j) => cs.setIfInBounds (0 + j) c) z = A ++ (z.toList.drop 32).toArray := by
    rw [← Array.foldl_toList, Array.toList_zipIdx]
    refine ha.trans ?_
    apply Array.ext'
    simp [hA]
  have e2 : B.zipIdx.foldl (fun cs (c, j) => cs.setIfInBounds (32 + j) c) (A ++ (z.toList.drop 32).toArray) = A ++ B := by
    rw [← Array.foldl_toList, Array.toList_zipIdx]
    refine hb.trans ?_
    apply Array.ext'
    have h1 : (A.toList ++ z.toList.drop 32).take 32 = A.toList := List.take_left' (by simpa using hA)
    have h2 : (A.toList ++ z.toList.drop 32).drop 64 = [] := List.drop_eq_nil_of_le (by simp; omega)
    simp [hB, h1, h2]
  rw [fill_cons (v := .agg A) (off := 0) (size := 32) (by simp) (show (Value.agg A).cells.size = 32 from hA) (by show 0 + A.size ≤ z.size; omega)]
  rw [show (Value.agg A).cells = A from rfl, e1]
  rw [fill_cons (v := .agg B) (off := 32) (size := 32) (by simp) (show (Value.agg B).cells.size = 32 from hB) (by show 32 + B.size ≤ _; simp; omega)]
  rw [show (Value.agg B).cells = B from rfl, e2]
  rfl
/-- A new row of two hashes, for the walk. -/
theorem wpList_two_hash {P : Program} {ops : Array Oper} {rest : List Oper} {o : Oper} {a : Act} {w : World} {Q : Exit → Act → World → Prop} (hg : o.guard = none) (t : TypeId) (x y : Operand) (ho : o.op = .buildSlice t 2 #[(0, x), (1, y)])
    {e : TypeId} {z : Value} {bytes : Nat} (hT : RowTyK P t e z 32 bytes) {A B : Array Value} (hx : a.eval x = .agg A) (hy : a.eval y = .agg B) (hA : A.size = 32) (hB : B.size = 32)
    (h : wpList P ops Q rest (a.put o.dst (.slice (some ⟨w.heap.size, 0, none⟩) 2 2)) (w.alloc (.cells (A ++ B) e))) : wpList P ops Q (o :: rest) a w := by
  obtain ⟨i, hi, hz, hs, hb⟩ := hT.info
  have hp := hT.pos
  refine wpList_buildSlice hg t e 2 #[(0, x), (1, y)] ho (A ++ B) i z hT.sl hi hz (by omega) (by omega) ?_ h
  rw [hs, show ((#[(0, x), (1, y)] : Array (Nat × Operand)).map fun (i, x) => (i, a.eval x)).toList = [(0, .agg A), (1, .agg B)] by simp [hx, hy]]
  exact fill_two_row _ A B (by simp) hA hB
theorem Hs.two {w : World} {g : Nat} {p q : List UInt8} {e : TypeId} (hb : Blk w g ((p.map u8v).toArray ++ (q.map u8v).toArray) e) (hp : p.length = 32) (hq : q.length = 32) : Hs w g (g + 1) (.slice (some ⟨g, 0, none⟩) 2 2) [p, q] := by
  have h2 : H32 [p, q] := H32.cons hp (H32.one hq)
  refine ⟨h2, hsC_each h2, ?_⟩
  exact Fs.ofBlk hb (by simp [hsC, hp, hq]) (Nat.le_refl _) (by decide) (fun i x hx => by simpa [hsC] using hx)
/-- A row of bytes. -/
theorem Bs.two (w : World) (t : TypeId) (b : UInt8) (x : Int) (h0 : 0 ≤ x) (h1 : x < 256) : Bs (w.alloc (.cells #[.int .u8 (b.toNat : Int), .int .u8 x] t)) w.heap.size (w.heap.size + 1) (.slice (some ⟨w.heap.size, 0, none⟩) 2 2) [b, byteOf x] := by
  have h := Vs.new w #[.int .u8 (b.toNat : Int), .int .u8 x] t 2 (by simp) (by decide)
  unfold Bs
  rw [List.map_cons, List.map_cons, List.map_nil, u8v_byteOf' h0 h1]
  exact h
theorem Bs.byte8 (w : World) (t : TypeId) (x : Int) (h0 : 0 ≤ x) (h1 : x < 256) : Bs (w.alloc (.cells #[.int .u8 x] t)) w.heap.size (w.heap.size + 1) (.slice (some ⟨w.heap.size, 0, none⟩) 1 1) [byteOf x] := by
  have h := Vs.new w #[.int .u8 x] t 1 (by simp) (by decide)
  unfold Bs
  rw [List.map_cons, List.map_nil, u8v_byteOf' h0 h1]
  exact h
/-- The leaves of numbers. -/
def leafAt (l : List UInt8) (i : Nat) : List UInt8 := leafL [l.getD i 0, byteOf (i : Int)]
def leavesK (l : List UInt8) (k : Nat) : List (List UInt8) := (List.range k).map (leafAt l)
def leavesL (l : List UInt8) : List (List UInt8) := leavesK l l.length
theorem leavesK_succ (l : List UInt8) (k : Nat) : leavesK l (k + 1) = leavesK l k ++ [leafAt l k] := by
  unfold leavesK
  rw [List.range_succ, List.map_append]
  rfl
theorem leavesK_len (l : List UInt8) (k : Nat) : (leavesK l k).length = k := by simp [leavesK]
theorem leavesL_len (l : List UInt8) : (leavesL l).length = l.length := leavesK_len _ _
theorem leavesK_h32 (l : List UInt8) (k : Nat) : H32 (leavesK l k) := fun h hh => by
  obtain ⟨i, _, rfl⟩ := List.mem_map.1 hh
  exact leafL_len _
end Go.Pm
namespace Go.Proofs.Ytdlnikkfpfdbbaa
open Go.RowKit Go.Pm
namespace L8
set_option maxRecDepth 100000 in
set_option maxHeartbeats 1000000 in
/-- leaves. -/
theorem leaves (v : Value) (lo hi : Nat) (l : List UInt8) (w : World) (hv : Bs w lo hi v l) (hl : l.length ≤ 200) : Calls Try.prog 12 #[v] w fun e w' => ∃ u, e = .returned u ∧ Kept None w w' ∧ Ho 25 w' w.heap.size u (leavesL l) := by
  obtain ⟨a, cap, rfl, g1, g2, g3⟩ := hv.shape
  have HV := hid hv
  obtain ⟨n, hn⟩ : ∃ n, n = l.length := ⟨_, rfl⟩
  rw [← hn] at HV hl ⊢
  have HN := hid hn
  clear hv g3 g1 hn
  go_enter Try.func12, Try.ntmps12
  go_wp2
  go_loopg [3, 4] n (fun kx s3 s4 wr => ∃ (k : Nat) (a3 : Option Addr) (c3 : Nat), s3 = .slice a3 k c3 ∧ s4 = .int .i64 k ∧ k ≤ n ∧ n - k ≤ kx ∧ Hid (Kept None w wr) ∧ Hid (Ho 25 wr w.heap.size (.slice a3 k c3) (leavesK l k)))
  case atStart => exact ⟨0, none, 0, rfl, rfl, Nat.zero_le _, Nat.le_refl _, Kept.refl _ _, Ho.nil _ _ _⟩
  case round =>
    obtain ⟨k, a3, c3, rfl, rfl, hk, hkx, HK, HO⟩ := hrel
    by_cases hlt : k < n
    · have hz : (k : Int) < (n : Int) := by omega
      obtain ⟨wo, rfl⟩ : ∃ wo : World, wo = wr := ⟨_, rfl⟩
      obtain ⟨b, o, hab, _, _, _, hc⟩ := (HV.out.kept HK.out (fun _ _ _ h => h)).ne (by have := HN.out; omega)
      obtain rfl := hab
      have c0 := hc k (by have := HN.out; omega)
      obtain ⟨B, hB⟩ : ∃ B, B = bAt l k := ⟨_, rfl⟩
      rw [← hB] at c0
      have rk : IntKind.u8.wrap (k : Int) = (k : Int) := by rw [IntKind.wrap_u8]; omega
      have b0 := bAt_ge l k
      have b1 := bAt_lt l k
      rw [← hB] at b0 b1
      have HB := hid hB
      obtain ⟨e, he⟩ : ∃ e, e = leafAt l k := ⟨_, rfl⟩
      have e32 : e.length = 32 := by rw [he]; exact leafL_len _
      have HL : Hid (∀ W : World, Calls Try.prog 14 #[.slice (some ⟨W.heap.size, 0, none⟩) 2 2] (W.alloc (.cells #[.int .u8 B, .int .u8 k] 5)) fun e' w' => e' = .returned (hashV e) ∧ Kept None (W.alloc (.cells #[.int .u8 B, .int .u8 k] 5)) w') := hid (fun W => by
        have h := RLg.leaf _ _ _ _ _ (Bs.two W 5 (l.getD k 0) (k : Int) (by omega) (by omega)) (by simp)
        rw [hB, he]
        exact h)
      have HE := hid (And.intro e32 he)
      clear hc hB e32 he
      go_wp2_with fail
      refine (HL.out _).mono ?_
      rintro e' w4 ⟨rfl, k4⟩
      have k04 := (HK.out.alloc (.cells #[.int .u8 B, .int .u8 k] 5)).trans k4
      have HO4 := hid ((HO.out.kept ((Kept.refl None wo).alloc (.cells #[.int .u8 B, .int .u8 k] 5)) (fun _ _ h => h)).kept k4 (fun _ _ h => h))
      have hrow := Blk.new w4 (e.map u8v).toArray 25
      have ka : Kept None w4 (w4.alloc (.cells (e.map u8v).toArray 25)) := (Kept.refl _ _).alloc _
      have HO5 := hid (HO4.out.kept ka (fun _ _ h => h))
      have HU := hid (Hs.ofBlk hrow HE.out.1)
      have KW := hid (k04.trans ka)
      have HA : Hid ((e.map u8v).toArray.size = 32) := hid (by simpa using HE.out.1)
      clear k4 k04 HO4 hrow ka HK HO c0 HL
      go_wp2_with (first | (refine wpList_one_item rfl _ _ rfl Hk.rtHashes (by decide) rfl HA.out ?_) | (at_builtin; refine wpList_append_po rfl _ _ 23 rfl Hk.rtHashes (by decide) rfl rfl HO5.out.2 HU.out.2 (hsC_one _) (by rw [hsC_len, hsC_len, leavesK_len]; simp; omega) KW.out.size ?_; intro a9 n9 c9 w9 p9 k9 o9) | fail)
      have hown := HO5.out.2.own
      have HH : Ho 25 w9 w.heap.size (.slice a9 n9 c9) (leavesK l (k + 1)) := by
        rw [leavesK_succ, ← HE.out.2]
        exact ⟨HO5.out.1.append (H32.one HE.out.1), by rw [hsC_append]; exact p9⟩
      have hn9 : n9 = k + 1 := by
        obtain ⟨_, _, h⟩ := HH.form
        injection h with _ h
        rw [h, leavesK_len]
      subst hn9
      have HP9 := hid (And.intro HH (KW.out.then k9 (fun i hi h => by have := (hown i h).1; omega)))
      clear p9 k9 o9 hown HH KW HO5 HU
      go_wp2
      go_roundg (n - (k + 1))
      case measure => omega
      case rel => exact ⟨k + 1, a9, c9, rfl, by go_num, by omega, Nat.le_refl _, HP9.out.2, HP9.out.1⟩
    · have hz : ¬ (k : Int) < (n : Int) := by omega
      obtain rfl : k = n := by omega
      go_wp2
      go_ret
      exact ⟨_, rfl, HK.out, by unfold leavesL; rw [← HN.out]; exact HO.out⟩
end L8
end Go.Proofs.Ytdlnikkfpfdbbaa
