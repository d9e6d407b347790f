/- postmarklaw6.TreeOrder: true. -/
import Derived.Test.YtalkkiliepaikaaBelow6
namespace Go.Pm
open Go Go.RowKit
theorem swap_perm {α : Type} {l : List α} {a b : Nat} (ha : a < l.length) (hb : b < l.length) : ((l.set a l[b]).set b l[a]).Perm l := List.set_set_perm ha hb
theorem Ito.at {e : TypeId} {w : World} {base n cap : Nat} {a : Option Addr} {l : List It} (h : Ito e w base (.slice a n cap) l) (hn : 0 < l.length) : ∃ g, a = some ⟨g, 0, none⟩ ∧ base ≤ g := by
  obtain ⟨hf, hl, h2⟩ := h
  rcases h2 with ⟨h3, h4⟩ | ⟨g, cap', cur, hv, hb, hg, r⟩
  · omega
  · injection hv with e1 e2 e3
    exact ⟨g, e1, hb⟩
theorem gives_load_at {P : Program} {o : Oper} {a : Act} {W : World} {X : Value → World → Prop} {ty : TypeId} {x : Operand} {b off : Nat} {cs : List Value} (ho : o.op = .load ty x) (hx : a.eval x = .pointer (some ⟨b, off, none⟩)) (hc : W.rangeAt b off cs) (hT : AggTy P ty cs.length) (h : X (.agg cs.toArray) W) : Gives P o a W X := by
  unfold Gives
  rw [exec_load_at ho hx hc hT]
  exact h
/-- A store of an item, in whatever order. -/
theorem gives_store_item {P : Program} {o : Oper} {a : Act} {w : World} {X : Value → World → Prop} (ty : TypeId) (x y : Operand) (ho : o.op = .store ty x y)
    {e : TypeId} {base g n cap : Nat} {l : List It} (hown : Ito e w base (.slice (some ⟨g, 0, none⟩) n cap) l) {k : Nat} (hk : k < l.length) {v : It} (hv : v.i.length = 32 ∧ v.v.length = 32)
    (hx : a.eval x = .pointer (some ⟨g, k * 64, none⟩)) (hy : a.eval y = .agg (itC v).toArray) (hT : AggTy P ty 64)
    (h : ∀ w', Ito e w' base (.slice (some ⟨g, 0, none⟩) n cap) (l.set k v) → Kept (Just g) w w' → X undef w') : Gives P o a w X := by
  have h64 := itC_len hv
  obtain ⟨hf, hlen, h2⟩ := hown
  rcases h2 with ⟨h3, _⟩ | ⟨g', cap', cur, hvv, hb, hg, hnc, hcm, hcs, htake⟩
  · cases h3
  injection hvv with e1 e2 e3
  obtain rfl : g = g' := by simpa using e1
  subst e2 e3
  have hblk : Blk w g cur e := hg
  have hL := itsC_len hf
  have hfit : k * 64 + 64 ≤ cur.size := by omega
  have hth : w.there g (k * 64) (itC v).toArray.size := fun j hj => by
    simp only [List.size_toArray, h64] at hj
    refine ⟨?_, hblk.free _⟩
    rw [hblk.cell]
    simp [show k * 64 + j < cur.size by omega]
  have hrun := run_storeVar_mid (P := P) w g (k * 64) ty (itC v).toArray hth (by simpa [h64] using hT.size) (all_oneCell_toArray (fun c hc => itsC_one [v] c (by simpa [itsC] using hc)))
  unfold Gives execOp
  simp only [ho, hx, hy, Instr.storeAt, Instr.sureAddr, Sem.run_bind, Sem.run_pure, Result.andThen_ok, hrun]
  · refine h _ ⟨?_, ?_, ?_⟩ (kept_setCells (S := Just g) (fun _ => rfl) _ _ _ (Kept.refl _ _))
    · intro z hz
      rcases List.mem_or_eq_of_mem_set hz with h | rfl
      · exact hf z h
      · exact hv
    · rw [itsC_len (fun z hz => by
        rcases List.mem_or_eq_of_mem_set hz with h | rfl
        · exact hf z h
        · exact hv)]
    · refine .inr ⟨g, cap, _, by simp, hb, Blk.setCells (itC v) (k * 64) w cur hblk (by omega), by simpa using hnc, hcm, ?_, ?_⟩
      · simp only [List.size_toArray, List.length_append, List.length_take, List.length_drop, Array.length_toList, h64]
        omega
      · rw [itsC_set hf v hk hv, ← htake, List.length_set]
        have q1 : (cur.toList.take (l.length * 64)).take (k * 64) = cur.toList.take (k * 64) := by rw [List.take_take, Nat.min_eq_left (by omega)]
        rw [q1, h64, List.append_assoc, List.take_append, List.append_assoc, List.take_of_length_le (by simp; omega)]
        congr 1
        rw [List.take_append, List.take_of_length_le (by simp [h64]; omega)]
        congr 1
        rw [List.take_drop]
        congr 2
        simp [h64]
        omega
theorem Ito.cells_at {e : TypeId} {w : World} {base g n cap : Nat} {l : List It} (h : Ito e w base (.slice (some ⟨g, 0, none⟩) n cap) l) {k : Nat} (hk : k < l.length) : w.rangeAt g (k * 64) (itC l[k]) := by
  obtain ⟨b, o, hbo, _, _, _, hcc⟩ := (h.its (Nat.le_refl _)).ne (Nat.lt_of_le_of_lt (Nat.zero_le _) hk)
  simp only [Option.some.injEq, Addr.mk.injEq, and_true] at hbo
  obtain ⟨rfl, rfl⟩ := hbo
  have h := hcc k l[k] (List.getElem?_eq_getElem hk)
  rwa [Nat.zero_add] at h
end Go.Pm
namespace Go.Proofs.Ytalkkiliepaikaa
open Go.RowKit Go.Pm

namespace Tr
set_option maxRecDepth 100000 in
set_option maxHeartbeats 4000000 in
theorem treeOrder (v vt : Value) (lo hi lo' hi' : Nat) (ns : List Int) (ts : List UInt8) (w : World) (hv : U16s w lo hi v ns) (ht : Bs w lo' hi' vt ts) :
    Calls Try.prog 4 #[v, vt] w fun e w' => e = .returned (.bool true) ∧ Kept None w w' := by
  obtain ⟨a, cap, rfl, g1, g2⟩ := hv.form
  obtain ⟨at1, ct, rfl, g3, g4, _⟩ := ht.shape
  obtain ⟨n, hn⟩ : ∃ n, n = ns.length := ⟨_, rfl⟩
  obtain ⟨T, hT⟩ : ∃ T, T = ts.length := ⟨_, rfl⟩
  rw [← hn] at hv g1 ⊢
  rw [← hT] at ht g3 ⊢
  have HV := hid hv
  have HN := hid hn
  have HT := hid ht
  have HTL := hid hT
  clear hv hn ht hT
  go_enter Try.func4, Try.ntmps4
  go_wp2_with fail
  refine (known _).mono ?_
  rintro e w1 ⟨rfl, k1⟩
  by_cases h30 : 30 < n
  · have hz : (30 : Int) < (n : Int) := by omega
    go_wp2
    go_ret
    exact ⟨rfl, k1⟩
  have hz : ¬ (30 : Int) < (n : Int) := by omega
  by_cases h40 : 40 < T
  · have hz2 : (40 : Int) < (T : Int) := by omega
    go_wp2
    go_ret
    exact ⟨rfl, k1⟩
  have hz2 : ¬ (40 : Int) < (T : Int) := by omega
  go_wp2_with fail
  refine (items _ _ _ ns w1 (by have := HV.out.kept k1 (fun _ _ _ h => h); rw [HN.out] at this ⊢; exact this) (by have := HN.out; omega)).mono ?_
  rintro e w2 ⟨v2, xs, rfl, hxs, hxl, k2⟩
  have k02 := k1.trans k2
  obtain ⟨a2, c2, rfl⟩ := hxs.form
  have hset := set (.slice a2 xs.length c2) (.slice none 0 0) _ _ 0 0 xs [] w2 (hxs.its (Nat.le_refl _)) (Its.nil _ _ _) (by have := HN.out; rw [List.length_nil]; omega)
  rw [List.append_nil] at hset
  have hsl := len_setI xs
  have hS := srt_setI xs
  obtain ⟨l, hl⟩ : ∃ l, l = setI xs := ⟨_, rfl⟩
  rw [← hl] at hset hsl hS
  have HSET := hid hset
  have HXL := hid hxl
  clear hset hxl hl
  go_wp2_with fail
  refine HSET.out.mono ?_
  rintro e w3 ⟨v3, rfl, hX, k3⟩
  have k03 := k02.trans k3
  obtain ⟨a3, c3, rfl⟩ := hX.form
  obtain ⟨m, hm⟩ : ∃ m, m = l.length := ⟨_, rfl⟩
  have hm30 : m ≤ 30 := by have := HN.out; have := HXL.out; omega
  have HX := hid (hX.its (Nat.le_refl _))
  rw [← hm] at HX
  have HS := hid hS
  have HM0 := hid hm
  have hi0 := Ito.nil 35 w3 w3.heap.size
  have hX3 := HX.out
  have hlm : l.length ≤ 1099511627776 := by omega
  rw [← hm]
  clear hxs k1 k2 k3 k02 hX hS hsl hm HSET
  go_wp2_with (first | (at_builtin; refine wpList_append_ito (v := .slice none 0 0) (u := .slice a3 m c3) (.refl _) _ _ 25 rfl RTr.rtItems rfl rfl hi0 hX3 (by simpa using hlm) (Nat.le_refl _) ?_; intro a5 n5 c5 w5 hO5 k5 f5; obtain ⟨ay, cy, hay⟩ := hO5.form; have hn5 : n5 = m := (by have := HM0.out; injection hay with e1 e2 e3; rw [e2]; simpa using this.symm); subst hn5; clear hay f5 hi0 hX3) | fail)
  rw [List.nil_append] at hO5
  have k35 : Kept None w3 w5 := k5.mono (fun q _ hq => by cases hq)
  have HK5 := hid k35
  have HK3 := hid k03
  have HO5 := hid hO5
  clear k5 k35 k03 hO5 hlm
  go_loopg [7, 8, 9] T (fun kx s7 s8 s9 wr => ∃ (k : Nat) (u8 u9 : Value) (ys : List It), s7 = .int .i64 k ∧ s8 = u8 ∧ s9 = u9 ∧ k ≤ T ∧ T - k ≤ kx ∧ Hid (Ito 35 wr w3.heap.size (.slice a5 n5 c5) ys ∧ ys.Perm l ∧ Kept None w3 wr))
  case atStart => exact ⟨0, _, _, l, rfl, rfl, rfl, Nat.zero_le _, Nat.le_refl _, ⟨HO5.out, List.Perm.refl _, HK5.out⟩⟩
  case round =>
    obtain ⟨k, u8, u9, ys, rfl, rfl, rfl, hk, hkx, HR⟩ := hrel
    by_cases hgo : k < T ∧ 0 < n5
    · obtain ⟨hlt, hpos⟩ := hgo
      have hzk : (k : Int) < (T : Int) := by omega
      have hzp : (0 : Int) < (n5 : Int) := by omega
      have hyl : ys.length = n5 := HR.out.2.1.length_eq.trans HM0.out.symm
      obtain ⟨g, hg, hgb⟩ := HR.out.1.at (by omega)
      obtain rfl := hg
      have htk := (HT.out.kept (HK3.out.trans HR.out.2.2) (fun _ _ _ h => h))
      obtain ⟨b, o, hbo, _, _, q3, hcell⟩ := htk.ne (by have := HTL.out; omega)
      obtain rfl := hbo
      have hck := hcell k (by have := HTL.out; omega)
      obtain ⟨q, hq, hq256⟩ : ∃ q : Nat, bAt ts k = (q : Int) ∧ q < 256 := ⟨(ts.getD k 0).toNat, rfl, (ts.getD k 0).toNat_lt⟩
      rw [hq] at hck
      have hK : ∀ W, Kept None wr W → W.cell? ⟨b, o + k, none⟩ = some (.int .u8 (q : Int)) := fun W hW => by rw [hW.cell (block_lt_of_cell hck) (fun h => h)]; exact hck
      obtain ⟨A, hA⟩ : ∃ A : Nat, A = q % n5 := ⟨_, rfl⟩
      obtain ⟨B, hB⟩ : ∃ B : Nat, B = k % n5 := ⟨_, rfl⟩
      have hAm : A < n5 := by rw [hA]; exact Nat.mod_lt _ hpos
      have hBm : B < n5 := by rw [hB]; exact Nat.mod_lt _ hpos
      have r1 : ((q : Int)).tmod (n5 : Int) = (A : Int) := by rw [hA, Int.natCast_emod]; exact Int.tmod_eq_emod_of_nonneg (by omega)
      have r2 : ((k : Int)).tmod (n5 : Int) = (B : Int) := by rw [hB, Int.natCast_emod]; exact Int.tmod_eq_emod_of_nonneg (by omega)
      have n0 : ¬ n5 = 0 := by omega
      have wq : IntKind.i64.wrap (q : Int) = q := by rw [IntKind.wrap_i64]; omega
      have wA : IntKind.i64.wrap (A : Int) = A := by rw [IntKind.wrap_i64]; omega
      have wB' : IntKind.i64.wrap (B : Int) = B := by rw [IntKind.wrap_i64]; omega
      have hAl : A < ys.length := by omega
      have hBl : B < ys.length := by omega
      obtain ⟨xa, hxa⟩ : ∃ xa, xa = ys[A]'hAl := ⟨_, rfl⟩
      obtain ⟨xb, hxb⟩ : ∃ xb, xb = ys[B]'hBl := ⟨_, rfl⟩
      have hcA : wr.rangeAt g (A * 64) (itC xa) := by rw [hxa]; exact HR.out.1.cells_at hAl
      have hcB : wr.rangeAt g (B * 64) (itC xb) := by rw [hxb]; exact HR.out.1.cells_at hBl
      have hla : xa.i.length = 32 ∧ xa.v.length = 32 := HR.out.1.1 xa (by rw [hxa]; exact List.getElem_mem hAl)
      have hlb : xb.i.length = 32 ∧ xb.v.length = 32 := HR.out.1.1 xb (by rw [hxb]; exact List.getElem_mem hBl)
      have hpm := swap_perm (l := ys) (a := A) (b := B) hAl hBl
      rw [← hxa, ← hxb] at hpm
      have HPM := hid (hpm.trans HR.out.2.1)
      have aYA : AggTy Try.prog 35 (itC xa).length := by rw [itC_len hla]; exact RTr.aI64
      have aYB : AggTy Try.prog 35 (itC xb).length := by rw [itC_len hlb]; exact RTr.aI64
      have hY := HR.out.1
      have HKK := hid HR.out.2.2
      have HYL := hid hyl
      have HLL := hid (And.intro hla hlb)
      have HGB := hid hgb
      have HXQ := hid (And.intro hxa hxb)
      clear HR htk hcell hck hq hA hB hpm hla hlb hyl hxa hxb
      go_wp2_with fail
      refine wp_region_kn wr [] Steady.nil (Kept.refl _ _) (by kernel_rfl) (by kernel_rfl) (by kernel_rfl) ?_
      iterate 14 (refine wpPar_pure rfl (by rfl) _ (fun W hW => by
          have c0 := hK W hW
          go_simp
          exact rfl) ?_; simp only [Act.put, List.setIfInBounds_toArray, List.set_cons_zero, List.set_cons_succ])
      refine wpPar_nil (fun w6 hW hG => ?_)
      have hY6 := hY.kept hW (fun _ _ h => h)
      have hcA6 := rangeAt_kept hcA hW
      have hcB6 := rangeAt_kept hcB hW
      have HK6 := hid (HKK.out.trans hW)
      have hAi : (A : Int) < (n5 : Int) := by omega
      have hBi : (B : Int) < (n5 : Int) := by omega
      clear hG hW hY hcA hcB HKK hK
      go_wp2_with fail
      have hBl2 : B < (ys.set A xb).length := by rw [List.length_set]; exact hBl
      have hla := HLL.out.1
      have hlb := HLL.out.2
      have HAY := hid (And.intro aYA aYB)
      have stepK : ∀ W W', Kept None w3 W → Kept (Just g) W W' → Kept None w3 W' := fun W W' h1 h2 => h1.then h2 (fun i hi (e : i = g) => by have := HGB.out; omega)
      have HST := hid stepK
      clear r1 r2 n0 wq wA wB' hcA6 hcB6 aYA aYB stepK
      refine wp_region_plan (Kept None w3) [⟨16, [], [], [], fun _ => True, fun _ W => Ito 35 W w3.heap.size (.slice (some ⟨g, 0, none⟩) n5 c5) ys⟩, .val 7 (.agg (itC xb).toArray) [16], .val 11 (.agg (itC xa).toArray) [16], ⟨13, [16], [16], [15], fun _ => True, fun _ W => Ito 35 W w3.heap.size (.slice (some ⟨g, 0, none⟩) n5 c5) (ys.set A xb)⟩, ⟨15, [16, 13], [16, 13], [], fun _ => True, fun _ W => Ito 35 W w3.heap.size (.slice (some ⟨g, 0, none⟩) n5 c5) ((ys.set A xb).set B xa)⟩] [16] (by kernel_rfl) (by kernel_rfl) (by kernel_rfl) (by kernel_rfl) (fun f hf => ?_) HK6.out.drew (fun j hj => ?_) ?_
      · simp only [List.mem_cons, List.not_mem_nil, or_false] at hf
        rcases hf with rfl | rfl | rfl | rfl | rfl
        · exact ⟨undef, trivial⟩
        · exact ⟨_, rfl⟩
        · exact ⟨_, rfl⟩
        · exact ⟨undef, trivial⟩
        · exact ⟨undef, trivial⟩
      · obtain rfl : j = 16 := by simpa using hj
        exact hY6.kept ((Kept.refl None w6).drew) (fun _ _ h => h)
      iterate 7 (refine wpPar_pure rfl (by rfl) _ (fun W hW => by
          go_simp
          exact rfl) ?_; simp only [Act.put, List.setIfInBounds_toArray, List.set_cons_zero, List.set_cons_succ])
      refine wpPar_adds rfl (by rfl) (fun W hW hd => ?_) (fun v7 hv => ?_)
      · have h1 : Ito 35 W w3.heap.size (.slice (some ⟨g, 0, none⟩) n5 c5) ys := hd 16 (List.Mem.head _)
        have hc : W.rangeAt g (B * 64) (itC xb) := by rw [HXQ.out.2]; exact h1.cells_at _
        refine gives_load_at rfl rfl hc HAY.out.2 ?_
        exact ⟨hW, rfl, trivial, fun _ _ _ _ _ h => h⟩
      obtain rfl : v7 = .agg (itC xb).toArray := hv
      simp only [Act.put, List.setIfInBounds_toArray, List.set_cons_zero, List.set_cons_succ]
      iterate 3 (refine wpPar_pure rfl (by rfl) _ (fun W hW => by
          go_simp
          exact rfl) ?_; simp only [Act.put, List.setIfInBounds_toArray, List.set_cons_zero, List.set_cons_succ])
      refine wpPar_adds rfl (by rfl) (fun W hW hd => ?_) (fun v11 hv => ?_)
      · have h1 : Ito 35 W w3.heap.size (.slice (some ⟨g, 0, none⟩) n5 c5) ys := hd 16 (List.Mem.head _)
        have hc : W.rangeAt g (A * 64) (itC xa) := by rw [HXQ.out.1]; exact h1.cells_at _
        refine gives_load_at rfl rfl hc HAY.out.1 ?_
        exact ⟨hW, rfl, trivial, fun _ _ _ _ _ h => h⟩
      obtain rfl : v11 = .agg (itC xa).toArray := hv
      simp only [Act.put, List.setIfInBounds_toArray, List.set_cons_zero, List.set_cons_succ]
      iterate 1 (refine wpPar_pure rfl (by rfl) _ (fun W hW => by
          go_simp
          exact rfl) ?_; simp only [Act.put, List.setIfInBounds_toArray, List.set_cons_zero, List.set_cons_succ])
      refine wpPar_adds rfl (by rfl) (fun W hW hd => ?_) (fun v13 hv => ?_)
      · have h1 : Ito 35 W w3.heap.size (.slice (some ⟨g, 0, none⟩) n5 c5) ys := hd 16 (List.Mem.head _)
        refine gives_store_item _ _ _ rfl h1 hAl hlb rfl rfl RTr.aI64 ?_
        intro W' h3 h4
        refine ⟨HST.out W W' hW h4, trivial, h3, keeps_of fun f hf hs hlt hne u hfu => ?_⟩
        simp only [List.mem_cons, List.not_mem_nil, or_false] at hf
        rcases hf with rfl | rfl | rfl | rfl | rfl
        · exact absurd (List.Mem.head _) hs
        · trivial
        · trivial
        · exact absurd rfl hne
        · exact absurd (List.Mem.head _) hlt
      clear hv
      simp only [Act.put]
      iterate 1 (refine wpPar_pure rfl (by rfl) _ (fun W hW => by
          go_simp
          exact rfl) ?_; simp only [Act.put, List.setIfInBounds_toArray, List.set_cons_zero, List.set_cons_succ])
      refine wpPar_adds rfl (by rfl) (fun W hW hd => ?_) (fun v15 hv => ?_)
      · have h1 : Ito 35 W w3.heap.size (.slice (some ⟨g, 0, none⟩) n5 c5) (ys.set A xb) := hd 13 (List.Mem.tail _ (List.Mem.head _))
        refine gives_store_item _ _ _ rfl h1 hBl2 hla rfl rfl RTr.aI64 ?_
        intro W' h3 h4
        refine ⟨HST.out W W' hW h4, trivial, h3, keeps_of fun f hf hs hlt hne u hfu => ?_⟩
        simp only [List.mem_cons, List.not_mem_nil, or_false] at hf
        rcases hf with rfl | rfl | rfl | rfl | rfl
        · exact absurd (List.Mem.head _) hs
        · trivial
        · trivial
        · exact absurd (List.Mem.tail _ (List.Mem.head _)) hs
        · exact absurd rfl hne
      clear hv
      simp only [Act.put]
      refine wpPar_nil (fun w9 hW hG => ?_)
      have hY9 : Ito 35 w9 w3.heap.size (.slice (some ⟨g, 0, none⟩) n5 c5) ((ys.set A xb).set B xa) := hG 15
      have k09 : Kept None w3 w9 := hW
      clear hG hW hY6
      go_wp2
      go_roundg (T - (k + 1))
      case measure => omega
      case rel => exact ⟨k + 1, _, _, _, by go_num, rfl, rfl, by omega, Nat.le_refl _, ⟨hY9, HPM.out, k09⟩⟩
    · have hno : (¬ (k : Int) < (T : Int)) ∨ ((k : Int) < (T : Int) ∧ ¬ (0 : Int) < (n5 : Int)) := by by_cases h : k < T <;> omega
      have hyl : ys.length = n5 := HR.out.2.1.length_eq.trans HM0.out.symm
      have hmem : ∀ z, z ∈ ys ↔ z ∈ l := fun z => HR.out.2.1.mem_iff
      have s1 : setI ys = l := set_like HS.out hmem
      have s2 : setI (ys ++ l) = l := set_like HS.out (fun z => by rw [List.mem_append, hmem]; exact or_self_iff)
      have s0 : setI l = l := set_srt HS.out
      obtain ⟨res, hres⟩ : ∃ res, res = rootOf l := ⟨_, rfl⟩
      have r1 : rootOf ys = res := by rw [hres]; unfold rootOf; rw [s1, s0]
      have r2 : rootOf (ys ++ l) = res := by rw [hres]; unfold rootOf; rw [s2, s0]
      have H32 : res.length = 32 := by rw [hres]; exact Go.Pm.rootI_len 256 (srt_setI l) (by rw [s0]; exact HX.out.1) (fun _ _ _ _ k hk => by omega) (Nat.le_refl _)
      have e2 := eqHash res res H32 H32
      simp only [beq_self_eq_true] at e2
      have hlm : l.length ≤ 30 := by have := HM0.out; omega
      have hym : ys.length ≤ 30 := by omega
      have f0 : ∀ v lo hi W, Its W lo hi v l → Calls Try.prog 12 #[v] W fun e w' => e = .returned (hashV res) ∧ Kept None W w' := fun v lo hi W h => by rw [hres]; exact root v lo hi l W h (by omega)
      have f1 : ∀ v lo hi W, Its W lo hi v ys → Calls Try.prog 12 #[v] W fun e w' => e = .returned (hashV res) ∧ Kept None W w' := fun v lo hi W h => by rw [← r1]; exact root v lo hi ys W h (by omega)
      obtain ⟨YL, hYL⟩ : ∃ YL, YL = ys ++ l := ⟨_, rfl⟩
      have HYQ := hid hYL
      have f2 : ∀ v lo hi W, Its W lo hi v YL → Calls Try.prog 12 #[v] W fun e w' => e = .returned (hashV res) ∧ Kept None W w' := fun v lo hi W h => by rw [hYL] at h; rw [← r2]; exact root v lo hi (ys ++ l) W h (by rw [List.length_append]; omega)
      have f3 : ∀ v1 v2 lo hi lo' hi' W, Its W lo hi v1 ys → Its W lo' hi' v2 l → Calls Try.prog 10 #[v1, v2] W fun e w' => ∃ v, e = .returned v ∧ Ito 35 w' W.heap.size v l ∧ Kept None W w' := fun v1 v2 lo hi lo' hi' W h1 h2 => by
        have h := set v1 v2 lo hi lo' hi' ys l W h1 h2 (by omega)
        rwa [s2] at h
      have f4 : ∀ v2 lo' hi' W, Its W lo' hi' v2 ys → Calls Try.prog 10 #[.slice none 0 0, v2] W fun e w' => ∃ v, e = .returned v ∧ Ito 35 w' W.heap.size v l ∧ Kept None W w' := fun v2 lo' hi' W h2 => by
        have h := set (.slice none 0 0) v2 0 0 lo' hi' [] ys W (Its.nil _ _ _) h2 (by rw [List.length_nil]; omega)
        rwa [List.nil_append, s1] at h
      have f5 : ∀ v1 v2 lo hi lo' hi' W, Its W lo hi v1 l → Its W lo' hi' v2 l → Calls Try.prog 9 #[v1, v2] W fun e w' => e = .returned (.bool true) ∧ Kept None W w' := fun v1 v2 lo hi lo' hi' W h1 h2 => same v1 v2 lo hi lo' hi' l W h1 h2 (by omega)
      obtain ⟨CR, hCR⟩ : ∃ CR, CR = res.map u8v := ⟨_, rfl⟩
      have lR : CR.length = 32 := by rw [hCR, List.length_map]; exact H32
      have oR : CR.toArray.all (·.oneCell') = true := by rw [hCR]; exact u8v_all res
      rw [show hashV res = .agg CR.toArray by rw [hCR]] at f0 f1 f2
      rw [← hCR] at e2
      have HR0 := hid f0
      have HRR := hid (And.intro f1 (And.intro f2 (And.intro f3 (And.intro f4 f5))))
      have E2 := hid e2
      have HLR := hid lR
      have HM := hid (And.intro hlm hym)
      have hYr := HR.out.1
      have hXr := HX.out.kept HR.out.2.2 (fun _ _ _ h => h)
      have k0r := HK3.out.trans HR.out.2.2
      clear s0 s1 s2 hmem r1 r2 H32 e2 f0 f1 f2 f3 f4 f5 hYL hres hCR lR hlm hym HR hyl hgo
      have HXR := hid hXr
      have HYR := hid hYr
      have HKR := hid k0r
      clear hXr hYr k0r
      rcases hno with hz3 | ⟨hz3, hz4⟩
      all_goals
        go_wp2_with fail
        refine (HR0.out _ _ _ _ HXR.out).mono ?_
        rintro e w6 ⟨rfl, k6⟩
        have kz : Kept None wr (w6.alloc (.cells #[.int .u8 0, .int .u8 0, .int .u8 0, .int .u8 0, .int .u8 0, .int .u8 0, .int .u8 0, .int .u8 0, .int .u8 0, .int .u8 0, .int .u8 0, .int .u8 0, .int .u8 0, .int .u8 0, .int .u8 0, .int .u8 0, .int .u8 0, .int .u8 0, .int .u8 0, .int .u8 0, .int .u8 0, .int .u8 0, .int .u8 0, .int .u8 0, .int .u8 0, .int .u8 0, .int .u8 0, .int .u8 0, .int .u8 0, .int .u8 0, .int .u8 0, .int .u8 0] 24)) := k6.alloc _
        have v0 := Blk.new w6 #[.int .u8 0, .int .u8 0, .int .u8 0, .int .u8 0, .int .u8 0, .int .u8 0, .int .u8 0, .int .u8 0, .int .u8 0, .int .u8 0, .int .u8 0, .int .u8 0, .int .u8 0, .int .u8 0, .int .u8 0, .int .u8 0, .int .u8 0, .int .u8 0, .int .u8 0, .int .u8 0, .int .u8 0, .int .u8 0, .int .u8 0, .int .u8 0, .int .u8 0, .int .u8 0, .int .u8 0, .int .u8 0, .int .u8 0, .int .u8 0, .int .u8 0, .int .u8 0] 24
        obtain ⟨z, hz7, hRz⟩ : ∃ z : Array Value, z.size = 32 ∧ Blk (w6.alloc (.cells #[.int .u8 0, .int .u8 0, .int .u8 0, .int .u8 0, .int .u8 0, .int .u8 0, .int .u8 0, .int .u8 0, .int .u8 0, .int .u8 0, .int .u8 0, .int .u8 0, .int .u8 0, .int .u8 0, .int .u8 0, .int .u8 0, .int .u8 0, .int .u8 0, .int .u8 0, .int .u8 0, .int .u8 0, .int .u8 0, .int .u8 0, .int .u8 0, .int .u8 0, .int .u8 0, .int .u8 0, .int .u8 0, .int .u8 0, .int .u8 0, .int .u8 0, .int .u8 0] 24)) w6.heap.size z 24 := ⟨_, by rfl, v0⟩
        have e32 : CR.toArray.size = 32 := by simpa using HLR.out
        have aH' : AggTy Try.prog 24 CR.toArray.size := by rw [e32]; exact Sp.aH
        have E := hid (hz7.trans e32.symm)
        have hsz6 := k6.size
        clear v0 hz7 e32 k6
        go_wp2_with (first | (refine wpList_store_blk (.refl _) _ _ _ rfl rfl rfl hRz aH' E.out oR ?_; intro wB hB7 k7) | fail)
        have kB : Kept None wr wB := kz.then k7 (fun i hi (e : i = w6.heap.size) => by omega)
        have iY := (HYR.out.its (Nat.le_refl _)).kept kB (fun _ _ _ h => h)
        have iX := HXR.out.kept kB (fun _ _ _ h => h)
        have hcR : wB.rangeAt w6.heap.size 0 CR := fun j c hj => by rw [Nat.zero_add, hB7.cell]; simpa using hj
        have aCR : AggTy Try.prog 24 CR.length := by rw [HLR.out]; exact Sp.aH
        have k0B := HKR.out.trans kB
        have e2 := E2.out
        have HR := HRR
        clear kz k7 kB hRz hB7 aH' oR hsz6
        have hs : Steady [.val 1 (.agg CR.toArray), .ito 35 6 wB.heap.size ys, .ito 35 8 wB.heap.size YL [6] [6] [16, 22], .val 9 (.agg CR.toArray) [8], .its 16 l, .val 18 (.bool true) [16], .its 22 l, .val 24 (.bool true) [22]] := Steady.val (Steady.ito (Steady.ito (Steady.val (Steady.its (Steady.val (Steady.its (Steady.val (Steady.nil))))))))
        refine wp_region_kn wB _ hs (Kept.refl _ _) (by kernel_rfl) (by kernel_rfl) (by kernel_rfl) ?_
        iterate 1 (refine wpPar_pure rfl (by rfl) _ (fun W hW => by
            go_simp
            exact rfl) ?_; simp only [Act.put, List.setIfInBounds_toArray, List.set_cons_zero, List.set_cons_succ])
        refine wpKn_adds hs rfl (by rfl) (fun W hW hd => ?_) (fun v1 hv => ?_)
        · unfold Gives
          go_simp
          refine gives_call (HR.out.1 _ _ _ W (iY.kept hW (fun _ _ _ h => h))) ?_
          rintro e w3 ⟨rfl, k3⟩
          exact ⟨_, rfl, k3, rfl, trivial⟩
        obtain rfl : v1 = .agg CR.toArray := hv
        simp only [Act.put, List.setIfInBounds_toArray, List.set_cons_zero, List.set_cons_succ]
        refine wpPar_pure rfl (by rfl) _ (fun W hW => exec_load_at rfl rfl (rangeAt_kept hcR hW) aCR) ?_; simp only [Act.put, List.setIfInBounds_toArray, List.set_cons_zero, List.set_cons_succ]
        iterate 3 (refine wpPar_pure rfl (by rfl) _ (fun W hW => by
            go_simp
            exact rfl) ?_; simp only [Act.put, List.setIfInBounds_toArray, List.set_cons_zero, List.set_cons_succ])
        refine wpKn_adds hs rfl (by rfl) (fun W hW hd => ?_) (fun v6 hv => ?_)
        · refine gives_append_ito _ _ 25 rfl RTr.rtItems (v := .slice none 0 0) rfl rfl (Ito.nil _ W wB.heap.size) (iY.kept hW (fun _ _ _ h => h)) (by have := HM.out; simp; omega) hW.size ?_
          intro a' n' c' W' h3 h4 _
          refine ⟨h4.mono (fun q _ hq => by cases hq), ?_, (by rw [List.nil_append] at h3; exact h3)⟩
          obtain ⟨a'', c'', e⟩ := h3.form
          exact ⟨a'', c'', by simpa using e⟩
        obtain ⟨a6, c6, rfl⟩ : ∃ a c, v6 = .slice a ys.length c := hv
        simp only [Act.put, List.setIfInBounds_toArray, List.set_cons_zero, List.set_cons_succ]
        iterate 1 (refine wpPar_pure rfl (by rfl) _ (fun W hW => by
            go_simp
            exact rfl) ?_; simp only [Act.put, List.setIfInBounds_toArray, List.set_cons_zero, List.set_cons_succ])
        refine wpPar_adds rfl (by rfl) (fun W hW hd => ?_) (fun v8 hv => ?_)
        · have h1 : Ito 35 W wB.heap.size (.slice a6 ys.length c6) ys := hd 6 (List.Mem.head _)
          refine gives_append_ito _ _ 25 rfl RTr.rtItems rfl rfl h1 (iX.kept hW (fun _ _ _ h => h)) (by have := HM.out; omega) hW.size ?_
          intro a' n' c' W' h3 h4 _
          rw [← HYQ.out] at h3
          refine ⟨Kept.own hW h4 (fun q hq => (h1.own q hq).1), h3.form, h3, keeps_of fun f hf hs hlt hne u hfu => ?_⟩
          simp only [List.mem_cons, List.not_mem_nil, or_false] at hf
          rcases hf with rfl | rfl | rfl | rfl | rfl | rfl | rfl | rfl
          · trivial
          · exact absurd (List.Mem.head _) hs
          · exact absurd rfl hne
          · trivial
          · exact absurd (List.Mem.head _) hlt
          · trivial
          · exact absurd (List.Mem.tail _ (List.Mem.head _)) hlt
          · trivial
        obtain ⟨a8, c8, rfl⟩ : ∃ a c, v8 = .slice a YL.length c := hv
        simp only [Act.put, List.setIfInBounds_toArray, List.set_cons_zero, List.set_cons_succ]
        refine wpKn_adds hs rfl (by rfl) (fun W hW hd => ?_) (fun v9 hv => ?_)
        · unfold Gives
          have h2 : Ito 35 W wB.heap.size (.slice a8 YL.length c8) YL := hd 8 (List.Mem.head _)
          go_simp
          refine gives_call (HR.out.2.1 _ _ _ W (h2.its (Nat.le_refl _))) ?_
          rintro e w3 ⟨rfl, k3⟩
          exact ⟨_, rfl, k3, rfl, trivial⟩
        obtain rfl : v9 = .agg CR.toArray := hv
        simp only [Act.put, List.setIfInBounds_toArray, List.set_cons_zero, List.set_cons_succ]
        refine wpPar_pure rfl (by rfl) _ (fun W hW => exec_load_at rfl rfl (rangeAt_kept hcR hW) aCR) ?_; simp only [Act.put, List.setIfInBounds_toArray, List.set_cons_zero, List.set_cons_succ]
        iterate 5 (refine wpPar_pure rfl (by rfl) _ (fun W hW => by
            go_simp
            exact rfl) ?_; simp only [Act.put, List.setIfInBounds_toArray, List.set_cons_zero, List.set_cons_succ])
        refine wpKn_adds hs rfl (by rfl) (fun W hW hd => ?_) (fun v16 hv => ?_)
        · unfold Gives
          go_simp
          refine gives_call (HR.out.2.2.1 _ _ _ _ _ _ W (iY.kept hW (fun _ _ _ h => h)) (iX.kept hW (fun _ _ _ h => h))) ?_
          rintro e w3 ⟨u, rfl, hO, k3⟩
          exact ⟨_, rfl, k3, hO.form, _, _, hO.its (Nat.le_refl _)⟩
        obtain ⟨a16, c16, rfl⟩ : ∃ a c, v16 = .slice a l.length c := hv
        simp only [Act.put, List.setIfInBounds_toArray, List.set_cons_zero, List.set_cons_succ]
        iterate 1 (refine wpPar_pure rfl (by rfl) _ (fun W hW => by
            go_simp
            exact rfl) ?_; simp only [Act.put, List.setIfInBounds_toArray, List.set_cons_zero, List.set_cons_succ])
        refine wpKn_adds hs rfl (by rfl) (fun W hW hd => ?_) (fun v18 hv => ?_)
        · unfold Gives
          obtain ⟨lo2, hi2, h2⟩ : ∃ lo hi, Its W lo hi (.slice a16 l.length c16) l := hd 16 (List.Mem.head _)
          go_simp
          refine gives_call (HR.out.2.2.2.2 _ _ _ _ _ _ W h2 (iX.kept hW (fun _ _ _ h => h))) ?_
          rintro e w3 ⟨rfl, k3⟩
          exact ⟨_, rfl, k3, rfl, trivial⟩
        obtain rfl : v18 = .bool true := hv
        simp only [Act.put, List.setIfInBounds_toArray, List.set_cons_zero, List.set_cons_succ]
        iterate 3 (refine wpPar_pure rfl (by rfl) _ (fun W hW => by
            go_simp
            exact rfl) ?_; simp only [Act.put, List.setIfInBounds_toArray, List.set_cons_zero, List.set_cons_succ])
        refine wpKn_adds hs rfl (by rfl) (fun W hW hd => ?_) (fun v22 hv => ?_)
        · unfold Gives
          go_simp
          refine gives_call (HR.out.2.2.2.1 _ _ _ W (iY.kept hW (fun _ _ _ h => h))) ?_
          rintro e w3 ⟨u, rfl, hO, k3⟩
          exact ⟨_, rfl, k3, hO.form, _, _, hO.its (Nat.le_refl _)⟩
        obtain ⟨a22, c22, rfl⟩ : ∃ a c, v22 = .slice a l.length c := hv
        simp only [Act.put, List.setIfInBounds_toArray, List.set_cons_zero, List.set_cons_succ]
        iterate 1 (refine wpPar_pure rfl (by rfl) _ (fun W hW => by
            go_simp
            exact rfl) ?_; simp only [Act.put, List.setIfInBounds_toArray, List.set_cons_zero, List.set_cons_succ])
        refine wpKn_adds hs rfl (by rfl) (fun W hW hd => ?_) (fun v24 hv => ?_)
        · unfold Gives
          obtain ⟨lo2, hi2, h2⟩ : ∃ lo hi, Its W lo hi (.slice a22 l.length c22) l := hd 22 (List.Mem.head _)
          go_simp
          refine gives_call (HR.out.2.2.2.2 _ _ _ _ _ _ W h2 (iX.kept hW (fun _ _ _ h => h))) ?_
          rintro e w3 ⟨rfl, k3⟩
          exact ⟨_, rfl, k3, rfl, trivial⟩
        obtain rfl : v24 = .bool true := hv
        simp only [Act.put, List.setIfInBounds_toArray, List.set_cons_zero, List.set_cons_succ]
        iterate 2 (refine wpPar_pure rfl (by rfl) _ (fun W hW => by
            go_simp
            exact rfl) ?_; simp only [Act.put, List.setIfInBounds_toArray, List.set_cons_zero, List.set_cons_succ])
        refine wpPar_nil (fun w9 hW hG => ?_)
        have k10 := k0B.trans hW
        clear hG hs hW k0B e2 hcR iX iY
        go_wp2
        go_ret
        exact ⟨rfl, k10⟩
end Tr
end Go.Proofs.Ytalkkiliepaikaa
