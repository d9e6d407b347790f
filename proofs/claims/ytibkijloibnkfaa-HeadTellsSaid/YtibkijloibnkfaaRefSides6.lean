/- Package postmarkref5, sides: by contract. -/
import Derived.Test.YtibkijloibnkfaaRefBit6
import Derived.Test.YtibkijloibnkfaaRows6
namespace Go.Proofs.Ytibkijloibnkfaa
open Go.RowKit Go.Pm

namespace RTr
theorem rtyK {P : Program} {t e : TypeId} {z : Value} {k bytes : Nat} (h1 : P.underlying t = some (.slice e)) (h2 : (P.info? e).map (fun i => (i.zero, i.size, i.bytes)) = some (some z, k, bytes)) (h3 : z.cells.size = k) (h4 : 0 < k) : RowTyK P t e z k bytes := by
  refine ⟨h1, ?_, h3, h4⟩
  cases hi : P.info? e with
  | none => rw [hi] at h2; cases h2
  | some i =>
    rw [hi] at h2
    simp only [Option.map_some, Option.some.injEq, Prod.mk.injEq] at h2
    exact ⟨i, rfl, h2.1, h2.2.1, h2.2.2⟩
abbrev zItem : Value := .agg (Array.replicate 64 (.int .u8 0))
theorem rtItems : RowTyK Try.prog 126 139 zItem 64 64 := rtyK (by kernel_rfl) (by kernel_rfl) (by rfl) (by decide)
theorem aI64 : AggTy Try.prog 139 64 := aggOf (by kernel_rfl) (by kernel_rfl)

theorem half_take (l : List It) (j b k : Nat) (hk : k < l.length) : half (l.take (k + 1)) j b = half (l.take k) j b ++ (if bitI l[k].i j = b then [l[k]] else []) := by
  unfold half
  rw [List.take_succ_eq_append_getElem hk, List.filter_append]
  congr 1
  by_cases h : bitI l[k].i j = b <;> simp [h]
theorem half_len (l : List It) (j b : Nat) : (half l j b).length ≤ l.length := List.length_filter_le _ _

set_option maxRecDepth 100000 in
set_option maxHeartbeats 4000000 in
/-- sides. -/
theorem sides (v : Value) (lo hi : Nat) (l : List It) (j : Nat) (w : World) (hv : Its w lo hi v l) (hl : l.length ≤ 549755813888) (hj : j < 256) :
    Calls Try.prog 113 #[v, .int .i64 j] w fun e w' => ∃ va vb, e = .returned (.tuple #[va, vb]) ∧ Kept None w w' ∧ Ito 139 w' w.heap.size va (half l j 0) ∧ Ito 139 w' w.heap.size vb (half l j 1) := by
  obtain ⟨a, cap, rfl, g1, g2, g3⟩ := hv.form
  have g2' : cap ≤ 9223372036854775807 := g2
  go_enter Try.func113, Try.ntmps113
  go_wp2
  go_loopw [6, 7, 8] (fun va vb i wr => ∃ k : Nat, k ≤ l.length ∧ i = .int .i64 k ∧ (∃ a n c, va = .slice a n c) ∧ (∃ a n c, vb = .slice a n c) ∧ Ito 139 wr w.heap.size va (half (l.take k) j 0) ∧ Ito 139 wr w.heap.size vb (half (l.take k) j 1) ∧ (∀ q, va.ownBlock = some q → vb.ownBlock ≠ some q) ∧ Kept None w wr) (fun _ _ i _ => l.length - (intOf i).toNat)
  case atStart => exact ⟨0, Nat.zero_le _, rfl, ⟨_, _, _, rfl⟩, ⟨_, _, _, rfl⟩, Ito.nil _ _ _, Ito.nil _ _ _, (fun q h => by cases h), Kept.refl _ _⟩
  case round =>
    obtain ⟨k, hk, rfl, ⟨a1, n1, c1, rfl⟩, ⟨a2, n2, c2, rfl⟩, hA, hB, hne, hkk⟩ := hrel
    have hsz := hkk.size
    by_cases hlt : k < l.length
    · have hvr := hv.kept hkk (fun _ _ _ h => h)
      obtain ⟨b, o, rfl, q1, q2, q3, hc⟩ := hvr.ne (by omega)
      have hx := hc k l[k] (List.getElem?_eq_getElem hlt)
      have hlen := hvr.1 l[k] (List.getElem_mem hlt)
      have h0 := half_take l j 0 k hlt
      have h1 := half_take l j 1 k hlt
      have e0 : (half (l.take k) j 0).length ≤ k := Nat.le_trans (half_len _ _ _) (by simp; omega)
      have e1 : (half (l.take k) j 1).length ≤ k := Nat.le_trans (half_len _ _ _) (by simp; omega)
      have hlt' : (k : Int) < l.length := by omega
      generalize l[k] = x at *
      have h64 := itC_len hlen
      have hxi : wr.rangeAt b (o + k * 64) (x.i.map u8v) := by
        have h := rangeAt_take hx 32
        rwa [show (itC x).take 32 = x.i.map u8v from List.take_left' (by simp [hlen.1])] at h
      have aX : AggTy Try.prog 23 (x.i.map u8v).length := by rw [List.length_map, hlen.1]; exact Sp.aH
      have aY : AggTy Try.prog 139 (itC x).length := by rw [h64]; exact aI64
      have HF := hid (And.intro h0 h1)
      clear hc hvr hv g3 hlt h0 h1
      go_wp2_with (first | (refine wpList_load_at rfl _ _ rfl rfl hxi aX ?_) | fail)
      refine (bit x.i hlen.1 j hj wr).mono ?_
      rintro e w3 ⟨rfl, k3⟩
      have hx3 := rangeAt_kept hx k3
      have hA3 := hA.kept k3 (fun _ _ h => h)
      have hB3 := hB.kept k3 (fun _ _ h => h)
      have k03 := hkk.trans k3
      clear hx hxi aX hA hB hkk k3 hsz
      have hsz := k03.size
      rcases bitI_two x.i j with hb | hb
      · rw [hb]
        have hO := Its.one w3 139 x hlen
        have hA4 := hA3.alloc (.cells (itC x).toArray 139)
        have hB4 := hB3.alloc (.cells (itC x).toArray 139)
        have k04 := k03.alloc (.cells (itC x).toArray 139)
        have hsz4 := k04.size
        clear hA3 hB3 k03
        go_wp2_with (first | (refine wpList_load_at rfl _ _ rfl rfl hx3 aY ?_) | (refine wpList_one_item rfl _ _ rfl rtItems (by decide) rfl (by simpa using h64) ?_) | (at_builtin; refine wpList_append_ito (v := .slice a1 n1 c1) (u := .slice (some ⟨w3.heap.size, 0, none⟩) 1 1) rfl _ _ 126 rfl rtItems rfl rfl hA4 hO (by simp; omega) hsz4 ?_; intro a5 n5 c5 w5 hN5 k5 f5) | fail)
        have hM5 := hB4.kept k5 (fun q hq h => hne q h hq)
        have k05 := Kept.own k04 k5 (fun q hq => (hA4.own q hq).1)
        refine ⟨⟨k + 1, by omega, by go_num, ⟨_, _, _, rfl⟩, ⟨_, _, _, rfl⟩, ?_, ?_, ?_, k05⟩, by simp only [intOf]; omega⟩
        · rw [HF.out.1]
          simpa [hb] using hN5
        · rw [HF.out.2]
          simpa [hb] using hM5
        · intro q hq h
          rcases f5 q hq with h1 | h1
          · exact hne q h1 h
          · have := (hB4.own q h).2
            omega
      · rw [hb]
        have hO := Its.one w3 139 x hlen
        have hA4 := hA3.alloc (.cells (itC x).toArray 139)
        have hB4 := hB3.alloc (.cells (itC x).toArray 139)
        have k04 := k03.alloc (.cells (itC x).toArray 139)
        have hsz4 := k04.size
        clear hA3 hB3 k03
        go_wp2_with (first | (refine wpList_load_at rfl _ _ rfl rfl hx3 aY ?_) | (refine wpList_one_item rfl _ _ rfl rtItems (by decide) rfl (by simpa using h64) ?_) | (at_builtin; refine wpList_append_ito (v := .slice a2 n2 c2) (u := .slice (some ⟨w3.heap.size, 0, none⟩) 1 1) rfl _ _ 126 rfl rtItems rfl rfl hB4 hO (by simp; omega) hsz4 ?_; intro a5 n5 c5 w5 hN5 k5 f5) | fail)
        have hM5 := hA4.kept k5 (fun q hq h => hne q hq h)
        have k05 := Kept.own k04 k5 (fun q hq => (hB4.own q hq).1)
        refine ⟨⟨k + 1, by omega, by go_num, ⟨_, _, _, rfl⟩, ⟨_, _, _, rfl⟩, ?_, ?_, ?_, k05⟩, by simp only [intOf]; omega⟩
        · rw [HF.out.1]
          simpa [hb] using hM5
        · rw [HF.out.2]
          simpa [hb] using hN5
        · intro q hq h
          rcases f5 q h with h1 | h1
          · exact hne q hq h1
          · have := (hA4.own q hq).2
            omega
    · have hkl : k = l.length := by omega
      subst hkl
      rw [List.take_length] at hA hB
      clear hv g3 hne
      go_wp2
      go_ret2
      exact ⟨_, _, rfl, hkk, hA, hB⟩
end RTr
end Go.Proofs.Ytibkijloibnkfaa
