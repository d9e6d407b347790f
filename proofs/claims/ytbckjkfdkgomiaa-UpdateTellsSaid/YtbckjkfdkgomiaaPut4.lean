/- sigs.Put, by its contract. -/
import Derived.Test.YtbckjkfdkgomiaaSigs4
namespace Go.Proofs.Ytbckjkfdkgomiaa
open Go.RowKit Go.Pm
namespace Sg

/-- A signature's bytes. -/
def sigB (r s : Nat) : List UInt8 := leB r ++ leB s
theorem sigB_len (r s : Nat) : (sigB r s).length = 16 := by simp [sigB, leB_length]

set_option maxRecDepth 100000 in
set_option maxHeartbeats 1000000 in
theorem put (r s : Nat) (w : World) (hr : r < 18446744073709551616) (hs0 : s < 18446744073709551616) :
    Calls Try.prog 32 #[sigV r s] w fun e w' => ∃ v, e = .returned v ∧ Kept None w w' ∧ Ob w' w.heap.size v (sigB r s) := by
  go_enter Try.func32, Try.ntmps32
  go_wp2_with fail
  obtain ⟨w1, hw1⟩ : ∃ w1, w1 = w.alloc (.cells #[.int .u64 (r : Int), .int .u64 (s : Int)] 24) := ⟨_, rfl⟩
  have hB := Blk.new w #[.int .u64 (r : Int), .int .u64 (s : Int)] 24
  have k0 : Kept None w (w.alloc (.cells #[.int .u64 (r : Int), .int .u64 (s : Int)] 24)) := (Kept.refl _ _).alloc _
  rw [← hw1] at hB k0 ⊢
  clear hw1
  have hc0 : ∀ W, Kept None w1 W → W.cell? ⟨w.heap.size, 0, none⟩ = some (.int .u64 (r : Int)) := fun W hW => (hB.kept hW (fun h => h)).cell 0
  have hc1 : ∀ W, Kept None w1 W → W.cell? ⟨w.heap.size, 1, none⟩ = some (.int .u64 (s : Int)) := fun W hW => (hB.kept hW (fun h => h)).cell 1
  clear hB
  have hs : Steady [.bytes 2 (leB r), .bytes 5 (leB s), .lists 6 ([leB r, leB s]) [2, 5], .own 5 7 (w1.heap.size) (sigB r s) [6]] := Steady.bytes (Steady.bytes (Steady.lists (Steady.own (Steady.nil))))
  refine wp_region_kn w1 _ hs (Kept.refl _ _) (by kernel_rfl) (by kernel_rfl) (by kernel_rfl) ?_
  iterate 2 (refine wpPar_pure rfl (by rfl) _ (fun W hW => by
      have c0 := hc0 W hW
      have c1 := hc1 W hW
      go_simp
      exact rfl) ?_; simp only [Act.put, List.setIfInBounds_toArray, List.set_cons_zero, List.set_cons_succ])
  refine wpKn_adds hs rfl (by rfl) (fun W hW hd => ?_) (fun v2 hv => ?_)
  · unfold Gives
    go_simp
    refine gives_call (Bin.num r W (by omega) (by omega)) ?_
    rintro e w3 ⟨u, rfl, k3, b3⟩
    exact ⟨_, rfl, k3, b3.form, _, _, b3.bs (Nat.le_refl _)⟩
  obtain ⟨a2, c2, rfl⟩ := hv
  simp only [Act.put, List.setIfInBounds_toArray, List.set_cons_zero, List.set_cons_succ]
  iterate 2 (refine wpPar_pure rfl (by rfl) _ (fun W hW => by
      have c0 := hc0 W hW
      have c1 := hc1 W hW
      go_simp
      exact rfl) ?_; simp only [Act.put, List.setIfInBounds_toArray, List.set_cons_zero, List.set_cons_succ])
  refine wpKn_adds hs rfl (by rfl) (fun W hW hd => ?_) (fun v5 hv => ?_)
  · unfold Gives
    go_simp
    refine gives_call (Bin.num s W (by omega) (by omega)) ?_
    rintro e w3 ⟨u, rfl, k3, b3⟩
    exact ⟨_, rfl, k3, b3.form, _, _, b3.bs (Nat.le_refl _)⟩
  obtain ⟨a5, c5, rfl⟩ := hv
  simp only [Act.put, List.setIfInBounds_toArray, List.set_cons_zero, List.set_cons_succ]
  refine wpKn_adds hs rfl (by rfl) (fun W hW hd => ?_) (fun v6 hv => ?_)
  · unfold Gives
    obtain ⟨lo1, hi1, h1⟩ : ∃ lo hi, Bs W lo hi (.slice a2 (leB r).length c2) (leB r) := hd 2 (List.Mem.head _)
    obtain ⟨lo2, hi2, h2⟩ : ∃ lo hi, Bs W lo hi (.slice a5 (leB s).length c5) (leB s) := hd 5 (List.Mem.tail _ (List.Mem.head _))
    go_simp
    exact ⟨(Kept.refl None W).alloc _, ⟨_, _, rfl⟩, _, _, _, _, Bss.new W #[.slice a2 (leB r).length c2, .slice a5 (leB s).length c5] 32 [leB r, leB s] 2 rfl (by decide) ⟨h1.all, h2.all, trivial⟩⟩
  obtain ⟨a6, c6, rfl⟩ := hv
  simp only [Act.put, List.setIfInBounds_toArray, List.set_cons_zero, List.set_cons_succ]
  refine wpKn_adds hs rfl (by rfl) (fun W hW hd => ?_) (fun v7 hv => ?_)
  · unfold Gives
    obtain ⟨lo1, hi1, lo2, hi2, h1⟩ : ∃ lo hi lo' hi', Bss W lo hi lo' hi' (.slice a6 [leB r, leB s].length c6) [leB r, leB s] := hd 6 (List.Mem.head _)
    go_simp
    refine gives_call (Bin.join _ _ _ _ _ _ W h1 (by simp [total, leB_length])) ?_
    rintro e w3 ⟨u, rfl, k3, b3⟩
    have b4 := b3.base hW.size
    rw [show [leB (r : Int), leB (s : Int)].flatten = sigB r s by simp [sigB]] at b4
    exact ⟨_, rfl, k3, b4.form, b4⟩
  obtain ⟨a7, c7, rfl⟩ := hv
  simp only [Act.put, List.setIfInBounds_toArray, List.set_cons_zero, List.set_cons_succ]
  iterate 1 (refine wpPar_pure rfl (by rfl) _ (fun W hW => by
      go_simp
      exact rfl) ?_; simp only [Act.put, List.setIfInBounds_toArray, List.set_cons_zero, List.set_cons_succ])
  refine wpPar_nil (fun W hW hG => ?_)
  have hb : Ob W w1.heap.size (.slice a7 (sigB r s).length c7) (sigB r s) := hG 7
  have hb1 := hb.base k0.size
  have k01 := k0.then hW (fun _ _ h => h)
  clear hG hb hc0 hc1 hs k0 hW
  go_wp2
  go_ret
  exact ⟨_, rfl, k01, hb1⟩
end Sg
end Go.Proofs.Ytbckjkfdkgomiaa
