/- postmarkref1.Perm, by its contract. -/
import Derived.Test.YtbckjkfdkgomiaaRefRound
namespace Go.Proofs.Ytbckjkfdkgomiaa
open Go.RowKit Go.Pm
namespace Ref

/-- The rounds' numbers, as the reference has them. -/
abbrev constC : Array Value := #[.int .u64 240, .int .u64 225, .int .u64 210, .int .u64 195, .int .u64 180, .int .u64 165, .int .u64 150, .int .u64 135, .int .u64 120, .int .u64 105, .int .u64 90, .int .u64 75]
theorem constC_at : ∀ k : Nat, k < 12 → constC[k]? = some (.int .u64 (240 - 15 * k)) := by
  intro k hk
  match k, hk with
  | 0, _ => rfl
  | 1, _ => rfl
  | 2, _ => rfl
  | 3, _ => rfl
  | 4, _ => rfl
  | 5, _ => rfl
  | 6, _ => rfl
  | 7, _ => rfl
  | 8, _ => rfl
  | 9, _ => rfl
  | 10, _ => rfl
  | 11, _ => rfl

set_option maxRecDepth 100000 in
set_option maxHeartbeats 1000000 in
theorem perm (s : S5) (w : World) :
    Calls Try.prog 84 #[Sp.sv s] w fun e w' => e = .returned (Sp.sv s.perm) ∧ Kept None w w' := by
  obtain ⟨st, hst⟩ : ∃ st : Nat → S5, ∀ k, st k = (consts.take k).foldl S5.round s := ⟨_, fun _ => rfl⟩
  have h0 : st 0 = s := hst 0
  have hs : ∀ k : Nat, k < 12 → ∀ n : U64, U n = 240 - 15 * k → st (k + 1) = (st k).round n := fun k hk n hn => by rw [hst, hst]; exact consts_step k hk n hn s
  have he : s.perm = st 12 := by rw [hst]; rfl
  rw [he]
  have H0 := hid h0
  have HS := hid hs
  clear h0 hs he hst
  go_enter Try.func84, Try.ntmps84
  go_wp2
  go_loopw [4] (fun i wr => ∃ k : Nat, k ≤ 12 ∧ i = .int .i64 k ∧ Kept None w wr ∧ Blk wr w.heap.size (Sp.sc (st k)) 98 ∧ (∃ z : Array Value, z.size = 5 ∧ Blk wr (w.heap.size + 1) z 98) ∧ Blk wr (w.heap.size + 1 + 1) constC 103) (fun i _ => 12 - (intOf i).toNat)
  case atStart =>
    refine ⟨0, by omega, rfl, (((Kept.refl _ _).alloc _).alloc _).alloc _, ?_, ⟨_, ?_, (Blk.new2 _ _ _ _).alloc _⟩, Blk.new3 _ _ _ _ _⟩
    · rw [H0.out]; exact ((Blk.new _ _ _).alloc _).alloc _
    · rfl
  case round =>
    obtain ⟨k, hk, rfl, hkk, hS, ⟨z, hz, hR⟩, hC⟩ := hrel
    by_cases hlt : k < 12
    · obtain ⟨n, hn⟩ : ∃ n : U64, U n = 240 - 15 * k := ⟨W (240 - 15 * k), U_W _ (by omega) (by omega)⟩
      have hc := hC.cell k
      rw [constC_at k hlt, ← hn] at hc
      have HN := hid (HS.out k hlt n hn)
      clear hn
      go_wp2
      refine wp_tail 4 (by kernel_rfl) (by kernel_rfl) (fun wy ky => ?_)
      have hS' := hS.kept ky (fun h => h)
      have hR' := hR.kept ky (fun h => h)
      have hC' := hC.kept ky (fun h => h)
      have hk' := hkk.then ky (fun _ _ h => h)
      have hc' : wy.cell? ⟨w.heap.size + 1 + 1, k, none⟩ = some (.int .u64 (U n)) := by
        rw [← hc]; exact (hC'.cell k).trans (hC.cell k).symm
      have c0 := hS'.cell 0
      have c1 := hS'.cell 1
      have c2 := hS'.cell 2
      have c3 := hS'.cell 3
      have c4 := hS'.cell 4
      simp at c0 c1 c2 c3 c4
      clear hc ky hS hR hC hkk
      simp only [List.take_succ_cons, List.take_zero, List.drop_succ_cons, List.drop_zero]
      repeat still_step
      refine wpStill_nil ?_
      clear c0 c1 c2 c3 c4 hc'
      go_wp2_with fail
      refine (round (st k) n _).mono ?_
      rintro e1 w1 ⟨rfl, k1⟩
      rw [← HN.out]
      have hS1 := hS'.kept k1 (fun h => h)
      have hR1 := hR'.kept k1 (fun h => h)
      have hC1 := hC'.kept k1 (fun h => h)
      have hk1 := hk'.then k1 (fun _ _ h => h)
      clear hS' hR' hC' hk' k1 HN
      go_wp2_with (first | (refine wpList_store_blk rfl _ _ _ rfl rfl rfl hS1 Sp.aS rfl (Sp.sc_all _) ?_; intro w2 hS2 k2) | fail)
      have hC2 := hC1.kept k2 (fun (h : w.heap.size + 1 + 1 = w.heap.size) => by omega)
      have hR2 := hR1.kept k2 (fun (h : w.heap.size + 1 = w.heap.size) => by omega)
      have hk2 := hk1.then k2 (fun i hi (h : i = w.heap.size) => by omega)
      clear hS1 hR1 hC1 hk1 k2
      go_wp2
      go_roundw
      case rel => exact ⟨k + 1, by omega, by go_num, hk2, hS2, ⟨z, hz, hR2⟩, hC2⟩
      case measure => simp [intOf]; omega
    · have h12 : k = 12 := by omega
      subst h12
      have E := hid hz
      clear hz hC
      go_wp2_with (first | (refine wpList_load_blk rfl _ _ rfl rfl hS Sp.aS ?_) | (refine wpList_store_blk rfl _ _ _ rfl rfl rfl hR Sp.aS E.out (Sp.sc_all _) ?_; intro w6 hR6 k6) | fail)
      exact bodyPost_ret (v := Sp.sv (st 12)) (results_blk rfl _ rfl hR6 Sp.aS) rfl ⟨rfl, hkk.then k6 (fun i hi (h : i = w.heap.size + 1) => by omega)⟩
end Ref
end Go.Proofs.Ytbckjkfdkgomiaa
