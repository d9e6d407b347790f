/- postmarkref5.Of: by contract. -/
import Derived.Test.YtibkijloibnkfaaEntA
import Derived.Test.YtibkijloibnkfaaLowRdL
import Derived.Test.YtibkijloibnkfaaRInt1
namespace Go.Proofs.Ytibkijloibnkfaa
open Go.RowKit Go.Pm
namespace RUp
set_option maxRecDepth 100000 in
set_option maxHeartbeats 4000000 in
/-- postmarkref5.Of. -/
theorem of (rr lo hi : Nat) (l : List UInt8) (w : World) (hr : Ref.Rd w lo hi rr ⟨l, 0⟩) (hlo : hi ≤ rr) :
    Calls Try.prog 52 #[.pointer (some ⟨rr, 0, none⟩)] w fun e w' => e = .returned (entV ⟨(rdN l).toArray⟩ (intI (rd1 l).num) (rd2 l).nat) ∧ Kept (Just rr) w w' ∧ Ref.Rd w' lo hi rr (rd3 l) := by
  have j0 := fun w h => Ref.rlump rr lo hi ⟨l, 0⟩ 32 w h (by decide) (by decide) hlo
  have q1 := fun w h => Ref.rint rr lo hi (rd1 l) w h hlo
  have q2 := fun w h => Ref.rnum rr lo hi (rd2 l) w h hlo
  rw [← St.nat_eq] at q2
  rw [show St.lump ⟨l, 0⟩ 32 = rdN l from rfl, show St.lumpS ⟨l, 0⟩ 32 = rd1 l from rfl] at j0
  rw [show (rd1 l).numS = rd2 l from rfl] at q1
  rw [show (rd2 l).numS = rd3 l from rfl] at q2
  obtain ⟨N, hN⟩ : ∃ N, N = rdN l := ⟨_, rfl⟩
  obtain ⟨V, hV⟩ : ∃ V, V = intI (rd1 l).num := ⟨_, rfl⟩
  obtain ⟨K, hK⟩ : ∃ K, K = (rd2 l).nat := ⟨_, rfl⟩
  rw [← hN, ← hV, ← hK]
  rw [← hN] at j0
  rw [← hV] at q1
  rw [← hK] at q2
  obtain ⟨S0, hS0⟩ : ∃ S0, S0 = (⟨l, 0⟩ : St) := ⟨_, rfl⟩
  obtain ⟨S1, hS1⟩ : ∃ S1, S1 = rd1 l := ⟨_, rfl⟩
  obtain ⟨S2, hS2⟩ : ∃ S2, S2 = rd2 l := ⟨_, rfl⟩
  obtain ⟨S3, hS3⟩ : ∃ S3, S3 = rd3 l := ⟨_, rfl⟩
  rw [← hS0] at hr j0
  rw [← hS1] at j0 q1
  rw [← hS2] at q1 q2
  rw [← hS3] at q2 ⊢
  have J := hid (And.intro j0 (And.intro q1 q2))
  clear j0 q1 q2 hN hV hK hS0 hS1 hS2 hS3
  have hlt := hr.lt
  have k0 : Kept (Just rr) w (w.alloc (.cells #[.string ⟨#[]⟩, .int .i64 0, .int .u64 0] 53)) := (Kept.refl _ _).alloc _
  have r0 := hr.kept ((Kept.refl None w).alloc (.cells #[.string ⟨#[]⟩, .int .i64 0, .int .u64 0] 53)) (fun _ _ _ h => h) (fun h => h)
  have v0 := Blk.new w #[.string ⟨#[]⟩, .int .i64 0, .int .u64 0] 53
  go_enter Try.func52, Try.ntmps52
  go_wp2_with fail
  refine (J.out.1 _ r0).mono ?_
  rintro e w1 ⟨uN, rfl, k1, bN, r1⟩
  have kk1 := k0.trans k1
  have v1 := v0.kept k1 (fun (h : w.heap.size = rr) => by omega)
  obtain ⟨aN, cN, rfl, g1, g2, g3⟩ := bN.shape
  clear g3 k0 r0 v0 k1 hr
  go_wp2_with (first | (refine wpList_text rfl 29 9 5 _ rfl tBytes' tByte tString rfl bN ?_) | fail)
  refine (J.out.2.1 _ r1).mono ?_
  rintro e w2 ⟨rfl, k2, r2⟩
  have kk2 := kk1.trans k2
  have v2 := v1.kept k2 (fun (h : w.heap.size = rr) => by omega)
  clear kk1 k2 v1 bN r1
  go_wp2_with fail
  refine (J.out.2.2 _ r2).mono ?_
  rintro e w3 ⟨rfl, k3, r3⟩
  have kk3 := kk2.trans k3
  have v3 := v2.kept k3 (fun (h : w.heap.size = rr) => by omega)
  clear kk2 k3 v2 r2
  go_wp2_with (first | (refine wpList_store_blk rfl _ _ _ rfl rfl rfl v3 Up.aEnt rfl (Up.ent_all _ _ _) ?_; intro w7 hR7 k7) | fail)
  exact bodyPost_ret (v := entV ⟨N.toArray⟩ V K) (results_blk rfl _ rfl hR7 Up.aEnt) rfl ⟨rfl, kk3.then k7 (fun i hi (h : i = w.heap.size) => by omega), r3.kept k7 (fun k _ h (e : k = w.heap.size) => by omega) (fun (e : rr = w.heap.size) => by omega)⟩
end RUp
end Go.Proofs.Ytibkijloibnkfaa
