/- postmarkref5.Root: by contract. -/
import Derived.Test.YtibkijloibnkfaaRefSet6
namespace Go.Proofs.Ytibkijloibnkfaa
open Go.RowKit Go.Pm

namespace RTr
set_option maxRecDepth 100000 in
set_option maxHeartbeats 2000000 in
/-- Root. -/
theorem root_of (v : Value) (lo hi : Nat) (l : List It) (w : World) (hv : Its w lo hi v l) (hl : l.length ≤ 549755813888) : Calls Try.prog 87 #[v] w fun e w' => e = .returned (hashV (rootOf l)) ∧ Kept None w w' := by
  have k0 : Kept None w (w.alloc (.cells #[.int .u8 0, .int .u8 0, .int .u8 0, .int .u8 0, .int .u8 0, .int .u8 0, .int .u8 0, .int .u8 0, .int .u8 0, .int .u8 0, .int .u8 0, .int .u8 0, .int .u8 0, .int .u8 0, .int .u8 0, .int .u8 0, .int .u8 0, .int .u8 0, .int .u8 0, .int .u8 0, .int .u8 0, .int .u8 0, .int .u8 0, .int .u8 0, .int .u8 0, .int .u8 0, .int .u8 0, .int .u8 0, .int .u8 0, .int .u8 0, .int .u8 0, .int .u8 0] 23)) := (Kept.refl _ _).alloc _
  have v0 := Blk.new w #[.int .u8 0, .int .u8 0, .int .u8 0, .int .u8 0, .int .u8 0, .int .u8 0, .int .u8 0, .int .u8 0, .int .u8 0, .int .u8 0, .int .u8 0, .int .u8 0, .int .u8 0, .int .u8 0, .int .u8 0, .int .u8 0, .int .u8 0, .int .u8 0, .int .u8 0, .int .u8 0, .int .u8 0, .int .u8 0, .int .u8 0, .int .u8 0, .int .u8 0, .int .u8 0, .int .u8 0, .int .u8 0, .int .u8 0, .int .u8 0, .int .u8 0, .int .u8 0] 23
  obtain ⟨z, hz, hR⟩ : ∃ z : Array Value, z.size = 32 ∧ Blk (w.alloc (.cells #[.int .u8 0, .int .u8 0, .int .u8 0, .int .u8 0, .int .u8 0, .int .u8 0, .int .u8 0, .int .u8 0, .int .u8 0, .int .u8 0, .int .u8 0, .int .u8 0, .int .u8 0, .int .u8 0, .int .u8 0, .int .u8 0, .int .u8 0, .int .u8 0, .int .u8 0, .int .u8 0, .int .u8 0, .int .u8 0, .int .u8 0, .int .u8 0, .int .u8 0, .int .u8 0, .int .u8 0, .int .u8 0, .int .u8 0, .int .u8 0, .int .u8 0, .int .u8 0] 23)) w.heap.size z 23 := ⟨_, by rfl, v0⟩
  have hV := hv.kept k0 (fun _ _ _ h => h)
  clear v0
  have hS := set v (.slice none 0 0) lo hi 0 0 l [] _ hV (Its.nil _ _ _) (by simpa using (by omega : l.length ≤ 549755813888))
  rw [List.append_nil] at hS
  have hfull := full_setI hv.1
  have hsl := len_setI l
  have he := fun v lo hi w h => root 256 (setI l) 0 v lo hi w h (srt_setI l) (fun _ _ _ _ k hk => by omega) (Nat.le_refl _) (by omega) (by omega)
  obtain ⟨res, hres⟩ : ∃ res, res = rootOf l := ⟨_, rfl⟩
  have H32 : res.length = 32 := by rw [hres]; exact Go.Pm.rootI_len 256 (srt_setI l) hfull (fun _ _ _ _ k hk => by omega) (Nat.le_refl _)
  rw [show rootI 256 (setI l) 0 = rootOf l from rfl, ← hres] at he
  rw [← hres]
  have HS := hid hS
  have HE := hid he
  replace H32 := hid H32
  clear hS he hres hfull hsl hV hv hl
  go_enter Try.func87, Try.ntmps87
  go_wp2_with fail
  refine HS.out.mono ?_
  rintro e w3 ⟨u, rfl, hO, k3⟩
  have k03 := k0.trans k3
  have hR3 := hR.kept k3 (fun h => h)
  have hI := hO.its (Nat.le_refl _)
  clear k0 k3 hR hO HS
  go_wp2_with fail
  refine (HE.out _ _ _ _ hI).mono ?_
  rintro e w4 ⟨rfl, k4⟩
  have k04 := k03.trans k4
  have hR4 := hR3.kept k4 (fun h => h)
  clear k03 k4 hR3 hI HE
  have e32' : (res.map u8v).toArray.size = 32 := by simpa using H32.out
  have aH' : AggTy Try.prog 23 (res.map u8v).toArray.size := by rw [e32']; exact Sp.aH
  have E := hid (hz.trans e32'.symm)
  clear e32' hz
  go_wp2_with (first | (refine wpList_store_blk (.refl _) _ _ _ rfl rfl rfl hR4 aH' E.out (u8v_all _) ?_; intro w9 hR9 k9) | fail)
  exact bodyPost_ret (v := hashV res) (results_blk rfl _ rfl hR9 aH') rfl ⟨rfl, k04.then k9 (fun i hi (h : i = w.heap.size) => by omega)⟩
end RTr
end Go.Proofs.Ytibkijloibnkfaa
