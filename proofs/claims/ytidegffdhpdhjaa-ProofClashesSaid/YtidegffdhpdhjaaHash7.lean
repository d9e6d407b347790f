/- Package proof, hash: by contract. -/
import Derived.Test.YtidegffdhpdhjaaReadP7
import Derived.Test.YtidegffdhpdhjaaPad7
namespace Go.Proofs.Ytidegffdhpdhjaa
open Go.RowKit Go.Pm
namespace Pr
set_option maxRecDepth 100000 in
set_option maxHeartbeats 1000000 in
/-- hash. -/
theorem rhash (r lo hi : Nat) (s : St) (w : World) (hr : Bin.Rd w lo hi r s) (hlo : hi ≤ r) (hl : s.l.length ≤ 140737488355328) :
    Calls Try.prog 77 #[.pointer (some ⟨r, 0, none⟩)] w fun e w' => e = .returned (hashV (hashO s)) ∧ Kept (Just r) w w' ∧ Bin.Rd w' lo hi r (s.rawS 32) := by
  have hR := fun W h => Bin.rraw r lo hi s 32 W h (by decide) (by decide) hlo hl
  have hpad := padO_raw s
  have h32 := hashO_len s
  obtain ⟨raw, hraw⟩ : ∃ x, x = s.raw 32 := ⟨_, rfl⟩
  have hlen := raw32 s
  obtain ⟨S2, hS2⟩ : ∃ x, x = s.rawS 32 := ⟨_, rfl⟩
  rw [← hraw] at hR hpad hlen
  rw [← hS2] at hR ⊢
  obtain ⟨res, hres⟩ : ∃ x, x = hashO s := ⟨_, rfl⟩
  rw [← hres] at hpad h32 ⊢
  have k0 : Kept None w ((w.alloc (.cells #[.int .u8 0, .int .u8 0, .int .u8 0, .int .u8 0, .int .u8 0, .int .u8 0, .int .u8 0, .int .u8 0, .int .u8 0, .int .u8 0, .int .u8 0, .int .u8 0, .int .u8 0, .int .u8 0, .int .u8 0, .int .u8 0, .int .u8 0, .int .u8 0, .int .u8 0, .int .u8 0, .int .u8 0, .int .u8 0, .int .u8 0, .int .u8 0, .int .u8 0, .int .u8 0, .int .u8 0, .int .u8 0, .int .u8 0, .int .u8 0, .int .u8 0, .int .u8 0] 23)).alloc (.cells #[.int .u8 0, .int .u8 0, .int .u8 0, .int .u8 0, .int .u8 0, .int .u8 0, .int .u8 0, .int .u8 0, .int .u8 0, .int .u8 0, .int .u8 0, .int .u8 0, .int .u8 0, .int .u8 0, .int .u8 0, .int .u8 0, .int .u8 0, .int .u8 0, .int .u8 0, .int .u8 0, .int .u8 0, .int .u8 0, .int .u8 0, .int .u8 0, .int .u8 0, .int .u8 0, .int .u8 0, .int .u8 0, .int .u8 0, .int .u8 0, .int .u8 0, .int .u8 0] 23)) := ((Kept.refl _ _).alloc _).alloc _
  have z1 : Blk ((w.alloc (.cells #[.int .u8 0, .int .u8 0, .int .u8 0, .int .u8 0, .int .u8 0, .int .u8 0, .int .u8 0, .int .u8 0, .int .u8 0, .int .u8 0, .int .u8 0, .int .u8 0, .int .u8 0, .int .u8 0, .int .u8 0, .int .u8 0, .int .u8 0, .int .u8 0, .int .u8 0, .int .u8 0, .int .u8 0, .int .u8 0, .int .u8 0, .int .u8 0, .int .u8 0, .int .u8 0, .int .u8 0, .int .u8 0, .int .u8 0, .int .u8 0, .int .u8 0, .int .u8 0] 23)).alloc (.cells #[.int .u8 0, .int .u8 0, .int .u8 0, .int .u8 0, .int .u8 0, .int .u8 0, .int .u8 0, .int .u8 0, .int .u8 0, .int .u8 0, .int .u8 0, .int .u8 0, .int .u8 0, .int .u8 0, .int .u8 0, .int .u8 0, .int .u8 0, .int .u8 0, .int .u8 0, .int .u8 0, .int .u8 0, .int .u8 0, .int .u8 0, .int .u8 0, .int .u8 0, .int .u8 0, .int .u8 0, .int .u8 0, .int .u8 0, .int .u8 0, .int .u8 0, .int .u8 0] 23)) w.heap.size #[.int .u8 0, .int .u8 0, .int .u8 0, .int .u8 0, .int .u8 0, .int .u8 0, .int .u8 0, .int .u8 0, .int .u8 0, .int .u8 0, .int .u8 0, .int .u8 0, .int .u8 0, .int .u8 0, .int .u8 0, .int .u8 0, .int .u8 0, .int .u8 0, .int .u8 0, .int .u8 0, .int .u8 0, .int .u8 0, .int .u8 0, .int .u8 0, .int .u8 0, .int .u8 0, .int .u8 0, .int .u8 0, .int .u8 0, .int .u8 0, .int .u8 0, .int .u8 0] 23 := (Blk.new w _ _).alloc _
  have z2 : Blk ((w.alloc (.cells #[.int .u8 0, .int .u8 0, .int .u8 0, .int .u8 0, .int .u8 0, .int .u8 0, .int .u8 0, .int .u8 0, .int .u8 0, .int .u8 0, .int .u8 0, .int .u8 0, .int .u8 0, .int .u8 0, .int .u8 0, .int .u8 0, .int .u8 0, .int .u8 0, .int .u8 0, .int .u8 0, .int .u8 0, .int .u8 0, .int .u8 0, .int .u8 0, .int .u8 0, .int .u8 0, .int .u8 0, .int .u8 0, .int .u8 0, .int .u8 0, .int .u8 0, .int .u8 0] 23)).alloc (.cells #[.int .u8 0, .int .u8 0, .int .u8 0, .int .u8 0, .int .u8 0, .int .u8 0, .int .u8 0, .int .u8 0, .int .u8 0, .int .u8 0, .int .u8 0, .int .u8 0, .int .u8 0, .int .u8 0, .int .u8 0, .int .u8 0, .int .u8 0, .int .u8 0, .int .u8 0, .int .u8 0, .int .u8 0, .int .u8 0, .int .u8 0, .int .u8 0, .int .u8 0, .int .u8 0, .int .u8 0, .int .u8 0, .int .u8 0, .int .u8 0, .int .u8 0, .int .u8 0] 23)) (w.heap.size + 1) #[.int .u8 0, .int .u8 0, .int .u8 0, .int .u8 0, .int .u8 0, .int .u8 0, .int .u8 0, .int .u8 0, .int .u8 0, .int .u8 0, .int .u8 0, .int .u8 0, .int .u8 0, .int .u8 0, .int .u8 0, .int .u8 0, .int .u8 0, .int .u8 0, .int .u8 0, .int .u8 0, .int .u8 0, .int .u8 0, .int .u8 0, .int .u8 0, .int .u8 0, .int .u8 0, .int .u8 0, .int .u8 0, .int .u8 0, .int .u8 0, .int .u8 0, .int .u8 0] 23 := Blk.new2 w _ _ _
  obtain ⟨z, hz, hZ⟩ := Blk.any (n := 32) z1 (by rfl)
  have hH : Blk ((w.alloc (.cells #[.int .u8 0, .int .u8 0, .int .u8 0, .int .u8 0, .int .u8 0, .int .u8 0, .int .u8 0, .int .u8 0, .int .u8 0, .int .u8 0, .int .u8 0, .int .u8 0, .int .u8 0, .int .u8 0, .int .u8 0, .int .u8 0, .int .u8 0, .int .u8 0, .int .u8 0, .int .u8 0, .int .u8 0, .int .u8 0, .int .u8 0, .int .u8 0, .int .u8 0, .int .u8 0, .int .u8 0, .int .u8 0, .int .u8 0, .int .u8 0, .int .u8 0, .int .u8 0] 23)).alloc (.cells #[.int .u8 0, .int .u8 0, .int .u8 0, .int .u8 0, .int .u8 0, .int .u8 0, .int .u8 0, .int .u8 0, .int .u8 0, .int .u8 0, .int .u8 0, .int .u8 0, .int .u8 0, .int .u8 0, .int .u8 0, .int .u8 0, .int .u8 0, .int .u8 0, .int .u8 0, .int .u8 0, .int .u8 0, .int .u8 0, .int .u8 0, .int .u8 0, .int .u8 0, .int .u8 0, .int .u8 0, .int .u8 0, .int .u8 0, .int .u8 0, .int .u8 0, .int .u8 0] 23)) (w.heap.size + 1) (zero32.map u8v).toArray 23 := z2
  have hr0 := hr.kept k0 (fun _ _ _ h => h) (fun h => h)
  have HR := hid hR
  have HL := hid hlen
  have HP := hid (And.intro hpad h32)
  have hrw := hid hr.lt
  clear hR hraw hlen hS2 hres hpad h32 z1 z2 hr
  go_enter Try.func77, Try.ntmps77
  go_wp2_with fail
  refine wp_nm ?_
  intro w1 e1
  rw [← e1] at k0 hZ hH hr0
  clear e1
  refine wp_region_plan_tail 3 (Kept (Just r) w1) [{ k := 2, uses := [100], spends := [100], pure := fun u => ∃ a c, u = .slice a raw.length c, fact := fun u W => Bs W 0 W.heap.size u raw ∧ Bin.Rd W lo hi r S2 },
    { k := 100, uses := [], fact := fun _ W => Bin.Rd W lo hi r s }] [100] (by kernel_rfl) (by kernel_rfl) (by kernel_rfl) (by rfl) ?pures ((Kept.refl _ w1).drew) ?starts ?walk
  case pures =>
    intro f hf
    simp only [List.mem_cons, List.not_mem_nil, or_false] at hf
    rcases hf with rfl | rfl
    · exact ⟨_, none, 0, rfl⟩
    · exact ⟨undef, trivial⟩
  case starts =>
    intro k hk
    obtain rfl : k = 100 := by simpa using hk
    exact hr0.kept ((Kept.refl None w1).drew) (fun _ _ _ h => h) (fun h => h)
  simp only [List.take_succ_cons, List.take_zero, List.drop_succ_cons, List.drop_zero]
  iterate 2 (refine wpPar_pure rfl (by rfl) _ (fun W hW => by
      go_simp
      exact rfl) ?_; simp only [Act.put, List.setIfInBounds_toArray, List.set_cons_zero, List.set_cons_succ])
  refine wpPar_adds rfl (by rfl) (fun W hW hd => ?_) (fun v2 hv => ?_)
  · have rW : Bin.Rd W lo hi r s := hd 100 (List.Mem.head _)
    unfold Gives
    go_simp
    refine gives_call (HR.out W rW) ?_
    rintro e W' ⟨u, rfl, k, b, r4⟩
    obtain ⟨a3, c3, rfl⟩ := b.form
    refine ⟨_, rfl, hW.trans k, ⟨_, _, rfl⟩, ⟨(b.bs (Nat.le_refl _)).all, r4⟩, keeps_of fun f hf hs _ hne u hfu => ?_⟩
    simp only [List.mem_cons, List.not_mem_nil, or_false] at hf
    rcases hf with rfl | rfl
    · exact absurd rfl hne
    · exact absurd (List.Mem.head _) hs
  obtain ⟨a2, c2, rfl⟩ : ∃ a c, v2 = .slice a raw.length c := hv
  simp only [Act.put, List.setIfInBounds_toArray, List.set_cons_zero, List.set_cons_succ]
  refine wpPar_nil (fun W hW hG => ?_)
  obtain ⟨hB, hRd⟩ : Bs W 0 W.heap.size (.slice a2 raw.length c2) raw ∧ Bin.Rd W lo hi r S2 := hG 2
  have hZW := hZ.kept hW (fun h => by have h : w.heap.size = r := h; have := hrw.out; omega)
  have hHW := hH.kept hW (fun h => by have h : w.heap.size + 1 = r := h; have := hrw.out; omega)
  have kW : Kept (Just r) w W := (k0.mono (fun _ _ h => h.elim)).trans hW
  clear hG hW hZ hH k0 hr0 HR
  have hB0 := hB
  refine wpList_copy_pad rfl (.tmp 4) (.tmp 6) 29 29 rfl 5 tBytes' (by kernel_rfl) rfl rfl hB0 HL.out hHW ?_
  intro x w5 h5 k5
  rw [HP.out.1] at h5
  have hZ5 := hZW.kept k5 (fun h => by have h : w.heap.size = w.heap.size + 1 := h; omega)
  have hR5 := hRd.kept k5 (fun k h1 h2 h => by have h : k = w.heap.size + 1 := h; have := hrw.out; omega) (fun h => by have h : r = w.heap.size + 1 := h; have := hrw.out; omega)
  have k05 : Kept (Just r) w w5 := kW.then k5 (fun i hi h => by have h : i = w.heap.size + 1 := h; omega)
  have aH' := aH32 HP.out.2
  have E := hid (hz.trans (show 32 = (res.map u8v).toArray.size by simpa using HP.out.2.symm))
  clear hB hB0 hRd hZW hHW kW k5 hz
  go_wp2_with (first | (refine wpList_load_blk rfl _ _ rfl rfl h5 aH' ?_) | (refine wpList_store_blk rfl _ _ _ rfl rfl rfl hZ5 aH' E.out (u8v_all' _) ?_; intro w9 hR9 k9) | fail)
  refine bodyPost_ret (v := hashV res) (results_blk rfl _ rfl hR9 aH') rfl ⟨rfl, k05.then k9 (fun i hi (h : i = w.heap.size) => by omega), ?_⟩
  exact hR5.kept k9 (fun k h1 h2 h => by have h : k = w.heap.size := h; have := hrw.out; omega) (fun h => by have h : r = w.heap.size := h; have := hrw.out; omega)
end Pr
end Go.Proofs.Ytidegffdhpdhjaa
