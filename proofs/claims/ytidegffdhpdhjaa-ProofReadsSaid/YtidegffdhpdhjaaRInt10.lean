/- (*postmarkref1.Reader).Int, Hash: by contract. -/
import Derived.Test.YtidegffdhpdhjaaPad7
import Derived.Test.YtidegffdhpdhjaaHk8
namespace Go.Pm
open Go Go.RowKit
theorem intI_le' {n : Int} (h : ¬ 9223372036854775807 < n) : intI n = n := by unfold intI; rw [if_neg h]
theorem intI_gt' {n : Int} (h : 9223372036854775807 < n) : intI n = -1 := by unfold intI; rw [if_pos h]
/-- Noughts, the first k stored over. -/
def mixO (l : List UInt8) (k : Nat) : List UInt8 := l.take k ++ zero32.drop k
theorem mixO_zero (l : List UInt8) : mixO l 0 = zero32 := by simp [mixO]
theorem mixO_len (l : List UInt8) (k : Nat) (hk : k ≤ l.length) (h : l.length ≤ 32) : (mixO l k).length = 32 := by
  unfold mixO
  rw [List.length_append, List.length_take, List.length_drop, zero32_len]
  omega
theorem mixO_all {l : List UInt8} (h : l.length = 32 ∨ l.length = 0) : mixO l l.length = padO l := by
  unfold mixO padO
  rw [List.take_length]
  rcases h with h | h
  · rw [if_pos h, h, show zero32.drop 32 = [] from rfl, List.append_nil]
  · rw [if_neg (by omega), h, List.eq_nil_of_length_eq_zero h]
    rfl
theorem mixO_set (l : List UInt8) (k : Nat) (hk : k < l.length) (h : l.length ≤ 32) : ((mixO l k).map u8v).toArray.setIfInBounds k (.int .u8 (bAt l k)) = ((mixO l (k + 1)).map u8v).toArray := by
  rw [← u8v_at l k hk, List.setIfInBounds_toArray, ← List.map_set]
  congr 2
  unfold mixO
  have h1 : (l.take k).length = k := by rw [List.length_take]; omega
  have hz : k < zero32.length := by rw [zero32_len]; omega
  rw [List.set_append_right _ _ (by omega), h1, Nat.sub_self, List.drop_eq_getElem_cons hz, List.set_cons_zero, List.take_succ_eq_append_getElem hk, List.append_assoc]
  rfl
theorem mixO_at (l : List UInt8) (k : Nat) (hk : k < l.length) (h : l.length ≤ 32) : ((mixO l k).map u8v).toArray[k]? = some (.int .u8 0) := by
  have h1 : (l.take k).length = k := by rw [List.length_take]; omega
  have hz : k < zero32.length := by rw [zero32_len]; omega
  unfold mixO
  simp only [List.getElem?_toArray, List.getElem?_map]
  rw [List.getElem?_append_right (by omega), h1, Nat.sub_self, List.getElem?_drop, Nat.add_zero, List.getElem?_eq_getElem hz]
  simp only [Option.map_some, zero32, List.getElem_replicate]
  rfl
end Go.Pm
namespace Go.Proofs.Ytidegffdhpdhjaa
open Go.RowKit Go.Pm
namespace Ref
set_option maxRecDepth 100000 in
set_option maxHeartbeats 400000 in
theorem rint (r : Nat) (lo hi : Nat) (s : St) (w : World) (hr : Ref.Rd w lo hi r s) (hlo : hi ≤ r) :
    Calls Try.prog 53 #[.pointer (some ⟨r, 0, none⟩)] w fun en w' => en = .returned (.int .i64 (intI s.num)) ∧ Kept (Just r) w w' ∧ Ref.Rd w' lo hi r s.numS := by
  have j := fun w h => Ref.rnum r lo hi s w h hlo
  have n0 := St.num_ge s
  have n1 := St.num_lt s
  obtain ⟨x, hx⟩ : ∃ x, x = s.num := ⟨_, rfl⟩
  rw [← hx] at j n0 n1 ⊢
  obtain ⟨s', hs'⟩ : ∃ s', s' = s.numS := ⟨_, rfl⟩
  rw [← hs'] at j ⊢
  have J := hid j
  clear j hx hs'
  by_cases h : 9223372036854775807 < x
  · rw [intI_gt' h]
    go_enter Try.func53, Try.ntmps53
    go_wp2_with fail
    refine (J.out _ hr).mono ?_
    rintro e w1 ⟨rfl, k1, r1⟩
    go_wp2
    go_ret
    exact ⟨rfl, k1, r1⟩
  · rw [intI_le' h]
    go_enter Try.func53, Try.ntmps53
    go_wp2_with fail
    refine (J.out _ hr).mono ?_
    rintro e w1 ⟨rfl, k1, r1⟩
    go_wp2
    go_ret
    exact ⟨rfl, k1, r1⟩

set_option maxRecDepth 100000 in
set_option maxHeartbeats 2000000 in
theorem rhash (r lo hi : Nat) (s : St) (w : World) (hr : Ref.Rd w lo hi r s) (hlo : hi ≤ r) (hd : hi ≤ w.heap.size) :
    Calls Try.prog 54 #[.pointer (some ⟨r, 0, none⟩)] w fun e w' => e = .returned (hashV (hashO s)) ∧ Kept (Just r) w w' ∧ Ref.Rd w' lo hi r (s.rawS 32) := by
  have hR := fun W h => Ref.rraw r lo hi s 32 W h (by decide) (by decide) hlo
  have hpad := padO_raw s
  have h32 := hashO_len s
  have hlen := raw32 s
  obtain ⟨raw, hraw⟩ : ∃ x, x = s.raw 32 := ⟨_, rfl⟩
  obtain ⟨S2, hS2⟩ : ∃ x, x = s.rawS 32 := ⟨_, rfl⟩
  rw [← hraw] at hR hpad hlen
  rw [← hS2] at hR ⊢
  obtain ⟨res, hres⟩ : ∃ x, x = hashO s := ⟨_, rfl⟩
  rw [← hres] at hpad h32 ⊢
  obtain ⟨n, hn⟩ : ∃ n, n = raw.length := ⟨_, rfl⟩
  have hn32 : n ≤ 32 := by omega
  have hz0 : Blk ((w.alloc (.cells #[.int .u8 0, .int .u8 0, .int .u8 0, .int .u8 0, .int .u8 0, .int .u8 0, .int .u8 0, .int .u8 0, .int .u8 0, .int .u8 0, .int .u8 0, .int .u8 0, .int .u8 0, .int .u8 0, .int .u8 0, .int .u8 0, .int .u8 0, .int .u8 0, .int .u8 0, .int .u8 0, .int .u8 0, .int .u8 0, .int .u8 0, .int .u8 0, .int .u8 0, .int .u8 0, .int .u8 0, .int .u8 0, .int .u8 0, .int .u8 0, .int .u8 0, .int .u8 0] 23)).alloc (.cells #[.int .u8 0, .int .u8 0, .int .u8 0, .int .u8 0, .int .u8 0, .int .u8 0, .int .u8 0, .int .u8 0, .int .u8 0, .int .u8 0, .int .u8 0, .int .u8 0, .int .u8 0, .int .u8 0, .int .u8 0, .int .u8 0, .int .u8 0, .int .u8 0, .int .u8 0, .int .u8 0, .int .u8 0, .int .u8 0, .int .u8 0, .int .u8 0, .int .u8 0, .int .u8 0, .int .u8 0, .int .u8 0, .int .u8 0, .int .u8 0, .int .u8 0, .int .u8 0] 23)) w.heap.size #[.int .u8 0, .int .u8 0, .int .u8 0, .int .u8 0, .int .u8 0, .int .u8 0, .int .u8 0, .int .u8 0, .int .u8 0, .int .u8 0, .int .u8 0, .int .u8 0, .int .u8 0, .int .u8 0, .int .u8 0, .int .u8 0, .int .u8 0, .int .u8 0, .int .u8 0, .int .u8 0, .int .u8 0, .int .u8 0, .int .u8 0, .int .u8 0, .int .u8 0, .int .u8 0, .int .u8 0, .int .u8 0, .int .u8 0, .int .u8 0, .int .u8 0, .int .u8 0] 23 := (Blk.new w _ _).alloc _
  obtain ⟨z, hz, hZ⟩ := Blk.any (n := 32) hz0 (by rfl)
  have hH : Blk ((w.alloc (.cells #[.int .u8 0, .int .u8 0, .int .u8 0, .int .u8 0, .int .u8 0, .int .u8 0, .int .u8 0, .int .u8 0, .int .u8 0, .int .u8 0, .int .u8 0, .int .u8 0, .int .u8 0, .int .u8 0, .int .u8 0, .int .u8 0, .int .u8 0, .int .u8 0, .int .u8 0, .int .u8 0, .int .u8 0, .int .u8 0, .int .u8 0, .int .u8 0, .int .u8 0, .int .u8 0, .int .u8 0, .int .u8 0, .int .u8 0, .int .u8 0, .int .u8 0, .int .u8 0] 23)).alloc (.cells #[.int .u8 0, .int .u8 0, .int .u8 0, .int .u8 0, .int .u8 0, .int .u8 0, .int .u8 0, .int .u8 0, .int .u8 0, .int .u8 0, .int .u8 0, .int .u8 0, .int .u8 0, .int .u8 0, .int .u8 0, .int .u8 0, .int .u8 0, .int .u8 0, .int .u8 0, .int .u8 0, .int .u8 0, .int .u8 0, .int .u8 0, .int .u8 0, .int .u8 0, .int .u8 0, .int .u8 0, .int .u8 0, .int .u8 0, .int .u8 0, .int .u8 0, .int .u8 0] 23)) (w.heap.size + 1) ((mixO raw 0).map u8v).toArray 23 := by
    rw [mixO_zero]
    exact Blk.new2 w _ _ _
  have k0 : Kept None w ((w.alloc (.cells #[.int .u8 0, .int .u8 0, .int .u8 0, .int .u8 0, .int .u8 0, .int .u8 0, .int .u8 0, .int .u8 0, .int .u8 0, .int .u8 0, .int .u8 0, .int .u8 0, .int .u8 0, .int .u8 0, .int .u8 0, .int .u8 0, .int .u8 0, .int .u8 0, .int .u8 0, .int .u8 0, .int .u8 0, .int .u8 0, .int .u8 0, .int .u8 0, .int .u8 0, .int .u8 0, .int .u8 0, .int .u8 0, .int .u8 0, .int .u8 0, .int .u8 0, .int .u8 0] 23)).alloc (.cells #[.int .u8 0, .int .u8 0, .int .u8 0, .int .u8 0, .int .u8 0, .int .u8 0, .int .u8 0, .int .u8 0, .int .u8 0, .int .u8 0, .int .u8 0, .int .u8 0, .int .u8 0, .int .u8 0, .int .u8 0, .int .u8 0, .int .u8 0, .int .u8 0, .int .u8 0, .int .u8 0, .int .u8 0, .int .u8 0, .int .u8 0, .int .u8 0, .int .u8 0, .int .u8 0, .int .u8 0, .int .u8 0, .int .u8 0, .int .u8 0, .int .u8 0, .int .u8 0] 23)) := ((Kept.refl _ _).alloc _).alloc _
  have hr0 := hr.kept k0 (fun _ _ _ h => h) (fun h => h)
  have HR := hid hR
  have HL := hid (And.intro hlen (And.intro hpad (And.intro h32 (And.intro hn hz))))
  have HN := hid hn32
  have hrw := hid (And.intro hr.lt hd)
  clear hR hraw hlen hS2 hres hpad h32 hz0 hr hn hz hn32 hd
  go_enter Try.func54, Try.ntmps54
  go_wp2_with fail
  refine Calls.nm ?_
  intro w1 e1
  rw [← e1] at k0 hZ hH hr0
  clear e1
  refine (HR.out w1 hr0).mono ?_
  rintro e w2 ⟨v, rfl, kn, bn, r2⟩
  have k2 : Kept (Just r) w w2 := (k0.mono (fun _ _ h => h.elim)).trans kn
  have z2 := hZ.kept kn (fun h => by have h : w.heap.size = r := h; have := hrw.out; omega)
  have h2 := hH.kept kn (fun h => by have h : w.heap.size + 1 = r := h; have := hrw.out; omega)
  obtain ⟨av, cv, rfl, g1, g2, g3⟩ := bn.shape
  rw [← HL.out.2.2.2.1] at bn g1 ⊢
  have B2 := hid bn
  have Z2 := hid z2
  have H2 := hid h2
  have K2 := hid k2
  have R2 := hid r2
  clear k0 hZ hH hr0 kn bn z2 h2 k2 r2 g3
  have HG := hid (And.intro g1 g2)
  go_wp2
  go_loopg [5] n (fun kx s5 wr => ∃ k : Nat, s5 = .int .i64 k ∧ k ≤ n ∧ n - k ≤ kx ∧ Hid (Blk wr (w.heap.size + 1) ((mixO raw k).map u8v).toArray 23) ∧ Hid (Kept (Just (w.heap.size + 1)) w2 wr))
  case atStart => exact ⟨0, rfl, Nat.zero_le _, Nat.le_refl _, H2, hid (Kept.refl _ _)⟩
  case round =>
    obtain ⟨k, rfl, hk, hkx, HB, HK⟩ := hrel
    clear H2
    have hn32 := HN.out
    by_cases hlt : k < n
    · have hz : (k : Int) < (n : Int) := by omega
      have hkl : k < raw.length := by have := HL.out.2.2.2.1; omega
      have hrl : raw.length ≤ 32 := by have := HL.out.2.2.2.1; omega
      have hbr := (B2.out.kept HK.out (fun q _ h1 h => by have h : q = w.heap.size + 1 := h; have := hrw.out; omega))
      obtain ⟨b, o, rfl, _, _, _, hc⟩ := hbr.ne (by omega)
      have c0 := hc k hkl
      have hf := HB.out.free k
      have hcell : wr.cell? ⟨w.heap.size + 1, k, none⟩ = some (.int .u8 0) := by rw [HB.out.cell, mixO_at raw k hkl hrl]
      have hset : Blk (wr.setCell ⟨w.heap.size + 1, k, none⟩ (.int .u8 (bAt raw k))) (w.heap.size + 1) ((mixO raw (k + 1)).map u8v).toArray 23 := by
        rw [← mixO_set raw k hkl hrl]
        exact HB.out.set k _
      have kset : Kept (Just (w.heap.size + 1)) w2 (wr.setCell ⟨w.heap.size + 1, k, none⟩ (.int .u8 (bAt raw k))) := HK.out.one' k _
      have k32 : (k : Int) < 32 := by omega
      have HSET := hid hset
      have KSET := hid kset
      have wk : IntKind.i64.wrap ((k : Int) + 1) = (k : Int) + 1 := by rw [IntKind.wrap_i64]; omega
      clear hbr hc hset kset hrl hkl
      go_wp2
      go_roundg (n - (k + 1))
      case measure => omega
      case rel => exact ⟨k + 1, by go_num, by omega, Nat.le_refl _, HSET, KSET⟩
    · have hz : ¬ (k : Int) < (n : Int) := by omega
      obtain rfl : k = n := by omega
      have h5 : Blk wr (w.heap.size + 1) (res.map u8v).toArray 23 := by
        have := HB.out
        rwa [HL.out.2.2.2.1, mixO_all HL.out.1, HL.out.2.1] at this
      have hZ5 := Z2.out.kept HK.out (fun h => by have h : w.heap.size = w.heap.size + 1 := h; omega)
      have hR5 := R2.out.kept HK.out (fun q _ h1 h => by have h : q = w.heap.size + 1 := h; have := hrw.out; omega) (fun h => by have h : r = w.heap.size + 1 := h; have := hrw.out; omega)
      have k05 : Kept (Just r) w wr := K2.out.then HK.out (fun i hi h => by have h : i = w.heap.size + 1 := h; omega)
      have aH' := Hk.aH32 HL.out.2.2.1
      have E := hid (HL.out.2.2.2.2.trans (show 32 = (res.map u8v).toArray.size by simpa using HL.out.2.2.1.symm))
      clear HB HK
      go_wp2_with (first | (refine wpList_load_blk rfl _ _ rfl rfl h5 aH' ?_) | (refine wpList_store_blk rfl _ _ _ rfl rfl rfl hZ5 aH' E.out (u8v_all' _) ?_; intro w9 hR9 k9) | fail)
      refine bodyPost_ret (v := hashV res) (results_blk rfl _ rfl hR9 aH') rfl ⟨rfl, k05.then k9 (fun i hi (h : i = w.heap.size) => by omega), ?_⟩
      exact hR5.kept k9 (fun q _ h1 h => by have h : q = w.heap.size := h; have := hrw.out; omega) (fun h => by have h : r = w.heap.size := h; have := hrw.out; omega)
end Ref
end Go.Proofs.Ytidegffdhpdhjaa
