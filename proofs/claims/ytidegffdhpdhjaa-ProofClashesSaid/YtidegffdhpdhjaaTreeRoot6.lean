/- tree.rootFrom, tree.Root, sort.Search at them: by contract. -/
import Derived.Test.YtidegffdhpdhjaaTreeSet6
import Derived.Test.YtidegffdhpdhjaaTreeHash6
import Derived.Test.YtidegffdhpdhjaaRefRoot6
import Derived.Deep.LoopGhost
namespace Go.Pm
open Go Go.RowKit
/-! ### Bits and the order -/
theorem less_at : ∀ (q : Nat) (a b : List UInt8), (∀ k, k < q → a.getD k 0 = b.getD k 0) → q < a.length → q < b.length → b.getD q 0 < a.getD q 0 → Op.bytesLess b a = true
  | 0, x :: a, y :: b, _, _, _, h => by
    unfold Op.bytesLess
    have h' : y < x := h
    simp [h']
  | q + 1, x :: a, y :: b, he, ha, hb, h => by
    have h0 : x = y := he 0 (by omega)
    subst h0
    have ih := less_at q a b (fun k hk => by simpa using he (k + 1) (by omega)) (by simpa using ha) (by simpa using hb) (by simpa using h)
    unfold Op.bytesLess
    simp [ih]
  | _, [], _, _, ha, _, _ => by simp at ha
  | _, _ :: _, [], _, _, hb, _ => by simp at hb
theorem byte_less {a b r : Nat} (ha : a < 256) (hb : b < 256) (hr : r < 8) (he : ∀ k, k < r → a / 2 ^ (7 - k) % 2 = b / 2 ^ (7 - k) % 2) (h1 : a / 2 ^ (7 - r) % 2 = 1) (h0 : b / 2 ^ (7 - r) % 2 = 0) : b < a := by
  have p : ∀ k, k < 8 → (2 : Nat) ^ (7 - k) = [128, 64, 32, 16, 8, 4, 2, 1].getD k 0 := by decide
  have q : r = 0 ∨ r = 1 ∨ r = 2 ∨ r = 3 ∨ r = 4 ∨ r = 5 ∨ r = 6 ∨ r = 7 := by omega
  have e : ∀ k, k < r → a / [128, 64, 32, 16, 8, 4, 2, 1].getD k 0 % 2 = b / [128, 64, 32, 16, 8, 4, 2, 1].getD k 0 % 2 := fun k hk => by rw [← p k (by omega)]; exact he k hk
  rw [p r hr] at h1 h0
  clear he p
  rcases q with rfl | rfl | rfl | rfl | rfl | rfl | rfl | rfl
  · simp at h1 h0; omega
  · have e0 := e 0 (by omega); simp at h1 h0 e0; omega
  · have e0 := e 0 (by omega); have e1 := e 1 (by omega); simp at h1 h0 e0 e1; omega
  · have e0 := e 0 (by omega); have e1 := e 1 (by omega); have e2 := e 2 (by omega); simp at h1 h0 e0 e1 e2; omega
  · have e0 := e 0 (by omega); have e1 := e 1 (by omega); have e2 := e 2 (by omega); have e3 := e 3 (by omega); simp at h1 h0 e0 e1 e2 e3; omega
  · have e0 := e 0 (by omega); have e1 := e 1 (by omega); have e2 := e 2 (by omega); have e3 := e 3 (by omega); have e4 := e 4 (by omega); simp at h1 h0 e0 e1 e2 e3 e4; omega
  · have e0 := e 0 (by omega); have e1 := e 1 (by omega); have e2 := e 2 (by omega); have e3 := e 3 (by omega); have e4 := e 4 (by omega); have e5 := e 5 (by omega); simp at h1 h0 e0 e1 e2 e3 e4 e5; omega
  · have e0 := e 0 (by omega); have e1 := e 1 (by omega); have e2 := e 2 (by omega); have e3 := e 3 (by omega); have e4 := e 4 (by omega); have e5 := e 5 (by omega); have e6 := e 6 (by omega); simp at h1 h0 e0 e1 e2 e3 e4 e5 e6; omega
/-- Of two that agree on the bits ahead of a place the one with a bit there is the greater one. -/
theorem bit_less {a b : List UInt8} (ha : a.length = 32) (hb : b.length = 32) {j : Nat} (hj : j < 256) (he : ∀ k, k < j → bitI a k = bitI b k) (h1 : bitI a j = 1) (h0 : bitI b j = 0) : Op.bytesLess b a = true := by
  refine less_at (j / 8) a b (fun k hk => ?_) (by omega) (by omega) ?_
  · apply UInt8.toNat_inj.1
    refine byte_bits (UInt8.toNat_lt _) (UInt8.toNat_lt _) fun r hr => ?_
    have h := he (8 * k + r) (by omega)
    unfold bitI at h
    rwa [show (8 * k + r) / 8 = k by omega, show (8 * k + r) % 8 = r by omega] at h
  · refine byte_less (r := j % 8) (UInt8.toNat_lt _) (UInt8.toNat_lt _) (by omega) (fun r hr => ?_) h1 h0
    have h := he (8 * (j / 8) + r) (by omega)
    unfold bitI at h
    rwa [show (8 * (j / 8) + r) / 8 = j / 8 by omega, show (8 * (j / 8) + r) % 8 = r by omega] at h
theorem bits_mono {l : List It} (hs : Srt l) (hl : Len l) {j : Nat} (hj : j < 256) (ha : Agree l j) {a b : Nat} (hab : a ≤ b) (hb : b < l.length) (h : bitI (l[a]'(by omega)).i j = 1) : bitI l[b].i j = 1 := by
  by_cases e : a = b
  · subst e; exact h
  rcases bitI_two l[b].i j with h0 | h0
  · have hx : l[a]'(by omega) ∈ l := List.getElem_mem _
    have hy : l[b] ∈ l := List.getElem_mem _
    have q1 := bit_less (hl _ hx).1 (hl _ hy).1 hj (fun k hk => ha _ hx _ hy k hk) h h0
    have q2 := List.pairwise_iff_getElem.1 hs a b (by omega) hb (by omega)
    rw [less_asymm q1] at q2
    cases q2
  · exact h0
theorem half_split {l : List It} {j k : Nat} (hk : k ≤ l.length) (h0 : ∀ i (h : i < l.length), i < k → bitI l[i].i j = 0) (h1 : ∀ i (h : i < l.length), k ≤ i → bitI l[i].i j = 1) : half l j 0 = l.take k ∧ half l j 1 = l.drop k := by
  have e : l = l.take k ++ l.drop k := (List.take_append_drop k l).symm
  have a0 : ∀ x ∈ l.take k, bitI x.i j = 0 := fun x hx => by
    obtain ⟨i, hi, rfl⟩ := List.getElem_of_mem hx
    rw [List.length_take] at hi
    rw [List.getElem_take]
    exact h0 i (by omega) (by omega)
  have a1 : ∀ x ∈ l.drop k, bitI x.i j = 1 := fun x hx => by
    obtain ⟨i, hi, rfl⟩ := List.getElem_of_mem hx
    rw [List.length_drop] at hi
    rw [List.getElem_drop]
    exact h1 (k + i) (by omega) (by omega)
  constructor
  · unfold half
    conv => lhs; rw [e]
    rw [List.filter_append, List.filter_eq_self.2 (fun x hx => by simp [a0 x hx]), List.filter_eq_nil_iff.2 (fun x hx => by simp [a1 x hx]), List.append_nil]
  · unfold half
    conv => lhs; rw [e]
    rw [List.filter_append, List.filter_eq_nil_iff.2 (fun x hx => by simp [a0 x hx]), List.filter_eq_self.2 (fun x hx => by simp [a1 x hx]), List.nil_append]
/-- 's[:i]', 's[i:]' of items. -/
theorem items_to {P : Program} {t : TypeId} (ht : P.underlying t = some (.slice (P.elem t))) (hz : ∀ W, (sizeOf (P.elem t)).run P W = .ok 64 W) {w : World} {lo hi : Nat} {a : Option Addr} {n cap : Nat} {l : List It} (h : Its w lo hi (.slice a n cap) l) (k : IntKind) (i : Nat) (h1 : i ≤ n) :
    ∃ a', (∀ W, (Instr.slice t (.slice a n cap) none (some (.int k i)) none).run P W = .ok (.slice a' i cap) W) ∧ Its w lo hi (.slice a' i cap) (l.take i) := by
  have hc : n ≤ cap := by obtain ⟨a', cap', hv, hc, _⟩ := h.form; injection hv; omega
  refine ⟨if cap = 0 then a else a.map (·.add 0), fun W => ?_, ?_⟩
  · rw [run_slice_h (P := P) W t a n cap ht k i (by omega) (by omega), hz]
    simp [Go.sliced]
  · have := Its.sliced h 0 i (by omega) (by omega)
    simpa using this
theorem items_from {P : Program} {t : TypeId} (ht : P.underlying t = some (.slice (P.elem t))) (hz : ∀ W, (sizeOf (P.elem t)).run P W = .ok 64 W) {w : World} {lo hi : Nat} {a : Option Addr} {n cap : Nat} {l : List It} (h : Its w lo hi (.slice a n cap) l) (k : IntKind) (i : Nat) (h1 : i ≤ n) :
    ∃ a', (∀ W, (Instr.slice t (.slice a n cap) (some (.int k i)) none none).run P W = .ok (.slice a' (n - i) (cap - i)) W) ∧ Its w lo hi (.slice a' (n - i) (cap - i)) (l.drop i) := by
  refine ⟨if cap = i then a else a.map (·.add (i * 64)), fun W => ?_, ?_⟩
  · rw [run_slice_l (P := P) W t a n cap ht k i (by omega) (by omega), hz]
    simp [Go.sliced]
  · have hn : n = l.length := by obtain ⟨a', cap', hv, _⟩ := h.form; injection hv
    have := Its.sliced h i n (by omega) (Nat.le_refl _)
    rw [List.take_of_length_le (by omega)] at this
    exact this
end Go.Pm
namespace Go.Proofs.Ytidegffdhpdhjaa
open Go.RowKit Go.Pm

namespace Tr
theorem beq_one (n : Nat) : ((n : Int) == 1) = decide (n = 1) := by
  by_cases h : n = 1
  · subst h; rfl
  · rw [decide_eq_false h, beq_eq_false_iff_ne]; omega
theorem elItems : Try.prog.elem 64 = 61 := by kernel_rfl
theorem tItems' : Try.prog.underlying 64 = some (.slice (Try.prog.elem 64)) := by rw [elItems]; exact Try.underlying64
theorem zItems' : ∀ W, (sizeOf (Try.prog.elem 64)).run Try.prog W = .ok 64 W := by rw [elItems]; exact Try.sizeOf61

set_option maxRecDepth 100000 in
set_option maxHeartbeats 4000000 in
/-- The test of rootFrom. -/
theorem closure (bl bp : Nat) (v : Value) (lo hi : Nat) (l : List It) (j i : Nat) (w : World) (hv : Its w lo hi v l) (cl : w.cell? ⟨bl, 0, none⟩ = some v) (cp : w.cell? ⟨bp, 0, none⟩ = some (.int .i64 j)) (hi : i < l.length) (hj : j < 256) :
    Calls Try.prog 157 #[.int .i64 i, .pointer (some ⟨bl, 0, none⟩), .pointer (some ⟨bp, 0, none⟩)] w fun e w' => e = .returned (.bool (decide (bitI l[i].i j = 1))) ∧ Kept None w w' := by
  obtain ⟨a, cap, rfl, g1, g2, g3⟩ := hv.form
  have g2' : cap ≤ 9223372036854775807 := g2
  obtain ⟨b, o, rfl, _, _, q3, hc⟩ := hv.ne (by omega)
  have hx := hc i l[i] (List.getElem?_eq_getElem hi)
  have hxl := hv.1 l[i] (List.getElem_mem hi)
  have hilt : (i : Int) < (l.length : Int) := by omega
  obtain ⟨n, hn⟩ : ∃ n, n = l.length := ⟨_, rfl⟩
  rw [← hn] at cl hilt g1
  generalize l[i] = x at *
  have hx : w.rangeAt b (o + i * 64) (x.i.map u8v) := by
    have h := rangeAt_take hx 32
    rwa [show (itC x).take 32 = x.i.map u8v from List.take_left' (by simp [hxl.1])] at h
  have aX : AggTy Try.prog 23 (x.i.map u8v).length := by rw [List.length_map, hxl.1]; exact Sp.aH
  have k1 : ∀ W, Kept None w W → W.cell? ⟨bl, 0, none⟩ = some (.slice (some ⟨b, o, none⟩) n cap) := fun W hW => by rw [hW.cell (block_lt_of_cell cl) (fun h => h)]; exact cl
  have k2 : ∀ W, Kept None w W → W.cell? ⟨bp, 0, none⟩ = some (.int .i64 j) := fun W hW => by rw [hW.cell (block_lt_of_cell cp) (fun h => h)]; exact cp
  have hK := hid (And.intro k1 k2)
  clear hv hc cl cp k1 k2 hn hi g3 q3 g2
  go_enter Try.func157, Try.ntmps157
  go_wp2_with fail
  have hs : Steady [.val 6 (.int .i64 (bitI x.i j : Nat))] := Steady.val (Steady.nil)
  refine wp_region_kn w _ hs (Kept.refl _ _) (by kernel_rfl) (by kernel_rfl) (by kernel_rfl) ?_
  iterate 4 (refine wpPar_pure rfl (by rfl) _ (fun W hW => by
      have c0 := hK.out.1 W hW
      have c1 := hK.out.2 W hW
      go_simp
      exact rfl) ?_; simp only [Act.put, List.setIfInBounds_toArray, List.set_cons_zero, List.set_cons_succ])
  refine wpPar_pure rfl (by rfl) _ (fun W hW => exec_load_at rfl rfl (rangeAt_kept hx hW) aX) ?_; simp only [Act.put, List.setIfInBounds_toArray, List.set_cons_zero, List.set_cons_succ]
  iterate 1 (refine wpPar_pure rfl (by rfl) _ (fun W hW => by
      have c0 := hK.out.1 W hW
      have c1 := hK.out.2 W hW
      go_simp
      exact rfl) ?_; simp only [Act.put, List.setIfInBounds_toArray, List.set_cons_zero, List.set_cons_succ])
  refine wpKn_adds hs rfl (by rfl) (fun W hW hd => ?_) (fun v6 hv => ?_)
  · unfold Gives
    go_simp
    refine gives_call (bit x.i hxl.1 j hj W) ?_
    rintro e w3 ⟨rfl, k3⟩
    exact ⟨_, rfl, k3, rfl, trivial⟩
  obtain rfl : v6 = .int .i64 (bitI x.i j : Nat) := hv
  simp only [Act.put, List.setIfInBounds_toArray, List.set_cons_zero, List.set_cons_succ]
  iterate 2 (refine wpPar_pure rfl (by rfl) _ (fun W hW => by
      go_simp
      exact rfl) ?_; simp only [Act.put, List.setIfInBounds_toArray, List.set_cons_zero, List.set_cons_succ])
  refine wpPar_nil (fun w6 hW hG => ?_)
  clear hG hs
  go_wp2
  go_ret
  exact ⟨by show Ending.returned (Value.bool (((bitI x.i j : Nat) : Int) == 1)) = _; rw [beq_one], hW⟩
set_option maxRecDepth 100000 in
set_option maxHeartbeats 4000000 in
/-- sort.Search by the test of rootFrom. -/
theorem search (bl bp : Nat) (v : Value) (lo hi : Nat) (l : List It) (j : Nat) (w : World) (hv : Its w lo hi v l) (cl : w.cell? ⟨bl, 0, none⟩ = some v) (cp : w.cell? ⟨bp, 0, none⟩ = some (.int .i64 j)) (hj : j < 256) (hlen : l.length ≤ 1099511627776)
    (hmono : ∀ a b (hab : a ≤ b) (hb : b < l.length), bitI (l[a]'(by omega)).i j = 1 → bitI l[b].i j = 1) :
    Calls Try.prog 144 #[.int .i64 l.length, .func (.func 157) #[] #[.pointer (some ⟨bl, 0, none⟩), .pointer (some ⟨bp, 0, none⟩)]] w fun e w' => ∃ k : Nat, e = .returned (.int .i64 k) ∧ k ≤ l.length ∧ half l j 0 = l.take k ∧ half l j 1 = l.drop k ∧ Kept None w w' := by
  have hC : ∀ (i : Nat) (W : World) (hi : i < l.length), Kept None w W → Calls Try.prog 157 #[.int .i64 i, .pointer (some ⟨bl, 0, none⟩), .pointer (some ⟨bp, 0, none⟩)] W fun e w' => e = .returned (.bool (decide (bitI l[i].i j = 1))) ∧ Kept None W w' := fun i W hi hW =>
    closure bl bp v lo _ l j i W (hv.kept hW (fun _ _ _ h => h)) (by rw [hW.cell (block_lt_of_cell cl) (fun h => h)]; exact cl) (by rw [hW.cell (block_lt_of_cell cp) (fun h => h)]; exact cp) hi hj
  have HC := hid hC
  have HM := hid hmono
  obtain ⟨n, hn⟩ : ∃ n, n = l.length := ⟨_, rfl⟩
  rw [← hn] at hlen ⊢
  have HN := hid hn
  clear hC hmono hv cl cp hn
  go_enter Try.func144, Try.ntmps144
  go_wp2
  go_loopg [5, 6, 7] n (fun kx s5 s6 s7 wr => ∃ (a b : Nat) (v7 : Value), s5 = .int .i64 a ∧ s6 = .int .i64 b ∧ s7 = v7 ∧ a ≤ b ∧ b ≤ n ∧ b - a ≤ kx ∧ Hid (Kept None w wr) ∧ Hid ((∀ i (h : i < l.length), i < a → bitI l[i].i j = 0) ∧ (∀ i (h : i < l.length), b ≤ i → bitI l[i].i j = 1)))
  case atStart => exact ⟨0, n, _, rfl, rfl, rfl, Nat.zero_le _, Nat.le_refl _, Nat.le_refl _, Kept.refl _ _, ⟨fun i h h2 => by omega, fun i h h2 => by have := HN.out; omega⟩⟩
  case round =>
    obtain ⟨a, b, v7, rfl, rfl, rfl, hab, hbn, hkx, HK, HI⟩ := hrel
    by_cases h0 : a < b
    · have h0z : (a : Int) < (b : Int) := by omega
      obtain ⟨h, hh⟩ : ∃ h : Nat, h = (a + b) / 2 := ⟨_, rfl⟩
      have eh : ((a : Int) + (b : Int)) / 2 = (h : Int) := by omega
      have h1 : a ≤ h := by omega
      have h2 : h < b := by omega
      have hl : h < l.length := by have := HN.out; omega
      clear hh
      rcases bitI_two l[h].i j with hb | hb
      · have hc := HC.out h _ hl HK.out
        rw [show decide (bitI l[h].i j = 1) = false by rw [hb]; rfl] at hc
        have HCC := hid hc
        have HB := hid hb
        clear hc hb
        go_wp2_with fail
        refine HCC.out.mono ?_
        rintro e w3 ⟨rfl, k3⟩
        go_wp2
        go_roundg (b - (h + 1))
        case measure => omega
        case rel => exact ⟨h + 1, b, _, by go_num, rfl, rfl, by omega, hbn, Nat.le_refl _, HK.out.trans k3, ⟨(fun i hi hi2 => by
          rcases bitI_two l[i].i j with q | q
          · exact q
          · have := HM.out i h (by omega) hl q
            rw [HB.out] at this
            cases this), HI.out.2⟩⟩
      · have hc := HC.out h _ hl HK.out
        rw [show decide (bitI l[h].i j = 1) = true by rw [hb]; rfl] at hc
        have HCC := hid hc
        have HB := hid hb
        clear hc hb
        go_wp2_with fail
        refine HCC.out.mono ?_
        rintro e w3 ⟨rfl, k3⟩
        go_wp2
        go_roundg (h - a)
        case measure => omega
        case rel => exact ⟨a, h, _, rfl, rfl, rfl, by omega, by omega, Nat.le_refl _, HK.out.trans k3, ⟨HI.out.1, fun i hi hi2 => HM.out h i hi2 hi HB.out⟩⟩
    · have h0z : ¬ (a : Int) < (b : Int) := by omega
      obtain rfl : a = b := by omega
      have hf := half_split (by have := HN.out; omega) HI.out.1 HI.out.2
      have HF := hid hf
      clear hf
      go_wp2
      go_ret
      exact ⟨a, rfl, hbn, HF.out.1, HF.out.2, HK.out⟩
set_option maxRecDepth 100000 in
set_option maxHeartbeats 2000000 in
theorem rootFrom_nil (j : Nat) (v : Value) (lo hi : Nat) (w : World) (hv : Its w lo hi v []) : Calls Try.prog 152 #[v, .int .i64 j] w fun e w' => e = .returned (hashV emptyH) ∧ Kept None w w' := by
  obtain ⟨a, cap, rfl, g1, g2, g3⟩ := hv.form
  have k0 : Kept None w (((w.alloc (.cells #[.slice a 0 cap] 64)).alloc (.cells #[.int .i64 j] 3)).alloc (.cells #[.int .u8 0, .int .u8 0, .int .u8 0, .int .u8 0, .int .u8 0, .int .u8 0, .int .u8 0, .int .u8 0, .int .u8 0, .int .u8 0, .int .u8 0, .int .u8 0, .int .u8 0, .int .u8 0, .int .u8 0, .int .u8 0, .int .u8 0, .int .u8 0, .int .u8 0, .int .u8 0, .int .u8 0, .int .u8 0, .int .u8 0, .int .u8 0, .int .u8 0, .int .u8 0, .int .u8 0, .int .u8 0, .int .u8 0, .int .u8 0, .int .u8 0, .int .u8 0] 23)) := (((Kept.refl _ _).alloc _).alloc _).alloc _
  have v0 := Blk.new3 w (.cells #[.slice a 0 cap] 64) (.cells #[.int .i64 j] 3) #[.int .u8 0, .int .u8 0, .int .u8 0, .int .u8 0, .int .u8 0, .int .u8 0, .int .u8 0, .int .u8 0, .int .u8 0, .int .u8 0, .int .u8 0, .int .u8 0, .int .u8 0, .int .u8 0, .int .u8 0, .int .u8 0, .int .u8 0, .int .u8 0, .int .u8 0, .int .u8 0, .int .u8 0, .int .u8 0, .int .u8 0, .int .u8 0, .int .u8 0, .int .u8 0, .int .u8 0, .int .u8 0, .int .u8 0, .int .u8 0, .int .u8 0, .int .u8 0] 23
  obtain ⟨z, hz, hR⟩ : ∃ z : Array Value, z.size = 32 ∧ Blk (((w.alloc (.cells #[.slice a 0 cap] 64)).alloc (.cells #[.int .i64 j] 3)).alloc (.cells #[.int .u8 0, .int .u8 0, .int .u8 0, .int .u8 0, .int .u8 0, .int .u8 0, .int .u8 0, .int .u8 0, .int .u8 0, .int .u8 0, .int .u8 0, .int .u8 0, .int .u8 0, .int .u8 0, .int .u8 0, .int .u8 0, .int .u8 0, .int .u8 0, .int .u8 0, .int .u8 0, .int .u8 0, .int .u8 0, .int .u8 0, .int .u8 0, .int .u8 0, .int .u8 0, .int .u8 0, .int .u8 0, .int .u8 0, .int .u8 0, .int .u8 0, .int .u8 0] 23)) (w.heap.size + 1 + 1) z 23 := ⟨_, by rfl, v0⟩
  have hV := hv.kept k0 (fun _ _ _ h => h)
  clear v0 hv
  have he := fun w => empty w
  obtain ⟨res, hres⟩ : ∃ res, res = emptyH := ⟨_, rfl⟩
  have H32 : res.length = 32 := by rw [hres]; exact sumB_len _
  rw [← hres] at he ⊢
  have HS := hid he
  replace H32 := hid H32
  clear he hres
  clear hV
  go_enter Try.func152, Try.ntmps152
  go_wp2_with fail
  refine (HS.out _).mono ?_
  rintro e w4 ⟨rfl, k4⟩
  have k04 := k0.trans k4
  have hR4 := hR.kept k4 (fun h => h)
  clear k0 k4 hR
  have e32' : (res.map u8v).toArray.size = 32 := by simpa using H32.out
  have aH' : AggTy Try.prog 23 (res.map u8v).toArray.size := by rw [e32']; exact Sp.aH
  have E := hid (hz.trans e32'.symm)
  clear e32' hz
  go_wp2_with (first | (refine wpList_store_blk (.refl _) _ _ _ rfl rfl rfl hR4 aH' E.out (u8v_all _) ?_; intro w9 hR9 k9) | fail)
  exact bodyPost_ret (v := hashV res) (results_blk rfl _ rfl hR9 aH') rfl ⟨rfl, k04.then k9 (fun i hi (h : i = w.heap.size + 1 + 1) => by omega)⟩

set_option maxRecDepth 100000 in
set_option maxHeartbeats 2000000 in
theorem rootFrom_one (x : It) (j : Nat) (v : Value) (lo hi : Nat) (w : World) (hv : Its w lo hi v [x]) : Calls Try.prog 152 #[v, .int .i64 j] w fun e w' => e = .returned (hashV (leafH x)) ∧ Kept None w w' := by
  obtain ⟨a, cap, rfl, g1, g2, g3⟩ := hv.form
  obtain ⟨b, o, rfl, q1, q2, q3, hc⟩ := hv.ne (by simp)
  have hx := hc 0 x rfl
  have hlen := hv.1 x (by simp)
  have h64 := itC_len hlen
  simp only [Nat.zero_mul, Nat.add_zero] at hx
  have k0 : Kept None w (((w.alloc (.cells #[.slice (some ⟨b, o, none⟩) 1 cap] 64)).alloc (.cells #[.int .i64 j] 3)).alloc (.cells #[.int .u8 0, .int .u8 0, .int .u8 0, .int .u8 0, .int .u8 0, .int .u8 0, .int .u8 0, .int .u8 0, .int .u8 0, .int .u8 0, .int .u8 0, .int .u8 0, .int .u8 0, .int .u8 0, .int .u8 0, .int .u8 0, .int .u8 0, .int .u8 0, .int .u8 0, .int .u8 0, .int .u8 0, .int .u8 0, .int .u8 0, .int .u8 0, .int .u8 0, .int .u8 0, .int .u8 0, .int .u8 0, .int .u8 0, .int .u8 0, .int .u8 0, .int .u8 0] 23)) := (((Kept.refl _ _).alloc _).alloc _).alloc _
  have v0 := Blk.new3 w (.cells #[.slice (some ⟨b, o, none⟩) 1 cap] 64) (.cells #[.int .i64 j] 3) #[.int .u8 0, .int .u8 0, .int .u8 0, .int .u8 0, .int .u8 0, .int .u8 0, .int .u8 0, .int .u8 0, .int .u8 0, .int .u8 0, .int .u8 0, .int .u8 0, .int .u8 0, .int .u8 0, .int .u8 0, .int .u8 0, .int .u8 0, .int .u8 0, .int .u8 0, .int .u8 0, .int .u8 0, .int .u8 0, .int .u8 0, .int .u8 0, .int .u8 0, .int .u8 0, .int .u8 0, .int .u8 0, .int .u8 0, .int .u8 0, .int .u8 0, .int .u8 0] 23
  obtain ⟨z, hz, hR⟩ : ∃ z : Array Value, z.size = 32 ∧ Blk (((w.alloc (.cells #[.slice (some ⟨b, o, none⟩) 1 cap] 64)).alloc (.cells #[.int .i64 j] 3)).alloc (.cells #[.int .u8 0, .int .u8 0, .int .u8 0, .int .u8 0, .int .u8 0, .int .u8 0, .int .u8 0, .int .u8 0, .int .u8 0, .int .u8 0, .int .u8 0, .int .u8 0, .int .u8 0, .int .u8 0, .int .u8 0, .int .u8 0, .int .u8 0, .int .u8 0, .int .u8 0, .int .u8 0, .int .u8 0, .int .u8 0, .int .u8 0, .int .u8 0, .int .u8 0, .int .u8 0, .int .u8 0, .int .u8 0, .int .u8 0, .int .u8 0, .int .u8 0, .int .u8 0] 23)) (w.heap.size + 1 + 1) z 23 := ⟨_, by rfl, v0⟩
  have hV := hv.kept k0 (fun _ _ _ h => h)
  clear v0 hv
  have hx3 := rangeAt_kept hx k0
  have aY : AggTy Try.prog 61 (itC x).length := by rw [h64]; exact RTr.aI64
  have he : ∀ w, Calls Try.prog 133 #[.agg (itC x).toArray] w fun e w' => e = .returned (hashV (leafH x)) ∧ Kept None w w' := fun w => by
    have h := leaf x w hlen
    rwa [show itemV x = .agg (itC x).toArray by simp [itemV, itC]] at h
  obtain ⟨res, hres⟩ : ∃ res, res = leafH x := ⟨_, rfl⟩
  have H32 : res.length = 32 := by rw [hres]; exact sumB_len _
  rw [← hres] at he ⊢
  have HS := hid he
  replace H32 := hid H32
  clear he hres
  clear hc hx hV
  go_enter Try.func152, Try.ntmps152
  go_wp2_with (first | (refine wpList_load_at (.refl _) _ _ rfl rfl hx3 aY ?_) | fail)
  refine (HS.out _).mono ?_
  rintro e w4 ⟨rfl, k4⟩
  have k04 := k0.trans k4
  have hR4 := hR.kept k4 (fun h => h)
  clear k0 k4 hR hx3 aY
  have e32' : (res.map u8v).toArray.size = 32 := by simpa using H32.out
  have aH' : AggTy Try.prog 23 (res.map u8v).toArray.size := by rw [e32']; exact Sp.aH
  have E := hid (hz.trans e32'.symm)
  clear e32' hz
  go_wp2_with (first | (refine wpList_store_blk (.refl _) _ _ _ rfl rfl rfl hR4 aH' E.out (u8v_all _) ?_; intro w9 hR9 k9) | fail)
  exact bodyPost_ret (v := hashV res) (results_blk rfl _ rfl hR9 aH') rfl ⟨rfl, k04.then k9 (fun i hi (h : i = w.heap.size + 1 + 1) => by omega)⟩

set_option maxRecDepth 100000 in
set_option maxHeartbeats 1000000 in
theorem rootFrom_more (l : List It) (A B : List UInt8) (j : Nat) (v : Value) (lo hi : Nat) (w : World) (hv : Its w lo hi v l) (h2 : 2 ≤ l.length) (hl : l.length ≤ 549755813888) (hj : j < 256) (hA32 : A.length = 32) (hB32 : B.length = 32)
    (hmono : ∀ a b (hab : a ≤ b) (hb : b < l.length), bitI (l[a]'(by omega)).i j = 1 → bitI l[b].i j = 1)
    (ihA : ∀ v lo hi w, Its w lo hi v (half l j 0) → Calls Try.prog 152 #[v, .int .i64 ((j : Int) + 1)] w fun e w' => e = .returned (hashV A) ∧ Kept None w w')
    (ihB : ∀ v lo hi w, Its w lo hi v (half l j 1) → Calls Try.prog 152 #[v, .int .i64 ((j : Int) + 1)] w fun e w' => e = .returned (hashV B) ∧ Kept None w w') :
    Calls Try.prog 152 #[v, .int .i64 j] w fun e w' => e = .returned (hashV (nodeH A B)) ∧ Kept None w w' := by
  obtain ⟨a, cap, rfl, g1, g2, g3⟩ := hv.form
  have g2' : cap ≤ 9223372036854775807 := g2
  have h2' : (2 : Int) ≤ l.length := by omega
  have k0 : Kept None w (((w.alloc (.cells #[.slice a l.length cap] 64)).alloc (.cells #[.int .i64 j] 3)).alloc (.cells #[.int .u8 0, .int .u8 0, .int .u8 0, .int .u8 0, .int .u8 0, .int .u8 0, .int .u8 0, .int .u8 0, .int .u8 0, .int .u8 0, .int .u8 0, .int .u8 0, .int .u8 0, .int .u8 0, .int .u8 0, .int .u8 0, .int .u8 0, .int .u8 0, .int .u8 0, .int .u8 0, .int .u8 0, .int .u8 0, .int .u8 0, .int .u8 0, .int .u8 0, .int .u8 0, .int .u8 0, .int .u8 0, .int .u8 0, .int .u8 0, .int .u8 0, .int .u8 0] 23)) := (((Kept.refl _ _).alloc _).alloc _).alloc _
  have v0 := Blk.new3 w (.cells #[.slice a l.length cap] 64) (.cells #[.int .i64 j] 3) #[.int .u8 0, .int .u8 0, .int .u8 0, .int .u8 0, .int .u8 0, .int .u8 0, .int .u8 0, .int .u8 0, .int .u8 0, .int .u8 0, .int .u8 0, .int .u8 0, .int .u8 0, .int .u8 0, .int .u8 0, .int .u8 0, .int .u8 0, .int .u8 0, .int .u8 0, .int .u8 0, .int .u8 0, .int .u8 0, .int .u8 0, .int .u8 0, .int .u8 0, .int .u8 0, .int .u8 0, .int .u8 0, .int .u8 0, .int .u8 0, .int .u8 0, .int .u8 0] 23
  obtain ⟨z, hz, hR⟩ : ∃ z : Array Value, z.size = 32 ∧ Blk (((w.alloc (.cells #[.slice a l.length cap] 64)).alloc (.cells #[.int .i64 j] 3)).alloc (.cells #[.int .u8 0, .int .u8 0, .int .u8 0, .int .u8 0, .int .u8 0, .int .u8 0, .int .u8 0, .int .u8 0, .int .u8 0, .int .u8 0, .int .u8 0, .int .u8 0, .int .u8 0, .int .u8 0, .int .u8 0, .int .u8 0, .int .u8 0, .int .u8 0, .int .u8 0, .int .u8 0, .int .u8 0, .int .u8 0, .int .u8 0, .int .u8 0, .int .u8 0, .int .u8 0, .int .u8 0, .int .u8 0, .int .u8 0, .int .u8 0, .int .u8 0, .int .u8 0] 23)) (w.heap.size + 1 + 1) z 23 := ⟨_, by rfl, v0⟩
  have hV := hv.kept k0 (fun _ _ _ h => h)
  clear v0 hv
  have cl : ((((w.alloc (.cells #[.slice a l.length cap] 64)).alloc (.cells #[.int .i64 j] 3)).alloc (.cells #[.int .u8 0, .int .u8 0, .int .u8 0, .int .u8 0, .int .u8 0, .int .u8 0, .int .u8 0, .int .u8 0, .int .u8 0, .int .u8 0, .int .u8 0, .int .u8 0, .int .u8 0, .int .u8 0, .int .u8 0, .int .u8 0, .int .u8 0, .int .u8 0, .int .u8 0, .int .u8 0, .int .u8 0, .int .u8 0, .int .u8 0, .int .u8 0, .int .u8 0, .int .u8 0, .int .u8 0, .int .u8 0, .int .u8 0, .int .u8 0, .int .u8 0, .int .u8 0] 23))).cell? ⟨w.heap.size, 0, none⟩ = some (.slice a l.length cap) := by
    have h := ((((Blk.new w #[.slice a l.length cap] 64).alloc (.cells #[.int .i64 j] 3)).alloc (.cells #[.int .u8 0, .int .u8 0, .int .u8 0, .int .u8 0, .int .u8 0, .int .u8 0, .int .u8 0, .int .u8 0, .int .u8 0, .int .u8 0, .int .u8 0, .int .u8 0, .int .u8 0, .int .u8 0, .int .u8 0, .int .u8 0, .int .u8 0, .int .u8 0, .int .u8 0, .int .u8 0, .int .u8 0, .int .u8 0, .int .u8 0, .int .u8 0, .int .u8 0, .int .u8 0, .int .u8 0, .int .u8 0, .int .u8 0, .int .u8 0, .int .u8 0, .int .u8 0] 23)).cell 0)
    simpa using h
  have cp : ((((w.alloc (.cells #[.slice a l.length cap] 64)).alloc (.cells #[.int .i64 j] 3)).alloc (.cells #[.int .u8 0, .int .u8 0, .int .u8 0, .int .u8 0, .int .u8 0, .int .u8 0, .int .u8 0, .int .u8 0, .int .u8 0, .int .u8 0, .int .u8 0, .int .u8 0, .int .u8 0, .int .u8 0, .int .u8 0, .int .u8 0, .int .u8 0, .int .u8 0, .int .u8 0, .int .u8 0, .int .u8 0, .int .u8 0, .int .u8 0, .int .u8 0, .int .u8 0, .int .u8 0, .int .u8 0, .int .u8 0, .int .u8 0, .int .u8 0, .int .u8 0, .int .u8 0] 23))).cell? ⟨w.heap.size + 1, 0, none⟩ = some (.int .i64 j) := by
    have h := ((Blk.new2 w (.cells #[.slice a l.length cap] 64) #[.int .i64 j] 3).alloc (.cells #[.int .u8 0, .int .u8 0, .int .u8 0, .int .u8 0, .int .u8 0, .int .u8 0, .int .u8 0, .int .u8 0, .int .u8 0, .int .u8 0, .int .u8 0, .int .u8 0, .int .u8 0, .int .u8 0, .int .u8 0, .int .u8 0, .int .u8 0, .int .u8 0, .int .u8 0, .int .u8 0, .int .u8 0, .int .u8 0, .int .u8 0, .int .u8 0, .int .u8 0, .int .u8 0, .int .u8 0, .int .u8 0, .int .u8 0, .int .u8 0, .int .u8 0, .int .u8 0] 23)).cell 0
    simpa using h
  have hSr := search w.heap.size (w.heap.size + 1) _ lo hi l j _ hV cl cp hj (by omega) hmono
  have he := fun w => node A B w hA32 hB32
  obtain ⟨res, hres⟩ : ∃ res, res = nodeH A B := ⟨_, rfl⟩
  have H32 : res.length = 32 := by rw [hres]; exact sumB_len _
  rw [← hres] at he ⊢
  have HS := hid he
  replace H32 := hid H32
  clear he hres
  obtain ⟨VA, hVA⟩ : ∃ VA, VA = hashV A := ⟨_, rfl⟩
  obtain ⟨VB, hVB⟩ : ∃ VB, VB = hashV B := ⟨_, rfl⟩
  rw [← hVA, ← hVB] at HS
  rw [← hVA] at ihA
  rw [← hVB] at ihB
  have IH := hid (And.intro ihA ihB)
  have HSR := hid hSr
  have n1 : ¬ ((l.length : Int) = 0) := by omega
  have n2 : ¬ ((l.length : Int) = 1) := by omega
  have hCL := hid (And.intro cl cp)
  clear ihA ihB hVA hVB g3 hSr cl cp hmono
  go_enter Try.func152, Try.ntmps152
  go_wp2_with fail
  refine HSR.out.mono ?_
  rintro e w3 ⟨k, rfl, hkl, e0, e1, k3⟩
  rw [e0, e1] at IH
  obtain ⟨a1, s1, i1⟩ := items_to tItems' zItems' (hV.kept k3 (fun _ _ _ h => h)) .i64 k hkl
  obtain ⟨a2, s2, i2⟩ := items_from tItems' zItems' (hV.kept k3 (fun _ _ _ h => h)) .i64 k hkl
  have kc : ∀ W, Kept None w3 W → W.cell? ⟨w.heap.size, 0, none⟩ = some (.slice a l.length cap) := fun W hW => by
    rw [(k3.trans hW).cell (block_lt_of_cell hCL.out.1) (fun h => h)]; exact hCL.out.1
  have kd : ∀ W, Kept None w3 W → W.cell? ⟨w.heap.size + 1, 0, none⟩ = some (.int .i64 j) := fun W hW => by
    rw [(k3.trans hW).cell (block_lt_of_cell hCL.out.2) (fun h => h)]; exact hCL.out.2
  have hK := hid (And.intro kc kd)
  have k03 := k0.trans k3
  have hR3 := hR.kept k3 (fun h => h)
  have hklz : (k : Int) ≤ (l.length : Int) := by omega
  clear k0 k3 hR hV e0 e1 hCL HSR kc kd n1 n2
  go_wp2_with fail
  have rj : IntKind.i64.wrap ((j : Int) + 1) = (j : Int) + 1 := by rw [IntKind.wrap_i64]; omega
  have hs : Steady [.val 5 (VA), .val 11 (VB), .val 12 (hashV res)] := Steady.val (Steady.val (Steady.val (Steady.nil)))
  refine wp_region_kn_tail 13 w3 _ hs (Kept.refl _ _) (by kernel_rfl) (by kernel_rfl) (by kernel_rfl) ?_
  simp only [List.take_succ_cons, List.take_zero, List.drop_succ_cons, List.drop_zero]
  iterate 5 (refine wpPar_pure rfl (by rfl) _ (fun W hW => by
      have c0 := hK.out.1 W hW
      have c1 := hK.out.2 W hW
      have q1 := s1 W
      have q2 := s2 W
      go_simp
      exact rfl) ?_; simp only [Act.put, List.setIfInBounds_toArray, List.set_cons_zero, List.set_cons_succ])
  refine wpKn_adds hs rfl (by rfl) (fun W hW hd => ?_) (fun v5 hv => ?_)
  · unfold Gives
    go_simp
    refine gives_call (IH.out.1 _ _ _ _ (i1.kept hW (fun _ _ _ h => h))) ?_
    rintro e w3 ⟨rfl, k3⟩
    exact ⟨_, rfl, k3, rfl, trivial⟩
  obtain rfl : v5 = VA := hv
  simp only [Act.put, List.setIfInBounds_toArray, List.set_cons_zero, List.set_cons_succ]
  iterate 5 (refine wpPar_pure rfl (by rfl) _ (fun W hW => by
      have c0 := hK.out.1 W hW
      have c1 := hK.out.2 W hW
      have q1 := s1 W
      have q2 := s2 W
      go_simp
      exact rfl) ?_; simp only [Act.put, List.setIfInBounds_toArray, List.set_cons_zero, List.set_cons_succ])
  refine wpKn_adds hs rfl (by rfl) (fun W hW hd => ?_) (fun v11 hv => ?_)
  · unfold Gives
    go_simp
    refine gives_call (IH.out.2 _ _ _ _ (i2.kept hW (fun _ _ _ h => h))) ?_
    rintro e w3 ⟨rfl, k3⟩
    exact ⟨_, rfl, k3, rfl, trivial⟩
  obtain rfl : v11 = VB := hv
  simp only [Act.put, List.setIfInBounds_toArray, List.set_cons_zero, List.set_cons_succ]
  refine wpKn_adds hs rfl (by rfl) (fun W hW hd => ?_) (fun v12 hv => ?_)
  · unfold Gives
    go_simp
    refine gives_call (HS.out W) ?_
    rintro e w3 ⟨rfl, k3⟩
    exact ⟨_, rfl, k3, rfl, trivial⟩
  obtain rfl : v12 = hashV res := hv
  simp only [Act.put, List.setIfInBounds_toArray, List.set_cons_zero, List.set_cons_succ]
  refine wpPar_nil (fun w6 hW hG => ?_)
  have k06 := k03.trans hW
  have hR6 := hR3.kept hW (fun h => h)
  clear hG hs hW k03 hR3 s1 s2 i1 i2 rj
  have e32' : (res.map u8v).toArray.size = 32 := by simpa using H32.out
  have aH' : AggTy Try.prog 23 (res.map u8v).toArray.size := by rw [e32']; exact Sp.aH
  have E := hid (hz.trans e32'.symm)
  clear e32' hz
  go_wp2_with (first | (refine wpList_store_blk (.refl _) _ _ _ rfl rfl rfl hR6 aH' E.out (u8v_all _) ?_; intro w9 hR9 k9) | fail)
  exact bodyPost_ret (v := hashV res) (results_blk rfl _ rfl hR9 aH') rfl ⟨rfl, k06.then k9 (fun i hi (h : i = w.heap.size + 1 + 1) => by omega)⟩

/-- rootFrom. -/
theorem rootFrom : ∀ (f : Nat) (l : List It) (j : Nat) (v : Value) (lo hi : Nat) (w : World), Its w lo hi v l → Srt l → Agree l j → 256 ≤ f + j → j ≤ 256 → l.length ≤ 549755813888 →
    Calls Try.prog 152 #[v, .int .i64 j] w fun e w' => e = .returned (hashV (rootI f l j)) ∧ Kept None w w' := by
  intro f
  induction f with
  | zero =>
    intro l j v lo hi w hv hs ha hf hj hl
    match l, hv, hs, ha with
    | [], hv, _, _ => exact RTr.rootI_nil 0 j ▸ rootFrom_nil j v lo hi w hv
    | [x], hv, _, _ => exact RTr.rootI_one 0 j x ▸ rootFrom_one x j v lo hi w hv
    | x :: y :: l, hv, hs, ha => have := agree_lt hs hv.1 ha (by simp); omega
  | succ f ih =>
    intro l j v lo hi w hv hs ha hf hj hl
    by_cases h0 : l.length = 0
    · obtain rfl := List.eq_nil_of_length_eq_zero h0
      exact RTr.rootI_nil (f + 1) j ▸ rootFrom_nil j v lo hi w hv
    by_cases h1 : l.length = 1
    · obtain ⟨x, rfl⟩ := List.length_eq_one_iff.1 h1
      exact RTr.rootI_one (f + 1) j x ▸ rootFrom_one x j v lo hi w hv
    have h2 : 2 ≤ l.length := by omega
    have hj' := agree_lt hs hv.1 ha h2
    rw [RTr.rootI_more' f j h2]
    have side : ∀ b, (half l j b).length ≤ 549755813888 := fun b => Nat.le_trans (RTr.half_len l j b) hl
    have len : ∀ b, (rootI f (half l j b) (j + 1)).length = 32 := fun b => RTr.rootI_len f _ _ (srt_half hs j b) (len_half hv.1 j b) (agree_half ha b) (by omega)
    refine rootFrom_more l _ _ j v lo hi w hv h2 hl hj' (len 0) (len 1) (fun a b hab hb h => bits_mono hs hv.1 hj' ha hab hb h) (fun v lo hi w h => ?_) (fun v lo hi w h => ?_)
    · exact ih _ (j + 1) v lo hi w h (srt_half hs j 0) (agree_half ha 0) (by omega) (by omega) (side 0)
    · exact ih _ (j + 1) v lo hi w h (srt_half hs j 1) (agree_half ha 1) (by omega) (by omega) (side 1)
end Tr
end Go.Proofs.Ytidegffdhpdhjaa
