/- The seat's Name and Entry: what they tell. -/
import Derived.Test.YtibkijloibnkfaaEntA
import Derived.Test.YtibkijloibnkfaaNm7
import Derived.Test.YtibkijloibnkfaaRPubM23
import Derived.Test.YtibkijloibnkfaaTells10
namespace Go.Proofs.Ytibkijloibnkfaa
open Go.RowKit Go.Pm
namespace Es
set_option maxRecDepth 100000 in
set_option maxHeartbeats 2000000 in
/-- Name. -/
theorem name (x : Nat) (w : World) : Calls Try.prog 30 #[.int .u8 x] w fun e w' => ∃ s, e = .returned (.string s) ∧ 1 ≤ s.size ∧ s.size ≤ 32 ∧ Kept None w w' := by
  obtain ⟨t, ht⟩ : ∃ t, t = x % 6 := ⟨_, rfl⟩
  have m6 : (x : Int).tmod 6 = (t : Int) := by rw [ht]; rfl
  have n6 : (x : Int) % 6 = (t : Int) := by rw [ht]; rfl
  have hcs : t = 0 ∨ t = 1 ∨ t = 2 ∨ t = 3 ∨ t = 4 ∨ t = 5 := by omega
  clear ht
  have k1 : ∀ c, Kept None w (w.alloc c) := fun c => (Kept.refl _ _).alloc c
  have K1 := hid k1
  clear k1
  rcases hcs with rfl | rfl | rfl | rfl | rfl | rfl
  all_goals
    go_enter Try.func30, Try.ntmps30
    go_wp2
    go_ret
    exact ⟨_, rfl, by decide, by decide, K1.out _⟩
theorem ent3 (s : ByteArray) (v k : Int) : (#[Value.string s, .int .i64 v, .int .u64 k] : Array Value).all (·.oneCell') = true := by first | rfl | decide | simp [Value.oneCell']
theorem u64_nat (x : Int) : ∃ k : Nat, IntKind.u64.wrap x = (k : Int) ∧ k < 18446744073709551616 := ⟨(IntKind.u64.wrap x).toNat, by rw [IntKind.wrap_u64]; omega, by rw [IntKind.wrap_u64]; omega⟩
set_option maxRecDepth 100000 in
set_option maxHeartbeats 2000000 in
/-- Entry. -/
theorem entry (x : Nat) (v : Int) (w : World) : Calls Try.prog 23 #[.int .u8 x, .int .i64 v] w fun e w' => ∃ s, ∃ k : Nat, e = .returned (entV s v k) ∧ 1 ≤ s.size ∧ s.size ≤ 32 ∧ k < 18446744073709551616 ∧ Kept None w w' := by
  have k0 : Kept None w (w.alloc (.cells #[.string ⟨#[]⟩, .int .i64 0, .int .u64 0] 53)) := (Kept.refl _ _).alloc _
  have bE : Blk (w.alloc (.cells #[.string ⟨#[]⟩, .int .i64 0, .int .u64 0] 53)) w.heap.size #[.string ⟨#[]⟩, .int .i64 0, .int .u64 0] 53 := Blk.new w _ _
  obtain ⟨a1, h1, _⟩ := u64_nat v
  obtain ⟨a2, h2, _⟩ := u64_nat ((a1 : Int) * 1000)
  obtain ⟨a3, h3, _⟩ := u64_nat (x : Int)
  obtain ⟨a4, h4, _⟩ := u64_nat ((a2 : Int) + (a3 : Int))
  obtain ⟨K, h5, hK⟩ := u64_nat ((a4 : Int) + 1)
  have HK := hid hK
  clear hK
  go_enter Try.func23, Try.ntmps23
  go_wp2_with fail
  refine Calls.nm ?_
  intro w1 e1
  rw [← e1] at k0 bE
  clear e1
  refine (name x w1).mono ?_
  rintro e w2 ⟨s, rfl, s1, s2, k2⟩
  have k02 := k0.trans k2
  have b2 := bE.kept k2 (fun h => h)
  clear k0 k2 bE
  go_wp2_with (first | (refine wpList_store_blk rfl _ _ _ rfl rfl rfl b2 Up.aEnt rfl (ent3 s v K) ?_; intro w3 g3 k3) | fail)
  exact bodyPost_ret (v := entV s v K) (results_blk rfl _ rfl g3 Up.aEnt) rfl ⟨_, _, rfl, s1, s2, HK.out, k02.then k3 (fun i hi (h : i = w.heap.size) => by omega)⟩
set_option maxRecDepth 100000 in
set_option maxHeartbeats 2000000 in
/-- Entry, of a small version. -/
theorem entry_at (x v : Nat) (w : World) (hx : x < 256) (hv : v < 1000) : Calls Try.prog 23 #[.int .u8 x, .int .i64 v] w fun e w' => ∃ s, e = .returned (entV s v (v * 1000 + x + 1)) ∧ 1 ≤ s.size ∧ s.size ≤ 32 ∧ Kept None w w' := by
  have k0 : Kept None w (w.alloc (.cells #[.string ⟨#[]⟩, .int .i64 0, .int .u64 0] 53)) := (Kept.refl _ _).alloc _
  have bE : Blk (w.alloc (.cells #[.string ⟨#[]⟩, .int .i64 0, .int .u64 0] 53)) w.heap.size #[.string ⟨#[]⟩, .int .i64 0, .int .u64 0] 53 := Blk.new w _ _
  obtain ⟨K, hK⟩ : ∃ K : Nat, K = v * 1000 + x + 1 := ⟨_, rfl⟩
  have w1 : IntKind.u64.wrap (v : Int) = (v : Int) := by rw [IntKind.wrap_u64]; omega
  have w2 : IntKind.u64.wrap ((v : Int) * 1000) = (v : Int) * 1000 := by rw [IntKind.wrap_u64]; omega
  have w3 : IntKind.u64.wrap (x : Int) = (x : Int) := by rw [IntKind.wrap_u64]; omega
  have w4 : IntKind.u64.wrap ((v : Int) * 1000 + (x : Int)) = (v : Int) * 1000 + (x : Int) := by rw [IntKind.wrap_u64]; omega
  have w5 : IntKind.u64.wrap ((v : Int) * 1000 + (x : Int) + 1) = (K : Int) := by rw [IntKind.wrap_u64]; omega
  rw [← hK]
  clear hK
  go_enter Try.func23, Try.ntmps23
  go_wp2_with fail
  refine Calls.nm ?_
  intro wa ea
  rw [← ea] at k0 bE
  clear ea
  refine (name x wa).mono ?_
  rintro e wb ⟨s, rfl, s1, s2, k2⟩
  have k02 := k0.trans k2
  have b2 := bE.kept k2 (fun h => h)
  clear k0 k2 bE
  go_wp2_with (first | (refine wpList_store_blk rfl _ _ _ rfl rfl rfl b2 Up.aEnt rfl (ent3 s v K) ?_; intro wc h3 k3) | fail)
  exact bodyPost_ret (v := entV s v K) (results_blk rfl _ rfl h3 Up.aEnt) rfl ⟨_, rfl, s1, s2, k02.then k3 (fun i hi (h : i = w.heap.size) => by omega)⟩
end Es
end Go.Proofs.Ytibkijloibnkfaa

namespace Go.Pm
open Go Go.RowKit
theorem Po.typed {k : Nat} {e : TypeId} {w : World} {base : Nat} {v : Value} {xs : List (List Value)} (h : Po k e w base v xs) : ∀ q, v.ownBlock = some q → ∃ c, w.heap[q]? = some (.cells c e (0, 0)) := by
  intro q hq
  rcases h.2.2 with ⟨rfl, _⟩ | ⟨g, cap, cur, rfl, _, hg, _⟩
  · simp [Value.ownBlock] at hq
  · simp [Value.ownBlock] at hq
    subst hq
    exact ⟨_, hg⟩
theorem Po.apart {k k' : Nat} {e e' : TypeId} {w : World} {base base' : Nat} {v v' : Value} {xs xs' : List (List Value)} (h : Po k e w base v xs) (h' : Po k' e' w base' v' xs') (he : e ≠ e') : ∀ q, v.ownBlock = some q → ¬ v'.ownBlock = some q := by
  intro q h1 h2
  obtain ⟨c, hc⟩ := h.typed q h1
  obtain ⟨c', hc'⟩ := h'.typed q h2
  rw [hc] at hc'
  injection hc' with h3
  injection h3 with _ h4
  exact he h4
def Krow (w : World) (vo vh vk : Value) (ks : List Kno) : Prop := ∃ lo hi, Ps 4 w lo hi vk (knosC ks) ∧ (∀ q, vo.ownBlock = some q ∨ vh.ownBlock = some q → q < lo ∨ hi ≤ q) ∧ hi ≤ w.heap.size
/-- What stands at an epoch's start. -/
def EpSt (PT HDT : TypeId) (w wr : World) (vo vh vk : Value) (hs : List Hd) (ks : List Kno) (i : Nat) : Prop :=
  Kept None w wr ∧ (∃ xs, Po 70 PT wr w.heap.size vo xs ∧ xs.length ≤ i) ∧ Po 69 HDT wr w.heap.size vh (headsC hs) ∧ HOk hs ∧ hs.length ≤ i ∧ Krow wr vo vh vk ks ∧ KOk ks ∧ ks.length ≤ 3 * i
theorem Krow.kept {w w2 : World} {vo vh vk : Value} {ks : List Kno} (h : Krow w vo vh vk ks) (hk : Kept None w w2) : Krow w2 vo vh vk ks := by
  obtain ⟨lo, hi, h1, h2, h3⟩ := h
  exact ⟨lo, hi, h1.kept hk (fun _ _ _ h => h), h2, Nat.le_trans h3 hk.size⟩
theorem EpSt.zero (PT HDT : TypeId) (w : World) : EpSt PT HDT w w (.slice none 0 0) (.slice none 0 0) (.slice none 0 0) [] [] 0 :=
  ⟨Kept.refl _ _, ⟨[], Po.nil .., Nat.le_refl _⟩, Po.nil .., (fun x hx => by cases hx), Nat.le_refl _, ⟨0, 0, Ps.nil .., (fun q hq => .inr (Nat.zero_le _)), Nat.zero_le _⟩, (fun x hx => by cases hx), Nat.le_refl _⟩
theorem EpSt.kept {PT HDT : TypeId} {w wr w2 : World} {vo vh vk : Value} {hs : List Hd} {ks : List Kno} {i : Nat} (h : EpSt PT HDT w wr vo vh vk hs ks i) (hk : Kept None wr w2) : EpSt PT HDT w w2 vo vh vk hs ks i := by
  obtain ⟨h1, ⟨xs, h2, h2'⟩, h3, h4, h5, h6, h7, h8⟩ := h
  exact ⟨h1.trans hk, ⟨xs, h2.kept hk (fun _ _ h => h), h2'⟩, h3.kept hk (fun _ _ h => h), h4, h5, h6.kept hk, h7, h8⟩
theorem EpSt.more {PT HDT : TypeId} {w wr : World} {vo vh vk : Value} {hs : List Hd} {ks : List Kno} {i : Nat} (h : EpSt PT HDT w wr vo vh vk hs ks i) : EpSt PT HDT w wr vo vh vk hs ks (i + 1) := by
  obtain ⟨h1, ⟨xs, h2, h2'⟩, h3, h4, h5, h6, h7, h8⟩ := h
  exact ⟨h1, ⟨xs, h2, by omega⟩, h3, h4, by omega, h6, h7, by omega⟩
theorem EpSt.lt {PT HDT : TypeId} {w wr : World} {vo vh vk : Value} {hs : List Hd} {ks : List Kno} {i : Nat} (h : EpSt PT HDT w wr vo vh vk hs ks i) : ∀ q, vo.ownBlock = some q ∨ vh.ownBlock = some q → w.heap.size ≤ q ∧ q < wr.heap.size := by
  obtain ⟨h1, ⟨xs, h2, h2'⟩, h3, h4, h5, h6, h7, h8⟩ := h
  rintro q (hq | hq)
  · exact h2.own q hq
  · exact h3.own q hq
/-- What Build tells lies apart of the rows. -/
theorem krow_off {w1 w2 : World} {lo hi : Nat} {vo vh r : Value} {ks : List Kno} (h : Off 4 w1 lo (min hi w1.heap.size) w2 r (knosC ks)) (hs : ∀ q, vo.ownBlock = some q ∨ vh.ownBlock = some q → q < lo ∨ hi ≤ q) (hl : ∀ q, vo.ownBlock = some q ∨ vh.ownBlock = some q → q < w1.heap.size) : Krow w2 vo vh r ks := by
  obtain ⟨lo2, hi2, hp, hq⟩ := h
  refine ⟨lo2, min hi2 w2.heap.size, hp.lt, fun q h => ?_, Nat.min_le_right _ _⟩
  have := hs q h
  have := hl q h
  omega
theorem EpSt.next {PT HDT : TypeId} {w wC W : World} {vo vh vk vo' vh' r : Value} {hs : List Hd} {ks NK : List Kno} {i : Nat} {H : Hd} (h : EpSt PT HDT w wC vo vh vk hs ks i) (hr : Krow wC vo vh r NK) (ok : H.Ok) (hNK : KOk NK ∧ NK.length ≤ 3 * (i + 1)) (hk : Kept (fun q => vo.ownBlock = some q ∨ vh.ownBlock = some q) wC W)
    (po : ∃ xs, Po 70 PT W w.heap.size vo' xs ∧ xs.length ≤ i + 1) (oo : ∀ q, vo'.ownBlock = some q → vo.ownBlock = some q ∨ wC.heap.size ≤ q) (ph : Po 69 HDT W w.heap.size vh' (headsC (hs ++ [H]))) (oh : ∀ q, vh'.ownBlock = some q → vh.ownBlock = some q ∨ wC.heap.size ≤ q) : EpSt PT HDT w W vo' vh' r (hs ++ [H]) NK (i + 1) := by
  have hlt := h.lt
  obtain ⟨h1, _, h3, h4, h5, _, h7, h8⟩ := h
  obtain ⟨lo, hi, g1, g2, g3⟩ := hr
  have hz := hk.size
  refine ⟨h1.then hk (fun q hq h => by have := (hlt q h).1; omega), po, ph, (fun x hx => ?_), by simp; omega, ⟨lo, hi, g1.kept hk (fun q q1 q2 h => by have := g2 q h; omega), (fun q h => ?_), by omega⟩, hNK.1, hNK.2⟩
  · rcases List.mem_append.1 hx with hx | hx
    · exact h4 x hx
    · obtain rfl : x = H := by simpa using hx
      exact ok
  · rcases h with h | h
    · rcases oo q h with h | h
      · exact g2 q (.inl h)
      · exact .inr (by omega)
    · rcases oh q h with h | h
      · exact g2 q (.inr h)
      · exact .inr (by omega)
end Go.Pm
namespace Go.Proofs.Ytibkijloibnkfaa
open Go.RowKit Go.Pm
namespace Es
theorem rtPub : RowTyK Try.prog 32 77 (.agg Try.zeroCells77) 70 128 := Hk.rtyK (by kernel_rfl) (by kernel_rfl) (by rfl) (by decide)
theorem rtHeads : RowTyK Try.prog 34 28 (.agg Try.zeroCells28) 69 104 := Hk.rtyK (by kernel_rfl) (by kernel_rfl) (by rfl) (by decide)
theorem neT : (77 : TypeId) ≠ 28 := by decide
theorem pub_head {w : World} {g : Nat} {t : TypeId} {h : Hd} {u : Value} (hb : Blk w g (pubC h u).toArray t) : w.rangeAt g 0 (hdC h) := fun j v hv => by
  rw [Nat.zero_add, hb.cell]
  have hj : j < (hdC h).length := (List.getElem?_eq_some_iff.1 hv).1
  unfold pubC
  rw [List.getElem?_toArray, List.getElem?_append_left hj]
  exact hv
set_option maxRecDepth 100000 in
set_option maxHeartbeats 16000000 in
/-- Epochs. -/
theorem epochs (xx : Nat) (v : Value) (lo hi : Nat) (l : List UInt8) (w : World) (hv : Bs w lo hi v l) (hl : l.length ≤ 1000) :
    Calls Try.prog 8 #[.int .u64 xx, v] w fun e w' => ∃ a b u hds, e = .returned (.tuple #[a, b, u]) ∧ Kept None w w' ∧ Ps 69 w' w.heap.size w'.heap.size u (headsC hds) ∧ HOk hds ∧ hds.length ≤ l.length := by
  obtain ⟨a, cap, rfl, q1, q2, q3⟩ := hv.shape
  obtain ⟨N, hN⟩ : ∃ n, n = l.length := ⟨_, rfl⟩
  rw [← hN] at hv hl q1 ⊢
  have HV := hid (And.intro hv hN)
  have HS0 := hid (EpSt.zero 77 28 w)
  have HL0 := hid hl
  clear hv hN q3
  go_enter Try.func8, Try.ntmps8
  go_wp2
  go_loopg [7, 8, 9, 10, 11] N (fun kx s7 s8 s9 s10 s11 wr => ∃ (i : Nat) (t : Int) (ao : Option Addr) (no co : Nat) (ah : Option Addr) (nh ch : Nat) (ak : Option Addr) (nk ck : Nat) (hds : List Hd) (ks : List Kno), s11 = .int .i64 i ∧ s10 = .int .i64 t ∧ s7 = .slice ao no co ∧ s8 = .slice ah nh ch ∧ s9 = .slice ak nk ck ∧ i ≤ N ∧ N - i ≤ kx ∧ Hid (EpSt 77 28 w wr (.slice ao no co) (.slice ah nh ch) (.slice ak nk ck) hds ks i))
  case atStart => exact ⟨0, 0, none, 0, 0, none, 0, 0, none, 0, 0, [], [], rfl, rfl, rfl, rfl, rfl, Nat.zero_le _, Nat.le_refl _, HS0⟩
  case round =>
    obtain ⟨i, t, ao, no, co, ah, nh, ch, ak, nk, ck, hds, ks, rfl, rfl, rfl, rfl, rfl, hiN, hkx, HST⟩ := hrel
    obtain ⟨wo, rfl⟩ : ∃ wo : World, wo = wr := ⟨_, rfl⟩
    by_cases hlt : i < N
    · have hz : (i : Int) < (N : Int) := by omega
      have wi : IntKind.i64.wrap ((i : Int) + 1) = (i : Int) + 1 := by rw [IntKind.wrap_i64]; have := HL0.out; omega
      have HL := hid (show i < 1000 by have := HL0.out; omega)
      obtain ⟨bb, oo, qa, _, _, hbb, hc⟩ := (HV.out.1.kept HST.out.1 (fun _ _ _ h => h)).ne (by have := HV.out.2; omega)
      obtain rfl := qa
      have c0 := hc i (by have := HV.out.2; omega)
      obtain ⟨x, hx, hx256⟩ : ∃ x : Nat, bAt l i = (x : Int) ∧ x < 256 := ⟨(bAt l i).toNat, by have := bAt_ge l i; omega, by have := bAt_lt l i; omega⟩
      rw [hx] at c0
      obtain ⟨D, hD⟩ : ∃ d, d = x / 24 := ⟨_, rfl⟩
      obtain ⟨E, hE⟩ : ∃ d, d = x / 6 := ⟨_, rfl⟩
      obtain ⟨T, hT⟩ : ∃ d, d = E % 4 := ⟨_, rfl⟩
      have d6 : (x : Int).tdiv 6 = (E : Int) := by rw [hE]; rfl
      have e6 : (x : Int) / 6 = (E : Int) := by omega
      have m4 : (E : Int).tmod 4 = (T : Int) := by rw [hT]; rfl
      have n4 : (E : Int) % 4 = (T : Int) := by omega
      have wE : IntKind.u8.wrap (E : Int) = (E : Int) := by rw [IntKind.wrap_u8]; omega
      have wT : IntKind.u8.wrap (T : Int) = (T : Int) := by rw [IntKind.wrap_u8]; omega
      have wT2 : IntKind.i64.wrap (T : Int) = (T : Int) := by rw [IntKind.wrap_i64]; omega
      obtain ⟨t2, ht2⟩ : ∃ z, IntKind.i64.wrap (t + (T : Int)) = z := ⟨_, rfl⟩
      have ht3 : wrap64 (t + (T : Int)) = t2 := by rw [← ht2, IntKind.wrap_i64]; first | rfl | (unfold wrap64; rfl) | (simp only [wrap64])
      obtain ⟨C, hC⟩ : ∃ c, c = D % 3 := ⟨_, rfl⟩
      have d24 : (x : Int).tdiv 24 = (D : Int) := by rw [hD]; rfl
      have e24 : (x : Int) / 24 = (D : Int) := by omega
      have m3 : (D : Int).tmod 3 = (C : Int) := by rw [hC]; rfl
      have n3 : (D : Int) % 3 = (C : Int) := by omega
      have wD : IntKind.u8.wrap (D : Int) = (D : Int) := by rw [IntKind.wrap_u8]; omega
      have wC : IntKind.u8.wrap (C : Int) = (C : Int) := by rw [IntKind.wrap_u8]; omega
      have HCC := hid (show C ≤ 2 by omega)
      have HX := hid hx256
      have HC0 := hid c0
      have HBB := hid hbb
      clear hc hx hD hC hE hT hx256 hbb
      go_wp2
      have K9 := hid (Kept.refl None wo)
      have P0 : Hid (Po 3 53 wo wo.heap.size (.slice none 0 0) (entsC [])) := hid (Po.nil ..)
      go_loopg [12, 13] (C + 1) (fun kx s12 s13 wr => ∃ (j : Nat) (ab : Option Addr) (nb cb : Nat) (b : List Ent), s13 = .int .u8 j ∧ s12 = .slice ab nb cb ∧ j ≤ C + 1 ∧ C + 1 - j ≤ kx ∧ Hid (Kept None wo wr) ∧ Hid (Po 3 53 wr wo.heap.size (.slice ab nb cb) (entsC b)) ∧ Hid (EOk b ∧ b.length ≤ j))
      case atStart => exact ⟨0, none, 0, 0, [], rfl, rfl, Nat.zero_le _, Nat.le_refl _, K9, P0, hid ⟨fun x hx => (by cases hx), Nat.le_refl _⟩⟩
      case round =>
        obtain ⟨j, ab, nb, cb, b, rfl, rfl, hj, hjx, HK, HB, HBL0⟩ := hrel
        by_cases hjc : j ≤ C
        · have hjz : (j : Int) ≤ (C : Int) := by omega
          have wj : IntKind.u8.wrap ((j : Int) + 1) = (j : Int) + 1 := by rw [IntKind.wrap_u8]; have := HCC.out; omega
          obtain ⟨y, hy⟩ : ∃ y, y = (x + j) % 256 := ⟨_, rfl⟩
          have wxj : IntKind.u8.wrap ((x : Int) + (j : Int)) = (y : Int) := by rw [IntKind.wrap_u8]; omega
          have c1 : wr.cell? ⟨bb, oo + i, none⟩ = some (.int .u8 (x : Int)) := (HK.out.cell (p := ⟨bb, oo + i, none⟩) HBB.out (fun h => h)).trans HC0.out
          have HC1 := hid c1
          clear hy
          go_wp2_with fail
          refine (name y _).mono ?_
          rintro e w3 ⟨nm, rfl, _, _, k3⟩
          have K3 := hid (HK.out.trans k3)
          have B3 := hid (HB.out.kept k3 (fun _ _ h => h))
          have hks : ks.length ≤ 3000 := by have := HST.out.2.2.2.2.2.2.2; have := HL.out; omega
          obtain ⟨lo2, hi2, pk, _, _⟩ := HST.out.2.2.2.2.2.1
          have hLat := R16.latest (.slice ak nk ck) lo2 hi2 ks nm w3 (pk.kept K3.out (fun _ _ _ h => h)) (by omega)
          obtain ⟨X, hX⟩ : ∃ X, X = latF ks nm := ⟨_, rfl⟩
          rw [← hX] at hLat
          have HLA := hid hLat
          have c3 : w3.cell? ⟨bb, oo + i, none⟩ = some (.int .u8 (x : Int)) := (k3.cell (p := ⟨bb, oo + i, none⟩) (Nat.lt_of_lt_of_le HBB.out HK.out.size) (fun h => h)).trans HC1.out
          have HC3 := hid c3
          clear k3 hks pk hLat hX HK HB c1
          go_wp2_with fail
          refine HLA.out.mono ?_
          rintro e w4 ⟨rfl, k4⟩
          have K4 := hid (K3.out.trans k4)
          have B4 := hid (B3.out.kept k4 (fun _ _ h => h))
          have c4 : w4.cell? ⟨bb, oo + i, none⟩ = some (.int .u8 (x : Int)) := (k4.cell (p := ⟨bb, oo + i, none⟩) (Nat.lt_of_lt_of_le HBB.out K3.out.size) (fun h => h)).trans HC3.out
          have kA : Kept None w4 (w4.alloc (.cells #[.string X.1.e.n, .int .i64 X.1.e.v, .int .u64 (X.1.e.k : Int), .int .i64 X.1.p] 73)) := (Kept.refl _ _).alloc _
          have K5 := hid (K4.out.trans kA)
          have P5 := hid (B4.out.kept kA (fun _ _ h => h))
          have x5 : Blk (w4.alloc (.cells #[.string X.1.e.n, .int .i64 X.1.e.v, .int .u64 (X.1.e.k : Int), .int .i64 X.1.p] 73)) w4.heap.size #[.string X.1.e.n, .int .i64 X.1.e.v, .int .u64 (X.1.e.k : Int), .int .i64 X.1.p] 73 := Blk.new _ _ _
          have X5 := hid x5
          have C5 : Hid ((w4.alloc (.cells #[.string X.1.e.n, .int .i64 X.1.e.v, .int .u64 (X.1.e.k : Int), .int .i64 X.1.p] 73)).cell? ⟨bb, oo + i, none⟩ = some (.int .u8 (x : Int))) := hid ((kA.cell (p := ⟨bb, oo + i, none⟩) (Nat.lt_of_lt_of_le HBB.out K4.out.size) (fun h => h)).trans c4)
          have L5 : Hid (∀ q, (Value.slice ab nb cb).ownBlock = some q → wo.heap.size ≤ q ∧ q < w4.heap.size) := hid (B4.out.own)
          clear k4 c3 c4 kA x5 HC1 HC3 K3 K4 B3 B4
          go_wp2_with fail
          obtain ⟨w9, hw9⟩ : ∃ W, W = w4.alloc (.cells #[.string X.1.e.n, .int .i64 X.1.e.v, .int .u64 (X.1.e.k : Int), .int .i64 X.1.p] 73) := ⟨_, rfl⟩
          rw [← hw9] at K5 P5 X5 C5 ⊢
          clear hw9
          obtain ⟨VV, hVV⟩ : ∃ z, z = IntKind.i64.wrap (X.1.e.v + 1) := ⟨_, rfl⟩
          have HVV := hid hVV.symm
          obtain ⟨g5, hg5⟩ : ∃ g, g = w4.heap.size := ⟨_, rfl⟩
          rw [← hg5] at X5 L5 ⊢
          have HBY := hid (fun W (hW : Kept (fun q => (Value.slice ab nb cb).ownBlock = some q) w9 W) => (hW.cell (p := ⟨bb, oo + i, none⟩) (Nat.lt_of_lt_of_le HBB.out K5.out.size) (fun h => by have := (L5.out bb h).1; have := HBB.out; omega)).trans C5.out)
          have HC := hid (fun W (hW : Kept (fun q => (Value.slice ab nb cb).ownBlock = some q) w9 W) => ((X5.out.kept hW (fun h => by have := (L5.out _ h).2; omega)).cell 1).trans (show _ = some (Value.int .i64 X.1.e.v) from rfl))
          have P9 := P5
          have HBL := hid (show b.length ≤ 3 by have := HBL0.out; have := HCC.out; omega)
          have HZ9 := hid K5.out.size
          clear hVV hg5
          refine wp_region_plan (Kept (fun q => (Value.slice ab nb cb).ownBlock = some q) w9) [{ k := 11, uses := [], pure := fun u => ∃ s, ∃ k : Nat, u = entV s VV k ∧ s.size ≤ 32 ∧ k < 18446744073709551616 }, { k := 12, uses := [], pure := fun u => ∃ g, u = .slice (some ⟨g, 0, none⟩) 1 1, fact := fun u W => ∃ g, u = .slice (some ⟨g, 0, none⟩) 1 1 ∧ ∃ e : Ent, e.Ok ∧ Blk W g (entC e).toArray 53 }, { k := 13, uses := [12, 100], spends := [12, 100], pure := fun u => ∃ a n c, u = .slice a n c, fact := fun u W => ∃ e : Ent, e.Ok ∧ Po 3 53 W wo.heap.size u (entsC (b ++ [e])) }, { k := 100, uses := [], fact := fun u W => Po 3 53 W wo.heap.size (.slice ab nb cb) (entsC b) }] [100] (by kernel_rfl) (by kernel_rfl) (by kernel_rfl) (by rfl) ?pures ((Kept.refl _ w9).drew) ?starts ?walk
          case pures =>
            intro f hf
            simp only [List.mem_cons, List.not_mem_nil, or_false] at hf
            rcases hf with rfl | rfl | rfl | rfl
            · exact ⟨_, ⟨#[]⟩, 0, rfl, by decide, by decide⟩
            · exact ⟨_, 0, rfl⟩
            · exact ⟨_, none, 0, 0, rfl⟩
            · exact ⟨undef, trivial⟩
          case starts =>
            intro k hk
            have hk : k = 100 := by simpa using hk
            subst hk
            exact P9.out.kept ((Kept.refl None w9).drew) (fun _ _ h => h)
          iterate 11 (refine wpPar_pure rfl (by rfl) _ (fun W hW => by
              have b1 := HBY.out W hW
              have c1 := HC.out W hW
              have q := HVV.out
              go_simp
              exact rfl) ?_; simp only [Act.put, List.setIfInBounds_toArray, List.set_cons_zero, List.set_cons_succ])
          refine wpPar_adds rfl (by rfl) (fun W hW hd => ?_) (fun v11 hv => ?_)
          · unfold Gives
            have q := HVV.out
            have c1 := HC.out W hW
            go_simp
            refine gives_call (entry y VV W) ?_
            rintro e w3 ⟨s, k, rfl, _, s2, hk64, kN⟩
            refine ⟨_, rfl, hW.then kN (fun _ _ h => h.elim), ⟨s, k, rfl, s2, hk64⟩, trivial, keeps_of fun f hf hs hl hne u hfu => ?_⟩
            simp only [List.mem_cons, List.not_mem_nil, or_false] at hf
            rcases hf with rfl | rfl | rfl | rfl
            · exact absurd rfl hne
            · (obtain ⟨g, e1, e2, e3, e4⟩ := hfu; exact ⟨g, e1, e2, e3, e4.kept kN (fun h => h)⟩)
            · (obtain ⟨e, e1, e2⟩ := hfu; exact ⟨e, e1, e2.kept kN (fun _ _ h => h)⟩)
            · exact Po.kept hfu kN (fun _ _ h => h)
          obtain ⟨s11, k11, rfl, q11, r11⟩ : ∃ s, ∃ k : Nat, v11 = entV s VV k ∧ s.size ≤ 32 ∧ k < 18446744073709551616 := hv
          simp only [Act.put, List.setIfInBounds_toArray, List.set_cons_zero, List.set_cons_succ]
          refine wpPar_adds rfl (by rfl) (fun W hW hd => ?_) (fun v12 hv => ?_)
          · unfold Gives
            rw [exec_one_item 70 (.tmp 69) rfl R23.rtEntry (by decide) (A := #[.string s11, .int .i64 VV, .int .u64 (k11 : Int)]) rfl rfl]
            have kN : Kept None W (W.alloc (.cells #[.string s11, .int .i64 VV, .int .u64 (k11 : Int)] 53)) := (Kept.refl None W).alloc _
            refine ⟨hW.then kN (fun _ _ h => h.elim), ⟨_, rfl⟩, ⟨_, rfl, ⟨s11, VV, k11⟩, ⟨by have := q11; show s11.size ≤ _; omega, r11⟩, Blk.new _ _ _⟩, keeps_of fun f hf hs hl hne u hfu => ?_⟩
            simp only [List.mem_cons, List.not_mem_nil, or_false] at hf
            rcases hf with rfl | rfl | rfl | rfl
            · exact hfu
            · exact absurd rfl hne
            · (obtain ⟨e, e1, e2⟩ := hfu; exact ⟨e, e1, e2.kept kN (fun _ _ h => h)⟩)
            · exact Po.kept hfu kN (fun _ _ h => h)
          obtain ⟨g12, rfl⟩ : ∃ g, v12 = .slice (some ⟨g, 0, none⟩) 1 1 := hv
          simp only [Act.put, List.setIfInBounds_toArray, List.set_cons_zero, List.set_cons_succ]
          refine wpPar_adds rfl (by rfl) (fun W hW hd => ?_) (fun v13 hv => ?_)
          · have hO : Po 3 53 W wo.heap.size (.slice ab nb cb) (entsC b) := hd 100 (List.Mem.tail _ (List.Mem.head _))
            obtain ⟨g, hgg, e, he, hg3⟩ : ∃ g, Value.slice (some ⟨g12, 0, none⟩) 1 1 = .slice (some ⟨g, 0, none⟩) 1 1 ∧ ∃ e : Ent, e.Ok ∧ Blk W g (entC e).toArray 53 := hd 12 (List.Mem.head _)
            obtain rfl : g12 = g := by simpa using hgg
            have hu : Ps 3 W 0 W.heap.size (.slice (some ⟨g12, 0, none⟩) 1 1) (entsC [e]) := R16.ps_blk (x := entC e) hg3 rfl
            refine gives_append_po _ _ 70 rfl R23.rtEntry (by decide) rfl rfl hO hu (entsC_one _) (by rw [entsC_len, entsC_len]; have := HBL.out; simp; omega) (Nat.le_trans HZ9.out hW.size) ?_
            intro a' n' c' W' hP kS o9
            have kN : True := trivial
            rw [← entsC_app] at hP
            refine ⟨hW.then kS (fun i hi h => h), ⟨_, _, _, rfl⟩, ⟨e, he, hP⟩, keeps_of fun f hf hs hl hne u hfu => ?_⟩
            simp only [List.mem_cons, List.not_mem_nil, or_false] at hf
            rcases hf with rfl | rfl | rfl | rfl
            · exact hfu
            · exact absurd (List.Mem.head _) hs
            · exact absurd rfl hne
            · exact absurd (List.Mem.tail _ (List.Mem.head _)) hs
          obtain ⟨a13, n13, c13, rfl⟩ : ∃ a n c, v13 = .slice a n c := hv
          simp only [Act.put, List.setIfInBounds_toArray, List.set_cons_zero, List.set_cons_succ]
          iterate 1 (refine wpPar_pure rfl (by rfl) _ (fun W hW => by
              have b1 := HBY.out W hW
              have c1 := HC.out W hW
              have q := HVV.out
              go_simp
              exact rfl) ?_; simp only [Act.put, List.setIfInBounds_toArray, List.set_cons_zero, List.set_cons_succ])
          refine wpPar_nil (fun W hW hG => ?_)
          obtain ⟨en, hen, bz⟩ : ∃ e : Ent, e.Ok ∧ Po 3 53 W wo.heap.size (.slice a13 n13 c13) (entsC (b ++ [e])) := hG 13
          have HKW := hid (K5.out.then hW (fun q hq h => by have := (L5.out q h).1; omega))
          have HBW := hid bz
          have HEW : Hid (EOk (b ++ [en]) ∧ (b ++ [en]).length ≤ j + 1) := hid ⟨fun z hz => by
            rcases List.mem_append.1 hz with h | h
            · exact HBL0.out.1 z h
            · obtain rfl : z = en := by simpa using h
              exact hen, by have := HBL0.out.2; simp; omega⟩
          clear hG bz hW K5 P5 X5 C5 L5 HBY HC P9 hen
          go_wp2
          go_roundg (C + 1 - (j + 1))
          case measure => omega
          case rel => exact ⟨j + 1, _, _, _, b ++ [en], by go_num, rfl, by omega, Nat.le_refl _, HKW, HBW, HEW⟩
        · have hjz : ¬ (j : Int) ≤ (C : Int) := by omega
          have HS1 := hid (HST.out.kept HK.out)
          have HBL := hid (show b.length ≤ 3 by have := HBL0.out; have := HCC.out; omega)
          have hks : ks.length ≤ 3000 := by have := HS1.out.2.2.2.2.2.2.2; have := HL.out; omega
          have hhs : hds.length ≤ 1000 := by have := HS1.out.2.2.2.2.1; have := HL.out; omega
          have HHS := hid hhs
          obtain ⟨lo2, hi2, pk, sep, hh2⟩ := HS1.out.2.2.2.2.2.1
          have hBd := R23.build xx (.slice ak nk ck) (.slice ah nh ch) (.slice ab nb cb) lo2 hi2 w.heap.size wr.heap.size wo.heap.size wr.heap.size ks hds b t2 wr pk (HS1.out.2.2.1.ps (Nat.le_refl _)) (HB.out.ps (Nat.le_refl _)) (by omega) (by omega) (by have := HBL.out; omega) HS1.out.2.2.2.2.2.2.1 HBL0.out.1 HS1.out.2.2.2.1
          have c1 : wr.cell? ⟨bb, oo + i, none⟩ = some (.int .u8 (x : Int)) := (HK.out.cell (p := ⟨bb, oo + i, none⟩) HBB.out (fun h => h)).trans HC0.out
          have hNK : KOk (nextK ks hds b) ∧ (nextK ks hds b).length ≤ 3 * (i + 1) := by
            have h1 := addF_ok (p := (hds.length : Int) + 1) HS1.out.2.2.2.2.2.2.1 HBL0.out.1
            have h2 := HS1.out.2.2.2.2.2.2.2
            have h3 := HBL.out
            exact ⟨h1.1, by have h4 := h1.2; show (addF ks ((hds.length : Int) + 1) b).1.length ≤ _; omega⟩
          have okN := signHd_ok xx (nextH_ok ks hds b t2)
          obtain ⟨NK, hNKe⟩ : ∃ k, k = nextK ks hds b := ⟨_, rfl⟩
          obtain ⟨NH, hNH⟩ : ∃ h, h = signHd xx (nextH ks hds b t2) := ⟨_, rfl⟩
          obtain ⟨NB, hNB⟩ : ∃ o, o = nextB ks hds b t2 := ⟨_, rfl⟩
          rw [← hNKe] at hNK
          rw [← hNH] at okN
          rw [← hNKe, ← hNH, ← hNB] at hBd
          have HNK := hid hNK
          have HOK := hid okN
          have HSEP := hid sep
          clear hks hhs pk sep hh2 hNK okN hNKe hNH hNB HB HBL0 HBL HST
          cases NB with
          | false =>
            simp only [Bool.false_eq_true, if_false] at hBd
            have HBD := hid hBd
            clear hBd
            go_wp2_with fail
            refine HBD.out.mono ?_
            rintro e w2 ⟨r, ae, ne, ce, rfl, k2, _, _⟩
            obtain ⟨PL, hPL⟩ : ∃ p, p = pubC zeroHd (.slice ae ne ce) := ⟨_, rfl⟩
            have hp70 : PL.length = 70 := by rw [hPL]; exact pubC_len zeroHd_ok _
            have hpo : PL.toArray.all (·.oneCell') = true := by rw [hPL]; exact pubC_one _ _ _ _
            rw [← hPL]
            obtain ⟨Z, hZ, z2⟩ := Blk.any (n := 70) (Blk.new w2 Try.zeroCells77 77) (by rfl)
            have aPL : AggTy Try.prog 77 PL.toArray.size := by rw [show PL.toArray.size = 70 by simpa using hp70]; exact R23.aPub
            have sPL : Z.size = PL.toArray.size := hZ.trans (by simpa using hp70.symm)
            clear hPL hZ hp70
            go_wp2_with (first | (refine wpList_store_blk rfl _ _ _ rfl rfl rfl z2 aPL sPL hpo ?_; intro w9 z9 k9) | fail)
            have HS5 := hid ((HS1.out.kept (k2.trans k9.fresh)).more)
            clear HS1 k2 k9 z9 z2
            go_roundg (N - (i + 1))
            case measure => omega
            case rel => exact ⟨i + 1, t2, ao, no, co, ah, nh, ch, ak, nk, ck, hds, ks, by go_num, rfl, rfl, rfl, rfl, by omega, Nat.le_refl _, HS5⟩
          | true =>
            simp only [if_true] at hBd
            have HBD := hid hBd
            clear hBd
            go_wp2_with fail
            refine HBD.out.mono ?_
            rintro e w2 ⟨r, ae, ne, ce, rfl, k2, off, _⟩
            have hkr := krow_off off HSEP.out (fun q h => (HS1.out.lt q h).2)
            obtain ⟨ar, cr, rfl, _, _, _⟩ := off.ps.form
            obtain ⟨nr, hnr⟩ : ∃ n, n = (knosC NK).length := ⟨_, rfl⟩
            rw [← hnr] at hkr ⊢
            clear off hnr
            obtain ⟨CQ, hCQ⟩ : ∃ c, c = hdC NH := ⟨_, rfl⟩
            have hc69 : CQ.length = 69 := by rw [hCQ]; exact hdC_len HOK.out
            have aCQ : AggTy Try.prog 28 CQ.length := by rw [hc69]; exact Hp.aHd
            have HCQ := hid (And.intro hc69 (And.intro (show ∀ c ∈ CQ, c.oneCell' = true from fun c hc => headsC_one [NH] CQ (by rw [hCQ]; exact List.mem_singleton.2 rfl) c hc) hCQ))
            obtain ⟨PL, hPL⟩ : ∃ p, p = pubC NH (.slice ae ne ce) := ⟨_, rfl⟩
            have hp70 : PL.length = 70 := by rw [hPL]; exact pubC_len HOK.out _
            have hpo : PL.toArray.all (·.oneCell') = true := by rw [hPL]; exact pubC_one _ _ _ _
            rw [← hPL]
            obtain ⟨Z, hZ, z2⟩ := Blk.any (n := 70) (Blk.new w2 Try.zeroCells77 77) (by rfl)
            have aPL : AggTy Try.prog 77 PL.toArray.size := by rw [show PL.toArray.size = 70 by simpa using hp70]; exact R23.aPub
            have sPL : Z.size = PL.toArray.size := hZ.trans (by simpa using hp70.symm)
            have HPL := hid (And.intro hp70 (show ∀ c ∈ PL, c.oneCell' = true from fun c hc => by
              have h := hpo
              rw [Array.all_eq_true_iff_forall_mem] at h
              exact h c (by simpa using hc)))
            have HPE := hid hPL
            clear hZ hCQ hPL hp70 hc69
            go_wp2_with (first | (refine wpList_store_blk rfl _ _ _ rfl rfl rfl z2 aPL sPL hpo ?_; intro w9 z9 k9) | fail)
            have k29 := k9.fresh
            have HS9 := hid (HS1.out.kept (k2.trans k29))
            have HKR := hid (hkr.kept k29)
            have E9 := hid z9
            have HNO := hid (show ¬ ((Value.slice ao no co).ownBlock = some w2.heap.size ∨ (Value.slice ah nh ch).ownBlock = some w2.heap.size) from fun h => by have := (HS1.out.lt _ h).2; have := k2.size; omega)
            have HLT := hid HS9.out.lt
            have PO9 := hid HS9.out.2.1
            have PH9 := hid HS9.out.2.2.1
            have HZ9 := hid HS9.out.1.size
            have HRQ := hid (fun W (hW : Kept (fun q => (Value.slice ao no co).ownBlock = some q ∨ (Value.slice ah nh ch).ownBlock = some q) w9 W) => (show W.rangeAt w2.heap.size 0 CQ by rw [HCQ.out.2.2]; exact pub_head (HPE.out ▸ (E9.out.kept hW HNO.out))))
            clear k9 k29 k2 z9 z2 hkr HS1 hpo sPL
            refine wp_region_plan (Kept (fun q => (Value.slice ao no co).ownBlock = some q ∨ (Value.slice ah nh ch).ownBlock = some q) w9) [{ k := 2, uses := [], pure := fun u => ∃ g, u = .slice (some ⟨g, 0, none⟩) 1 1, fact := fun u W => ∃ g, u = .slice (some ⟨g, 0, none⟩) 1 1 ∧ w9.heap.size ≤ g ∧ Blk W g PL.toArray 77 }, { k := 3, uses := [2, 100], spends := [2, 100], pure := fun u => ∃ a n c, u = .slice a n c, fact := fun u W => (∃ xs, Po 70 77 W w.heap.size u xs ∧ xs.length ≤ i + 1) ∧ ∀ q, u.ownBlock = some q → (Value.slice ao no co).ownBlock = some q ∨ w9.heap.size ≤ q }, { k := 7, uses := [], pure := fun u => ∃ g, u = .slice (some ⟨g, 0, none⟩) 1 1, fact := fun u W => ∃ g, u = .slice (some ⟨g, 0, none⟩) 1 1 ∧ w9.heap.size ≤ g ∧ Blk W g CQ.toArray 28 }, { k := 8, uses := [7, 101], spends := [7, 101], pure := fun u => ∃ a n c, u = .slice a n c, fact := fun u W => Po 69 28 W w.heap.size u (headsC hds ++ [CQ]) ∧ ∀ q, u.ownBlock = some q → (Value.slice ah nh ch).ownBlock = some q ∨ w9.heap.size ≤ q }, { k := 100, uses := [], fact := fun u W => ∃ xs, Po 70 77 W w.heap.size (.slice ao no co) xs ∧ xs.length ≤ i }, { k := 101, uses := [], fact := fun u W => Po 69 28 W w.heap.size (.slice ah nh ch) (headsC hds) }] [100, 101] (by kernel_rfl) (by kernel_rfl) (by kernel_rfl) (by rfl) ?pures2 ((Kept.refl _ w9).drew) ?starts2 ?walk2
            case pures2 =>
              intro f hf
              simp only [List.mem_cons, List.not_mem_nil, or_false] at hf
              rcases hf with rfl | rfl | rfl | rfl | rfl | rfl
              · exact ⟨_, 0, rfl⟩
              · exact ⟨_, none, 0, 0, rfl⟩
              · exact ⟨_, 0, rfl⟩
              · exact ⟨_, none, 0, 0, rfl⟩
              · exact ⟨undef, trivial⟩
              · exact ⟨undef, trivial⟩
            case starts2 =>
              intro k hk
              have hk : k = 100 ∨ k = 101 := by simpa using hk
              rcases hk with rfl | rfl
              · (obtain ⟨xs, h1, h2⟩ := PO9.out; exact ⟨xs, h1.kept ((Kept.refl None w9).drew) (fun _ _ h => h), h2⟩)
              · exact PH9.out.kept ((Kept.refl None w9).drew) (fun _ _ h => h)
            iterate 1 (refine wpPar_pure rfl (by rfl) _ (fun W hW => by
                go_simp
                exact rfl) ?_; simp only [Act.put, List.setIfInBounds_toArray, List.set_cons_zero, List.set_cons_succ])
            refine wpPar_pure rfl (by rfl) _ (fun W hW => by first | exact exec_load_blk _ _ rfl rfl (E9.out.kept hW HNO.out) aPL | exact exec_load_at rfl rfl (HRQ.out W hW) aCQ | (go_simp; exact rfl)) ?_; simp only [Act.put, List.setIfInBounds_toArray, List.set_cons_zero, List.set_cons_succ]
            refine wpPar_adds rfl (by rfl) (fun W hW hd => ?_) (fun v2 hv => ?_)
            · unfold Gives
              rw [exec_one_item 32 (.tmp 85) rfl rtPub (by decide) (A := PL.toArray) rfl (by simpa using HPL.out.1)]
              have kN : Kept None W (W.alloc (.cells PL.toArray 77)) := (Kept.refl None W).alloc _
              have kb : ∀ g c t, w9.heap.size ≤ g → Blk W g c t → Blk (W.alloc (.cells PL.toArray 77)) g c t := fun g c t _ h => h.kept kN (fun h => h)
              have k70 : ∀ u xs, Po 70 77 W w.heap.size u xs → Po 70 77 (W.alloc (.cells PL.toArray 77)) w.heap.size u xs := fun u xs h => h.kept kN (fun _ _ h => h)
              have k69 : ∀ u xs, Po 69 28 W w.heap.size u xs → Po 69 28 (W.alloc (.cells PL.toArray 77)) w.heap.size u xs := fun u xs h => h.kept kN (fun _ _ h => h)
              refine ⟨hW.then kN (fun _ _ h => h.elim), ⟨_, rfl⟩, ⟨_, rfl, hW.size, Blk.new _ _ _⟩, keeps_of fun f hf hs hl hne u hfu => ?_⟩
              simp only [List.mem_cons, List.not_mem_nil, or_false] at hf
              rcases hf with rfl | rfl | rfl | rfl | rfl | rfl
              · exact absurd rfl hne
              · (obtain ⟨⟨xs, h1, h2⟩, h3⟩ := hfu; exact ⟨⟨xs, k70 _ _ h1, h2⟩, h3⟩)
              · (obtain ⟨g, e1, e2, e3⟩ := hfu; exact ⟨g, e1, e2, kb _ _ _ e2 e3⟩)
              · exact ⟨k69 _ _ hfu.1, hfu.2⟩
              · (obtain ⟨xs, h1, h2⟩ := hfu; exact ⟨xs, k70 _ _ h1, h2⟩)
              · exact k69 _ _ hfu
            obtain ⟨g2, rfl⟩ : ∃ g, v2 = .slice (some ⟨g, 0, none⟩) 1 1 := hv
            simp only [Act.put, List.setIfInBounds_toArray, List.set_cons_zero, List.set_cons_succ]
            refine wpPar_adds rfl (by rfl) (fun W hW hd => ?_) (fun v3 hv => ?_)
            · obtain ⟨xs, hO, hxs⟩ : ∃ xs, Po 70 77 W w.heap.size (.slice ao no co) xs ∧ xs.length ≤ i := hd 100 (List.Mem.tail _ (List.Mem.head _))
              obtain ⟨g, hgg, _, hg3⟩ : ∃ g, Value.slice (some ⟨g2, 0, none⟩) 1 1 = .slice (some ⟨g, 0, none⟩) 1 1 ∧ w9.heap.size ≤ g ∧ Blk W g PL.toArray 77 := hd 2 (List.Mem.head _)
              obtain rfl : g2 = g := by simpa using hgg
              have hu : Ps 70 W 0 W.heap.size (.slice (some ⟨g2, 0, none⟩) 1 1) [PL] := R16.ps_blk (x := PL) hg3 HPL.out.1
              refine gives_append_po _ _ 32 rfl rtPub (by decide) rfl rfl hO hu (fun x hx => by rw [List.mem_singleton.1 hx]; exact HPL.out.2) (by have := HL.out; simp; omega) (Nat.le_trans HZ9.out hW.size) ?_
              intro a' n' c' W' hP kS o9
              have kb : ∀ g c t, w9.heap.size ≤ g → Blk W g c t → Blk W' g c t := fun g c t hg h => h.kept kS (fun (hq : (Value.slice ao no co).ownBlock = some g) => by have := (HLT.out g (.inl hq)).2; omega)
              have k69 : ∀ u xs, Po 69 28 W w.heap.size u xs → Po 69 28 W' w.heap.size u xs := fun u xs h => h.kept kS (fun q q1 q2 => Po.apart hO h neT q q2 q1)
              have k70 : True := trivial
              refine ⟨hW.then kS (fun i hi h => .inl h), ⟨_, _, _, rfl⟩, ⟨⟨_, hP, by simp; omega⟩, fun q hq => (o9 q hq).imp id (fun h => by have := hW.size; omega)⟩, keeps_of fun f hf hs hl hne u hfu => ?_⟩
              simp only [List.mem_cons, List.not_mem_nil, or_false] at hf
              rcases hf with rfl | rfl | rfl | rfl | rfl | rfl
              · exact absurd (List.Mem.head _) hs
              · exact absurd rfl hne
              · (obtain ⟨g, e1, e2, e3⟩ := hfu; exact ⟨g, e1, e2, kb _ _ _ e2 e3⟩)
              · exact ⟨k69 _ _ hfu.1, hfu.2⟩
              · exact absurd (List.Mem.tail _ (List.Mem.head _)) hs
              · exact k69 _ _ hfu
            obtain ⟨a3, n3, c3, rfl⟩ : ∃ a n c, v3 = .slice a n c := hv
            simp only [Act.put, List.setIfInBounds_toArray, List.set_cons_zero, List.set_cons_succ]
            iterate 2 (refine wpPar_pure rfl (by rfl) _ (fun W hW => by
                go_simp
                exact rfl) ?_; simp only [Act.put, List.setIfInBounds_toArray, List.set_cons_zero, List.set_cons_succ])
            refine wpPar_pure rfl (by rfl) _ (fun W hW => by first | exact exec_load_blk _ _ rfl rfl (E9.out.kept hW HNO.out) aPL | exact exec_load_at rfl rfl (HRQ.out W hW) aCQ | (go_simp; exact rfl)) ?_; simp only [Act.put, List.setIfInBounds_toArray, List.set_cons_zero, List.set_cons_succ]
            refine wpPar_adds rfl (by rfl) (fun W hW hd => ?_) (fun v7 hv => ?_)
            · unfold Gives
              rw [exec_one_item 34 (.tmp 90) rfl rtHeads (by decide) (A := CQ.toArray) rfl (by simpa using HCQ.out.1)]
              have kN : Kept None W (W.alloc (.cells CQ.toArray 28)) := (Kept.refl None W).alloc _
              have kb : ∀ g c t, w9.heap.size ≤ g → Blk W g c t → Blk (W.alloc (.cells CQ.toArray 28)) g c t := fun g c t _ h => h.kept kN (fun h => h)
              have k70 : ∀ u xs, Po 70 77 W w.heap.size u xs → Po 70 77 (W.alloc (.cells CQ.toArray 28)) w.heap.size u xs := fun u xs h => h.kept kN (fun _ _ h => h)
              have k69 : ∀ u xs, Po 69 28 W w.heap.size u xs → Po 69 28 (W.alloc (.cells CQ.toArray 28)) w.heap.size u xs := fun u xs h => h.kept kN (fun _ _ h => h)
              refine ⟨hW.then kN (fun _ _ h => h.elim), ⟨_, rfl⟩, ⟨_, rfl, hW.size, Blk.new _ _ _⟩, keeps_of fun f hf hs hl hne u hfu => ?_⟩
              simp only [List.mem_cons, List.not_mem_nil, or_false] at hf
              rcases hf with rfl | rfl | rfl | rfl | rfl | rfl
              · (obtain ⟨g, e1, e2, e3⟩ := hfu; exact ⟨g, e1, e2, kb _ _ _ e2 e3⟩)
              · (obtain ⟨⟨xs, h1, h2⟩, h3⟩ := hfu; exact ⟨⟨xs, k70 _ _ h1, h2⟩, h3⟩)
              · exact absurd rfl hne
              · exact ⟨k69 _ _ hfu.1, hfu.2⟩
              · (obtain ⟨xs, h1, h2⟩ := hfu; exact ⟨xs, k70 _ _ h1, h2⟩)
              · exact k69 _ _ hfu
            obtain ⟨g7, rfl⟩ : ∃ g, v7 = .slice (some ⟨g, 0, none⟩) 1 1 := hv
            simp only [Act.put, List.setIfInBounds_toArray, List.set_cons_zero, List.set_cons_succ]
            refine wpPar_adds rfl (by rfl) (fun W hW hd => ?_) (fun v8 hv => ?_)
            · have hO : Po 69 28 W w.heap.size (.slice ah nh ch) (headsC hds) := hd 101 (List.Mem.tail _ (List.Mem.head _))
              obtain ⟨g, hgg, _, hg3⟩ : ∃ g, Value.slice (some ⟨g7, 0, none⟩) 1 1 = .slice (some ⟨g, 0, none⟩) 1 1 ∧ w9.heap.size ≤ g ∧ Blk W g CQ.toArray 28 := hd 7 (List.Mem.head _)
              obtain rfl : g7 = g := by simpa using hgg
              have hu : Ps 69 W 0 W.heap.size (.slice (some ⟨g7, 0, none⟩) 1 1) [CQ] := R16.ps_blk (x := CQ) hg3 HCQ.out.1
              refine gives_append_po _ _ 34 rfl rtHeads (by decide) rfl rfl hO hu (fun x hx => by rw [List.mem_singleton.1 hx]; exact HCQ.out.2.1) (by rw [headsC_len]; have := HL.out; have := HHS.out; simp; omega) (Nat.le_trans HZ9.out hW.size) ?_
              intro a' n' c' W' hP kS o9
              have kb : ∀ g c t, w9.heap.size ≤ g → Blk W g c t → Blk W' g c t := fun g c t hg h => h.kept kS (fun (hq : (Value.slice ah nh ch).ownBlock = some g) => by have := (HLT.out g (.inr hq)).2; omega)
              have k70 : ∀ u xs, Po 70 77 W w.heap.size u xs → Po 70 77 W' w.heap.size u xs := fun u xs h => h.kept kS (fun q q1 q2 => Po.apart h hO neT q q1 q2)
              have k69 : True := trivial
              refine ⟨hW.then kS (fun i hi h => .inr h), ⟨_, _, _, rfl⟩, ⟨hP, fun q hq => (o9 q hq).imp id (fun h => by have := hW.size; omega)⟩, keeps_of fun f hf hs hl hne u hfu => ?_⟩
              simp only [List.mem_cons, List.not_mem_nil, or_false] at hf
              rcases hf with rfl | rfl | rfl | rfl | rfl | rfl
              · (obtain ⟨g, e1, e2, e3⟩ := hfu; exact ⟨g, e1, e2, kb _ _ _ e2 e3⟩)
              · (obtain ⟨⟨xs, h1, h2⟩, h3⟩ := hfu; exact ⟨⟨xs, k70 _ _ h1, h2⟩, h3⟩)
              · exact absurd (List.Mem.head _) hs
              · exact absurd rfl hne
              · (obtain ⟨xs, h1, h2⟩ := hfu; exact ⟨xs, k70 _ _ h1, h2⟩)
              · exact absurd (List.Mem.tail _ (List.Mem.head _)) hs
            obtain ⟨a8, n8, c8, rfl⟩ : ∃ a n c, v8 = .slice a n c := hv
            simp only [Act.put, List.setIfInBounds_toArray, List.set_cons_zero, List.set_cons_succ]
            iterate 4 (refine wpPar_pure rfl (by rfl) _ (fun W hW => by
                go_simp
                exact rfl) ?_; simp only [Act.put, List.setIfInBounds_toArray, List.set_cons_zero, List.set_cons_succ])
            refine wpPar_nil (fun W hW hG => ?_)
            obtain ⟨po3, oo3⟩ : (∃ xs, Po 70 77 W w.heap.size (.slice a3 n3 c3) xs ∧ xs.length ≤ i + 1) ∧ ∀ q, (Value.slice a3 n3 c3).ownBlock = some q → (Value.slice ao no co).ownBlock = some q ∨ w9.heap.size ≤ q := hG 3
            obtain ⟨ph8, oh8⟩ : Po 69 28 W w.heap.size (.slice a8 n8 c8) (headsC hds ++ [CQ]) ∧ ∀ q, (Value.slice a8 n8 c8).ownBlock = some q → (Value.slice ah nh ch).ownBlock = some q ∨ w9.heap.size ≤ q := hG 8
            have HSN := hid (HS9.out.next HKR.out HOK.out HNK.out hW po3 oo3 (by rw [headsC_app]; rw [HCQ.out.2.2] at ph8; exact ph8) oh8)
            clear hG hW po3 oo3 ph8 oh8 HS9 HKR E9 HNO HLT PO9 PH9 HZ9 HRQ aCQ aPL
            go_wp2
            go_roundg (N - (i + 1))
            case measure => omega
            case rel => exact ⟨i + 1, t2, _, _, _, _, _, _, _, _, _, hds ++ [NH], NK, by go_num, rfl, rfl, rfl, rfl, by omega, Nat.le_refl _, HSN⟩
    · have hz : ¬ (i : Int) < (N : Int) := by omega
      have hs1 := HST.out
      have PH := hs1.2.2.1.ps (Nat.le_refl _)
      have HF := hid (And.intro hs1.1 (And.intro PH (And.intro hs1.2.2.2.1 (show hds.length ≤ N by have := hs1.2.2.2.2.1; omega))))
      clear hs1 PH HST
      go_wp2
      go_ret3
      first | exact ⟨_, _, _, rfl, HF.out.1, hds, HF.out.2⟩ | exact ⟨_, _, _, _, rfl, HF.out⟩ | exact ⟨hds, rfl, HF.out⟩ | exact ⟨rfl, HF.out⟩ | (trace_state; sorry)
end Es
end Go.Proofs.Ytibkijloibnkfaa

namespace Go.Proofs.Ytibkijloibnkfaa
open Go.RowKit Go.Pm
namespace H10
theorem hds_of {w : World} {lo hi : Nat} {u : Value} {hs : List Hd} (h : Ps 69 w lo hi u (headsC hs)) (ok : HOk hs) (hl : hs.length ≤ 1000000) : Hds w u hs := by
  obtain ⟨a, c, rfl, _, _, _⟩ := h.form
  rw [headsC_len] at h ⊢
  refine ⟨a, c, rfl, hl, fun i hi => ⟨ok _ (List.getElem_mem hi), ?_⟩⟩
  obtain ⟨b, o, ha, hr⟩ := h.head (by omega)
  exact ⟨b, o, ha, hr i hi⟩
theorem epochs_said (v : Value) (lo hi : Nat) (l : List UInt8) (W : World) (hv : Bs W lo hi v l) (hl : l.length ≤ 6) : Calls Try.prog 8 #[.int .u64 5, v] W fun e w' => ∃ a b u hs, e = .returned (.tuple #[a, b, u]) ∧ Kept None W w' ∧ Hds w' u hs := by
  refine (Es.epochs 5 v lo hi l W hv (by omega)).mono ?_
  rintro e w' ⟨a, b, u, hs, rfl, k, p, ok, hn⟩
  exact ⟨a, b, u, hs, rfl, k, hds_of p ok (by omega)⟩
end H10
end Go.Proofs.Ytibkijloibnkfaa
