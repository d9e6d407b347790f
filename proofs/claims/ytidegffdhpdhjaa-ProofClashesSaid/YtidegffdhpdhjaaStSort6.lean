/- slices.SortStableFunc at items: by contract. -/
import Derived.Test.YtidegffdhpdhjaaStMrg6
namespace Go.Proofs.Ytidegffdhpdhjaa
open Go.Shelf Go.RowKit Go.Lib Go.Sort Go.Pm
variable {α : Type} [Inhabited α]

namespace SoI
/-- symMergeCmpFunc. -/
theorem symMerge {P : Program} {k : Nat} (L : LayS P k) {enc : α → List Value} {w0 : World} {blk off : Nat} {d0 : Array α} (R : RowK enc k w0 blk off d0) {cf : α → α → Int} {s : α → α → Prop} (hS : ∀ x y z, s x y → s y z → s x z) {g : Nat} {cb : Array Value} (eg : ∀ args w, (callFunc g args).run P w = .ok (.enter g args) w) (hcmp : CmpLays P g cb enc k cf blk off d0.size w0) (cap : Nat) (hsz : d0.size < 4611686018427387904) :
    ∀ (n a m b : Nat) (d : Array α) (w : World), b - a ≤ n → d.size = d0.size → SWK enc k w0 blk off d w → a < m → m < b → b ≤ d0.size → Mrg (ltOf cf) s a m b d →
      Calls P 154 #[.slice (some ⟨blk, off, none⟩) d0.size cap, .int .i64 a, .int .i64 m, .int .i64 b, .func (.func g) #[] cb] w fun e w' => e = .returned (.tuple #[]) ∧ ∃ d', Mrgd s a b d d' ∧ SWK enc k w0 blk off d' w' := by
  intro n
  induction n with
  | zero => intro a m b d w h1 h2 h3 h4 h5; omega
  | succ n ih =>
    intro a m b d w h1 h2 h3 h4 h5 h6 h7
    by_cases c1 : m = a + 1
    · have h := symMerge_left L R hS eg hcmp cap a m b d w h2 h3 c1 h5 (by omega) (by omega) h7
      rwa [h2] at h
    by_cases c2 : b = m + 1
    · have h := symMerge_right L R hS eg hcmp cap a m b d w h2 h3 h4 c2 c1 (by omega) (by omega) h7
      rwa [h2] at h
    have h := symMerge_more L R hS eg hcmp cap a m b d w h2 h3 h4 h5 c1 c2 (by omega) (by omega) h7 (fun a' m' b' d' w' q1 q2 q3 q4 q5 q6 q7 => by
      have h := ih a' m' b' d' w' (by omega) (q2.trans h2) q3 q4 q5 (by omega) q7
      rwa [← h2] at h)
    rwa [h2] at h
def insRen : Ren := ⟨fun | 20 => 153 | n => n, fun | 0 => 0 | 3 => 3 | 4 => 4 | 22 => 64 | 24 => 61 | 25 => 170 | n => n, fun n => n⟩
theorem insLays : SlLaysF0.n20 Try.prog insRen := {
  mixed := by kernel_rfl
  f20 := ⟨Try.f153.name, by decide, Try.func153.trans (by kernel_rfl)⟩
  t0 := Try.underlying0
  a0 := Try.isAgg0
  z0 := Try.sizeOf0
  v0 := Try.zeroValue0
  t3 := Try.underlying3
  a3 := Try.isAgg3
  z3 := Try.sizeOf3
  v3 := Try.zeroValue3
  t4 := Try.underlying4
  a4 := Try.isAgg4
  z4 := Try.sizeOf4
  v4 := Try.zeroValue4
  t22 := Try.underlying64
  a22 := Try.isAgg64
  z22 := Try.sizeOf64
  v22 := Try.zeroValue64
  t25 := Try.underlying170
  a25 := Try.isAgg170
  z25 := Try.sizeOf170
  v25 := Try.zeroValue170 }
/-- insertionSortCmpFunc. -/
theorem insertion {enc : α → List Value} {w0 : World} {blk off : Nat} {d0 : Array α} (R : RowK enc 64 w0 blk off d0) {cf : α → α → Int} {s : α → α → Prop} (hS : ∀ x y z, s x y → s y z → s x z) {g : Nat} {cb : Array Value} (eg : ∀ args w, (callFunc g args).run Try.prog w = .ok (.enter g args) w) (hcmp : CmpLays Try.prog g cb enc 64 cf blk off d0.size w0) (cap : Nat) (hsz : d0.size < 4611686018427387904)
    (a b : Nat) (d : Array α) (w : World) (hs : d.size = d0.size) (S : SWK enc 64 w0 blk off d w) (hab : a ≤ b) (hb : b ≤ d0.size) (hC : CrossAll (ltOf cf) s a b d) :
    Calls Try.prog 153 #[.slice (some ⟨blk, off, none⟩) d0.size cap, .int .i64 a, .int .i64 b, .func (.func g) #[] cb] w fun e w' => e = .returned (.tuple #[]) ∧ ∃ d', Mrgd s a b d d' ∧ SWK enc 64 w0 blk off d' w' := by
  have hm := insertionSort_s (lt := ltOf cf) hS d a b (by omega) hab hC
  have hc : CmpLays Try.prog g cb enc 64 cf blk off d.size w := fun m os dk hdk x y => by
    obtain ⟨n0, os0, rfl⟩ := S
    rw [sortWorldK_on enc 64 w0 blk off n0 m d dk os0 os R.hblk hdk]
    exact hcmp _ _ dk (by omega) x y
  have h := AnyQ.insertionSortCmpFunc insLays 64 Try.isAgg61 Try.sizeOf61 enc R.hk R.h1 cf g cb blk off cap a b d w eg hc (S.holds R.hblk R.hH hs) (S.lt R.hblk) hab (by omega) (by omega)
  rw [hs] at h
  refine Calls.mono (f := 153) h ?_
  rintro e w' ⟨rfl, n, os, rfl⟩
  exact ⟨rfl, _, hm, S.on R.hblk n _ os hm.perm.1⟩

set_option maxHeartbeats 8000000 in
set_option maxRecDepth 1000000 in
/-- stableCmpFunc. -/
theorem stable {enc : α → List Value} {w0 : World} {blk off : Nat} {d0 : Array α} (R : RowK enc 64 w0 blk off d0) {cf : α → α → Int} {s : α → α → Prop} (hS : ∀ x y z, s x y → s y z → s x z) {g : Nat} {cb : Array Value} (eg : ∀ args w, (callFunc g args).run Try.prog w = .ok (.enter g args) w) (hcmp : CmpLays Try.prog g cb enc 64 cf blk off d0.size w0) (cap : Nat) (hsz : d0.size ≤ 1152921504606846976)
    (T : α → Nat) (hT : ∀ x y, T x < T y → (ltOf cf y x = true → s y x) ∧ (ltOf cf y x = false → s x y)) (h0 : ∀ x, x < d0.size → T d0[x]! = x) :
    Calls Try.prog 148 #[.slice (some ⟨blk, off, none⟩) d0.size cap, .int .i64 d0.size, .func (.func g) #[] cb] w0 fun e w' => e = .returned (.tuple #[]) ∧ ∃ d', Mrgd s 0 d0.size d0 d' ∧ SWK enc 64 w0 blk off d' w' := by
  obtain ⟨n, hn⟩ : ∃ n, n = d0.size := ⟨_, rfl⟩
  have hI := insertion R hS eg hcmp cap (by omega)
  have hM := fun a m b => symMerge layS R hS eg hcmp cap (by omega) (b - a) a m b
  rw [← hn] at hI hM h0 hsz ⊢
  have HI := hid hI
  have HM := hid hM
  have HT := hid hT
  have HN := hid hn
  have hF : Firsts T s 20 n 0 d0 := ⟨fun x _ h => by omega, fun i j _ h1 h2 => by omega, fun x _ h => h0 x h⟩
  have HF0 := hid hF
  have S0 : Aside (SWK enc 64 w0 blk off d0 w0) := SWK.start R.hH
  clear hI hM hT h0 hF hcmp hn hS
  go_enter Try.func148, Try.ntmps148
  go_wp2
  go_loopg [7, 8] n (fun kx s7 s8 wr => ∃ (a b : Nat) (dk : Array α), s7 = .int .i64 a ∧ s8 = .int .i64 b ∧ a + 20 ≤ b ∧ b ≤ a + 20 ∧ a ≤ n ∧ n - a ≤ kx ∧ Hid (∃ q, a = q * 20) ∧ Hid (Firsts T s 20 n a dk) ∧ Hid (PermIn 0 n d0 dk) ∧ Aside (SWK enc 64 w0 blk off dk wr))
  case atStart => exact ⟨0, 20, d0, rfl, rfl, Nat.le_refl _, Nat.le_refl _, Nat.zero_le _, Nat.le_refl _, ⟨0, rfl⟩, HF0, permIn_refl _ _ _, S0⟩
  case round =>
    obtain ⟨a, b, dk, rfl, rfl, hab1, hab2, han, hkx, HQ, HF, HP, S1⟩ := hrel
    clear S0 HF0
    have hsz1 := hid (HP.out.1.trans HN.out.symm)
    by_cases c : b ≤ n
    · have cz : (b : Int) ≤ (n : Int) := by omega
      have rb : IntKind.i64.wrap ((b : Int) + 20) = (b : Int) + 20 := by rw [IntKind.wrap_i64]; omega
      go_wp2_with (first | (go_at_call 153; refine (HI.out a b dk _ hsz1.out S1.out (by omega) c (HF.out.cross HT.out c)).mono ?_; rintro e w' ⟨rfl, d', hd, S2⟩))
      go_roundg (n - b)
      case measure => omega
      case rel =>
        have hd1 : n ≤ dk.size := by have := hsz1.out; omega
        obtain ⟨q, hq⟩ := HQ.out
        refine ⟨b, b + 20, d', rfl, by go_num, Nat.le_refl _, Nat.le_refl _, c, Nat.le_refl _, ⟨q + 1, by omega⟩, (show Hid _ from ?_), permIn_trans _ _ _ _ _ HP.out (permIn_wide hd.perm (Nat.zero_le _) c hd1), S2⟩
        have h1 := HF.out
        rw [hq] at h1 hd
        exact h1.next (by decide) (by omega) (by omega) c hd1 hd
    · have cz : ¬ (b : Int) ≤ (n : Int) := by omega
      go_wp2_with (first | (go_at_call 153; refine (HI.out a n dk _ hsz1.out S1.out han (Nat.le_refl _) (HF.out.cross HT.out (Nat.le_refl _))).mono ?_; rintro e w' ⟨rfl, d', hd, S2⟩))
      have hfin : Firsts T s 20 n n d' ∧ PermIn 0 n d0 d' := by
        have hd1 : n ≤ dk.size := by have := hsz1.out; omega
        obtain ⟨q, hq⟩ := HQ.out
        have h1 := HF.out
        refine ⟨?_, permIn_trans _ _ _ _ _ HP.out (permIn_wide hd.perm (Nat.zero_le _) (Nat.le_refl _) hd1)⟩
        rw [hq] at h1 hd
        exact h1.next (by decide) (by omega) (by omega) (Nat.le_refl _) hd1 hd
      have HF2 := hid hfin
      have S3 : Aside _ := S2
      clear S1 HF HP HQ hfin hd S2 hsz1
      go_loopg [6, 7, 8, 9] n (fun kx s6 s7 s8 s9 wr => ∃ (bs : Nat) (v7 v8 v9 : Value) (dk : Array α), s6 = .int .i64 bs ∧ s7 = v7 ∧ s8 = v8 ∧ s9 = v9 ∧ 20 ≤ bs ∧ bs ≤ 2 * n + 20 ∧ n - bs ≤ kx ∧ Hid (Own T bs 0 n dk ∧ BlkS s bs 0 n dk ∧ PermIn 0 n d0 dk) ∧ Aside (SWK enc 64 w0 blk off dk wr))
      case atStart => exact ⟨20, _, _, _, d', rfl, rfl, rfl, rfl, Nat.le_refl _, by omega, by omega, ⟨HF2.out.1.own, HF2.out.1.blk, HF2.out.2⟩, S3⟩
      case round =>
        obtain ⟨bs, v7, v8, v9, dk, rfl, rfl, rfl, rfl, hb1, hb2, hkx, HB, S4⟩ := hrel
        clear HF2 S3
        by_cases c2 : bs < n
        · have c2z : (bs : Int) < (n : Int) := by omega
          have r2 : IntKind.i64.wrap (2 * (bs : Int)) = 2 * (bs : Int) := by rw [IntKind.wrap_i64]; omega
          have r3 : IntKind.i64.wrap ((bs : Int) * 2) = (bs : Int) * 2 := by rw [IntKind.wrap_i64]; omega
          go_wp2
          go_loopg [7, 8] n (fun kx s7 s8 wr => ∃ (a b : Nat) (dk : Array α), s7 = .int .i64 a ∧ s8 = .int .i64 b ∧ a + 2 * bs ≤ b ∧ b ≤ a + 2 * bs ∧ a ≤ n ∧ n - a ≤ kx ∧ Hid (∃ q, a = 2 * q * bs) ∧ Hid (Half T s bs n a dk ∧ PermIn 0 n d0 dk) ∧ Aside (SWK enc 64 w0 blk off dk wr))
          case atStart => exact ⟨0, 2 * bs, dk, rfl, by go_num, by omega, by omega, Nat.zero_le _, Nat.le_refl _, ⟨0, by omega⟩, ⟨Half.start HB.out.1 HB.out.2.1, HB.out.2.2⟩, S4⟩
          case round =>
            obtain ⟨a, b, dk, rfl, rfl, hab1, hab2, han, hky, HQ, HH, S5⟩ := hrel
            clear S4 HB
            have hsz1 := hid (HH.out.2.1.trans HN.out.symm)
            obtain ⟨m, hm⟩ : ∃ m : Nat, m = a + bs := ⟨_, rfl⟩
            have rm : IntKind.i64.wrap ((a : Int) + (bs : Int)) = (m : Int) := by rw [IntKind.wrap_i64]; omega
            have hm1 : a + bs ≤ m := by omega
            have hm2 : m ≤ a + bs := by omega
            have HMM := hid hm
            clear hm
            by_cases c3 : b ≤ n
            · have c3z : (b : Int) ≤ (n : Int) := by omega
              have rb : IntKind.i64.wrap ((b : Int) + 2 * (bs : Int)) = (b : Int) + 2 * (bs : Int) := by rw [IntKind.wrap_i64]; omega
              have hMg : Mrg (ltOf cf) s a m b dk := by
                obtain ⟨q, hq⟩ := HQ.out
                have h1 := HH.out.1
                rw [hq] at h1
                have := h1.mrg HT.out (b := b) (m := m) (by omega) (by rw [← hq]; exact HMM.out) (by omega) (by omega) c3
                rwa [← hq] at this
              have HMG := hid hMg
              clear hMg
              go_wp2_with (first | (go_at_call 154; refine (HM.out a m b dk _ (Nat.le_refl _) hsz1.out S5.out (by omega) (by omega) c3 HMG.out).mono ?_; rintro e w' ⟨rfl, d2, hd, S6⟩))
              go_roundg (n - b)
              case measure => omega
              case rel =>
                have hd1 : n ≤ dk.size := by have := hsz1.out; omega
                obtain ⟨q, hq⟩ := HQ.out
                refine ⟨b, b + 2 * bs, d2, rfl, by go_num, Nat.le_refl _, Nat.le_refl _, c3, Nat.le_refl _, ⟨q + 1, by rw [Nat.mul_add, Nat.add_mul]; omega⟩, ⟨?_, permIn_trans _ _ _ _ _ HH.out.2 (permIn_wide hd.perm (Nat.zero_le _) c3 hd1)⟩, S6⟩
                have h1 := HH.out.1
                rw [hq] at h1 hd
                exact h1.next (by omega) (by omega) (by omega) c3 hd1 hd
            · have c3z : ¬ (b : Int) ≤ (n : Int) := by omega
              by_cases c4 : m < n
              · have c4z : (m : Int) < (n : Int) := by omega
                have hMg : Mrg (ltOf cf) s a m n dk := by
                  obtain ⟨q, hq⟩ := HQ.out
                  have h1 := HH.out.1
                  rw [hq] at h1
                  have := h1.mrg HT.out (b := n) (m := m) (by omega) (by rw [← hq]; exact HMM.out) (by omega) (by omega) (Nat.le_refl _)
                  rwa [← hq] at this
                have HMG := hid hMg
                clear hMg
                go_wp2_with (first | (go_at_call 154; refine (HM.out a m n dk _ (Nat.le_refl _) hsz1.out S5.out (by omega) c4 (Nat.le_refl _) HMG.out).mono ?_; rintro e w' ⟨rfl, d2, hd, S6⟩))
                go_roundg (n - 2 * bs)
                case measure => omega
                case rel =>
                  have hd1 : n ≤ dk.size := by have := hsz1.out; omega
                  have hp := permIn_trans _ _ _ _ _ HH.out.2 (permIn_wide hd.perm (Nat.zero_le _) (Nat.le_refl _) hd1)
                  obtain ⟨q, hq⟩ := HQ.out
                  have h1 := HH.out.1
                  rw [hq] at h1 hd
                  have h2 := (h1.next (by omega) (by omega) (by omega) (Nat.le_refl _) hd1 hd).full
                  exact ⟨2 * bs, _, _, _, d2, by go_num, rfl, rfl, rfl, by omega, by omega, Nat.le_refl _, ⟨h2.1, h2.2, hp⟩, S6⟩
              · have c4z : ¬ (m : Int) < (n : Int) := by omega
                go_wp2
                go_roundg (n - 2 * bs)
                case measure => omega
                case rel =>
                  obtain ⟨q, hq⟩ := HQ.out
                  have h1 := HH.out.1
                  rw [hq] at h1
                  have h2 := h1.last (by omega) (by omega) (by omega)
                  exact ⟨2 * bs, _, _, _, dk, by go_num, rfl, rfl, rfl, by omega, by omega, Nat.le_refl _, ⟨h2.1, h2.2, HH.out.2⟩, S5⟩
        · have c2z : ¬ (bs : Int) < (n : Int) := by omega
          go_wp2
          go_end0
          exact ⟨rfl, dk, ⟨HB.out.2.2, HB.out.2.1.whole (by omega)⟩, S4.out⟩

set_option maxHeartbeats 4000000 in
set_option maxRecDepth 1000000 in
/-- SortStableFunc. -/
theorem sortStable {enc : α → List Value} {w0 : World} {blk off : Nat} {d0 : Array α} (R : RowK enc 64 w0 blk off d0) {cf : α → α → Int} {s : α → α → Prop} (hS : ∀ x y z, s x y → s y z → s x z) {g : Nat} {cb : Array Value} (eg : ∀ args w, (callFunc g args).run Try.prog w = .ok (.enter g args) w) (hcmp : CmpLays Try.prog g cb enc 64 cf blk off d0.size w0) (cap : Nat) (hsz : d0.size ≤ 1152921504606846976)
    (T : α → Nat) (hT : ∀ x y, T x < T y → (ltOf cf y x = true → s y x) ∧ (ltOf cf y x = false → s x y)) (h0 : ∀ x, x < d0.size → T d0[x]! = x) :
    Calls Try.prog 130 #[.slice (some ⟨blk, off, none⟩) d0.size cap, .func (.func g) #[] cb] w0 fun e w' => e = .returned (.tuple #[]) ∧ ∃ d', Mrgd s 0 d0.size d0 d' ∧ SWK enc 64 w0 blk off d' w' := by
  have hC := stable R hS eg hcmp cap hsz T hT h0
  have HC := hid hC
  clear hC hT h0 hcmp hS
  go_enter Try.func130, Try.ntmps130
  go_wp2_with (first | (go_at_call 148; refine HC.out.mono ?_; rintro e w' ⟨rfl, d', hd, S2⟩))
  go_end0
  exact ⟨rfl, d', hd, S2⟩
end SoI
end Go.Proofs.Ytidegffdhpdhjaa
