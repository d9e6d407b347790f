/- slices.swapRangeCmpFunc, rotateCmpFunc at items: by contract. -/
import Derived.Test.YtidegffdhpdhjaaLow
import Derived.Test.YtidegffdhpdhjaaStab6
import Derived.Test.YtidegffdhpdhjaaProg
import Derived.Shelf.SlSortCmp.KitK
import Derived.Shelf.RegionOpenPlain
import Derived.Deep.LoopGhost
namespace Go.Proofs.Ytidegffdhpdhjaa
open Go.Shelf Go.RowKit Go.Lib Go.Sort Go.Pm
variable {α : Type} [Inhabited α]

namespace SoI
/-- What a program has that bears these bodies, an item being of k cells. -/
structure LayS (P : Program) (k : Nat) : Prop where
  mixed : P.follows .mixedOrders = true
  fSwap : P.funcs[159]? = some Try.f159
  fRot : P.funcs[158]? = some Try.f158
  fMrg : P.funcs[154]? = some Try.f154
  tUnit : P.underlying 0 = some (TypeDesc.tuple #[])
  aUnit : ∀ w, (isAgg 0).run P w = .ok false w
  zUnit : ∀ w, (Go.sizeOf 0).run P w = .ok 1 w
  vUnit : ∀ w, (zeroValue 0).run P w = .ok (Value.tuple #[]) w
  tInt : P.underlying 3 = some (TypeDesc.int IntKind.i64)
  aInt : ∀ w, (isAgg 3).run P w = .ok false w
  zInt : ∀ w, (Go.sizeOf 3).run P w = .ok 1 w
  vInt : ∀ w, (zeroValue 3).run P w = .ok (Value.int IntKind.i64 0) w
  tBool : P.underlying 4 = some (TypeDesc.bool)
  aBool : ∀ w, (isAgg 4).run P w = .ok false w
  zBool : ∀ w, (Go.sizeOf 4).run P w = .ok 1 w
  vBool : ∀ w, (zeroValue 4).run P w = .ok (Value.bool false) w
  tUint : P.underlying 115 = some (TypeDesc.int IntKind.u64)
  aUint : ∀ w, (isAgg 115).run P w = .ok false w
  zUint : ∀ w, (Go.sizeOf 115).run P w = .ok 1 w
  vUint : ∀ w, (zeroValue 115).run P w = .ok (Value.int IntKind.u64 0) w
  tSl : P.underlying 64 = some (TypeDesc.slice 61)
  aSl : ∀ w, (isAgg 64).run P w = .ok false w
  zSl : ∀ w, (Go.sizeOf 64).run P w = .ok 1 w
  vSl : ∀ w, (zeroValue 64).run P w = .ok (Value.slice none 0 0) w
  tFn : P.underlying 170 = some (TypeDesc.func #[61, 61] #[3] false)
  aFn : ∀ w, (isAgg 170).run P w = .ok false w
  zFn : ∀ w, (Go.sizeOf 170).run P w = .ok 1 w
  vFn : ∀ w, (zeroValue 170).run P w = .ok (Value.nilFunc) w
  aE : ∀ w, (isAgg 61).run P w = .ok true w
  zE : ∀ w, (Go.sizeOf 61).run P w = .ok k w
theorem layS : LayS Try.prog 64 where
  mixed := by kernel_rfl
  fSwap := Try.func159
  fRot := Try.func158
  fMrg := Try.func154
  tUnit := Try.underlying0
  aUnit := Try.isAgg0
  zUnit := Try.sizeOf0
  vUnit := Try.zeroValue0
  tInt := Try.underlying3
  aInt := Try.isAgg3
  zInt := Try.sizeOf3
  vInt := Try.zeroValue3
  tBool := Try.underlying4
  aBool := Try.isAgg4
  zBool := Try.sizeOf4
  vBool := Try.zeroValue4
  tUint := Try.underlying115
  aUint := Try.isAgg115
  zUint := Try.sizeOf115
  vUint := Try.zeroValue115
  tSl := Try.underlying64
  aSl := Try.isAgg64
  zSl := Try.sizeOf64
  vSl := Try.zeroValue64
  tFn := Try.underlying170
  aFn := Try.isAgg170
  zFn := Try.sizeOf170
  vFn := Try.zeroValue170
  aE := Try.isAgg61
  zE := Try.sizeOf61
set_option maxHeartbeats 4000000 in
set_option maxRecDepth 1000000 in
/-- swapRangeCmpFunc. -/
theorem swapRange {P : Program} {k : Nat} (L : LayS P k) {enc : α → List Value} {w0 : World} {blk off : Nat} {d0 : Array α} (R : RowK enc k w0 blk off d0) (cap a b n : Nat) (fv : Value) (d : Array α) (w : World) (hs : d.size = d0.size) (S : SWK enc k w0 blk off d w)
    (hab : a + n ≤ b) (hb : b + n ≤ d.size) (hsz : d.size < 4611686018427387904) :
    Calls P 159 #[.slice (some ⟨blk, off, none⟩) d.size cap, .int .i64 a, .int .i64 b, .int .i64 n, fv] w fun e w' =>
      e = .returned (.tuple #[]) ∧ ∃ d', SwapR a b n d d' ∧ SWK enc k w0 blk off d' w' := by
  have mixed := L.mixed; have tUnit := L.tUnit; have aUnit := L.aUnit; have zUnit := L.zUnit; have vUnit := L.vUnit; have tInt := L.tInt; have aInt := L.aInt; have zInt := L.zInt; have vInt := L.vInt; have tBool := L.tBool; have aBool := L.aBool; have zBool := L.zBool; have vBool := L.vBool; have tUint := L.tUint; have aUint := L.aUint; have zUint := L.zUint; have vUint := L.vUint; have tSl := L.tSl; have aSl := L.aSl; have zSl := L.zSl; have vSl := L.vSl; have tFn := L.tFn; have aFn := L.aFn; have zFn := L.zFn; have vFn := L.vFn; have aE := L.aE; have zE := L.zE
  have F := L.fSwap
  clear L
  have S0 : Aside _ := S
  clear S
  go_enter F, Try.ntmps159
  go_wp2
  go_loopg [10] n (fun kx s10 wr => ∃ (i : Nat) (dk : Array α), s10 = .int .i64 i ∧ i ≤ n ∧ n - i ≤ kx ∧ Aside (SWK enc k w0 blk off dk wr) ∧ Hid (SwapR a b i d dk))
  case atStart => exact ⟨0, d, rfl, by omega, Nat.le_refl _, S0, SwapR.start a b d⟩
  case round =>
    obtain ⟨i, dk, rfl, hi, hkx, S1, HE⟩ := hrel
    clear S0
    have hds : dk.size = d.size := HE.out.size
    by_cases h0 : i < n
    · have h0z : (i : Int) < (n : Int) := by omega
      obtain ⟨x, hx⟩ : ∃ x : Nat, x = a + i := ⟨_, rfl⟩
      obtain ⟨y, hy⟩ : ∃ y : Nat, y = b + i := ⟨_, rfl⟩
      have rx : IntKind.i64.wrap ((a : Int) + (i : Int)) = (x : Int) := by rw [IntKind.wrap_i64]; omega
      have ry : IntKind.i64.wrap ((b : Int) + (i : Int)) = (y : Int) := by rw [IntKind.wrap_i64]; omega
      have bx : (x : Int) < (d.size : Int) := by omega
      have by_ : (y : Int) < (d.size : Int) := by omega
      have S4 : Aside (SWK enc k w0 blk off (swp dk x y) ((wr.drew.setCells blk (off + x * k) (enc dk[y]!)).setCells blk (off + y * k) (enc dk[x]!))) := S1.out.swapped R x y (by omega) (by omega)
      have la := S1.out.ld1 R (by omega) P x (by omega)
      have lb := S1.out.ld1 R (by omega) P y (by omega)
      have sa := S1.out.st1 R (by omega) P x (by omega) dk[y]!
      have sb := S1.out.st2 R (by omega) P x y (by omega) (by omega) dk[y]! dk[x]!
      have na : (enc dk[x]!).length = k := R.hk _
      have nb : (enc dk[y]!).length = k := R.hk _
      have HE2 := hid (show SwapR a b (i + 1) d (swp dk x y) from by subst hx hy; exact HE.out.step (by omega) (by omega))
      generalize enc dk[x]! = cI at S4 la sb na
      generalize enc dk[y]! = cJ at S4 lb sa sb nb
      clear S1 HE
      have HX := hid (And.intro hx hy)
      clear hx hy
      go_wp2_with fail
      go_big_region_o
      clear la lb sa sb
      generalize (wr.drew.setCells blk (off + x * k) cJ).setCells blk (off + y * k) cI = w4 at S4 ⊢
      go_wp2
      go_roundg (n - (i + 1))
      case measure => omega
      case rel => exact ⟨i + 1, swp dk x y, by go_num, by omega, Nat.le_refl _, S4, HE2⟩
    · have h0z : ¬ (i : Int) < (n : Int) := by omega
      go_wp2
      go_end0
      obtain rfl : i = n := by omega
      exact ⟨rfl, dk, HE.out, S1.out⟩
set_option maxHeartbeats 4000000 in
set_option maxRecDepth 1000000 in
/-- rotateCmpFunc. -/
theorem rotate {P : Program} {k : Nat} (L : LayS P k) {enc : α → List Value} {w0 : World} {blk off : Nat} {d0 : Array α} (R : RowK enc k w0 blk off d0) (cap a m b : Nat) (fv : Value) (d : Array α) (w : World) (hs : d.size = d0.size) (S : SWK enc k w0 blk off d w)
    (ham : a < m) (hmb : m < b) (hb : b ≤ d.size) (hsz : d.size < 4611686018427387904) :
    Calls P 158 #[.slice (some ⟨blk, off, none⟩) d.size cap, .int .i64 a, .int .i64 m, .int .i64 b, fv] w fun e w' =>
      e = .returned (.tuple #[]) ∧ ∃ d', Rot a m b d d' ∧ SWK enc k w0 blk off d' w' := by
  have mixed := L.mixed; have tUnit := L.tUnit; have aUnit := L.aUnit; have zUnit := L.zUnit; have vUnit := L.vUnit; have tInt := L.tInt; have aInt := L.aInt; have zInt := L.zInt; have vInt := L.vInt; have tBool := L.tBool; have aBool := L.aBool; have zBool := L.zBool; have vBool := L.vBool; have tUint := L.tUint; have aUint := L.aUint; have zUint := L.zUint; have vUint := L.vUint; have tSl := L.tSl; have aSl := L.aSl; have zSl := L.zSl; have vSl := L.vSl; have tFn := L.tFn; have aFn := L.aFn; have zFn := L.zFn; have vFn := L.vFn; have aE := L.aE; have zE := L.zE
  have F := L.fRot
  have eS : ∀ args w, (callFunc 159 args).run P w = .ok (.enter 159 args) w := enters_of L.fSwap (by kernel_rfl) rfl
  have hC : ∀ (a b n : Nat) (dk : Array α) (w : World), dk.size = d.size → SWK enc k w0 blk off dk w → a + n ≤ b → b + n ≤ d.size → Calls P 159 #[.slice (some ⟨blk, off, none⟩) d.size cap, .int .i64 a, .int .i64 b, .int .i64 n, fv] w fun e w' =>
      e = .returned (.tuple #[]) ∧ ∃ d', SwapR a b n dk d' ∧ SWK enc k w0 blk off d' w' := fun a b n dk w h1 h2 h3 h4 => by
    have h := swapRange L R cap a b n fv dk w (h1.trans hs) h2 h3 (by omega) (by omega)
    rwa [h1] at h
  have HC := hid hC
  clear L hC hs
  have S0 : Aside _ := S
  clear S
  go_enter F, Try.ntmps158
  have w1 : IntKind.i64.wrap ((m : Int) - (a : Int)) = ((m - a : Nat) : Int) := by rw [IntKind.wrap_i64]; omega
  have w2 : IntKind.i64.wrap ((b : Int) - (m : Int)) = ((b - m : Nat) : Int) := by rw [IntKind.wrap_i64]; omega
  go_wp2
  go_loopg [10, 11] (b - a) (fun kx s10 s11 wr => ∃ (i j : Nat) (dk : Array α), s10 = .int .i64 i ∧ s11 = .int .i64 j ∧ 0 < i ∧ 0 < j ∧ i ≤ m - a ∧ j ≤ b - m ∧ i + j ≤ kx ∧ dk.size = d.size ∧ Aside (SWK enc k w0 blk off dk wr) ∧ Hid (∀ d', Rot (m - i) m (m + j) dk d' → Rot a m b d d'))
  case atStart => exact ⟨m - a, b - m, d, by go_num, by go_num, by omega, by omega, Nat.le_refl _, Nat.le_refl _, by omega, rfl, S0, fun d' h => by
    rwa [show m - (m - a) = a by omega, show m + (b - m) = b by omega] at h⟩
  case round =>
    obtain ⟨i, j, dk, rfl, rfl, hi, hj, him, hjb, hkx, hds, S1, HE⟩ := hrel
    clear S0 w1 w2
    have rx : IntKind.i64.wrap ((m : Int) - (i : Int)) = ((m - i : Nat) : Int) := by rw [IntKind.wrap_i64]; omega
    by_cases h0 : i = j
    · subst h0
      have h0z : ((i : Int) != (i : Int)) = false := by simp
      go_wp2_with (first | (go_at_fn 159; refine (HC.out (m - i) m i dk _ hds S1.out (by omega) (by omega)).mono ?_; rintro e w' ⟨rfl, d', hd, S2⟩))
      go_end0
      exact ⟨rfl, d', HE.out d' (Rot.last hd (by omega) (by omega)), S2⟩
    · by_cases h1 : j < i
      · have h1z : (j : Int) < (i : Int) := by omega
        have r1 : IntKind.i64.wrap ((i : Int) - (j : Int)) = ((i - j : Nat) : Int) := by rw [IntKind.wrap_i64]; omega
        have n1 : ¬ ((i : Int) = (j : Int)) := by omega
        go_wp2_with (first | (go_at_fn 159; refine (HC.out (m - i) m j dk _ hds S1.out (by omega) (by omega)).mono ?_; rintro e w' ⟨rfl, d', hd, S2⟩))
        go_roundg (i - j + j)
        case measure => omega
        case rel => exact ⟨i - j, j, d', by go_num, rfl, by omega, hj, by omega, hjb, Nat.le_refl _, hd.size.trans hds, S2, fun d2 h2 => HE.out d2 (by
              exact Rot.more_left hd h1 (by omega) (by omega) h2)⟩
      · have h1z : ¬ (j : Int) < (i : Int) := by omega
        have r1 : IntKind.i64.wrap ((j : Int) - (i : Int)) = ((j - i : Nat) : Int) := by rw [IntKind.wrap_i64]; omega
        have n1 : ¬ ((i : Int) = (j : Int)) := by omega
        go_wp2_with (first | (go_at_fn 159; rw [show (m : Int) + (j : Int) - (i : Int) = ((m + j - i : Nat) : Int) by omega]; refine (HC.out (m - i) (m + j - i) i dk _ hds S1.out (by omega) (by omega)).mono ?_; rintro e w' ⟨rfl, d', hd, S2⟩))
        go_roundg (i + (j - i))
        case measure => omega
        case rel => exact ⟨i, j - i, d', rfl, by go_num, hi, by omega, him, by omega, Nat.le_refl _, hd.size.trans hds, S2, fun d2 h2 => HE.out d2 (by
          exact Rot.more_right hd (by omega) (by omega) (by omega) h2)⟩
end SoI
end Go.Proofs.Ytidegffdhpdhjaa
