/- bytes.Compare, tree.byIndex: by contract; the world told in full. -/
import Derived.Test.YtidegffdhpdhjaaStSort6
import Derived.Test.YtidegffdhpdhjaaTree6
import Derived.Test.YtidegffdhpdhjaaSetL6
import Derived.Lib.Bytealg
import Derived.BigQuiet
import Derived.Deep.QuietTactic
namespace Go.Pm
open Go Go.RowKit
theorem run_loadBytes {P : Program} {w : World} : ∀ (l : List UInt8) (a : Addr) (acc : ByteArray), (∀ i x, l[i]? = some x → w.cell? (a.add i) = some (u8v x)) →
    (Extern.Bytes.loadBytes a l.length acc).run P w = .ok ⟨acc.data ++ l.toArray⟩ w
  | [], a, acc, _ => by simp [Extern.Bytes.loadBytes]
  | x :: l, a, acc, h => by
    have h0 := h 0 x rfl
    rw [Addr.add_zero'] at h0
    have ih := run_loadBytes (P := P) l (a.add 1) (acc.push x) (fun i y hy => by
      rw [add_add', Nat.add_comm]
      exact h (i + 1) y (by simpa using hy))
    simp only [List.length_cons, Extern.Bytes.loadBytes, Sem.run_bind]
    have hl : (load a).run P w = .ok (u8v x) w := by
      rw [run_load, h0]
    rw [hl]
    simp only [Result.andThen_ok, u8v]
    rw [show (Int.toNat ((x.toNat : Nat) : Int)).toUInt8 = x by simp]
    rw [ih]
    simp [ByteArray.push]
theorem run_bytesOf_bs {P : Program} {w : World} {lo hi : Nat} {v : Value} {l : List UInt8} (h : Bs w lo hi v l) : (Extern.Bytes.bytesOf v).run P w = .ok ⟨l.toArray⟩ w := by
  obtain ⟨a, cap, rfl, h1, h2, h3, h4⟩ := h
  cases a with
  | none =>
    have := h3 rfl
    have hl : l = [] := List.eq_nil_of_length_eq_zero (by simp at h1; omega)
    subst hl
    simp [Extern.Bytes.bytesOf]
    rfl
  | some ad =>
    simp only [Extern.Bytes.bytesOf, List.length_map]
    have := run_loadBytes (P := P) l ad .empty (fun i x hx => (h4 ad rfl i (u8v x) (by simp [hx])).2.2)
    rw [this]
    simp
theorem run_compare_bs {P : Program} {w : World} {lo hi lo' hi' : Nat} {u v : Value} {l r : List UInt8} (h1 : Bs w lo hi u l) (h2 : Bs w lo' hi' v r) : (Extern.BytealgCompare.compare #[u, v]).run P w = .ok (.int .i64 (Lib.compareBytes l r)) w := by
  change Sem.run P (do pure (goInt (Extern.BytealgCompare.cmp (← Extern.Bytes.bytesOf u) (← Extern.Bytes.bytesOf v)))) w = _
  simp only [Sem.run_bind, run_bytesOf_bs h1, run_bytesOf_bs h2, Result.andThen_ok, Sem.run_pure]
  rw [Lib.cmp_eq]
  rfl
end Go.Pm
namespace Go.Proofs.Ytidegffdhpdhjaa
open Go.Shelf Go.RowKit Go.Lib Go.Sort Go.Pm

namespace Tr
set_option maxRecDepth 100000 in
set_option maxHeartbeats 2000000 in
/-- bytes.Compare. -/
theorem compare {lo hi lo' hi' : Nat} {u v : Value} {l r : List UInt8} (w : World) (h1 : Bs w lo hi u l) (h2 : Bs w lo' hi' v r) : Calls Try.prog 149 #[u, v] w fun e w' => e = .returned (.int .i64 (Lib.compareBytes l r)) ∧ w' = w := by
  have hc := run_compare_bs (P := Try.prog) h1 h2
  clear h1 h2
  go_enter Try.func149, Try.ntmps149
  go_wp2
  rw [run_callFunc_extern Try.func155 (by kernel_rfl) (by kernel_rfl) (by kernel_rfl) (e := Extern.BytealgCompare.compare) (by kernel_rfl), hc]
  simp only [Result.andThen]
  rw [Oper.upon_value]
  go_wp2
  go_ret
  exact ⟨rfl, rfl⟩
set_option maxRecDepth 100000 in
set_option maxHeartbeats 4000000 in
/-- byIndex. -/
theorem byIndex (x y : It) (w : World) (hx : x.i.length = 32 ∧ x.v.length = 32) (hy : y.i.length = 32 ∧ y.v.length = 32) :
    Calls Try.prog 131 #[.agg (itC x).toArray, .agg (itC y).toArray] w fun e w' => e = .returned (.int .i64 (Lib.compareBytes x.i y.i)) ∧ ∃ q os', w' = grow (w.drewN q) os' := by
  obtain ⟨L, hLL⟩ : ∃ L : Array Value, L = (itC x).toArray := ⟨_, rfl⟩
  obtain ⟨R, hRR⟩ : ∃ R : Array Value, R = (itC y).toArray := ⟨_, rfl⟩
  rw [← hLL, ← hRR]
  have hX : Blk ((w.alloc (.cells L 61)).alloc (.cells R 61)) w.heap.size L 61 := (Blk.new w _ _).alloc _
  have hY := Blk.new2 w (.cells L 61) R 61
  have half : ∀ (z : It) (W : World) (b : Nat), z.i.length = 32 ∧ z.v.length = 32 → Blk W b (itC z).toArray 61 → Bs W b (b + 1) (.slice (some ⟨b, 0, none⟩) 32 32) z.i := fun z W b hz h => by
    refine ⟨some ⟨b, 0, none⟩, 32, by simp [hz.1], by simp [hz.1], by unfold maxLen; omega, (fun h => by cases h), fun ad had i c hc => ?_⟩
    simp only [Option.some.injEq] at had
    subst had
    refine ⟨Nat.le_refl _, Nat.lt_succ_self _, ?_⟩
    rw [Addr.add_lit, Nat.zero_add, h.cell]
    have hi : i < z.i.length := by
      have := (List.getElem?_eq_some_iff.1 hc).1
      simpa using this
    simp only [itC, List.getElem?_toArray]
    rw [List.getElem?_append_left (by simpa using hi)]
    exact hc
  have hL : ∀ n, Bs (((w.alloc (.cells L 61)).alloc (.cells R 61)).drewN n) w.heap.size (w.heap.size + 1) (.slice (some ⟨w.heap.size, 0, none⟩) 32 32) x.i := fun n => half x _ _ hx (hLL ▸ hX.drewN n)
  have hR : ∀ n, Bs (((w.alloc (.cells L 61)).alloc (.cells R 61)).drewN n) (w.heap.size + 1) (w.heap.size + 1 + 1) (.slice (some ⟨w.heap.size + 1, 0, none⟩) 32 32) y.i := fun n => half y _ _ hy (hRR ▸ hY.drewN n)
  have hC := fun n => compare _ (hL n) (hR n)
  have HC := hid hC
  clear half hL hR hC hX hY hLL hRR hx hy
  obtain ⟨c, hc⟩ : ∃ c, c = Lib.compareBytes x.i y.i := ⟨_, rfl⟩
  rw [← hc] at HC ⊢
  clear hc
  go_enter Try.func131, Try.ntmps131
  go_wp2_with fail
  go_quiet ((go_at_call 149; exact Calls.quiet_of_same (HC.out _)))
  go_wp2
  go_ret
  exact ⟨rfl, _, _, by rw [alloc_eq_grow, alloc_eq_grow, grow_grow]; rfl⟩
/-- SortStableFunc by byIndex, of the call's own items. -/
theorem sort_some {w : World} {base g cap : Nat} {l : List It} (h : Ito 61 w base (.slice (some ⟨g, 0, none⟩) l.length cap) l) (hl : l.length ≤ 1099511627776) :
    Calls Try.prog 130 #[.slice (some ⟨g, 0, none⟩) l.length cap, .func (.func 131) #[] #[]] w fun e w' =>
      e = .returned (.tuple #[]) ∧ ∃ r, Stable l r ∧ Ito 61 w' base (.slice (some ⟨g, 0, none⟩) l.length cap) r ∧ Kept (Just g) w w' := by
  obtain ⟨hb, hH⟩ := ito_holds h
  have hsz := tagged_size l h.1
  have R : RowK encT 64 w g 0 (tagged l h.1) := ⟨fun x => itC_len x.1.2, fun x v hv => itsC_one [x.1.1] v (by simpa [itsC, encT] using hv), hH, hb⟩
  have hcmp : CmpLays Try.prog 131 #[] encT 64 cfT g 0 (tagged l h.1).size w := fun m os dk hdk x y => byIndex x.1.1 y.1.1 _ x.1.2 y.1.2
  have eg : ∀ args w, (callFunc 131 args).run Try.prog w = .ok (.enter 131 args) w := enters_of Try.func131 (by kernel_rfl) rfl
  have hs := SoI.sortStable R (Stb.trans swo_ltT) eg hcmp cap (by omega) Prod.snd (fun x y ht => by
    rw [ltOf_cfT]
    exact Stb.cross x y ht) (fun x hx => tagged_snd l h.1 x hx)
  rw [hsz] at hs
  refine Calls.mono (f := 130) hs ?_
  rintro e w' ⟨rfl, d', hm, S⟩
  have hm' : Mrgd (Stb ltT) 0 (tagged l h.1).size (tagged l h.1) d' := Eq.subst (motive := fun n => Mrgd (Stb ltT) 0 n (tagged l h.1) d') hsz.symm hm
  obtain ⟨r, h1, h2, h3⟩ := ito_sorted h S hm'
  exact ⟨rfl, r, h1, h2, h3⟩
set_option maxRecDepth 100000 in
set_option maxHeartbeats 2000000 in
theorem insertion_nil (fv : Value) (w : World) : Calls Try.prog 153 #[.slice none 0 0, .int .i64 0, .int .i64 0, fv] w fun e w' => e = .returned (.tuple #[]) ∧ w' = w := by
  go_enter Try.func153, Try.ntmps153
  go_wp2
  go_loopg [8] 0 (fun _ v wr => v = .int .i64 1 ∧ wr = w)
  case atStart => exact ⟨rfl, rfl⟩
  case round =>
    obtain ⟨rfl, rfl⟩ := hrel
    go_wp2
    go_end0
    exact ⟨rfl, rfl⟩
set_option maxRecDepth 100000 in
set_option maxHeartbeats 2000000 in
theorem stable_nil (fv : Value) (w : World) : Calls Try.prog 148 #[.slice none 0 0, .int .i64 0, fv] w fun e w' => e = .returned (.tuple #[]) ∧ w' = w := by
  go_enter Try.func148, Try.ntmps148
  go_wp2
  go_loopg [7, 8] 0 (fun _ a b wr => a = .int .i64 0 ∧ b = .int .i64 20 ∧ wr = w)
  case atStart => exact ⟨rfl, rfl, rfl⟩
  case round =>
    obtain ⟨rfl, rfl, rfl⟩ := hrel
    go_wp2_with (first | (go_at_call 153; refine (insertion_nil _ _).mono ?_; rintro e w' ⟨rfl, rfl⟩))
    go_loopg [6, 7, 8, 9] 0 (fun _ s6 s7 s8 s9 wr => s6 = .int .i64 20 ∧ (∃ v, s7 = v) ∧ (∃ v, s8 = v) ∧ (∃ v, s9 = v) ∧ wr = w')
    case atStart => exact ⟨rfl, ⟨_, rfl⟩, ⟨_, rfl⟩, ⟨_, rfl⟩, rfl⟩
    case round =>
      obtain ⟨rfl, ⟨_, rfl⟩, ⟨_, rfl⟩, ⟨_, rfl⟩, rfl⟩ := hrel
      go_wp2
      go_end0
      exact ⟨rfl, rfl⟩
set_option maxRecDepth 100000 in
set_option maxHeartbeats 2000000 in
theorem sort_nil (fv : Value) (w : World) : Calls Try.prog 130 #[.slice none 0 0, fv] w fun e w' => e = .returned (.tuple #[]) ∧ w' = w := by
  go_enter Try.func130, Try.ntmps130
  go_wp2_with (first | (go_at_call 148; refine (stable_nil _ _).mono ?_; rintro e w' ⟨rfl, rfl⟩))
  go_end0
  exact ⟨rfl, rfl⟩
/-- SortStableFunc by byIndex, of the call's own items, none too. -/
theorem sort {w : World} {base : Nat} {v : Value} {l : List It} (h : Ito 61 w base v l) (hl : l.length ≤ 1099511627776) :
    Calls Try.prog 130 #[v, .func (.func 131) #[] #[]] w fun e w' =>
      e = .returned (.tuple #[]) ∧ ∃ r, Stable l r ∧ Ito 61 w' base v r ∧ Kept (Of v) w w' := by
  rcases h.2.2 with ⟨rfl, h0⟩ | ⟨g, cap, cur, rfl, _⟩
  · obtain rfl := List.eq_nil_of_length_eq_zero h0
    refine (sort_nil _ w).mono ?_
    rintro e w' ⟨rfl, rfl⟩
    exact ⟨rfl, [], ⟨List.Perm.refl _, List.Pairwise.nil, fun _ => rfl⟩, h, Kept.refl _ _⟩
  · refine (sort_some h hl).mono ?_
    rintro e w' ⟨rfl, r, h1, h2, h3⟩
    exact ⟨rfl, r, h1, h2, h3.mono (fun k _ hk => by cases hk; rfl)⟩
end Tr
end Go.Proofs.Ytidegffdhpdhjaa
