/- Texts joined: RAdd16, Seat10, Seat16, SDir16, EqF, KnoRow16, OneW14, Known16, Finds16. -/
import Derived.Test.YtglibdggoobocaaPk3
import Derived.Test.YtglibdggoobocaaPk4
import Derived.Test.YtglibdggoobocaaPk2
import Derived.Test.YtglibdggoobocaaPk1
import Derived.Deep.QuietTactic
import Derived.BigQuiet
import Derived.Deep.LoopGhost
import Derived.Deep.DeepCutAuto
namespace Go.Proofs.Ytglibdggoobocaa
open Go.RowKit Go.Pm
namespace R16
theorem rtKnown : RowTyK Try.prog 23 31 (.agg #[.string ⟨#[]⟩, .int .i64 0, .int .u64 0, .int .i64 0]) 4 40 := Hk.rtyK (by kernel_rfl) (by kernel_rfl) (by rfl) (by decide)
theorem elKnown : Try.prog.elem 23 = 31 := by kernel_rfl
theorem tKnown : Try.prog.underlying 23 = some (.slice (Try.prog.elem 23)) := by rw [elKnown]; kernel_rfl
theorem zKnown : ∀ W, (sizeOf (Try.prog.elem 23)).run Try.prog W = .ok 4 W := by rw [elKnown]; intro W; kernel_rfl
/-- A block of one piece, as a row. -/
theorem ps_blk {k : Nat} {w : World} {g : Nat} {t : TypeId} {x : List Value} (h : Blk w g x.toArray t) (hx : x.length = k) : Ps k w 0 w.heap.size (.slice (some ⟨g, 0, none⟩) 1 1) [x] := by
  refine ⟨Each.one hx, by simp [hx], some ⟨g, 0, none⟩, 1, rfl, Nat.le_refl _, by unfold maxLen; omega, (fun h => by cases h), ?_⟩
  intro ad had i c hc
  simp only [Option.some.injEq] at had
  subst had
  refine ⟨Nat.zero_le _, h.lt, ?_⟩
  rw [Addr.add_lit, Nat.zero_add, h.cell]
  simpa using hc
theorem ent_all (x : Ent) : (entC x).toArray.all (·.oneCell') = true := all_oneCell_toArray (entC_one x)
set_option maxRecDepth 100000 in
set_option maxHeartbeats 16000000 in
/-- Add. -/
theorem add (v u : Value) (lo hi lo' hi' : Nat) (l : List Kno) (p : Int) (b : List Ent) (w : World) (hv : Ps 4 w lo hi v (knosC l)) (hu : Ps 3 w lo' hi' u (entsC b)) (hl : l.length ≤ 274877906944) (hb : b.length ≤ 274877906944) :
    Calls Try.prog 16 #[v, .int .i64 p, u] w fun e w' => ∃ r, e = .returned (.tuple #[r, .bool (addF l p b).2]) ∧ Kept None w w' ∧ Off 4 w lo hi w' r (knosC (addF l p b).1) := by
  have hvv : ∀ W, Kept None w W → Off 4 w lo hi W v (knosC l) := fun W hW => Off.of w (hv.kept hW (fun _ _ _ h => h))
  obtain ⟨a, cap, rfl, g1, g2, g3⟩ := hv.form
  rw [knosC_len] at g1 hv hvv ⊢
  obtain ⟨au, cu, rfl, gu1, gu2, gu3⟩ := hu.form
  rw [entsC_len] at gu1 hu ⊢
  obtain ⟨n, hn⟩ : ∃ n, n = l.length := ⟨_, rfl⟩
  obtain ⟨m, hm⟩ : ∃ m, m = b.length := ⟨_, rfl⟩
  rw [← hn] at g1 hl hv hvv ⊢
  rw [← hm] at gu1 hb hu ⊢
  have bad1 : p < 1 → addF l p b = (l, false) := fun h => by unfold addF; rw [if_pos h]
  have bad2 : ∀ k (hk : k < l.length), ¬ p < 1 → p ≤ l[k].p → addF l p b = (l, false) := fun k hk h h2 => by
    unfold addF
    rw [if_neg h, if_pos (List.any_eq_true.2 ⟨l[k], List.getElem_mem hk, by simpa using h2⟩)]
  have good : ¬ p < 1 → (∀ k (hk : k < l.length), ¬ p ≤ l[k].p) → addF l p b = addR l (addN l p b b.length) := fun h h2 => by
    have h5 : ¬ (l.any fun y => decide (p ≤ y.p)) = true := fun h3 => by
      obtain ⟨y, hy, h4⟩ := List.any_eq_true.1 h3
      obtain ⟨k, hk, rfl⟩ := List.getElem_of_mem hy
      exact h2 k hk (by simpa using h4)
    unfold addF
    rw [if_neg h, if_neg h5]
  obtain ⟨RS, hRS⟩ : ∃ r, r = addF l p b := ⟨_, rfl⟩
  rw [← hRS] at bad1 bad2 good ⊢
  have HV := hid (And.intro hv hvv)
  have HU := hid hu
  have HN := hid (And.intro hn (And.intro hm (And.intro hl hb)))
  have HBAD := hid (And.intro bad1 bad2)
  have HGOOD := hid good
  clear hv hvv hu hn hm bad1 bad2 good hRS g3 gu3
  have K0 := hid (Kept.refl None w)
  by_cases hp1 : p < 1
  · have hq := HBAD.out.1 hp1
    have HQ := hid hq
    clear hq
    go_enter Try.func16, Try.ntmps16
    go_wp2
    go_ret2
    exact ⟨.slice a n cap, by rw [HQ.out]; rfl, Kept.refl _ _, by rw [HQ.out]; exact HV.out.2 w (Kept.refl _ _)⟩
  go_enter Try.func16, Try.ntmps16
  go_wp2
  go_loopg [8] n (fun kx s8 wr => ∃ k : Nat, s8 = .int .i64 k ∧ k ≤ n ∧ n - k ≤ kx ∧ Hid (Kept None w wr) ∧ Hid (∀ j (_ : j < k) (hj : j < l.length), ¬ p ≤ l[j].p))
  case atStart => exact ⟨0, rfl, Nat.zero_le _, Nat.le_refl _, K0, hid (fun j hj => absurd hj (by omega))⟩
  case round =>
    obtain ⟨k, rfl, hk, hkx, HK, HT⟩ := hrel
    by_cases hlt : k < n
    · have hz : (k : Int) < (n : Int) := by omega
      have wk : IntKind.i64.wrap ((k : Int) + 1) = (k : Int) + 1 := by rw [IntKind.wrap_i64]; have := HN.out.2.2.1; omega
      have kl : k < l.length := by have := HN.out.1; omega
      obtain ⟨bb, o, q1, hc⟩ := (HV.out.1.kept HK.out (fun _ _ _ h => h)).kno (by omega)
      obtain rfl := q1
      obtain ⟨_, _, _, c3, _, _⟩ := hc k kl
      obtain ⟨x3, hx3⟩ : ∃ x, x = l[k].p := ⟨_, rfl⟩
      rw [← hx3] at c3
      have HX := hid hx3
      clear hc hx3
      by_cases hpx : p ≤ x3
      · have hq := HBAD.out.2 k kl hp1 (HX.out ▸ hpx)
        have HQ := hid hq
        clear hq
        go_wp2
        go_ret2
        exact ⟨.slice (some ⟨bb, o, none⟩) n cap, by rw [HQ.out]; rfl, HK.out, by rw [HQ.out]; exact HV.out.2 _ HK.out⟩
      · have HT2 : Hid (∀ j (_ : j < k + 1) (hj : j < l.length), ¬ p ≤ l[j].p) := hid (fun j hj hjl => by
          by_cases hjk : j = k
          · subst hjk
            rw [← HX.out]
            exact hpx
          · exact HT.out j (by omega) hjl)
        go_wp2
        go_roundg (n - (k + 1))
        case measure => omega
        case rel => exact ⟨k + 1, by go_num, by omega, Nat.le_refl _, HK, HT2⟩
    · have hz : ¬ (k : Int) < (n : Int) := by omega
      have hq := HGOOD.out hp1 (fun j hj => by have := HT.out j (by have := HN.out.1; omega) hj; omega)
      have HQ := hid hq
      clear hq HT HGOOD hlt hk hkx
      have i1 := HV.out.1.kept HK.out (fun _ _ _ h => h)
      have hall := knosC_one l
      go_wp2_with (first | (at_builtin; refine wpList_append_po (v := .slice none 0 0) (l := []) (m := knosC l) (base := wr.heap.size) rfl _ _ 23 rfl rtKnown (by decide) rfl rfl (Po.nil _ _ _ _) i1 hall (by rw [knosC_len]; have := HN.out; simp; omega) (Nat.le_refl _) ?k4) | fail)
      case k4 =>
        intro a4 n4 c4 w4 b4 k4 _
        have k04 := HK.out.trans (k4.mono (fun _ _ h => by cases h))
        have b4' : Ps 4 w4 w.heap.size w4.heap.size (.slice a4 n4 c4) (knosC l) := (by simpa using b4 : Po 4 31 w4 wr.heap.size (.slice a4 n4 c4) (knosC l)).ps (Nat.le_refl _) |>.wider HK.out.size (Nat.le_refl _)
        have K4 := hid k04
        have B4 := hid b4'
        clear b4 b4' k4 k04 i1 hall HK
        go_wp2
        go_loopg [9, 10] m (fun kx s9 s10 wr => ∃ (k : Nat) (out : List Kno) (ao : Option Addr) (no co : Nat), s10 = .int .i64 k ∧ s9 = .slice ao no co ∧ k ≤ m ∧ m - k ≤ kx ∧ Hid (Kept None w wr) ∧ Hid (Ps 4 wr w.heap.size wr.heap.size (.slice ao no co) (knosC out)) ∧ Hid (addN l p b k = some out ∧ out.length ≤ n + k))
        case atStart => exact ⟨0, l, _, _, _, rfl, rfl, Nat.zero_le _, Nat.le_refl _, K4, B4, hid ⟨rfl, by have := HN.out.1; omega⟩⟩
        case round =>
          obtain ⟨k, out, ao, no, co, rfl, rfl, hk, hkx, HK, HO, HT⟩ := hrel
          by_cases hlt : k < m
          · have hz : (k : Int) < (m : Int) := by omega
            have wk : IntKind.i64.wrap ((k : Int) + 1) = (k : Int) + 1 := by rw [IntKind.wrap_i64]; have := HN.out.2.2.2; omega
            have kb : k < b.length := by have := HN.out.2.1; omega
            obtain ⟨bb, oo, q1, hc⟩ := (HU.out.kept HK.out (fun _ _ _ h => h)).ent (by omega)
            obtain rfl := q1
            obtain ⟨_, _, _, rE⟩ := hc k kb
            obtain ⟨e, he⟩ : ∃ e, e = b[k] := ⟨_, rfl⟩
            rw [← he] at rE
            have HEE := hid he
            have kW : Kept None w (wr.alloc (.cells (entC e).toArray 29)) := HK.out.alloc _
            have eW : Blk (wr.alloc (.cells (entC e).toArray 29)) wr.heap.size (entC e).toArray 29 := Blk.new _ _ _
            have hLat := fun W hW => latest (.slice a n cap) lo hi l e.n W (HV.out.1.kept hW (fun _ _ _ h => h)) (by have := HN.out; omega)
            obtain ⟨X, hX⟩ : ∃ X, X = latF l e.n := ⟨_, rfl⟩
            rw [← hX] at hLat
            have HX := hid hX
            have HL := hid hLat
            have hER := fun W => RUp.entryRight e.n e.v e.k W
            have HER := hid hER
            clear hc he hX hLat hER
            go_wp2_with (first | (refine wpList_load_at (.refl _) _ _ rfl rfl rE Up.aEnt ?_) | fail)
            refine (HL.out _ kW).mono ?_
            rintro ee w5 ⟨rfl, kn⟩
            have k5 := kW.trans kn
            have e5 := eW.kept kn (fun h => h)
            have k6 : Kept None w (w5.alloc (.cells #[.string X.1.e.n, .int .i64 X.1.e.v, .int .u64 (X.1.e.k : Int), .int .i64 X.1.p] 31)) := k5.alloc _
            have e6 : Blk (w5.alloc (.cells #[.string X.1.e.n, .int .i64 X.1.e.v, .int .u64 (X.1.e.k : Int), .int .i64 X.1.p] 31)) wr.heap.size (entC e).toArray 29 := e5.alloc _
            have x6 : Blk (w5.alloc (.cells #[.string X.1.e.n, .int .i64 X.1.e.v, .int .u64 (X.1.e.k : Int), .int .i64 X.1.p] 31)) w5.heap.size (knoC X.1).toArray 31 := Blk.new _ _ _
            have o6 := (HO.out.kept ((((Kept.refl None wr).alloc (.cells (entC e).toArray 29)).trans kn).alloc (.cells #[.string X.1.e.n, .int .i64 X.1.e.v, .int .u64 (X.1.e.k : Int), .int .i64 X.1.p] 31)) (fun _ _ _ h => h))
            clear kW eW kn k5 e5 rE HO
            go_wp2_with (first | (refine wpList_load_blk rfl _ _ rfl rfl e6 Up.aEnt ?_) | fail)
            refine (HER.out _).mono ?_
            rintro ee w7 ⟨rfl, kn⟩
            have k7 := k6.trans kn
            have e7 := e6.kept kn (fun h => h)
            have x7 := x6.kept kn (fun h => h)
            have o7 := o6.kept kn (fun _ _ _ h => h)
            have K7 := hid k7
            have E7 := hid e7
            have O7 := hid o7
            have c1 : w7.cell? ⟨wr.heap.size, 1, none⟩ = some (.int .i64 e.v) := e7.cell 1
            have d1 : w7.cell? ⟨w5.heap.size, 1, none⟩ = some (.int .i64 X.1.e.v) := x7.cell 1
            have hstop : mayE l (b.take k) e = false → RS = (l, false) := fun h => by
              rw [HQ.out, addN_stop (addN_bad HT.out.1 kb (HEE.out ▸ h)) (by omega)]
              rfl
            have HSTOP := hid hstop
            have hmay : mayE l (b.take k) e = ((entR e.n.size e.v e.k && decide (e.v = IntKind.i64.wrap (X.1.e.v + 1))) && !((b.take k).any (fun y => eqN y.n e.n))) := by
              rw [HX.out]
              rfl
            have HMAY := hid hmay
            obtain ⟨ER, hERb⟩ : ∃ r, r = entR e.n.size e.v e.k := ⟨_, rfl⟩
            have HERB := hid hERb
            rw [← hERb]
            obtain ⟨kv, hkv⟩ : ∃ x, x = X.1.e.v := ⟨_, rfl⟩
            obtain ⟨ev, hev⟩ : ∃ x, x = e.v := ⟨_, rfl⟩
            rw [← hkv] at d1
            rw [← hev] at c1
            obtain ⟨xx, hxx⟩ : ∃ x, x = IntKind.i64.wrap (kv + 1) := ⟨_, rfl⟩
            have hxw := hxx.symm
            have HXV := hid (And.intro hkv (And.intro hev hxx))
            clear hstop hmay hERb hkv hev hxx k6 e6 x6 o6 kn k7 e7 x7 o7 HL HER
            cases ER with
            | false =>
              have hq := HSTOP.out (by rw [HMAY.out, ← HERB.out]; rfl)
              have HQ2 := hid hq
              clear hq hxw
              go_wp2_with (first | go_skip | fail)
              go_ret2
              exact ⟨.slice a n cap, by rw [HQ2.out]; rfl, K7.out, by rw [HQ2.out]; exact HV.out.2 _ K7.out⟩
            | true =>
              by_cases hvx : ev = xx
              · have HVX := hid hvx
                obtain rfl := hvx
                go_wp2_with (first | go_skip | fail)
                clear c1 d1 hxw
                obtain ⟨eb, hebd⟩ : ∃ eb, eb = wr.heap.size := ⟨_, rfl⟩
                rw [← hebd]
                have HEB := hid hebd
                clear hebd
                have hno : no = out.length ∧ no ≤ co := by
                  obtain ⟨q1, q2, q3, q4, _, _⟩ := O7.out.form
                  rw [knosC_len] at q3 q4
                  injection q3 with _ r2 r3
                  omega
                have HNO := hid hno
                clear hno
                go_loopg [14] k (fun kx3 s14 wr => ∃ j : Nat, s14 = .int .i64 j ∧ j ≤ k ∧ k - j ≤ kx3 ∧ Hid (Kept None w7 wr) ∧ Hid ((b.take j).any (fun y => eqN y.n e.n) = false))
                case atStart => exact ⟨0, rfl, Nat.zero_le _, Nat.le_refl _, hid (Kept.refl _ _), hid (by simp)⟩
                case round =>
                  obtain ⟨j, rfl, hj, hjx, HK3, HT3⟩ := hrel
                  have E3 := hid (E7.out.kept HK3.out (fun h => h))
                  have d0 : wr.cell? ⟨eb, 0, none⟩ = some (.string e.n) := by rw [HEB.out]; exact E3.out.cell 0
                  by_cases hlt3 : j < k
                  · have hz3 : (j : Int) < (k : Int) := by omega
                    have hz4 : (j : Int) < (m : Int) := by omega
                    have wj : IntKind.i64.wrap ((j : Int) + 1) = (j : Int) + 1 := by rw [IntKind.wrap_i64]; have := HN.out.2.2.2; omega
                    have jb : j < b.length := by omega
                    obtain ⟨b2, o2, q2, hc2⟩ := (HU.out.kept (K7.out.trans HK3.out) (fun _ _ _ h => h)).ent (by omega)
                    obtain ⟨rfl, rfl⟩ : bb = b2 ∧ oo = o2 := by simpa using q2
                    obtain ⟨c0, _, _, _⟩ := hc2 j jb
                    obtain ⟨y0, hy0⟩ : ∃ y, y = b[j].n := ⟨_, rfl⟩
                    rw [← hy0] at c0
                    have htk : (b.take (j + 1)).any (fun y => eqN y.n e.n) = ((b.take j).any (fun y => eqN y.n e.n) || eqN y0 e.n) := by
                      rw [List.take_succ_eq_append_getElem jb, List.any_append, hy0]
                      simp
                    have HTK := hid htk
                    obtain ⟨EQ, hEQ⟩ : ∃ q, q = eqN y0 e.n := ⟨_, rfl⟩
                    obtain ⟨e0, he0⟩ : ∃ x, x = e.n := ⟨_, rfl⟩
                    have hEQ' : (y0.toList == e0.toList) = EQ := by rw [he0, hEQ]; rfl
                    rw [← he0] at d0
                    have HEQ := hid hEQ
                    clear hc2 q2 htk hEQ hy0 he0
                    cases EQ with
                    | true =>
                      have hq := HSTOP.out (by
                        rw [HMAY.out]
                        have h3 : ((b.take k).any fun y => eqN y.n e.n) = true := by
                          have h4 : ((b.take (j + 1)).any fun y => eqN y.n e.n) = true := by rw [HTK.out, ← HEQ.out]; simp
                          obtain ⟨y, hy, hyt⟩ := List.any_eq_true.1 h4
                          exact List.any_eq_true.2 ⟨y, List.take_subset_take_left b (by omega) hy, hyt⟩
                        rw [h3]
                        simp)
                      have HQ2 := hid hq
                      clear hq
                      go_wp2_with fail
                      go_quiet (fail)
                      obtain ⟨w8, hw8⟩ : ∃ w8, w8 = wr.drewN nq := ⟨_, rfl⟩
                      have k8 : Kept None w w8 := (K7.out.trans HK3.out).trans (hw8 ▸ Kept.toDrewN _ _ _)
                      rw [← hw8]
                      clear hw8 c0 d0
                      go_wp2
                      go_ret2
                      exact ⟨.slice a n cap, by rw [HQ2.out]; rfl, k8, by rw [HQ2.out]; exact HV.out.2 _ k8⟩
                    | false =>
                      have HT4 : Hid ((b.take (j + 1)).any (fun y => eqN y.n e.n) = false) := hid (by rw [HTK.out, HT3.out, ← HEQ.out]; rfl)
                      go_wp2_with fail
                      go_quiet (fail)
                      obtain ⟨w8, hw8⟩ : ∃ w8, w8 = wr.drewN nq := ⟨_, rfl⟩
                      have HK4 : Hid (Kept None w7 w8) := hid (HK3.out.trans (hw8 ▸ Kept.toDrewN _ _ _))
                      rw [← hw8]
                      clear hw8 c0 d0 E3
                      go_wp2
                      go_roundg (k - (j + 1))
                      case measure => omega
                      case rel => exact ⟨j + 1, by go_num, by omega, Nat.le_refl _, HK4, HT4⟩
                  · have hz3 : ¬ (j : Int) < (k : Int) := by omega
                    obtain rfl : j = k := by omega
                    have hgood : mayE l (b.take j) e = true := by
                      rw [HMAY.out, HT3.out, ← HERB.out, ← HXV.out.1, ← HXV.out.2.1, ← HXV.out.2.2, decide_eq_true rfl]
                      rfl
                    have hadd := addN_good (p := p) HT.out.1 kb (by rw [← HEE.out]; exact hgood)
                    rw [← HEE.out] at hadd
                    have HADD := hid hadd
                    have K9 := hid (K7.out.trans HK3.out)
                    have O9 := hid (O7.out.kept HK3.out (fun _ _ _ h => h))
                    have hpl := place_le out e
                    have hplt := fun i (h : i < place out e) hi => place_lt (e := e) h hi
                    have hpat := fun hi => place_at (l := out) (e := e) hi
                    obtain ⟨pl, hpd⟩ : ∃ pl, pl = place out e := ⟨_, rfl⟩
                    rw [← hpd] at hpl hplt hpat
                    have HPL := hid (And.intro hpl (And.intro hplt (And.intro hpat hpd)))
                    clear hgood hadd hpl hplt hpat hpd d0 HSTOP HMAY HT3 hz3
                    obtain ⟨wo, hwo⟩ : ∃ wo, wo = wr := ⟨_, rfl⟩
                    rw [← hwo] at K9 O9 E3 ⊢
                    clear hwo HK3
                    go_wp2
                    go_loopg [15] no (fun kx4 s15 wr => ∃ i : Nat, s15 = .int .i64 i ∧ i ≤ pl ∧ no - i ≤ kx4 ∧ Hid (Kept None wo wr))
                    case atStart => exact ⟨0, rfl, Nat.zero_le _, Nat.le_refl _, hid (Kept.refl _ _)⟩
                    case round =>
                      obtain ⟨i, rfl, hi, hix, HK4⟩ := hrel
                      have K5 := hid ((K9.out.trans HK4.out))
                      have E4 := hid (E3.out.kept HK4.out (fun h => h))
                      have f0 : wr.cell? ⟨eb, 0, none⟩ = some (.string e.n) := by rw [HEB.out]; exact E4.out.cell 0
                      have f1 : wr.cell? ⟨eb, 1, none⟩ = some (.int .i64 ev) := by rw [HEB.out, HXV.out.2.1]; exact E4.out.cell 1
                      obtain ⟨e0, he0⟩ : ∃ x, x = e.n := ⟨_, rfl⟩
                      rw [← he0] at f0
                      by_cases hin : i < no
                      · have hzi : (i : Int) < (no : Int) := by omega
                        have wi : IntKind.i64.wrap ((i : Int) + 1) = (i : Int) + 1 := by rw [IntKind.wrap_i64]; have := HNO.out; have := HT.out.2; have := HN.out; omega
                        have hio : i < out.length := by have := HNO.out; omega
                        obtain ⟨b4, o4, q4, hc4⟩ := (O9.out.kept HK4.out (fun _ _ _ h => h)).kno (by omega)
                        obtain rfl := q4
                        obtain ⟨c0, c1, _, _, _, _⟩ := hc4 i hio
                        obtain ⟨y0, hy0⟩ : ∃ y, y = out[i].e.n := ⟨_, rfl⟩
                        obtain ⟨y1, hy1⟩ : ∃ y, y = out[i].e.v := ⟨_, rfl⟩
                        rw [← hy0] at c0
                        rw [← hy1] at c1
                        have hah : aheadK out[i] e = (ltN y0 e0 || (eqN y0 e0 && decide (y1 < ev))) := by rw [hy0, hy1, he0, HXV.out.2.1]; rfl
                        have hbel : i < pl → aheadK out[i] e = true := fun h => HPL.out.2.1 i h hio
                        have habv : i = pl → aheadK out[i] e = false := fun h => by
                          subst h
                          exact HPL.out.2.2.1 hio
                        rw [hah] at hbel habv
                        obtain ⟨LT, hLT⟩ : ∃ q, q = ltN y0 e0 := ⟨_, rfl⟩
                        obtain ⟨EQ, hEQ⟩ : ∃ q, q = eqN y0 e0 := ⟨_, rfl⟩
                        obtain ⟨VL, hVL⟩ : ∃ q, q = decide (y1 < ev) := ⟨_, rfl⟩
                        rw [← hLT, ← hEQ, ← hVL] at hbel habv
                        have gLT : Go.Op.bytesLess y0.toList e0.toList = LT := by rw [hLT]; rfl
                        have gEQ : (y0.toList == e0.toList) = EQ := by rw [hEQ]; rfl
                        have gVL : decide (y1 < ev) = VL := hVL.symm
                        have HB := hid (And.intro hbel habv)
                        clear hLT hEQ hVL hbel habv hah hc4 hy0 hy1 he0
                        have hcs : (i < pl ∧ LT = true) ∨ (i < pl ∧ LT = false ∧ EQ = true ∧ VL = true) ∨ (i = pl ∧ LT = false ∧ EQ = false) ∨ (i = pl ∧ LT = false ∧ EQ = true ∧ VL = false) := by
                          have h1 := HB.out.1
                          have h2 := HB.out.2
                          by_cases hp : i < pl
                          · have h3 := h1 hp
                            cases LT
                            · right; left
                              simp only [Bool.false_or, Bool.and_eq_true] at h3
                              exact ⟨hp, rfl, h3.1, h3.2⟩
                            · left; exact ⟨hp, rfl⟩
                          · have hpe : i = pl := by omega
                            have h3 := h2 hpe
                            cases LT
                            · right; right
                              cases EQ
                              · left; exact ⟨hpe, rfl, rfl⟩
                              · right
                                simp only [Bool.false_or, Bool.true_and] at h3
                                exact ⟨hpe, rfl, rfl, h3⟩
                            · simp at h3
                        clear HB
                        rcases hcs with ⟨hp, rfl⟩ | ⟨hp, rfl, rfl, rfl⟩ | ⟨hp, rfl, rfl⟩ | ⟨hp, rfl, rfl, rfl⟩
                        · have HP := hid hp
                          go_wp2_with fail
                          go_quiet (fail)
                          obtain ⟨w9, hw9⟩ : ∃ w9, w9 = wr.drewN nq := ⟨_, rfl⟩
                          have k9 : Kept None wr w9 := hw9 ▸ Kept.toDrewN _ _ _
                          rw [← hw9]
                          clear hw9 f0 f1 c0 c1
                          have HK6 := hid (HK4.out.trans k9)
                          clear k9
                          go_wp2
                          go_roundg (no - (i + 1))
                          case measure => omega
                          case rel => exact ⟨i + 1, by go_num, by omega, Nat.le_refl _, HK6⟩
                        · have HP := hid hp
                          go_wp2_with fail
                          go_quiet (fail)
                          obtain ⟨w9, hw9⟩ : ∃ w9, w9 = wr.drewN nq := ⟨_, rfl⟩
                          have k9 : Kept None wr w9 := hw9 ▸ Kept.toDrewN _ _ _
                          rw [← hw9]
                          clear hw9 f0 f1 c0 c1
                          have HK6 := hid (HK4.out.trans k9)
                          clear k9
                          go_wp2
                          go_roundg (no - (i + 1))
                          case measure => omega
                          case rel => exact ⟨i + 1, by go_num, by omega, Nat.le_refl _, HK6⟩
                        · have HP := hid hp
                          clear hp
                          go_wp2_with fail
                          go_quiet (fail)
                          obtain ⟨w9, hw9⟩ : ∃ w9, w9 = wr.drewN nq := ⟨_, rfl⟩
                          have k9 : Kept None wr w9 := hw9 ▸ Kept.toDrewN _ _ _
                          rw [← hw9]
                          clear hw9 f0 f1 c0 c1
                          obtain rfl := HP.out
                          have hino : i ≤ no := by have := HPL.out.1; have := HNO.out; omega
                          have K10 := hid ((K9.out.trans HK4.out).trans k9)
                          have o10 := (O9.out.kept HK4.out (fun _ _ _ h => h)).kept k9 (fun _ _ _ h => h)
                          have E10 : Hid (Blk w9 eb #[.string e.n, .int .i64 e.v, .int .u64 (e.k : Int)] 29) := hid (by rw [HEB.out]; exact ((E3.out.kept HK4.out (fun h => h)).kept k9 (fun h => h)))
                          obtain ⟨aT, sT, pT⟩ := ps_to tKnown zKnown o10 .i64 i (by omega)
                          obtain ⟨aD, sD, pD⟩ := ps_from tKnown zKnown o10 .i64 i (by omega)
                          rw [← knosC_take] at pT
                          rw [← knosC_drop] at pD
                          have HSL := hid (And.intro sT (And.intro pT (And.intro sD pD)))
                          have HLN : Hid ((out.take i).length = i ∧ (out.drop i).length = no - i ∧ out.length ≤ 549755813888) := hid (by rw [List.length_take, List.length_drop]; have := HNO.out; have := HT.out.2; have := HN.out; omega)
                          clear o10 sT pT sD pD k9 HK4
                          go_wp2_with fail
                          refine wp_region_plan (Kept None w9) [{ k := 3, uses := [], pure := fun u => ∃ a n c, u = .slice a n c, fact := fun u W => Po 4 31 W w9.heap.size u (knosC (out.take i)) }, { k := 7, uses := [], pure := fun u => ∃ g, u = .slice (some ⟨g, 0, none⟩) 1 1, fact := fun u W => ∃ g, u = .slice (some ⟨g, 0, none⟩) 1 1 ∧ Blk W g #[.string e.n, .int .i64 e.v, .int .u64 (e.k : Int), .int .i64 p] 31 }, { k := 8, uses := [3, 7], spends := [3, 7], later := [12], pure := fun u => ∃ a n c, u = .slice a n c, fact := fun u W => Po 4 31 W w9.heap.size u (knosC (out.take i ++ [⟨e, p⟩])) }, { k := 12, uses := [8, 3, 7], spends := [8, 3, 7], pure := fun u => ∃ a n c, u = .slice a n c, fact := fun u W => Po 4 31 W w9.heap.size u (knosC (out.take i ++ ⟨e, p⟩ :: out.drop i)) }] [] (by kernel_rfl) (by kernel_rfl) (by kernel_rfl) (by rfl) ?pures1 ((Kept.refl _ w9).drew) ?starts1 ?walk1
                          case pures1 =>
                            intro f hf
                            simp only [List.mem_cons, List.not_mem_nil, or_false] at hf
                            rcases hf with rfl | rfl | rfl | rfl
                            · exact ⟨_, none, 0, 0, rfl⟩
                            · exact ⟨_, 0, rfl⟩
                            · exact ⟨_, none, 0, 0, rfl⟩
                            · exact ⟨_, none, 0, 0, rfl⟩
                          case starts1 =>
                            intro k hk
                            cases hk
                          iterate 2 (refine wpPar_pure rfl (by rfl) _ (fun W hW => by
                              go_simp
                              exact rfl) ?_; simp only [Act.put, List.setIfInBounds_toArray, List.set_cons_zero, List.set_cons_succ])
                          refine wpPar_pure rfl (by rfl) (.slice aT i co) (fun W hW => by have q := HSL.out.1 W; go_simp) ?_; simp only [Act.put, List.setIfInBounds_toArray, List.set_cons_zero, List.set_cons_succ]
                          refine wpPar_adds rfl (by rfl) (fun W hW hd => ?_) (fun v3 hv => ?_)
                          · refine gives_append_po _ _ 23 rfl rtKnown (by decide) rfl rfl (Po.nil 4 31 W w9.heap.size) (HSL.out.2.1.kept hW (fun _ _ _ h => h)) (knosC_one _) (by rw [knosC_len]; have := HLN.out; simp; omega) hW.size ?_
                            intro a' n' c' W' hP kO o9
                            have kN : Kept None W W' := (Kept.refl None W).then kO (fun i hi h => by cases h)
                            have hP' : Po 4 31 W' w9.heap.size (.slice a' n' c') (knosC (out.take i)) := by simpa using hP
                            refine ⟨hW.then kN (fun _ _ h => h.elim), ⟨_, _, _, rfl⟩, hP', keeps_of fun f hf hs hl hne u hfu => ?_⟩
                            simp only [List.mem_cons, List.not_mem_nil, or_false] at hf
                            rcases hf with rfl | rfl | rfl | rfl
                            · exact absurd rfl hne
                            · (obtain ⟨g, e1, e3⟩ := hfu; exact ⟨g, e1, e3.kept kN (fun h => h)⟩)
                            · exact Po.kept hfu kN (fun _ _ h => h)
                            · exact Po.kept hfu kN (fun _ _ h => h)
                          obtain ⟨a3, n3, c3, rfl⟩ : ∃ a n c, v3 = .slice a n c := hv
                          simp only [Act.put, List.setIfInBounds_toArray, List.set_cons_zero, List.set_cons_succ]
                          refine wpPar_pure rfl (by rfl) _ (fun W hW => by first | exact exec_load_blk _ _ rfl rfl (E10.out.kept hW (fun h => h)) Up.aEnt | (go_simp; exact rfl)) ?_; simp only [Act.put, List.setIfInBounds_toArray, List.set_cons_zero, List.set_cons_succ]
                          iterate 2 (refine wpPar_pure rfl (by rfl) _ (fun W hW => by
                              go_simp
                              exact rfl) ?_; simp only [Act.put, List.setIfInBounds_toArray, List.set_cons_zero, List.set_cons_succ])
                          refine wpPar_adds rfl (by rfl) (fun W hW hd => ?_) (fun v7 hv => ?_)
                          · unfold Gives
                            rw [exec_one_item 23 (.tmp 124) rfl rtKnown (by decide) (A := #[.string e.n, .int .i64 e.v, .int .u64 (e.k : Int), .int .i64 p]) rfl rfl]
                            have kN : Kept None W (W.alloc (.cells #[.string e.n, .int .i64 e.v, .int .u64 (e.k : Int), .int .i64 p] 31)) := (Kept.refl None W).alloc _
                            refine ⟨hW.then kN (fun _ _ h => h.elim), ⟨_, rfl⟩, ⟨_, rfl, Blk.new _ _ _⟩, keeps_of fun f hf hs hl hne u hfu => ?_⟩
                            simp only [List.mem_cons, List.not_mem_nil, or_false] at hf
                            rcases hf with rfl | rfl | rfl | rfl
                            · exact Po.kept hfu kN (fun _ _ h => h)
                            · exact absurd rfl hne
                            · exact Po.kept hfu kN (fun _ _ h => h)
                            · exact Po.kept hfu kN (fun _ _ h => h)
                          obtain ⟨g7, rfl⟩ : ∃ g, v7 = .slice (some ⟨g, 0, none⟩) 1 1 := hv
                          simp only [Act.put, List.setIfInBounds_toArray, List.set_cons_zero, List.set_cons_succ]
                          refine wpPar_adds rfl (by rfl) (fun W hW hd => ?_) (fun v8 hv => ?_)
                          · have hO : Po 4 31 W w9.heap.size (.slice a3 n3 c3) (knosC (out.take i)) := hd 3 (List.Mem.head _)
                            obtain ⟨g, hgg, hg3⟩ : ∃ g, Value.slice (some ⟨g7, 0, none⟩) 1 1 = .slice (some ⟨g, 0, none⟩) 1 1 ∧ Blk W g #[.string e.n, .int .i64 e.v, .int .u64 (e.k : Int), .int .i64 p] 31 := hd 7 (List.Mem.tail _ (List.Mem.head _))
                            obtain rfl : g7 = g := by simpa using hgg
                            have hu : Ps 4 W 0 W.heap.size (.slice (some ⟨g7, 0, none⟩) 1 1) (knosC [⟨e, p⟩]) := ps_blk (x := knoC ⟨e, p⟩) hg3 rfl
                            refine gives_append_po _ _ 23 rfl rtKnown (by decide) rfl rfl hO hu (knosC_one _) (by rw [knosC_len, knosC_len]; have := HLN.out; simp; omega) hW.size ?_
                            intro a' n' c' W' hP kS o9
                            have kN : True := trivial
                            rw [← knosC_app] at hP
                            refine ⟨hW.then kS (fun i hi h => by have := (hO.own i h).1; omega), ⟨_, _, _, rfl⟩, hP, keeps_of fun f hf hs hl hne u hfu => ?_⟩
                            simp only [List.mem_cons, List.not_mem_nil, or_false] at hf
                            rcases hf with rfl | rfl | rfl | rfl
                            · exact absurd (List.Mem.head _) hs
                            · exact absurd (List.Mem.tail _ (List.Mem.head _)) hs
                            · exact absurd rfl hne
                            · exact absurd (List.Mem.head _) hl
                          obtain ⟨a8, n8, c8, rfl⟩ : ∃ a n c, v8 = .slice a n c := hv
                          simp only [Act.put, List.setIfInBounds_toArray, List.set_cons_zero, List.set_cons_succ]
                          iterate 2 (refine wpPar_pure rfl (by rfl) _ (fun W hW => by
                              go_simp
                              exact rfl) ?_; simp only [Act.put, List.setIfInBounds_toArray, List.set_cons_zero, List.set_cons_succ])
                          refine wpPar_pure rfl (by rfl) (.slice aD (no - i) (co - i)) (fun W hW => by have q := HSL.out.2.2.1 W; go_simp) ?_; simp only [Act.put, List.setIfInBounds_toArray, List.set_cons_zero, List.set_cons_succ]
                          refine wpPar_adds rfl (by rfl) (fun W hW hd => ?_) (fun v12 hv => ?_)
                          · have hO : Po 4 31 W w9.heap.size (.slice a8 n8 c8) (knosC (out.take i ++ [⟨e, p⟩])) := hd 8 (List.Mem.head _)
                            refine gives_append_po _ _ 23 rfl rtKnown (by decide) rfl rfl hO (HSL.out.2.2.2.kept hW (fun _ _ _ h => h)) (knosC_one _) (by rw [knosC_len, knosC_len, List.length_append]; have := HLN.out; simp; omega) hW.size ?_
                            intro a' n' c' W' hP kS o9
                            have kN : True := trivial
                            rw [← knosC_app, List.append_assoc, List.singleton_append] at hP
                            refine ⟨hW.then kS (fun i hi h => by have := (hO.own i h).1; omega), ⟨_, _, _, rfl⟩, hP, keeps_of fun f hf hs hl hne u hfu => ?_⟩
                            simp only [List.mem_cons, List.not_mem_nil, or_false] at hf
                            rcases hf with rfl | rfl | rfl | rfl
                            · exact absurd (List.Mem.tail _ (List.Mem.head _)) hs
                            · exact absurd (List.Mem.tail _ (List.Mem.tail _ (List.Mem.head _))) hs
                            · exact absurd (List.Mem.head _) hs
                            · exact absurd rfl hne
                          obtain ⟨a12, n12, c12, rfl⟩ : ∃ a n c, v12 = .slice a n c := hv
                          simp only [Act.put, List.setIfInBounds_toArray, List.set_cons_zero, List.set_cons_succ]
                          iterate 1 (refine wpPar_pure rfl (by rfl) _ (fun W hW => by
                              go_simp
                              exact rfl) ?_; simp only [Act.put, List.setIfInBounds_toArray, List.set_cons_zero, List.set_cons_succ])
                          refine wpPar_nil (fun W hW hG => ?_)
                          have bz : Po 4 31 W w9.heap.size (.slice a12 n12 c12) (knosC (out.take i ++ ⟨e, p⟩ :: out.drop i)) := hG 12
                          have HKW := hid (K10.out.trans hW)
                          have HOW : Hid (Ps 4 W w.heap.size W.heap.size (.slice a12 n12 c12) (knosC (insK out ⟨e, p⟩))) := hid (by
                            have h1 := (bz.ps (Nat.le_refl _)).wider K10.out.size (Nat.le_refl _)
                            unfold insK
                            rw [← HPL.out.2.2.2]
                            exact h1)
                          have HTW : Hid (addN l p b (j + 1) = some (insK out ⟨e, p⟩) ∧ (insK out ⟨e, p⟩).length ≤ n + (j + 1)) := hid ⟨HADD.out, by rw [insK_len]; have := HT.out.2; omega⟩
                          clear hG bz hW K10 E10 HSL
                          go_wp2
                          go_roundg (m - (j + 1))
                          case measure => omega
                          case rel => exact ⟨j + 1, insK out ⟨e, p⟩, _, _, _, by go_num, rfl, by omega, Nat.le_refl _, HKW, HOW, HTW⟩
                        · have HP := hid hp
                          clear hp
                          go_wp2_with fail
                          go_quiet (fail)
                          obtain ⟨w9, hw9⟩ : ∃ w9, w9 = wr.drewN nq := ⟨_, rfl⟩
                          have k9 : Kept None wr w9 := hw9 ▸ Kept.toDrewN _ _ _
                          rw [← hw9]
                          clear hw9 f0 f1 c0 c1
                          obtain rfl := HP.out
                          have hino : i ≤ no := by have := HPL.out.1; have := HNO.out; omega
                          have K10 := hid ((K9.out.trans HK4.out).trans k9)
                          have o10 := (O9.out.kept HK4.out (fun _ _ _ h => h)).kept k9 (fun _ _ _ h => h)
                          have E10 : Hid (Blk w9 eb #[.string e.n, .int .i64 e.v, .int .u64 (e.k : Int)] 29) := hid (by rw [HEB.out]; exact ((E3.out.kept HK4.out (fun h => h)).kept k9 (fun h => h)))
                          obtain ⟨aT, sT, pT⟩ := ps_to tKnown zKnown o10 .i64 i (by omega)
                          obtain ⟨aD, sD, pD⟩ := ps_from tKnown zKnown o10 .i64 i (by omega)
                          rw [← knosC_take] at pT
                          rw [← knosC_drop] at pD
                          have HSL := hid (And.intro sT (And.intro pT (And.intro sD pD)))
                          have HLN : Hid ((out.take i).length = i ∧ (out.drop i).length = no - i ∧ out.length ≤ 549755813888) := hid (by rw [List.length_take, List.length_drop]; have := HNO.out; have := HT.out.2; have := HN.out; omega)
                          clear o10 sT pT sD pD k9 HK4
                          go_wp2_with fail
                          refine wp_region_plan (Kept None w9) [{ k := 3, uses := [], pure := fun u => ∃ a n c, u = .slice a n c, fact := fun u W => Po 4 31 W w9.heap.size u (knosC (out.take i)) }, { k := 7, uses := [], pure := fun u => ∃ g, u = .slice (some ⟨g, 0, none⟩) 1 1, fact := fun u W => ∃ g, u = .slice (some ⟨g, 0, none⟩) 1 1 ∧ Blk W g #[.string e.n, .int .i64 e.v, .int .u64 (e.k : Int), .int .i64 p] 31 }, { k := 8, uses := [3, 7], spends := [3, 7], later := [12], pure := fun u => ∃ a n c, u = .slice a n c, fact := fun u W => Po 4 31 W w9.heap.size u (knosC (out.take i ++ [⟨e, p⟩])) }, { k := 12, uses := [8, 3, 7], spends := [8, 3, 7], pure := fun u => ∃ a n c, u = .slice a n c, fact := fun u W => Po 4 31 W w9.heap.size u (knosC (out.take i ++ ⟨e, p⟩ :: out.drop i)) }] [] (by kernel_rfl) (by kernel_rfl) (by kernel_rfl) (by rfl) ?pures2 ((Kept.refl _ w9).drew) ?starts2 ?walk2
                          case pures2 =>
                            intro f hf
                            simp only [List.mem_cons, List.not_mem_nil, or_false] at hf
                            rcases hf with rfl | rfl | rfl | rfl
                            · exact ⟨_, none, 0, 0, rfl⟩
                            · exact ⟨_, 0, rfl⟩
                            · exact ⟨_, none, 0, 0, rfl⟩
                            · exact ⟨_, none, 0, 0, rfl⟩
                          case starts2 =>
                            intro k hk
                            cases hk
                          iterate 2 (refine wpPar_pure rfl (by rfl) _ (fun W hW => by
                              go_simp
                              exact rfl) ?_; simp only [Act.put, List.setIfInBounds_toArray, List.set_cons_zero, List.set_cons_succ])
                          refine wpPar_pure rfl (by rfl) (.slice aT i co) (fun W hW => by have q := HSL.out.1 W; go_simp) ?_; simp only [Act.put, List.setIfInBounds_toArray, List.set_cons_zero, List.set_cons_succ]
                          refine wpPar_adds rfl (by rfl) (fun W hW hd => ?_) (fun v3 hv => ?_)
                          · refine gives_append_po _ _ 23 rfl rtKnown (by decide) rfl rfl (Po.nil 4 31 W w9.heap.size) (HSL.out.2.1.kept hW (fun _ _ _ h => h)) (knosC_one _) (by rw [knosC_len]; have := HLN.out; simp; omega) hW.size ?_
                            intro a' n' c' W' hP kO o9
                            have kN : Kept None W W' := (Kept.refl None W).then kO (fun i hi h => by cases h)
                            have hP' : Po 4 31 W' w9.heap.size (.slice a' n' c') (knosC (out.take i)) := by simpa using hP
                            refine ⟨hW.then kN (fun _ _ h => h.elim), ⟨_, _, _, rfl⟩, hP', keeps_of fun f hf hs hl hne u hfu => ?_⟩
                            simp only [List.mem_cons, List.not_mem_nil, or_false] at hf
                            rcases hf with rfl | rfl | rfl | rfl
                            · exact absurd rfl hne
                            · (obtain ⟨g, e1, e3⟩ := hfu; exact ⟨g, e1, e3.kept kN (fun h => h)⟩)
                            · exact Po.kept hfu kN (fun _ _ h => h)
                            · exact Po.kept hfu kN (fun _ _ h => h)
                          obtain ⟨a3, n3, c3, rfl⟩ : ∃ a n c, v3 = .slice a n c := hv
                          simp only [Act.put, List.setIfInBounds_toArray, List.set_cons_zero, List.set_cons_succ]
                          refine wpPar_pure rfl (by rfl) _ (fun W hW => by first | exact exec_load_blk _ _ rfl rfl (E10.out.kept hW (fun h => h)) Up.aEnt | (go_simp; exact rfl)) ?_; simp only [Act.put, List.setIfInBounds_toArray, List.set_cons_zero, List.set_cons_succ]
                          iterate 2 (refine wpPar_pure rfl (by rfl) _ (fun W hW => by
                              go_simp
                              exact rfl) ?_; simp only [Act.put, List.setIfInBounds_toArray, List.set_cons_zero, List.set_cons_succ])
                          refine wpPar_adds rfl (by rfl) (fun W hW hd => ?_) (fun v7 hv => ?_)
                          · unfold Gives
                            rw [exec_one_item 23 (.tmp 124) rfl rtKnown (by decide) (A := #[.string e.n, .int .i64 e.v, .int .u64 (e.k : Int), .int .i64 p]) rfl rfl]
                            have kN : Kept None W (W.alloc (.cells #[.string e.n, .int .i64 e.v, .int .u64 (e.k : Int), .int .i64 p] 31)) := (Kept.refl None W).alloc _
                            refine ⟨hW.then kN (fun _ _ h => h.elim), ⟨_, rfl⟩, ⟨_, rfl, Blk.new _ _ _⟩, keeps_of fun f hf hs hl hne u hfu => ?_⟩
                            simp only [List.mem_cons, List.not_mem_nil, or_false] at hf
                            rcases hf with rfl | rfl | rfl | rfl
                            · exact Po.kept hfu kN (fun _ _ h => h)
                            · exact absurd rfl hne
                            · exact Po.kept hfu kN (fun _ _ h => h)
                            · exact Po.kept hfu kN (fun _ _ h => h)
                          obtain ⟨g7, rfl⟩ : ∃ g, v7 = .slice (some ⟨g, 0, none⟩) 1 1 := hv
                          simp only [Act.put, List.setIfInBounds_toArray, List.set_cons_zero, List.set_cons_succ]
                          refine wpPar_adds rfl (by rfl) (fun W hW hd => ?_) (fun v8 hv => ?_)
                          · have hO : Po 4 31 W w9.heap.size (.slice a3 n3 c3) (knosC (out.take i)) := hd 3 (List.Mem.head _)
                            obtain ⟨g, hgg, hg3⟩ : ∃ g, Value.slice (some ⟨g7, 0, none⟩) 1 1 = .slice (some ⟨g, 0, none⟩) 1 1 ∧ Blk W g #[.string e.n, .int .i64 e.v, .int .u64 (e.k : Int), .int .i64 p] 31 := hd 7 (List.Mem.tail _ (List.Mem.head _))
                            obtain rfl : g7 = g := by simpa using hgg
                            have hu : Ps 4 W 0 W.heap.size (.slice (some ⟨g7, 0, none⟩) 1 1) (knosC [⟨e, p⟩]) := ps_blk (x := knoC ⟨e, p⟩) hg3 rfl
                            refine gives_append_po _ _ 23 rfl rtKnown (by decide) rfl rfl hO hu (knosC_one _) (by rw [knosC_len, knosC_len]; have := HLN.out; simp; omega) hW.size ?_
                            intro a' n' c' W' hP kS o9
                            have kN : True := trivial
                            rw [← knosC_app] at hP
                            refine ⟨hW.then kS (fun i hi h => by have := (hO.own i h).1; omega), ⟨_, _, _, rfl⟩, hP, keeps_of fun f hf hs hl hne u hfu => ?_⟩
                            simp only [List.mem_cons, List.not_mem_nil, or_false] at hf
                            rcases hf with rfl | rfl | rfl | rfl
                            · exact absurd (List.Mem.head _) hs
                            · exact absurd (List.Mem.tail _ (List.Mem.head _)) hs
                            · exact absurd rfl hne
                            · exact absurd (List.Mem.head _) hl
                          obtain ⟨a8, n8, c8, rfl⟩ : ∃ a n c, v8 = .slice a n c := hv
                          simp only [Act.put, List.setIfInBounds_toArray, List.set_cons_zero, List.set_cons_succ]
                          iterate 2 (refine wpPar_pure rfl (by rfl) _ (fun W hW => by
                              go_simp
                              exact rfl) ?_; simp only [Act.put, List.setIfInBounds_toArray, List.set_cons_zero, List.set_cons_succ])
                          refine wpPar_pure rfl (by rfl) (.slice aD (no - i) (co - i)) (fun W hW => by have q := HSL.out.2.2.1 W; go_simp) ?_; simp only [Act.put, List.setIfInBounds_toArray, List.set_cons_zero, List.set_cons_succ]
                          refine wpPar_adds rfl (by rfl) (fun W hW hd => ?_) (fun v12 hv => ?_)
                          · have hO : Po 4 31 W w9.heap.size (.slice a8 n8 c8) (knosC (out.take i ++ [⟨e, p⟩])) := hd 8 (List.Mem.head _)
                            refine gives_append_po _ _ 23 rfl rtKnown (by decide) rfl rfl hO (HSL.out.2.2.2.kept hW (fun _ _ _ h => h)) (knosC_one _) (by rw [knosC_len, knosC_len, List.length_append]; have := HLN.out; simp; omega) hW.size ?_
                            intro a' n' c' W' hP kS o9
                            have kN : True := trivial
                            rw [← knosC_app, List.append_assoc, List.singleton_append] at hP
                            refine ⟨hW.then kS (fun i hi h => by have := (hO.own i h).1; omega), ⟨_, _, _, rfl⟩, hP, keeps_of fun f hf hs hl hne u hfu => ?_⟩
                            simp only [List.mem_cons, List.not_mem_nil, or_false] at hf
                            rcases hf with rfl | rfl | rfl | rfl
                            · exact absurd (List.Mem.tail _ (List.Mem.head _)) hs
                            · exact absurd (List.Mem.tail _ (List.Mem.tail _ (List.Mem.head _))) hs
                            · exact absurd (List.Mem.head _) hs
                            · exact absurd rfl hne
                          obtain ⟨a12, n12, c12, rfl⟩ : ∃ a n c, v12 = .slice a n c := hv
                          simp only [Act.put, List.setIfInBounds_toArray, List.set_cons_zero, List.set_cons_succ]
                          iterate 1 (refine wpPar_pure rfl (by rfl) _ (fun W hW => by
                              go_simp
                              exact rfl) ?_; simp only [Act.put, List.setIfInBounds_toArray, List.set_cons_zero, List.set_cons_succ])
                          refine wpPar_nil (fun W hW hG => ?_)
                          have bz : Po 4 31 W w9.heap.size (.slice a12 n12 c12) (knosC (out.take i ++ ⟨e, p⟩ :: out.drop i)) := hG 12
                          have HKW := hid (K10.out.trans hW)
                          have HOW : Hid (Ps 4 W w.heap.size W.heap.size (.slice a12 n12 c12) (knosC (insK out ⟨e, p⟩))) := hid (by
                            have h1 := (bz.ps (Nat.le_refl _)).wider K10.out.size (Nat.le_refl _)
                            unfold insK
                            rw [← HPL.out.2.2.2]
                            exact h1)
                          have HTW : Hid (addN l p b (j + 1) = some (insK out ⟨e, p⟩) ∧ (insK out ⟨e, p⟩).length ≤ n + (j + 1)) := hid ⟨HADD.out, by rw [insK_len]; have := HT.out.2; omega⟩
                          clear hG bz hW K10 E10 HSL
                          go_wp2
                          go_roundg (m - (j + 1))
                          case measure => omega
                          case rel => exact ⟨j + 1, insK out ⟨e, p⟩, _, _, _, by go_num, rfl, by omega, Nat.le_refl _, HKW, HOW, HTW⟩
                      · have hzi : ¬ (i : Int) < (no : Int) := by omega
                        have hip : i = pl := by have := HPL.out.1; have := HNO.out; omega
                        have HIP := hid hip
                        clear hip he0
                        go_wp2_with fail
                        go_quiet (fail)
                        obtain ⟨w9, hw9⟩ : ∃ w9, w9 = wr.drewN nq := ⟨_, rfl⟩
                        have k9 : Kept None wr w9 := hw9 ▸ Kept.toDrewN _ _ _
                        rw [← hw9]
                        clear hw9 f0 f1
                        obtain rfl := HIP.out
                        have hino : i ≤ no := by have := HPL.out.1; have := HNO.out; omega
                        have K10 := hid ((K9.out.trans HK4.out).trans k9)
                        have o10 := (O9.out.kept HK4.out (fun _ _ _ h => h)).kept k9 (fun _ _ _ h => h)
                        have E10 : Hid (Blk w9 eb #[.string e.n, .int .i64 e.v, .int .u64 (e.k : Int)] 29) := hid (by rw [HEB.out]; exact ((E3.out.kept HK4.out (fun h => h)).kept k9 (fun h => h)))
                        obtain ⟨aT, sT, pT⟩ := ps_to tKnown zKnown o10 .i64 i (by omega)
                        obtain ⟨aD, sD, pD⟩ := ps_from tKnown zKnown o10 .i64 i (by omega)
                        rw [← knosC_take] at pT
                        rw [← knosC_drop] at pD
                        have HSL := hid (And.intro sT (And.intro pT (And.intro sD pD)))
                        have HLN : Hid ((out.take i).length = i ∧ (out.drop i).length = no - i ∧ out.length ≤ 549755813888) := hid (by rw [List.length_take, List.length_drop]; have := HNO.out; have := HT.out.2; have := HN.out; omega)
                        clear o10 sT pT sD pD k9 HK4
                        go_wp2_with fail
                        refine wp_region_plan (Kept None w9) [{ k := 3, uses := [], pure := fun u => ∃ a n c, u = .slice a n c, fact := fun u W => Po 4 31 W w9.heap.size u (knosC (out.take i)) }, { k := 7, uses := [], pure := fun u => ∃ g, u = .slice (some ⟨g, 0, none⟩) 1 1, fact := fun u W => ∃ g, u = .slice (some ⟨g, 0, none⟩) 1 1 ∧ Blk W g #[.string e.n, .int .i64 e.v, .int .u64 (e.k : Int), .int .i64 p] 31 }, { k := 8, uses := [3, 7], spends := [3, 7], later := [12], pure := fun u => ∃ a n c, u = .slice a n c, fact := fun u W => Po 4 31 W w9.heap.size u (knosC (out.take i ++ [⟨e, p⟩])) }, { k := 12, uses := [8, 3, 7], spends := [8, 3, 7], pure := fun u => ∃ a n c, u = .slice a n c, fact := fun u W => Po 4 31 W w9.heap.size u (knosC (out.take i ++ ⟨e, p⟩ :: out.drop i)) }] [] (by kernel_rfl) (by kernel_rfl) (by kernel_rfl) (by rfl) ?pures0 ((Kept.refl _ w9).drew) ?starts0 ?walk0
                        case pures0 =>
                          intro f hf
                          simp only [List.mem_cons, List.not_mem_nil, or_false] at hf
                          rcases hf with rfl | rfl | rfl | rfl
                          · exact ⟨_, none, 0, 0, rfl⟩
                          · exact ⟨_, 0, rfl⟩
                          · exact ⟨_, none, 0, 0, rfl⟩
                          · exact ⟨_, none, 0, 0, rfl⟩
                        case starts0 =>
                          intro k hk
                          cases hk
                        iterate 2 (refine wpPar_pure rfl (by rfl) _ (fun W hW => by
                            go_simp
                            exact rfl) ?_; simp only [Act.put, List.setIfInBounds_toArray, List.set_cons_zero, List.set_cons_succ])
                        refine wpPar_pure rfl (by rfl) (.slice aT i co) (fun W hW => by have q := HSL.out.1 W; go_simp) ?_; simp only [Act.put, List.setIfInBounds_toArray, List.set_cons_zero, List.set_cons_succ]
                        refine wpPar_adds rfl (by rfl) (fun W hW hd => ?_) (fun v3 hv => ?_)
                        · refine gives_append_po _ _ 23 rfl rtKnown (by decide) rfl rfl (Po.nil 4 31 W w9.heap.size) (HSL.out.2.1.kept hW (fun _ _ _ h => h)) (knosC_one _) (by rw [knosC_len]; have := HLN.out; simp; omega) hW.size ?_
                          intro a' n' c' W' hP kO o9
                          have kN : Kept None W W' := (Kept.refl None W).then kO (fun i hi h => by cases h)
                          have hP' : Po 4 31 W' w9.heap.size (.slice a' n' c') (knosC (out.take i)) := by simpa using hP
                          refine ⟨hW.then kN (fun _ _ h => h.elim), ⟨_, _, _, rfl⟩, hP', keeps_of fun f hf hs hl hne u hfu => ?_⟩
                          simp only [List.mem_cons, List.not_mem_nil, or_false] at hf
                          rcases hf with rfl | rfl | rfl | rfl
                          · exact absurd rfl hne
                          · (obtain ⟨g, e1, e3⟩ := hfu; exact ⟨g, e1, e3.kept kN (fun h => h)⟩)
                          · exact Po.kept hfu kN (fun _ _ h => h)
                          · exact Po.kept hfu kN (fun _ _ h => h)
                        obtain ⟨a3, n3, c3, rfl⟩ : ∃ a n c, v3 = .slice a n c := hv
                        simp only [Act.put, List.setIfInBounds_toArray, List.set_cons_zero, List.set_cons_succ]
                        refine wpPar_pure rfl (by rfl) _ (fun W hW => by first | exact exec_load_blk _ _ rfl rfl (E10.out.kept hW (fun h => h)) Up.aEnt | (go_simp; exact rfl)) ?_; simp only [Act.put, List.setIfInBounds_toArray, List.set_cons_zero, List.set_cons_succ]
                        iterate 2 (refine wpPar_pure rfl (by rfl) _ (fun W hW => by
                            go_simp
                            exact rfl) ?_; simp only [Act.put, List.setIfInBounds_toArray, List.set_cons_zero, List.set_cons_succ])
                        refine wpPar_adds rfl (by rfl) (fun W hW hd => ?_) (fun v7 hv => ?_)
                        · unfold Gives
                          rw [exec_one_item 23 (.tmp 124) rfl rtKnown (by decide) (A := #[.string e.n, .int .i64 e.v, .int .u64 (e.k : Int), .int .i64 p]) rfl rfl]
                          have kN : Kept None W (W.alloc (.cells #[.string e.n, .int .i64 e.v, .int .u64 (e.k : Int), .int .i64 p] 31)) := (Kept.refl None W).alloc _
                          refine ⟨hW.then kN (fun _ _ h => h.elim), ⟨_, rfl⟩, ⟨_, rfl, Blk.new _ _ _⟩, keeps_of fun f hf hs hl hne u hfu => ?_⟩
                          simp only [List.mem_cons, List.not_mem_nil, or_false] at hf
                          rcases hf with rfl | rfl | rfl | rfl
                          · exact Po.kept hfu kN (fun _ _ h => h)
                          · exact absurd rfl hne
                          · exact Po.kept hfu kN (fun _ _ h => h)
                          · exact Po.kept hfu kN (fun _ _ h => h)
                        obtain ⟨g7, rfl⟩ : ∃ g, v7 = .slice (some ⟨g, 0, none⟩) 1 1 := hv
                        simp only [Act.put, List.setIfInBounds_toArray, List.set_cons_zero, List.set_cons_succ]
                        refine wpPar_adds rfl (by rfl) (fun W hW hd => ?_) (fun v8 hv => ?_)
                        · have hO : Po 4 31 W w9.heap.size (.slice a3 n3 c3) (knosC (out.take i)) := hd 3 (List.Mem.head _)
                          obtain ⟨g, hgg, hg3⟩ : ∃ g, Value.slice (some ⟨g7, 0, none⟩) 1 1 = .slice (some ⟨g, 0, none⟩) 1 1 ∧ Blk W g #[.string e.n, .int .i64 e.v, .int .u64 (e.k : Int), .int .i64 p] 31 := hd 7 (List.Mem.tail _ (List.Mem.head _))
                          obtain rfl : g7 = g := by simpa using hgg
                          have hu : Ps 4 W 0 W.heap.size (.slice (some ⟨g7, 0, none⟩) 1 1) (knosC [⟨e, p⟩]) := ps_blk (x := knoC ⟨e, p⟩) hg3 rfl
                          refine gives_append_po _ _ 23 rfl rtKnown (by decide) rfl rfl hO hu (knosC_one _) (by rw [knosC_len, knosC_len]; have := HLN.out; simp; omega) hW.size ?_
                          intro a' n' c' W' hP kS o9
                          have kN : True := trivial
                          rw [← knosC_app] at hP
                          refine ⟨hW.then kS (fun i hi h => by have := (hO.own i h).1; omega), ⟨_, _, _, rfl⟩, hP, keeps_of fun f hf hs hl hne u hfu => ?_⟩
                          simp only [List.mem_cons, List.not_mem_nil, or_false] at hf
                          rcases hf with rfl | rfl | rfl | rfl
                          · exact absurd (List.Mem.head _) hs
                          · exact absurd (List.Mem.tail _ (List.Mem.head _)) hs
                          · exact absurd rfl hne
                          · exact absurd (List.Mem.head _) hl
                        obtain ⟨a8, n8, c8, rfl⟩ : ∃ a n c, v8 = .slice a n c := hv
                        simp only [Act.put, List.setIfInBounds_toArray, List.set_cons_zero, List.set_cons_succ]
                        iterate 2 (refine wpPar_pure rfl (by rfl) _ (fun W hW => by
                            go_simp
                            exact rfl) ?_; simp only [Act.put, List.setIfInBounds_toArray, List.set_cons_zero, List.set_cons_succ])
                        refine wpPar_pure rfl (by rfl) (.slice aD (no - i) (co - i)) (fun W hW => by have q := HSL.out.2.2.1 W; go_simp) ?_; simp only [Act.put, List.setIfInBounds_toArray, List.set_cons_zero, List.set_cons_succ]
                        refine wpPar_adds rfl (by rfl) (fun W hW hd => ?_) (fun v12 hv => ?_)
                        · have hO : Po 4 31 W w9.heap.size (.slice a8 n8 c8) (knosC (out.take i ++ [⟨e, p⟩])) := hd 8 (List.Mem.head _)
                          refine gives_append_po _ _ 23 rfl rtKnown (by decide) rfl rfl hO (HSL.out.2.2.2.kept hW (fun _ _ _ h => h)) (knosC_one _) (by rw [knosC_len, knosC_len, List.length_append]; have := HLN.out; simp; omega) hW.size ?_
                          intro a' n' c' W' hP kS o9
                          have kN : True := trivial
                          rw [← knosC_app, List.append_assoc, List.singleton_append] at hP
                          refine ⟨hW.then kS (fun i hi h => by have := (hO.own i h).1; omega), ⟨_, _, _, rfl⟩, hP, keeps_of fun f hf hs hl hne u hfu => ?_⟩
                          simp only [List.mem_cons, List.not_mem_nil, or_false] at hf
                          rcases hf with rfl | rfl | rfl | rfl
                          · exact absurd (List.Mem.tail _ (List.Mem.head _)) hs
                          · exact absurd (List.Mem.tail _ (List.Mem.tail _ (List.Mem.head _))) hs
                          · exact absurd (List.Mem.head _) hs
                          · exact absurd rfl hne
                        obtain ⟨a12, n12, c12, rfl⟩ : ∃ a n c, v12 = .slice a n c := hv
                        simp only [Act.put, List.setIfInBounds_toArray, List.set_cons_zero, List.set_cons_succ]
                        iterate 1 (refine wpPar_pure rfl (by rfl) _ (fun W hW => by
                            go_simp
                            exact rfl) ?_; simp only [Act.put, List.setIfInBounds_toArray, List.set_cons_zero, List.set_cons_succ])
                        refine wpPar_nil (fun W hW hG => ?_)
                        have bz : Po 4 31 W w9.heap.size (.slice a12 n12 c12) (knosC (out.take i ++ ⟨e, p⟩ :: out.drop i)) := hG 12
                        have HKW := hid (K10.out.trans hW)
                        have HOW : Hid (Ps 4 W w.heap.size W.heap.size (.slice a12 n12 c12) (knosC (insK out ⟨e, p⟩))) := hid (by
                          have h1 := (bz.ps (Nat.le_refl _)).wider K10.out.size (Nat.le_refl _)
                          unfold insK
                          rw [← HPL.out.2.2.2]
                          exact h1)
                        have HTW : Hid (addN l p b (j + 1) = some (insK out ⟨e, p⟩) ∧ (insK out ⟨e, p⟩).length ≤ n + (j + 1)) := hid ⟨HADD.out, by rw [insK_len]; have := HT.out.2; omega⟩
                        clear hG bz hW K10 E10 HSL
                        go_wp2
                        go_roundg (m - (j + 1))
                        case measure => omega
                        case rel => exact ⟨j + 1, insK out ⟨e, p⟩, _, _, _, by go_num, rfl, by omega, Nat.le_refl _, HKW, HOW, HTW⟩
              · have hb1 : (ev != xx) = true := by simpa using hvx
                have hb2 : (ev == xx) = false := by simpa using hvx
                have hq := HSTOP.out (by rw [HMAY.out, ← HXV.out.1, ← HXV.out.2.1, ← HXV.out.2.2, decide_eq_false hvx]; simp)
                have HQ2 := hid hq
                clear hq hvx
                go_wp2_with (first | go_skip | fail)
                go_ret2
                exact ⟨.slice a n cap, by rw [HQ2.out]; rfl, K7.out, by rw [HQ2.out]; exact HV.out.2 _ K7.out⟩
          · have hz : ¬ (k : Int) < (m : Int) := by omega
            obtain rfl : k = m := by omega
            have hq : RS = (out, true) := by
              have h1 := HT.out.1
              rw [HN.out.2.1] at h1
              rw [HQ.out, h1]
              rfl
            have HQ2 := hid hq
            clear hq
            go_wp2
            go_ret2
            exact ⟨.slice ao no co, by rw [HQ2.out]; rfl, HK.out, by rw [HQ2.out]; exact ⟨_, _, HO.out, .inr (Nat.le_refl _)⟩⟩
end R16
end Go.Proofs.Ytglibdggoobocaa
namespace Go.Proofs.Ytglibdggoobocaa
open Go.RowKit Go.Pm
namespace Es
set_option maxRecDepth 100000 in
set_option maxHeartbeats 2000000 in
/-- Name. -/
theorem name (x : Nat) (w : World) : Calls Try.prog 13 #[.int .u8 x] w fun e w' => ∃ s, e = .returned (.string s) ∧ 1 ≤ s.size ∧ s.size ≤ 32 ∧ Kept None w w' := by
  obtain ⟨t, ht⟩ : ∃ t, t = x % 6 := ⟨_, rfl⟩
  have m6 : (x : Int).tmod 6 = (t : Int) := by rw [ht]; rfl
  have n6 : (x : Int) % 6 = (t : Int) := by rw [ht]; rfl
  have hcs : t = 0 ∨ t = 1 ∨ t = 2 ∨ t = 3 ∨ t = 4 ∨ t = 5 := by omega
  clear ht
  have k1 : ∀ c, Kept None w (w.alloc c) := fun c => (Kept.refl _ _).alloc c
  have K1 := hid k1
  clear k1
  rcases hcs with rfl | rfl | rfl | rfl | rfl | rfl
  all_goals
    go_enter Try.func13, Try.ntmps13
    go_wp2
    go_ret
    exact ⟨_, rfl, by decide, by decide, K1.out _⟩
theorem ent3 (s : ByteArray) (v k : Int) : (#[Value.string s, .int .i64 v, .int .u64 k] : Array Value).all (·.oneCell') = true := by first | rfl | decide | simp [Value.oneCell']
theorem u64_nat (x : Int) : ∃ k : Nat, IntKind.u64.wrap x = (k : Int) ∧ k < 18446744073709551616 := ⟨(IntKind.u64.wrap x).toNat, by rw [IntKind.wrap_u64]; omega, by rw [IntKind.wrap_u64]; omega⟩
set_option maxRecDepth 100000 in
set_option maxHeartbeats 2000000 in
/-- Entry. -/
theorem entry (x : Nat) (v : Int) (w : World) : Calls Try.prog 14 #[.int .u8 x, .int .i64 v] w fun e w' => ∃ s, ∃ k : Nat, e = .returned (entV s v k) ∧ 1 ≤ s.size ∧ s.size ≤ 32 ∧ k < 18446744073709551616 ∧ Kept None w w' := by
  have k0 : Kept None w (w.alloc (.cells #[.string ⟨#[]⟩, .int .i64 0, .int .u64 0] 29)) := (Kept.refl _ _).alloc _
  have bE : Blk (w.alloc (.cells #[.string ⟨#[]⟩, .int .i64 0, .int .u64 0] 29)) w.heap.size #[.string ⟨#[]⟩, .int .i64 0, .int .u64 0] 29 := Blk.new w _ _
  obtain ⟨a1, h1, _⟩ := u64_nat v
  obtain ⟨a2, h2, _⟩ := u64_nat ((a1 : Int) * 1000)
  obtain ⟨a3, h3, _⟩ := u64_nat (x : Int)
  obtain ⟨a4, h4, _⟩ := u64_nat ((a2 : Int) + (a3 : Int))
  obtain ⟨K, h5, hK⟩ := u64_nat ((a4 : Int) + 1)
  have HK := hid hK
  clear hK
  go_enter Try.func14, Try.ntmps14
  go_wp2_with fail
  refine Calls.nm ?_
  intro w1 e1
  rw [← e1] at k0 bE
  clear e1
  refine (name x w1).mono ?_
  rintro e w2 ⟨s, rfl, s1, s2, k2⟩
  have k02 := k0.trans k2
  have b2 := bE.kept k2 (fun h => h)
  clear k0 k2 bE
  go_wp2_with (first | (refine wpList_store_blk rfl _ _ _ rfl rfl rfl b2 Up.aEnt rfl (ent3 s v K) ?_; intro w3 g3 k3) | fail)
  exact bodyPost_ret (v := entV s v K) (results_blk rfl _ rfl g3 Up.aEnt) rfl ⟨_, _, rfl, s1, s2, HK.out, k02.then k3 (fun i hi (h : i = w.heap.size) => by omega)⟩
set_option maxRecDepth 100000 in
set_option maxHeartbeats 2000000 in
/-- Entry, of a small version. -/
theorem entry_at (x v : Nat) (w : World) (hx : x < 256) (hv : v < 1000) : Calls Try.prog 14 #[.int .u8 x, .int .i64 v] w fun e w' => ∃ s, e = .returned (entV s v (v * 1000 + x + 1)) ∧ 1 ≤ s.size ∧ s.size ≤ 32 ∧ Kept None w w' := by
  have k0 : Kept None w (w.alloc (.cells #[.string ⟨#[]⟩, .int .i64 0, .int .u64 0] 29)) := (Kept.refl _ _).alloc _
  have bE : Blk (w.alloc (.cells #[.string ⟨#[]⟩, .int .i64 0, .int .u64 0] 29)) w.heap.size #[.string ⟨#[]⟩, .int .i64 0, .int .u64 0] 29 := Blk.new w _ _
  obtain ⟨K, hK⟩ : ∃ K : Nat, K = v * 1000 + x + 1 := ⟨_, rfl⟩
  have w1 : IntKind.u64.wrap (v : Int) = (v : Int) := by rw [IntKind.wrap_u64]; omega
  have w2 : IntKind.u64.wrap ((v : Int) * 1000) = (v : Int) * 1000 := by rw [IntKind.wrap_u64]; omega
  have w3 : IntKind.u64.wrap (x : Int) = (x : Int) := by rw [IntKind.wrap_u64]; omega
  have w4 : IntKind.u64.wrap ((v : Int) * 1000 + (x : Int)) = (v : Int) * 1000 + (x : Int) := by rw [IntKind.wrap_u64]; omega
  have w5 : IntKind.u64.wrap ((v : Int) * 1000 + (x : Int) + 1) = (K : Int) := by rw [IntKind.wrap_u64]; omega
  rw [← hK]
  clear hK
  go_enter Try.func14, Try.ntmps14
  go_wp2_with fail
  refine Calls.nm ?_
  intro wa ea
  rw [← ea] at k0 bE
  clear ea
  refine (name x wa).mono ?_
  rintro e wb ⟨s, rfl, s1, s2, k2⟩
  have k02 := k0.trans k2
  have b2 := bE.kept k2 (fun h => h)
  clear k0 k2 bE
  go_wp2_with (first | (refine wpList_store_blk rfl _ _ _ rfl rfl rfl b2 Up.aEnt rfl (ent3 s v K) ?_; intro wc h3 k3) | fail)
  exact bodyPost_ret (v := entV s v K) (results_blk rfl _ rfl h3 Up.aEnt) rfl ⟨_, rfl, s1, s2, k02.then k3 (fun i hi (h : i = w.heap.size) => by omega)⟩
end Es
end Go.Proofs.Ytglibdggoobocaa
namespace Go.Pm
open Go Go.RowKit
def sixN : List ByteArray := [⟨#[97]⟩, ⟨#[98]⟩, ⟨#[97, 110, 110]⟩, ⟨#[98, 111, 98]⟩, ⟨#[195, 169]⟩, ⟨#[48, 49, 50, 51, 52, 53, 54, 55, 56, 57, 48, 49, 50, 51, 52, 53, 54, 55, 56, 57, 48, 49, 50, 51, 52, 53, 54, 55, 56, 57, 48, 122]⟩]
theorem six_size : ∀ s ∈ sixN, 1 ≤ s.size ∧ s.size ≤ 32 := by decide
end Go.Pm
namespace Go.Proofs.Ytglibdggoobocaa
open Go.RowKit Go.Pm
namespace Es
set_option maxRecDepth 100000 in
set_option maxHeartbeats 2000000 in
/-- Name. -/
theorem name6 (x : Nat) (w : World) : Calls Try.prog 13 #[.int .u8 x] w fun e w' => ∃ s, e = .returned (.string s) ∧ s ∈ sixN ∧ Kept None w w' := by
  obtain ⟨t, ht⟩ : ∃ t, t = x % 6 := ⟨_, rfl⟩
  have m6 : (x : Int).tmod 6 = (t : Int) := by rw [ht]; rfl
  have n6 : (x : Int) % 6 = (t : Int) := by rw [ht]; rfl
  have hcs : t = 0 ∨ t = 1 ∨ t = 2 ∨ t = 3 ∨ t = 4 ∨ t = 5 := by omega
  clear ht
  have k1 : ∀ c, Kept None w (w.alloc c) := fun c => (Kept.refl _ _).alloc c
  have K1 := hid k1
  clear k1
  rcases hcs with rfl | rfl | rfl | rfl | rfl | rfl
  all_goals
    go_enter Try.func13, Try.ntmps13
    go_wp2
    go_ret
    exact ⟨_, rfl, by simp [sixN], K1.out _⟩
set_option maxRecDepth 100000 in
set_option maxHeartbeats 2000000 in
/-- Entry. -/
theorem entry6 (x : Nat) (v : Int) (w : World) : Calls Try.prog 14 #[.int .u8 x, .int .i64 v] w fun e w' => ∃ s, ∃ k : Nat, e = .returned (entV s v k) ∧ s ∈ sixN ∧ k < 18446744073709551616 ∧ Kept None w w' := by
  have k0 : Kept None w (w.alloc (.cells #[.string ⟨#[]⟩, .int .i64 0, .int .u64 0] 29)) := (Kept.refl _ _).alloc _
  have bE : Blk (w.alloc (.cells #[.string ⟨#[]⟩, .int .i64 0, .int .u64 0] 29)) w.heap.size #[.string ⟨#[]⟩, .int .i64 0, .int .u64 0] 29 := Blk.new w _ _
  obtain ⟨a1, h1, _⟩ := u64_nat v
  obtain ⟨a2, h2, _⟩ := u64_nat ((a1 : Int) * 1000)
  obtain ⟨a3, h3, _⟩ := u64_nat (x : Int)
  obtain ⟨a4, h4, _⟩ := u64_nat ((a2 : Int) + (a3 : Int))
  obtain ⟨K, h5, hK⟩ := u64_nat ((a4 : Int) + 1)
  have HK := hid hK
  clear hK
  go_enter Try.func14, Try.ntmps14
  go_wp2_with fail
  refine Calls.nm ?_
  intro w1 e1
  rw [← e1] at k0 bE
  clear e1
  refine (name6 x w1).mono ?_
  rintro e w2 ⟨s, rfl, s1, k2⟩
  have k02 := k0.trans k2
  have b2 := bE.kept k2 (fun h => h)
  clear k0 k2 bE
  go_wp2_with (first | (refine wpList_store_blk rfl _ _ _ rfl rfl rfl b2 Up.aEnt rfl (ent3 s v K) ?_; intro w3 g3 k3) | fail)
  exact bodyPost_ret (v := entV s v K) (results_blk rfl _ rfl g3 Up.aEnt) rfl ⟨_, _, rfl, s1, HK.out, k02.then k3 (fun i hi (h : i = w.heap.size) => by omega)⟩
end Es
end Go.Proofs.Ytglibdggoobocaa
namespace Go.Pm
open Go Go.RowKit
/-- A row of what is known that lies apart of an own row's block. -/
def DRow (w : World) (vb vd : Value) (d : List Kno) : Prop := ∃ lo hi, Ps 4 w lo hi vd (knosC d) ∧ (∀ q, vb.ownBlock = some q → q < lo ∨ hi ≤ q) ∧ hi ≤ w.heap.size
theorem DRow.kept {w w2 : World} {vb vd : Value} {d : List Kno} (h : DRow w vb vd d) (hk : Kept None w w2) : DRow w2 vb vd d := by
  obtain ⟨lo, hi, h1, h2, h3⟩ := h
  exact ⟨lo, hi, h1.kept hk (fun _ _ _ h => h), h2, Nat.le_trans h3 hk.size⟩
/-- Of a directory that the seat makes. -/
structure DirOk (d : List Kno) (p : Int) : Prop where
  rt : RtK d
  ok : KOk d
  six : ∀ x ∈ d, x.e.n ∈ sixN
  lt : ∀ x ∈ d, x.p < p
def EntSix (b : List Ent) : Prop := ∀ e ∈ b, e.Ok ∧ e.n ∈ sixN
theorem EntSix.ok {b : List Ent} (h : EntSix b) : EOk b := fun e he => (h e he).1
theorem EntSix.snoc {b : List Ent} {e : Ent} (h : EntSix b) (he : e.Ok ∧ e.n ∈ sixN) : EntSix (b ++ [e]) := fun x hx => by
  rcases List.mem_append.1 hx with q | q
  · exact h x q
  · rw [List.mem_singleton.1 q]
    exact he
theorem DirOk.nil : DirOk [] 1 := ⟨⟨(fun _ h => by cases h), List.Pairwise.nil, fun _ h => by cases h⟩, (fun _ h => by cases h), (fun _ h => by cases h), fun _ h => by cases h⟩
theorem DirOk.add {d : List Kno} {p : Nat} {b : List Ent} (h : DirOk d p) (hb : EntSix b) : DirOk (addF d p b).1 ((p + 1 : Nat) : Int) ∧ (addF d p b).1.length ≤ d.length + b.length := by
  cases hc : (addF d p b).2 with
  | false =>
    rw [addF_no hc]
    exact ⟨⟨h.rt, h.ok, h.six, fun x hx => by have := h.lt x hx; omega⟩, Nat.le_add_right _ _⟩
  | true =>
    have a := addF_yes hc
    refine ⟨⟨a.right h.rt, (addF_ok h.ok hb.ok).1, fun x hx => ?_, fun x hx => ?_⟩, (addF_ok h.ok hb.ok).2⟩
    · rcases (a.mem x).1 hx with ⟨e, he, rfl⟩ | q
      · exact (hb e he).2
      · exact h.six x q
    · rcases (a.mem x).1 hx with ⟨e, he, rfl⟩ | q
      · show (p : Int) < ((p + 1 : Nat) : Int)
        omega
      · have := h.lt x q
        omega
structure DirSt (ET : TypeId) (w wr : World) (vb vd : Value) (d : List Kno) (b : List Ent) (p i : Nat) : Prop where
  k : Kept None w wr
  row : DRow wr vb vd d
  po : Po 3 ET wr w.heap.size vb (entsC b)
  ok : DirOk d p
  ents : EntSix b
  len : d.length + b.length ≤ i
  pp : 1 ≤ p ∧ p ≤ i + 1
theorem DirSt.zero (ET : TypeId) (w : World) : DirSt ET w w (.slice none 0 0) (.slice none 0 0) [] [] 1 0 :=
  ⟨Kept.refl _ _, ⟨0, 0, Ps.nil .., (fun _ _ => .inr (Nat.zero_le _)), Nat.zero_le _⟩, Po.nil .., DirOk.nil, (fun _ h => by cases h), Nat.le_refl _, by omega⟩
theorem DirSt.kept {ET : TypeId} {w wr w2 : World} {vb vd : Value} {d : List Kno} {b : List Ent} {p i : Nat} (h : DirSt ET w wr vb vd d b p i) (hk : Kept None wr w2) : DirSt ET w w2 vb vd d b p i :=
  ⟨h.k.trans hk, h.row.kept hk, h.po.kept hk (fun _ _ h => h), h.ok, h.ents, h.len, h.pp⟩
/-- One more in the batch. -/
theorem DirSt.push {ET : TypeId} {w wr W : World} {vb vb' vd : Value} {d : List Kno} {b : List Ent} {e : Ent} {p i : Nat} (h : DirSt ET w wr vb vd d b p i) (hk : Kept (fun q => vb.ownBlock = some q) wr W) (he : e.Ok ∧ e.n ∈ sixN) (hp : Po 3 ET W w.heap.size vb' (entsC (b ++ [e]))) (ho : ∀ q, vb'.ownBlock = some q → vb.ownBlock = some q ∨ wr.heap.size ≤ q) : DirSt ET w W vb' vd d (b ++ [e]) p (i + 1) := by
  obtain ⟨lo, hi, h1, h2, h3⟩ := h.row
  have hz := hk.size
  refine ⟨h.k.then hk (fun q hq h4 => by have := (h.po.own q h4).1; omega), ⟨lo, hi, h1.kept hk (fun q q1 q2 h4 => by have := h2 q h4; omega), fun q hq => ?_, by omega⟩, hp, h.ok, h.ents.snoc he, by have := h.len; simp; omega, by have := h.pp; omega⟩
  rcases ho q hq with g | g
  · exact h2 q g
  · exact .inr (by omega)
/-- What Add tells, behind it. -/
theorem DirSt.add {ET : TypeId} {w wr W : World} {vb vd r : Value} {d : List Kno} {b o : List Ent} {p i lo hi : Nat} (h : DirSt ET w wr vb vd d b p i) (hk : Kept None wr W) (ho : EntSix o) (hl : o.length ≤ b.length) (hr : Off 4 wr lo hi W r (knosC (addF d p o).1)) (hpp : p ≤ i) : DirSt ET w W (.slice none 0 0) r (addF d p o).1 [] (p + 1) i := by
  obtain ⟨a1, a2⟩ := h.ok.add ho
  refine ⟨h.k.trans hk, ⟨0, W.heap.size, hr.ps, (fun q hq => by simp [Value.ownBlock] at hq), Nat.le_refl _⟩, Po.nil .., a1, (fun _ h => by cases h), by have := h.len; simp; omega, by have := h.pp; omega⟩
end Go.Pm
namespace Go.Proofs.Ytglibdggoobocaa
open Go.RowKit Go.Pm
namespace Es
theorem rtEnt16 : RowTyK Try.prog 24 29 (.agg #[.string ⟨#[]⟩, .int .i64 0, .int .u64 0]) 3 32 := Hk.rtyK (by kernel_rfl) (by kernel_rfl) (by rfl) (by decide)
theorem aEnt16 : AggTy Try.prog 29 3 := Sg.AggTy.of (by kernel_rfl) (by kernel_rfl)
set_option maxRecDepth 100000 in
set_option maxHeartbeats 16000000 in
/-- Directory. -/
theorem directory (v : Value) (lo hi : Nat) (l : List UInt8) (w : World) (hv : Bs w lo hi v l) (hl : l.length ≤ 1000) :
    Calls Try.prog 9 #[v] w fun e w' => ∃ u d, e = .returned u ∧ Kept None w w' ∧ Ps 4 w' 0 w'.heap.size u (knosC d) ∧ DirOk d ((l.length + 1 : Nat) : Int) ∧ d.length ≤ l.length := by
  obtain ⟨a, cap, rfl, q1, q2, q3⟩ := hv.shape
  obtain ⟨N, hN⟩ : ∃ n, n = l.length := ⟨_, rfl⟩
  rw [← hN] at hv hl q1 ⊢
  have HV := hid (And.intro hv hN)
  have HS0 := hid (DirSt.zero 29 w)
  have HL0 := hid hl
  clear hv hN q3
  go_enter Try.func9, Try.ntmps9
  go_wp2
  go_loopg [3, 4, 5, 6] N (fun kx s3 s4 s5 s6 wr => ∃ (i p : Nat) (ad : Option Addr) (nd cd : Nat) (ab : Option Addr) (nb cb : Nat) (d : List Kno) (b : List Ent), s6 = .int .i64 i ∧ s4 = .int .i64 p ∧ s3 = .slice ad nd cd ∧ s5 = .slice ab nb cb ∧ i ≤ N ∧ N - i ≤ kx ∧ Hid (DirSt 29 w wr (.slice ab nb cb) (.slice ad nd cd) d b p i))
  case atStart => exact ⟨0, 1, none, 0, 0, none, 0, 0, [], [], rfl, rfl, rfl, rfl, Nat.zero_le _, Nat.le_refl _, HS0⟩
  case round =>
    obtain ⟨i, p, ad, nd, cd, ab, nb, cb, d, b, rfl, rfl, rfl, rfl, hiN, hkx, HST⟩ := hrel
    by_cases hlt : i < N
    · have hz : (i : Int) < (N : Int) := by omega
      have wi : IntKind.i64.wrap ((i : Int) + 1) = (i : Int) + 1 := by rw [IntKind.wrap_i64]; have := HL0.out; omega
      have HL := hid (show i < 1000 by have := HL0.out; omega)
      obtain ⟨bb, oo, qa, _, _, hbb, hc⟩ := HV.out.1.ne (by have := HV.out.2; omega)
      obtain rfl := qa
      have cw := hc i (by have := HV.out.2; omega)
      obtain ⟨x, hx, hx256⟩ : ∃ x : Nat, bAt l i = (x : Int) ∧ x < 256 := ⟨(bAt l i).toNat, by have := bAt_ge l i; omega, by have := bAt_lt l i; omega⟩
      rw [hx] at cw
      have HX := hid hx256
      have HC0 : Hid (∀ W, Kept None w W → W.cell? ⟨bb, oo + i, none⟩ = some (.int .u8 (x : Int))) := hid (fun W hW => (hW.cell (p := ⟨bb, oo + i, none⟩) hbb (fun h => h)).trans cw)
      have c0 := HC0.out wr HST.out.k
      have HBB := hid hbb
      clear hc hx hx256 hbb cw
      go_wp2_with fail
      refine (name6 x _).mono ?_
      rintro e w3 ⟨nm, rfl, _, k3⟩
      have K3 := hid k3
      obtain ⟨lo2, hi2, pk, _, _⟩ := (HST.out.row.kept k3)
      have hLat := R16.latest (.slice ad nd cd) lo2 hi2 d nm w3 pk (by have := HST.out.len; have := HL.out; omega)
      obtain ⟨X, hX⟩ : ∃ X, X = latF d nm := ⟨_, rfl⟩
      rw [← hX] at hLat
      have HLA := hid hLat
      clear k3 pk hLat hX c0
      go_wp2_with fail
      refine HLA.out.mono ?_
      rintro e w4 ⟨rfl, k4⟩
      have K4 := hid (K3.out.trans k4)
      have c4 := HC0.out w4 (HST.out.k.trans K4.out)
      have kA : Kept None w4 (w4.alloc (.cells #[.string X.1.e.n, .int .i64 X.1.e.v, .int .u64 (X.1.e.k : Int), .int .i64 X.1.p] 31)) := (Kept.refl _ _).alloc _
      have K5 := hid (K4.out.trans kA)
      have x5 : Blk (w4.alloc (.cells #[.string X.1.e.n, .int .i64 X.1.e.v, .int .u64 (X.1.e.k : Int), .int .i64 X.1.p] 31)) w4.heap.size #[.string X.1.e.n, .int .i64 X.1.e.v, .int .u64 (X.1.e.k : Int), .int .i64 X.1.p] 31 := Blk.new _ _ _
      have X5 := hid x5
      have L5 : Hid (∀ q, (Value.slice ab nb cb).ownBlock = some q → w.heap.size ≤ q ∧ q < w4.heap.size) := hid ((HST.out.po.kept K4.out (fun _ _ h => h)).own)
      clear k4 kA x5 K3 K4
      go_upto_region 8 with fail
      obtain ⟨w9, hw9⟩ : ∃ W, W = w4.alloc (.cells #[.string X.1.e.n, .int .i64 X.1.e.v, .int .u64 (X.1.e.k : Int), .int .i64 X.1.p] 31) := ⟨_, rfl⟩
      rw [← hw9] at K5 X5 ⊢
      clear hw9 c4
      obtain ⟨VV, hVV⟩ : ∃ z, z = IntKind.i64.wrap (X.1.e.v + 1) := ⟨_, rfl⟩
      have HVV := hid hVV.symm
      obtain ⟨g5, hg5⟩ : ∃ g, g = w4.heap.size := ⟨_, rfl⟩
      rw [← hg5] at X5 L5 ⊢
      have HS9 := hid (HST.out.kept K5.out)
      have C9 : w9.cell? ⟨bb, oo + i, none⟩ = some (.int .u8 (x : Int)) := HC0.out w9 HS9.out.k
      have HB9 : Hid (∀ q, (Value.slice ab nb cb).ownBlock = some q → q ≠ bb) := hid (fun q h => by have := (HS9.out.po.own q h).1; have := HBB.out; omega)
      have HBY := hid (fun W (hW : Kept (fun q => (Value.slice ab nb cb).ownBlock = some q) w9 W) => (hW.cell (p := ⟨bb, oo + i, none⟩) (Nat.lt_of_lt_of_le HBB.out HS9.out.k.size) (fun h => HB9.out bb h rfl)).trans C9)
      have HC := hid (fun W (hW : Kept (fun q => (Value.slice ab nb cb).ownBlock = some q) w9 W) => ((X5.out.kept hW (fun h => by have := (L5.out _ h).2; omega)).cell 1).trans (show _ = some (Value.int .i64 X.1.e.v) from rfl))
      have HBL := hid (show b.length ≤ 1000 by have := HST.out.len; have := HL.out; omega)
      have HZ9 := hid HS9.out.k.size
      clear hVV hg5 C9
      refine wp_region_plan (Kept (fun q => (Value.slice ab nb cb).ownBlock = some q) w9) [{ k := 9, uses := [], pure := fun u => ∃ s, ∃ k : Nat, u = entV s VV k ∧ s ∈ sixN ∧ k < 18446744073709551616 }, { k := 10, uses := [], pure := fun u => ∃ g, u = .slice (some ⟨g, 0, none⟩) 1 1, fact := fun u W => ∃ g, u = .slice (some ⟨g, 0, none⟩) 1 1 ∧ ∃ e : Ent, (e.Ok ∧ e.n ∈ sixN) ∧ Blk W g (entC e).toArray 29 }, { k := 11, uses := [10, 100], spends := [10, 100], pure := fun u => ∃ a n c, u = .slice a n c, fact := fun u W => ∃ e : Ent, (e.Ok ∧ e.n ∈ sixN) ∧ Po 3 29 W w.heap.size u (entsC (b ++ [e])) ∧ ∀ q, u.ownBlock = some q → (Value.slice ab nb cb).ownBlock = some q ∨ w9.heap.size ≤ q }, { k := 100, uses := [], fact := fun u W => Po 3 29 W w.heap.size (.slice ab nb cb) (entsC b) }] [100] (by kernel_rfl) (by kernel_rfl) (by kernel_rfl) (by rfl) ?pures ((Kept.refl _ w9).drew) ?starts ?walk
      case pures =>
        intro f hf
        simp only [List.mem_cons, List.not_mem_nil, or_false] at hf
        rcases hf with rfl | rfl | rfl | rfl
        · exact ⟨_, ⟨#[97]⟩, 0, rfl, by simp [sixN], by decide⟩
        · exact ⟨_, 0, rfl⟩
        · exact ⟨_, none, 0, 0, rfl⟩
        · exact ⟨undef, trivial⟩
      case starts =>
        intro k hk
        have hk : k = 100 := by simpa using hk
        subst hk
        exact HS9.out.po.kept ((Kept.refl None w9).drew) (fun _ _ h => h)
      iterate 9 (refine wpPar_pure rfl (by rfl) _ (fun W hW => by
          have b1 := HBY.out W hW
          have c1 := HC.out W hW
          have q := HVV.out
          go_simp
          exact rfl) ?_; simp only [Act.put, List.setIfInBounds_toArray, List.set_cons_zero, List.set_cons_succ])
      refine wpPar_adds rfl (by rfl) (fun W hW hd => ?_) (fun v11 hv => ?_)
      · unfold Gives
        have q := HVV.out
        have c1 := HC.out W hW
        go_simp
        refine gives_call (entry6 x VV W) ?_
        rintro e w3 ⟨s, k, rfl, s2, hk64, kN⟩
        refine ⟨_, rfl, hW.then kN (fun _ _ h => h.elim), ⟨s, k, rfl, s2, hk64⟩, trivial, keeps_of fun f hf hs hl hne u hfu => ?_⟩
        simp only [List.mem_cons, List.not_mem_nil, or_false] at hf
        rcases hf with rfl | rfl | rfl | rfl
        · exact absurd rfl hne
        · (obtain ⟨g, e1, e2, e3, e4⟩ := hfu; exact ⟨g, e1, e2, e3, e4.kept kN (fun h => h)⟩)
        · (obtain ⟨e, e1, e2, e3⟩ := hfu; exact ⟨e, e1, e2.kept kN (fun _ _ h => h), e3⟩)
        · exact Po.kept hfu kN (fun _ _ h => h)
      obtain ⟨s11, k11, rfl, q11, r11⟩ : ∃ s, ∃ k : Nat, v11 = entV s VV k ∧ s ∈ sixN ∧ k < 18446744073709551616 := hv
      simp only [Act.put, List.setIfInBounds_toArray, List.set_cons_zero, List.set_cons_succ]
      refine wpPar_adds rfl (by rfl) (fun W hW hd => ?_) (fun v12 hv => ?_)
      · unfold Gives
        rw [exec_one_item 24 (.tmp 38) rfl rtEnt16 (by decide) (A := #[.string s11, .int .i64 VV, .int .u64 (k11 : Int)]) rfl rfl]
        have kN : Kept None W (W.alloc (.cells #[.string s11, .int .i64 VV, .int .u64 (k11 : Int)] 29)) := (Kept.refl None W).alloc _
        refine ⟨hW.then kN (fun _ _ h => h.elim), ⟨_, rfl⟩, ⟨_, rfl, ⟨s11, VV, k11⟩, ⟨⟨by have := six_size s11 q11; show s11.size ≤ _; omega, r11⟩, q11⟩, Blk.new _ _ _⟩, keeps_of fun f hf hs hl hne u hfu => ?_⟩
        simp only [List.mem_cons, List.not_mem_nil, or_false] at hf
        rcases hf with rfl | rfl | rfl | rfl
        · exact hfu
        · exact absurd rfl hne
        · (obtain ⟨e, e1, e2, e3⟩ := hfu; exact ⟨e, e1, e2.kept kN (fun _ _ h => h), e3⟩)
        · exact Po.kept hfu kN (fun _ _ h => h)
      obtain ⟨g12, rfl⟩ : ∃ g, v12 = .slice (some ⟨g, 0, none⟩) 1 1 := hv
      simp only [Act.put, List.setIfInBounds_toArray, List.set_cons_zero, List.set_cons_succ]
      refine wpPar_adds rfl (by rfl) (fun W hW hd => ?_) (fun v13 hv => ?_)
      · have hO : Po 3 29 W w.heap.size (.slice ab nb cb) (entsC b) := hd 100 (List.Mem.tail _ (List.Mem.head _))
        obtain ⟨g, hgg, e, he, hg3⟩ : ∃ g, Value.slice (some ⟨g12, 0, none⟩) 1 1 = .slice (some ⟨g, 0, none⟩) 1 1 ∧ ∃ e : Ent, (e.Ok ∧ e.n ∈ sixN) ∧ Blk W g (entC e).toArray 29 := hd 10 (List.Mem.head _)
        obtain rfl : g12 = g := by simpa using hgg
        have hu : Ps 3 W 0 W.heap.size (.slice (some ⟨g12, 0, none⟩) 1 1) (entsC [e]) := R16.ps_blk (x := entC e) hg3 rfl
        refine gives_append_po _ _ 24 rfl rtEnt16 (by decide) rfl rfl hO hu (entsC_one _) (by rw [entsC_len, entsC_len]; have := HBL.out; simp; omega) (Nat.le_trans HZ9.out hW.size) ?_
        intro a' n' c' W' hP kS o9
        have kN : True := trivial
        rw [← entsC_app] at hP
        have hz9 := hW.size
        refine ⟨hW.then kS (fun i hi h => h), ⟨_, _, _, rfl⟩, ⟨e, he, hP, fun q hq => by rcases o9 q hq with g | g; exact .inl g; exact .inr (by omega)⟩, keeps_of fun f hf hs hl hne u hfu => ?_⟩
        simp only [List.mem_cons, List.not_mem_nil, or_false] at hf
        rcases hf with rfl | rfl | rfl | rfl
        · exact hfu
        · exact absurd (List.Mem.head _) hs
        · exact absurd rfl hne
        · exact absurd (List.Mem.tail _ (List.Mem.head _)) hs
      obtain ⟨a13, n13, c13, rfl⟩ : ∃ a n c, v13 = .slice a n c := hv
      simp only [Act.put, List.setIfInBounds_toArray, List.set_cons_zero, List.set_cons_succ]
      iterate 1 (refine wpPar_pure rfl (by rfl) _ (fun W hW => by
          have b1 := HBY.out W hW
          have c1 := HC.out W hW
          have q := HVV.out
          go_simp
          exact rfl) ?_; simp only [Act.put, List.setIfInBounds_toArray, List.set_cons_zero, List.set_cons_succ])
      refine wpPar_nil (fun W hW hG => ?_)
      obtain ⟨en, hen, bz, oz⟩ : ∃ e : Ent, (e.Ok ∧ e.n ∈ sixN) ∧ Po 3 29 W w.heap.size (.slice a13 n13 c13) (entsC (b ++ [e])) ∧ ∀ q, (Value.slice a13 n13 c13).ownBlock = some q → (Value.slice ab nb cb).ownBlock = some q ∨ w9.heap.size ≤ q := hG 11
      have HSW := hid (HS9.out.push hW hen bz oz)
      have KW : Hid (Kept None w W) := hid HSW.out.k
      clear hG bz oz hW hen X5 L5 HBY HC HLA HS9 HZ9 HVV HB9
      obtain ⟨b2, hb2⟩ : ∃ z, z = b ++ [en] := ⟨_, rfl⟩
      rw [← hb2] at HSW
      have hn13 : n13 = b2.length := by
        obtain ⟨_, _, q3⟩ := HSW.out.po.form
        rw [entsC_len] at q3
        injection q3
      have hb13 : n13 ≤ 1001 := by have := HSW.out.len; have := HL.out; omega
      have HN13 := hid (And.intro hn13 hb13)
      have c1 := HC0.out W HSW.out.k
      obtain ⟨T, hT⟩ : ∃ d, d = x % 3 := ⟨_, rfl⟩
      have m3 : (x : Int).tmod 3 = (T : Int) := by rw [hT]; rfl
      have n3 : (x : Int) % 3 = (T : Int) := by omega
      have wT : IntKind.u8.wrap (T : Int) = (T : Int) := by rw [IntKind.wrap_u8]; omega
      clear hT hn13 hb13 hb2
      by_cases hT0 : 0 < T
      · have hT1 : (0 : Int) < (T : Int) := by omega
        have hT2 : decide ((0 : Int) < (T : Int)) = true := decide_eq_true hT1
        by_cases hcn : i + 1 < N
        · have hc1 : (i : Int) + 1 < (N : Int) := by omega
          go_wp2
          go_roundg (N - (i + 1))
          case measure => omega
          case rel => exact ⟨i + 1, p, _, _, _, _, _, _, d, b2, by go_num, rfl, rfl, rfl, by omega, Nat.le_refl _, HSW⟩
        · have hc1 : ¬ (i : Int) + 1 < (N : Int) := by omega
          have K1 := hid (Kept.refl None W)
          have O1 : Hid (Po 3 29 W W.heap.size (.slice none 0 0) (entsC [])) := hid (Po.nil ..)
          go_wp2
          go_loopg [9, 10] n13 (fun kx s9 s10 wr => ∃ (j : Nat) (ao : Option Addr) (no co : Nat) (o : List Ent), s10 = .int .i64 j ∧ s9 = .slice ao no co ∧ j ≤ n13 ∧ n13 - j ≤ kx ∧ Hid (Kept None W wr) ∧ Hid (Po 3 29 wr W.heap.size (.slice ao no co) (entsC o)) ∧ Hid (EntSix o ∧ o.length ≤ j))
          case atStart => exact ⟨0, none, 0, 0, [], rfl, rfl, Nat.zero_le _, Nat.le_refl _, K1, O1, hid ⟨(fun _ h => by cases h), Nat.le_refl _⟩⟩
          case round =>
            obtain ⟨j, ao, no, co, o, rfl, rfl, hj, hjx, HK, HO, HOB⟩ := hrel
            by_cases hjn : j < n13
            · have hjz : (j : Int) < (n13 : Int) := by omega
              have wj : IntKind.i64.wrap ((j : Int) + 1) = (j : Int) + 1 := by rw [IntKind.wrap_i64]; have := HN13.out.2; omega
              have jl : j < b2.length := by have := HN13.out.1; omega
              obtain ⟨wo, hwo⟩ : ∃ z, z = wr := ⟨_, rfl⟩
              rw [← hwo] at HK HO
              have HR3 := hid (Kept.refl None wr)
              rw [← hwo] at HR3 ⊢
              obtain ⟨gb, ob, qb, hcb⟩ := ((HSW.out.po.ps (Nat.le_refl _)).kept HK.out (fun _ _ _ h => h)).ent (by omega)
              obtain rfl := qb
              have rB := (hcb j jl).2.2.2
              have HCB : Hid (∀ q (h : q < b2.length) W, Kept None wo W → W.cell? ⟨gb, ob + q * 3, none⟩ = some (.string b2[q].n)) := hid (fun q h W hW => by
                obtain ⟨g2, o2, q2, hc2⟩ := ((HSW.out.po.ps (Nat.le_refl _)).kept (HK.out.trans hW) (fun _ _ _ h => h)).ent (by omega)
                obtain ⟨rfl, rfl⟩ : gb = g2 ∧ ob = o2 := by simpa using q2
                exact (hc2 q h).1)
              have HRB := hid rB
              clear hcb rB hwo
              go_wp2
              go_loopg [11, 12] j (fun kx s11 s12 wr => ∃ (q : Nat) (B : Bool), s12 = .int .i64 q ∧ s11 = .bool B ∧ q ≤ j ∧ j - q ≤ kx ∧ Hid (Kept None wo wr))
              case atStart => exact ⟨0, false, rfl, rfl, Nat.zero_le _, Nat.le_refl _, HR3⟩
              case round =>
                obtain ⟨q, B, rfl, rfl, hq, hqx, HQ⟩ := hrel
                by_cases hqj : q < j
                · have hqz : (q : Int) < (j : Int) := by omega
                  have hqn : (q : Int) < (n13 : Int) := by omega
                  have wq : IntKind.i64.wrap ((q : Int) + 1) = (q : Int) + 1 := by rw [IntKind.wrap_i64]; have := HN13.out.2; omega
                  have a1 := HCB.out q (by omega) wr HQ.out
                  have a2 := HCB.out j jl wr HQ.out
                  obtain ⟨S1, hS1⟩ : ∃ z, z = b2[q].n := ⟨_, rfl⟩
                  obtain ⟨S2, hS2⟩ : ∃ z, z = b2[j].n := ⟨_, rfl⟩
                  obtain ⟨E, hE⟩ : ∃ z, z = (S1.toList == S2.toList) := ⟨_, rfl⟩
                  have hE2 := hE.symm
                  rw [← hS1] at a1
                  rw [← hS2] at a2
                  clear hS1 hS2 hE
                  cases B with
                  | true =>
                    go_wp2_with fail
                    go_quiet (fail)
                    obtain ⟨w8, hw8⟩ : ∃ z, z = wr.drewN nq := ⟨_, rfl⟩
                    have HQ8 : Hid (Kept None wo w8) := hid (HQ.out.trans (hw8 ▸ Kept.toDrewN _ _ _))
                    rw [← hw8]
                    clear hw8 a1 a2
                    go_wp2
                    go_roundg (j - (q + 1))
                    case measure => omega
                    case rel => exact ⟨q + 1, true, by go_num, rfl, by omega, Nat.le_refl _, HQ8⟩
                  | false =>
                    go_wp2_with fail
                    go_quiet (fail)
                    obtain ⟨w8, hw8⟩ : ∃ z, z = wr.drewN nq := ⟨_, rfl⟩
                    have HQ8 : Hid (Kept None wo w8) := hid (HQ.out.trans (hw8 ▸ Kept.toDrewN _ _ _))
                    rw [← hw8]
                    clear hw8 a1 a2
                    go_wp2
                    go_roundg (j - (q + 1))
                    case measure => omega
                    case rel => exact ⟨q + 1, E, by go_num, rfl, by omega, Nat.le_refl _, HQ8⟩
                · have hqz : ¬ (q : Int) < (j : Int) := by omega
                  cases B with
                  | true =>
                    have HK8 := hid (HK.out.trans HQ.out)
                    have HO8 := hid (HO.out.kept HQ.out (fun _ _ h => h))
                    go_wp2
                    go_roundg (n13 - (j + 1))
                    case measure => omega
                    case rel => exact ⟨j + 1, ao, no, co, o, by go_num, rfl, by omega, Nat.le_refl _, HK8, HO8, hid ⟨HOB.out.1, Nat.le_succ_of_le HOB.out.2⟩⟩
                  | false =>
                    have rB := rangeAt_kept HRB.out HQ.out
                    have he := HSW.out.ents _ (List.getElem_mem jl)
                    obtain ⟨e, hee⟩ : ∃ z, z = b2[j] := ⟨_, rfl⟩
                    rw [← hee] at rB he
                    have HE := hid he
                    have HK8 := HK.out.trans HQ.out
                    have HO8 := HO.out.kept HQ.out (fun _ _ h => h)
                    have KA : Kept None W (wr.alloc (.cells #[.string e.n, .int .i64 e.v, .int .u64 (e.k : Int)] 29)) := HK8.alloc _
                    have hon := HO8.alloc (.cells #[.string e.n, .int .i64 e.v, .int .u64 (e.k : Int)] 29)
                    have HPN : Ps 3 (wr.alloc (.cells #[.string e.n, .int .i64 e.v, .int .u64 (e.k : Int)] 29)) 0 (wr.alloc (.cells #[.string e.n, .int .i64 e.v, .int .u64 (e.k : Int)] 29)).heap.size (.slice (some ⟨wr.heap.size, 0, none⟩) 1 1) (entsC [e]) := R16.ps_blk (x := entC e) (Blk.new _ _ _) rfl
                    have hlen : (entsC o).length + (entsC [e]).length ≤ 1099511627776 := by rw [entsC_len, entsC_len]; have := HOB.out.2; have := HN13.out.2; simp; omega
                    have hbase := KA.size
                    clear hee he HO HK HK8 HO8
                    go_wp2_with (first | (refine wpList_load_at (.refl _) _ _ rfl rfl rB aEnt16 ?_) | (refine wpList_one_item rfl _ _ rfl rtEnt16 (by decide) rfl rfl ?_) | (at_builtin; refine wpList_append_po rfl _ _ 24 rfl rtEnt16 (by decide) rfl rfl hon HPN (entsC_one _) hlen hbase ?_; intro a9 n9 c9 w9 hP9 hK9 _) | fail)
                    rw [← entsC_app] at hP9
                    have K9 := hid (KA.then hK9 (fun q hq h => by have := (hon.own q h).1; omega))
                    have HP9 := hid hP9
                    clear hP9 hK9 HPN hon hlen hbase KA
                    go_roundg (n13 - (j + 1))
                    case measure => omega
                    case rel => exact ⟨j + 1, a9, n9, c9, o ++ [e], by go_num, rfl, by omega, Nat.le_refl _, K9, HP9, hid ⟨HOB.out.1.snoc HE.out, by have := HOB.out.2; simp; omega⟩⟩
            · have hjz : ¬ (j : Int) < (n13 : Int) := by omega
              have HS2 := hid (HSW.out.kept HK.out)
              obtain ⟨lo3, hi3, pk, _, hh3⟩ := HS2.out.row
              have wp : IntKind.i64.wrap ((p : Int) + 1) = (p : Int) + 1 := by rw [IntKind.wrap_i64]; have := HS2.out.pp; have := HL.out; omega
              have hlo : o.length ≤ b2.length := by have := HOB.out.2; have := HN13.out.1; omega
              have HLO := hid hlo
              have hAdd := R16.add (.slice ad nd cd) (.slice ao no co) lo3 hi3 W.heap.size wr.heap.size d (p : Int) o wr pk (HO.out.ps (Nat.le_refl _)) (by have := HS2.out.len; have := HL.out; omega) (by have := HN13.out; omega)
              have hfin := fun W2 r (hk : Kept None wr W2) (hr : Off 4 wr lo3 hi3 W2 r (knosC (addF d (p : Int) o).1)) => DirSt.add (lo := lo3) (hi := hi3) HS2.out hk HOB.out.1 hlo hr HST.out.pp.2
              obtain ⟨AD, hAD⟩ : ∃ z, z = addF d (p : Int) o := ⟨_, rfl⟩
              rw [← hAD] at hAdd hfin
              have HAD := hid hAdd
              have HFI := hid hfin
              clear pk hh3 hlo hAdd hfin hAD HO HK HSW HS2
              go_wp2_with fail
              refine HAD.out.mono ?_
              rintro e w8 ⟨r, rfl, k8, r8⟩
              have h8 := HFI.out w8 r k8 r8
              obtain ⟨ar, nr, cr, rfl⟩ : ∃ a n c, r = .slice a n c := by
                obtain ⟨lo4, hi4, h4, _⟩ := r8
                obtain ⟨a4, c4, h5, _⟩ := h4.form
                exact ⟨a4, _, c4, h5⟩
              have H8 := hid h8
              clear k8 r8 h8 HAD HFI
              go_wp2
              go_roundg (N - (i + 1))
              case measure => omega
              case rel => exact ⟨i + 1, p + 1, ar, nr, cr, none, 0, 0, AD.1, [], by go_num, by go_num, rfl, rfl, by omega, Nat.le_refl _, H8⟩
      · have hT1 : ¬ (0 : Int) < (T : Int) := by omega
        have hT2 : decide ((0 : Int) < (T : Int)) = false := decide_eq_false hT1
        have K1 := hid (Kept.refl None W)
        have O1 : Hid (Po 3 29 W W.heap.size (.slice none 0 0) (entsC [])) := hid (Po.nil ..)
        go_wp2
        go_loopg [9, 10] n13 (fun kx s9 s10 wr => ∃ (j : Nat) (ao : Option Addr) (no co : Nat) (o : List Ent), s10 = .int .i64 j ∧ s9 = .slice ao no co ∧ j ≤ n13 ∧ n13 - j ≤ kx ∧ Hid (Kept None W wr) ∧ Hid (Po 3 29 wr W.heap.size (.slice ao no co) (entsC o)) ∧ Hid (EntSix o ∧ o.length ≤ j))
        case atStart => exact ⟨0, none, 0, 0, [], rfl, rfl, Nat.zero_le _, Nat.le_refl _, K1, O1, hid ⟨(fun _ h => by cases h), Nat.le_refl _⟩⟩
        case round =>
          obtain ⟨j, ao, no, co, o, rfl, rfl, hj, hjx, HK, HO, HOB⟩ := hrel
          by_cases hjn : j < n13
          · have hjz : (j : Int) < (n13 : Int) := by omega
            have wj : IntKind.i64.wrap ((j : Int) + 1) = (j : Int) + 1 := by rw [IntKind.wrap_i64]; have := HN13.out.2; omega
            have jl : j < b2.length := by have := HN13.out.1; omega
            obtain ⟨wo, hwo⟩ : ∃ z, z = wr := ⟨_, rfl⟩
            rw [← hwo] at HK HO
            have HR3 := hid (Kept.refl None wr)
            rw [← hwo] at HR3 ⊢
            obtain ⟨gb, ob, qb, hcb⟩ := ((HSW.out.po.ps (Nat.le_refl _)).kept HK.out (fun _ _ _ h => h)).ent (by omega)
            obtain rfl := qb
            have rB := (hcb j jl).2.2.2
            have HCB : Hid (∀ q (h : q < b2.length) W, Kept None wo W → W.cell? ⟨gb, ob + q * 3, none⟩ = some (.string b2[q].n)) := hid (fun q h W hW => by
              obtain ⟨g2, o2, q2, hc2⟩ := ((HSW.out.po.ps (Nat.le_refl _)).kept (HK.out.trans hW) (fun _ _ _ h => h)).ent (by omega)
              obtain ⟨rfl, rfl⟩ : gb = g2 ∧ ob = o2 := by simpa using q2
              exact (hc2 q h).1)
            have HRB := hid rB
            clear hcb rB hwo
            go_wp2
            go_loopg [11, 12] j (fun kx s11 s12 wr => ∃ (q : Nat) (B : Bool), s12 = .int .i64 q ∧ s11 = .bool B ∧ q ≤ j ∧ j - q ≤ kx ∧ Hid (Kept None wo wr))
            case atStart => exact ⟨0, false, rfl, rfl, Nat.zero_le _, Nat.le_refl _, HR3⟩
            case round =>
              obtain ⟨q, B, rfl, rfl, hq, hqx, HQ⟩ := hrel
              by_cases hqj : q < j
              · have hqz : (q : Int) < (j : Int) := by omega
                have hqn : (q : Int) < (n13 : Int) := by omega
                have wq : IntKind.i64.wrap ((q : Int) + 1) = (q : Int) + 1 := by rw [IntKind.wrap_i64]; have := HN13.out.2; omega
                have a1 := HCB.out q (by omega) wr HQ.out
                have a2 := HCB.out j jl wr HQ.out
                obtain ⟨S1, hS1⟩ : ∃ z, z = b2[q].n := ⟨_, rfl⟩
                obtain ⟨S2, hS2⟩ : ∃ z, z = b2[j].n := ⟨_, rfl⟩
                obtain ⟨E, hE⟩ : ∃ z, z = (S1.toList == S2.toList) := ⟨_, rfl⟩
                have hE2 := hE.symm
                rw [← hS1] at a1
                rw [← hS2] at a2
                clear hS1 hS2 hE
                cases B with
                | true =>
                  go_wp2_with fail
                  go_quiet (fail)
                  obtain ⟨w8, hw8⟩ : ∃ z, z = wr.drewN nq := ⟨_, rfl⟩
                  have HQ8 : Hid (Kept None wo w8) := hid (HQ.out.trans (hw8 ▸ Kept.toDrewN _ _ _))
                  rw [← hw8]
                  clear hw8 a1 a2
                  go_wp2
                  go_roundg (j - (q + 1))
                  case measure => omega
                  case rel => exact ⟨q + 1, true, by go_num, rfl, by omega, Nat.le_refl _, HQ8⟩
                | false =>
                  go_wp2_with fail
                  go_quiet (fail)
                  obtain ⟨w8, hw8⟩ : ∃ z, z = wr.drewN nq := ⟨_, rfl⟩
                  have HQ8 : Hid (Kept None wo w8) := hid (HQ.out.trans (hw8 ▸ Kept.toDrewN _ _ _))
                  rw [← hw8]
                  clear hw8 a1 a2
                  go_wp2
                  go_roundg (j - (q + 1))
                  case measure => omega
                  case rel => exact ⟨q + 1, E, by go_num, rfl, by omega, Nat.le_refl _, HQ8⟩
              · have hqz : ¬ (q : Int) < (j : Int) := by omega
                cases B with
                | true =>
                  have HK8 := hid (HK.out.trans HQ.out)
                  have HO8 := hid (HO.out.kept HQ.out (fun _ _ h => h))
                  go_wp2
                  go_roundg (n13 - (j + 1))
                  case measure => omega
                  case rel => exact ⟨j + 1, ao, no, co, o, by go_num, rfl, by omega, Nat.le_refl _, HK8, HO8, hid ⟨HOB.out.1, Nat.le_succ_of_le HOB.out.2⟩⟩
                | false =>
                  have rB := rangeAt_kept HRB.out HQ.out
                  have he := HSW.out.ents _ (List.getElem_mem jl)
                  obtain ⟨e, hee⟩ : ∃ z, z = b2[j] := ⟨_, rfl⟩
                  rw [← hee] at rB he
                  have HE := hid he
                  have HK8 := HK.out.trans HQ.out
                  have HO8 := HO.out.kept HQ.out (fun _ _ h => h)
                  have KA : Kept None W (wr.alloc (.cells #[.string e.n, .int .i64 e.v, .int .u64 (e.k : Int)] 29)) := HK8.alloc _
                  have hon := HO8.alloc (.cells #[.string e.n, .int .i64 e.v, .int .u64 (e.k : Int)] 29)
                  have HPN : Ps 3 (wr.alloc (.cells #[.string e.n, .int .i64 e.v, .int .u64 (e.k : Int)] 29)) 0 (wr.alloc (.cells #[.string e.n, .int .i64 e.v, .int .u64 (e.k : Int)] 29)).heap.size (.slice (some ⟨wr.heap.size, 0, none⟩) 1 1) (entsC [e]) := R16.ps_blk (x := entC e) (Blk.new _ _ _) rfl
                  have hlen : (entsC o).length + (entsC [e]).length ≤ 1099511627776 := by rw [entsC_len, entsC_len]; have := HOB.out.2; have := HN13.out.2; simp; omega
                  have hbase := KA.size
                  clear hee he HO HK HK8 HO8
                  go_wp2_with (first | (refine wpList_load_at (.refl _) _ _ rfl rfl rB aEnt16 ?_) | (refine wpList_one_item rfl _ _ rfl rtEnt16 (by decide) rfl rfl ?_) | (at_builtin; refine wpList_append_po rfl _ _ 24 rfl rtEnt16 (by decide) rfl rfl hon HPN (entsC_one _) hlen hbase ?_; intro a9 n9 c9 w9 hP9 hK9 _) | fail)
                  rw [← entsC_app] at hP9
                  have K9 := hid (KA.then hK9 (fun q hq h => by have := (hon.own q h).1; omega))
                  have HP9 := hid hP9
                  clear hP9 hK9 HPN hon hlen hbase KA
                  go_roundg (n13 - (j + 1))
                  case measure => omega
                  case rel => exact ⟨j + 1, a9, n9, c9, o ++ [e], by go_num, rfl, by omega, Nat.le_refl _, K9, HP9, hid ⟨HOB.out.1.snoc HE.out, by have := HOB.out.2; simp; omega⟩⟩
          · have hjz : ¬ (j : Int) < (n13 : Int) := by omega
            have HS2 := hid (HSW.out.kept HK.out)
            obtain ⟨lo3, hi3, pk, _, hh3⟩ := HS2.out.row
            have wp : IntKind.i64.wrap ((p : Int) + 1) = (p : Int) + 1 := by rw [IntKind.wrap_i64]; have := HS2.out.pp; have := HL.out; omega
            have hlo : o.length ≤ b2.length := by have := HOB.out.2; have := HN13.out.1; omega
            have HLO := hid hlo
            have hAdd := R16.add (.slice ad nd cd) (.slice ao no co) lo3 hi3 W.heap.size wr.heap.size d (p : Int) o wr pk (HO.out.ps (Nat.le_refl _)) (by have := HS2.out.len; have := HL.out; omega) (by have := HN13.out; omega)
            have hfin := fun W2 r (hk : Kept None wr W2) (hr : Off 4 wr lo3 hi3 W2 r (knosC (addF d (p : Int) o).1)) => DirSt.add (lo := lo3) (hi := hi3) HS2.out hk HOB.out.1 hlo hr HST.out.pp.2
            obtain ⟨AD, hAD⟩ : ∃ z, z = addF d (p : Int) o := ⟨_, rfl⟩
            rw [← hAD] at hAdd hfin
            have HAD := hid hAdd
            have HFI := hid hfin
            clear pk hh3 hlo hAdd hfin hAD HO HK HSW HS2
            go_wp2_with fail
            refine HAD.out.mono ?_
            rintro e w8 ⟨r, rfl, k8, r8⟩
            have h8 := HFI.out w8 r k8 r8
            obtain ⟨ar, nr, cr, rfl⟩ : ∃ a n c, r = .slice a n c := by
              obtain ⟨lo4, hi4, h4, _⟩ := r8
              obtain ⟨a4, c4, h5, _⟩ := h4.form
              exact ⟨a4, _, c4, h5⟩
            have H8 := hid h8
            clear k8 r8 h8 HAD HFI
            go_wp2
            go_roundg (N - (i + 1))
            case measure => omega
            case rel => exact ⟨i + 1, p + 1, ar, nr, cr, none, 0, 0, AD.1, [], by go_num, by go_num, rfl, rfl, by omega, Nat.le_refl _, H8⟩
    · have hz : ¬ (i : Int) < (N : Int) := by omega
      obtain rfl : i = N := by omega
      have HF := hid (show d.length ≤ i by have := HST.out.len; omega)
      have HP : Hid (DirOk d ((i + 1 : Nat) : Int)) := hid ⟨HST.out.ok.rt, HST.out.ok.ok, HST.out.ok.six, fun x hx => by have := HST.out.ok.lt x hx; have := HST.out.pp; omega⟩
      go_wp2
      go_ret
      obtain ⟨lo2, hi2, pk, _, g3⟩ := HST.out.row
      exact ⟨_, rfl, HST.out.k, d, pk.wider (Nat.zero_le _) g3, HP.out, HF.out⟩
end Es
end Go.Proofs.Ytglibdggoobocaa
namespace Go.Pm
open Go Go.RowKit
theorem bytes_ext {a b : ByteArray} : a = b ↔ a.data.toList = b.data.toList := by
  obtain ⟨⟨x⟩⟩ := a
  obtain ⟨⟨y⟩⟩ := b
  simp
theorem toList_iff {a b : ByteArray} : a.toList = b.toList ↔ a = b := by
  rw [bytes_ext, ByteArray.toList_eq, ByteArray.toList_eq]
theorem take_eq_step {α : Type} {l m : List α} {i : Nat} (h : l.take i = m.take i) (hl : i < l.length) (hm : i < m.length) (he : l[i] = m[i]) : l.take (i + 1) = m.take (i + 1) := by
  rw [List.take_succ_eq_append_getElem hl, List.take_succ_eq_append_getElem hm, h, he]
theorem eqF_nil {P : Program} {w : World} {xs ys : Array Value} {d : Nat} {fs : List Field} (h : fs.map (fun f => (f.name == "_", f.type, f.offset)) = []) : (Op.eqFields d xs ys fs).run P w = .ok true w := by
  obtain rfl := List.map_eq_nil_iff.1 h
  simp [Op.eqFields]
theorem eqF_step {P : Program} {w : World} {xs ys : Array Value} {d : Nat} {fs : List Field} {t : TypeId} {o : Nat} {rest : List (Bool × TypeId × Nat)} (h : fs.map (fun f => (f.name == "_", f.type, f.offset)) = (false, t, o) :: rest)
    {a b : Value} {r c : Bool} (pa : (part t xs o).run P w = .ok a w) (pb : (part t ys o).run P w = .ok b w) (he : (Op.equalIn d t a b).run P w = .ok r w)
    (hc : ∀ gs : List Field, gs.map (fun f => (f.name == "_", f.type, f.offset)) = rest → (Op.eqFields d xs ys gs).run P w = .ok c w) : (Op.eqFields d xs ys fs).run P w = .ok (r && c) w := by
  match fs, h with
  | f :: gs, h =>
    simp only [List.map_cons, List.cons.injEq, Prod.mk.injEq, beq_eq_false_iff_ne] at h
    obtain ⟨⟨f1, f2, f3⟩, g⟩ := h
    cases r <;> simp only [Op.eqFields, f1, ne_eq, not_false_eq_true, if_true, f2, f3, Sem.run_bind, pa, pb, he, Result.andThen_ok, Sem.run_pure, Bool.not_true, Bool.not_false, Bool.false_eq_true, if_false, hc gs g, Bool.true_and, Bool.false_and]
theorem part_agg {P : Program} {w : World} {xs : Array Value} {t : TypeId} {o n : Nat} (ha : ∀ w, (isAgg t).run P w = .ok true w) (hs : ∀ w, (sizeOf t).run P w = .ok n w) : (part t xs o).run P w = .ok (.agg (xs.extract o (o + n))) w := by
  simp only [part, Sem.run_bind, ha, hs, Result.andThen_ok, if_true, Sem.run_pure]
theorem part_one {P : Program} {w : World} {xs : Array Value} {t : TypeId} {o : Nat} {v : Value} (ha : ∀ w, (isAgg t).run P w = .ok false w) (h : xs[o]? = some v) : (part t xs o).run P w = .ok v w := by
  simp only [part, Sem.run_bind, ha, Result.andThen_ok, Bool.false_eq_true, if_false, h, Sem.run_pure]
end Go.Pm
namespace Go.Pm
open Go Go.RowKit
def entEq (p q : Ent) : Bool := (p.n.toList == q.n.toList) && ((p.v == q.v) && (((p.k : Int) == (q.k : Int)) && true))
def knoEq (p q : Kno) : Bool := entEq p.e q.e && ((p.p == q.p) && true)
theorem entEq_iff (p q : Ent) : entEq p q = true ↔ p = q := by
  obtain ⟨n, v, k⟩ := p
  obtain ⟨n', v', k'⟩ := q
  unfold entEq
  simp only [Bool.and_eq_true, beq_iff_eq, Ent.mk.injEq, and_true, Int.natCast_inj, toList_iff]
theorem knoEq_iff (p q : Kno) : knoEq p q = true ↔ p = q := by
  obtain ⟨e, t⟩ := p
  obtain ⟨e', t'⟩ := q
  unfold knoEq
  simp only [Bool.and_eq_true, beq_iff_eq, Kno.mk.injEq, and_true, entEq_iff]
instance : DecidableEq Kno := fun a b => decidable_of_iff (knoEq a b = true) (knoEq_iff a b)
instance : DecidableEq Ent := fun a b => decidable_of_iff (entEq a b = true) (entEq_iff a b)
/-- Are two directories the same? -/
def knosEq (l m : List Kno) : Bool := decide (l = m)
theorem knoC_e (p : Kno) : (knoC p).toArray.extract 0 (0 + 3) = (entC p.e).toArray := rfl
end Go.Pm
namespace Go.Proofs.Ytglibdggoobocaa
open Go.RowKit Go.Pm
namespace Jk
theorem uKno : Try.prog.underlying 31 = some (.struct (Try.prog.fieldsOf 31)) := by kernel_rfl
theorem uEnt : Try.prog.underlying 29 = some (.struct (Try.prog.fieldsOf 29)) := by kernel_rfl
theorem fKno : (Try.prog.fieldsOf 31).toList.map (fun f => (f.name == "_", f.type, f.offset)) = [(false, 29, 0), (false, 3, 3)] := by kernel_rfl
theorem fEnt : (Try.prog.fieldsOf 29).toList.map (fun f => (f.name == "_", f.type, f.offset)) = [(false, 9, 0), (false, 3, 1), (false, 27, 2)] := by kernel_rfl
theorem hKno : Try.prog.stoodInHeld 31 = false := by kernel_rfl
theorem hEnt : Try.prog.stoodInHeld 29 = false := by kernel_rfl
theorem gEnt : ∀ w, (isAgg 29).run Try.prog w = .ok true w := fun _ => by kernel_rfl
theorem sEnt : ∀ w, (sizeOf 29).run Try.prog w = .ok 3 w := fun _ => by kernel_rfl
theorem gInt : ∀ w, (isAgg 3).run Try.prog w = .ok false w := fun _ => by kernel_rfl
theorem gU64 : ∀ w, (isAgg 27).run Try.prog w = .ok false w := fun _ => by kernel_rfl
theorem gStr : ∀ w, (isAgg 9).run Try.prog w = .ok false w := fun _ => by kernel_rfl
theorem nInt : Try.prog.underlying 3 = some (.int .i64) := by kernel_rfl
theorem nU64 : Try.prog.underlying 27 = some (.int .u64) := by kernel_rfl
theorem nStr : Try.prog.underlying 9 = some .string := by kernel_rfl
theorem equalIn_ent (p q : Ent) (d : Nat) (w : World) : (Op.equalIn (d + 3) 29 (.agg (entC p).toArray) (.agg (entC q).toArray)).run Try.prog w = .ok (entEq p q) w := by
  rw [run_equalIn_struct w (d + 2) 29 _ _ uEnt hEnt]
  refine eqF_step fEnt (part_one gStr rfl) (part_one gStr rfl) (run_equalIn_string w (d + 1) _ _ _ nStr) fun gs h1 => ?_
  refine eqF_step h1 (part_one gInt rfl) (part_one gInt rfl) (run_equalIn_int w (d + 1) _ _ _ _ _ nInt) fun gs h2 => ?_
  exact eqF_step h2 (part_one gU64 rfl) (part_one gU64 rfl) (run_equalIn_int w (d + 1) _ _ _ _ _ nU64) fun gs h3 => eqF_nil h3
theorem equalIn_kno (p q : Kno) (w : World) : (Op.equalIn 10000 31 (.agg (knoC p).toArray) (.agg (knoC q).toArray)).run Try.prog w = .ok (knoEq p q) w := by
  rw [run_equalIn_struct w 9999 31 _ _ uKno hKno]
  refine eqF_step fKno (part_agg gEnt sEnt) (part_agg gEnt sEnt) (by rw [knoC_e, knoC_e]; exact equalIn_ent p.e q.e 9996 w) fun gs h1 => ?_
  exact eqF_step h1 (part_one gInt rfl) (part_one gInt rfl) (run_equalIn_int w 9998 _ _ _ _ _ nInt) fun gs h2 => eqF_nil h2
theorem neqKno (p q : Kno) (w : World) : (binOp .neq 31 (.agg (knoC p).toArray) (.agg (knoC q).toArray)).run Try.prog w = .ok (.bool (!knoEq p q)) w := by
  rw [run_neq_struct, equalIn_kno]; rfl
end Jk
namespace Hr
theorem aKno16 : AggTy Try.prog 31 4 := Sg.AggTy.of (by kernel_rfl) (by kernel_rfl)
set_option maxRecDepth 100000 in
set_option maxHeartbeats 4000000 in
/-- postmarkhelp.Known. -/
theorem known (v v' : Value) (lo hi lo' hi' : Nat) (l m : List Kno) (w : World) (hv : Ps 4 w lo hi v (knosC l)) (hv' : Ps 4 w lo' hi' v' (knosC m)) (hln : l.length ≤ 1099511627776) :
    Calls Try.prog 17 #[v, v'] w fun e w' => e = .returned (.bool (knosEq l m)) ∧ Kept None w w' := by
  obtain ⟨av, nv, cv, rfl, hnv⟩ : ∃ a n c, v = .slice a n c ∧ n = l.length := by
    obtain ⟨a, c, h, _⟩ := hv.form
    rw [knosC_len] at h
    exact ⟨a, _, c, h, rfl⟩
  obtain ⟨au, nu, cu, rfl, hnu⟩ : ∃ a n c, v' = .slice a n c ∧ n = m.length := by
    obtain ⟨a, c, h, _⟩ := hv'.form
    rw [knosC_len] at h
    exact ⟨a, _, c, h, rfl⟩
  subst hnv hnu
  have HV := hid hv
  have HU := hid hv'
  have HN := hid hln
  clear hv hv' hln
  by_cases hlen : l.length = m.length
  · have d1 : ((l.length : Int) == (m.length : Int)) = true := by simp; omega
    have HL := hid hlen
    obtain ⟨n, hn⟩ : ∃ n, n = l.length := ⟨_, rfl⟩
    have hm : m.length = n := by omega
    rw [hm, ← hn]
    have HNN := hid (And.intro hn hm)
    clear hlen hn hm d1
    go_enter Try.func17, Try.ntmps17
    go_wp2_with fail
    go_loopg [5] n (fun kx s5 wr => ∃ i : Nat, s5 = .int .i64 (i : Int) ∧ i ≤ n ∧ n - i ≤ kx ∧ Hid (l.take i = m.take i) ∧ Hid (Kept None w wr))
    case atStart => exact ⟨0, rfl, Nat.zero_le _, Nat.le_refl _, hid rfl, hid (Kept.refl _ _)⟩
    case round =>
    obtain ⟨i, rfl, hi, hix, HE, HS⟩ := hrel
    by_cases hlt : i < n
    · have hlt' : decide ((i : Int) < (n : Int)) = true := by simpa using hlt
      have hlb : (i : Int) < (n : Int) := Int.ofNat_lt.mpr hlt
      have il : i < l.length := by rw [← HNN.out.1]; exact hlt
      have im : i < m.length := by rw [HNN.out.2]; exact hlt
      obtain ⟨b, o, rfl, h1⟩ := (HV.out.kept HS.out (fun _ _ _ h => h)).kno (by omega)
      obtain ⟨b', o', rfl, h2⟩ := (HU.out.kept HS.out (fun _ _ _ h => h)).kno (by omega)
      have r1 := (h1 i il).2.2.2.2.1
      have r2 := (h2 i im).2.2.2.2.1
      obtain ⟨x, hx⟩ : ∃ x, x = l[i] := ⟨_, rfl⟩
      obtain ⟨y, hy⟩ : ∃ y, y = m[i] := ⟨_, rfl⟩
      rw [← hx] at r1
      rw [← hy] at r2
      have HR1 := hid (fun W (hW : Kept None wr W) => rangeAt_kept r1 hW)
      have HR2 := hid (fun W (hW : Kept None wr W) => rangeAt_kept r2 hW)
      have hneq := fun W => Jk.neqKno x y W
      obtain ⟨B, hB⟩ : ∃ B, B = knoEq x y := ⟨_, rfl⟩
      rw [← hB] at hneq
      have HNQ := hid (show ∀ W, (binOp .neq 31 (.agg (knoC x).toArray) (.agg (knoC y).toArray)).run Try.prog W = .ok (.bool (!B)) W from hneq)
      have aX : AggTy Try.prog 31 (knoC x).length := aKno16
      have aY : AggTy Try.prog 31 (knoC y).length := aKno16
      have HXY := hid (And.intro hx (And.intro hy hB))
      clear h1 h2 r1 r2 hx hy hB hneq
      go_wp2_with fail
      refine wp_region_kn wr [] Go.Pm.Steady.nil (Kept.refl _ _) (by kernel_rfl) (by kernel_rfl) (by kernel_rfl) ?_
      iterate 9 (refine wpPar_pure rfl (by rfl) _ (fun W hW => by
          have hnq := HNQ.out
          first | exact exec_load_at rfl rfl (HR1.out W hW) aX | exact exec_load_at rfl rfl (HR2.out W hW) aY | (go_simp; exact rfl)) ?_; simp only [Act.put, List.setIfInBounds_toArray, List.set_cons_zero, List.set_cons_succ])
      refine wpPar_nil (fun w2 hW hG => ?_)
      have K2 := hid (HS.out.trans hW)
      clear hG hW
      cases B with
      | true =>
        have HE2 : Hid (l.take (i + 1) = m.take (i + 1)) := hid (take_eq_step HE.out il im (by
          have h := (knoEq_iff x y).1 HXY.out.2.2.symm
          rw [← HXY.out.1, ← HXY.out.2.1, h]))
        have hw : wrap64 ((i : Int) + 1) = ((i + 1 : Nat) : Int) := by have := HN.out; unfold wrap64; omega
        have HW := hid hw
        clear hw
        go_wp2
        go_roundg (n - (i + 1))
        case measure => omega
        case rel => exact ⟨i + 1, by rw [HW.out], hlt, Nat.le_refl _, HE2, K2⟩
      | false =>
        have hfin : knosEq l m = false := by
          unfold knosEq
          rw [decide_eq_false_iff_not]
          intro h
          have h1 : x = y := by
            rw [HXY.out.1, HXY.out.2.1]
            simp only [h]
          have := (knoEq_iff x y).2 h1
          rw [← HXY.out.2.2] at this
          cases this
        have HF := hid hfin
        clear hfin
        go_wp2
        go_ret
        rw [HF.out]
        exact ⟨rfl, K2.out⟩
    · have hlt' : decide ((i : Int) < (n : Int)) = false := by simpa using hlt
      obtain rfl : i = n := by omega
      have hfin : knosEq l m = true := by
        have h := HE.out
        rw [List.take_of_length_le (by rw [← HNN.out.1]; exact Nat.le_refl _), List.take_of_length_le (by rw [HNN.out.2]; exact Nat.le_refl _)] at h
        unfold knosEq
        rw [h]
        simp
      have HF := hid hfin
      clear hlt hi hix hfin
      go_wp2
      go_ret
      rw [HF.out]
      exact ⟨rfl, HS.out⟩
  · have d1 : ((l.length : Int) == (m.length : Int)) = false := by simp; omega
    have hfin : knosEq l m = false := by
      unfold knosEq
      rw [decide_eq_false_iff_not]
      exact fun h => hlen (congrArg List.length h)
    have HF := hid hfin
    clear hfin
    go_enter Try.func17, Try.ntmps17
    go_wp2
    go_ret
    rw [HF.out]
    exact ⟨rfl, Kept.refl _ _⟩
end Hr
end Go.Proofs.Ytglibdggoobocaa
namespace Go.Pm
open Go Go.RowKit
theorem wpList_one_w {P : Program} {ops : Array Oper} {rest : List Oper} {o : Oper} {a : Act} {w : World} {Q : Exit → Act → World → Prop} (hw : Region.wanted o (yielded ops a.tmps) = true) (t : TypeId) (y : Operand) (ho : o.op = .buildSlice t 1 #[(0, y)])
    {e : TypeId} {z : Value} {k bytes : Nat} (hT : RowTyK P t e z k bytes) (hk : k ≤ 16777216) {A : Array Value} (hy : a.eval y = .agg A) (hA : A.size = k)
    (h : wpList P ops Q rest (a.put o.dst (.slice (some ⟨w.heap.size, 0, none⟩) 1 1)) (w.alloc (.cells A e))) : wpList P ops Q (o :: rest) a w :=
  BigFrame.wpList_want hw fun K hK => by
    unfold Oper.wp
    rw [exec_one_item t y ho hT hk hy hA]
    exact hK _ _ h
end Go.Pm
namespace Go.Proofs.Ytglibdggoobocaa
open Go.RowKit Go.Pm
namespace P16
open Dr
theorem rtKno16 : RowTyK Try.prog 23 31 (.agg #[.string ⟨#[]⟩, .int .i64 0, .int .u64 0, .int .i64 0]) 4 40 := Hk.rtyK (by kernel_rfl) (by kernel_rfl) (by rfl) (by decide)
theorem eqlEnt (p q : Ent) (w : World) : (binOp .eql 29 (.agg (entC p).toArray) (.agg (entC q).toArray)).run Try.prog w = .ok (.bool (entEq p q)) w := by
  rw [run_eql_struct, Jk.equalIn_ent p q 9997]; rfl
def eA : Ent := ⟨⟨#[97]⟩, 1, 5⟩
theorem add_one : addF [] 1 [eA] = ([⟨eA, 1⟩], true) := by rfl
theorem eqN_self (a : ByteArray) : eqN a a = true := eqN_iff.2 rfl
theorem lat_one : latF [⟨eA, 1⟩] ⟨#[97]⟩ = (⟨eA, 1⟩, true) := by
  show (if eqN ⟨#[97]⟩ ⟨#[97]⟩ && (!false || _) then _ else _) = _
  rw [eqN_self]
  rfl
theorem add_two : (addF [⟨eA, 1⟩] 2 [eA]).2 = false := by
  cases h : (addF [⟨eA, 1⟩] 2 [eA]).2 with
  | false => rfl
  | true =>
    have g := ((addF_yes h).good eA (List.mem_singleton.2 rfl)).2
    rw [show latF [⟨eA, 1⟩] eA.n = _ from lat_one] at g
    exact absurd g (by decide)
theorem right_one : rightK [⟨eA, 1⟩] = true := by decide
theorem right_none : rightK [Kno.none] = false := by decide
theorem items_one : (setI (itemsF [⟨eA, 1⟩] 1)).length = 1 := by rfl
theorem items_none : setI (itemsF [⟨eA, 1⟩] 0) = [] := by rfl
theorem kok_one : KOk [⟨eA, 1⟩] := fun x hx => by
  rw [List.mem_singleton.1 hx]
  exact ⟨by decide, by decide⟩
theorem eok_one : EOk [eA] := fun x hx => by
  rw [List.mem_singleton.1 hx]
  exact ⟨by decide, by decide⟩
theorem kok_nil : KOk [] := fun x hx => by cases hx
theorem rt_nil : RtK [] := DirOk.nil.rt
theorem rt_one : RtK [⟨eA, 1⟩] := (rightK_iff _).1 right_one
theorem kok_none : KOk [Kno.none] := fun x hx => by
  rw [List.mem_singleton.1 hx]
  exact ⟨by decide, by decide⟩
set_option maxRecDepth 100000 in
set_option maxHeartbeats 4000000 in
theorem known (hR : RightC) (hL : LatestC) (hA : AddC) (hI : ItemsC) (w : World) : Calls Try.prog 8 #[] w fun e w' => e = .returned (.bool true) ∧ Kept None w w' := by
  have HA1 := hid (fun (W : World) (v : Value) (lo hi : Nat) (h : Ps 3 W lo hi v [[.string ⟨#[97]⟩, .int .i64 1, .int .u64 5]]) => show Calls Try.prog 15 #[.slice none 0 0, .int .i64 1, v] W fun e w' => ∃ r, e = .returned (.tuple #[r, .bool true]) ∧ Kept None W w' ∧ Ps 4 w' 0 w'.heap.size r (knosC [⟨eA, 1⟩]) from by
    have h1 := hA (.slice none 0 0) v 0 0 lo hi [] 1 [eA] W (Ps.nil ..) h rt_nil kok_nil eok_one.w (by decide) (by decide)
    rw [add_one] at h1
    exact h1)
  have HA2 := hid (fun (W : World) (v u : Value) (lo hi lo' hi' : Nat) (h : Ps 4 W lo hi v (knosC [⟨eA, 1⟩])) (h' : Ps 3 W lo' hi' u [[.string ⟨#[97]⟩, .int .i64 1, .int .u64 5]]) => show Calls Try.prog 15 #[v, .int .i64 2, u] W fun e w' => ∃ r, e = .returned (.tuple #[r, .bool false]) ∧ Kept None W w' from by
    have h1 := hA v u lo hi lo' hi' [⟨eA, 1⟩] 2 [eA] W h h' rt_one kok_one eok_one.w (by decide) (by decide)
    rw [add_two] at h1
    exact h1.mono (fun e w2 ⟨r, h2, h3, _⟩ => ⟨r, h2, h3⟩))
  have HLa := hid (fun (W : World) (v : Value) (lo hi : Nat) (h : Ps 4 W lo hi v (knosC [⟨eA, 1⟩])) => show Calls Try.prog 18 #[v, .string ⟨#[97]⟩] W fun e w' => e = .returned (.tuple #[.agg #[.string ⟨#[97]⟩, .int .i64 1, .int .u64 5, .int .i64 1], .bool true]) ∧ Kept None W w' from by
    have h1 := hL v lo hi [⟨eA, 1⟩] ⟨#[97]⟩ W h rt_one (by decide)
    rw [lat_one] at h1
    exact h1)
  have HR1 := hid (fun (W : World) (v : Value) (lo hi : Nat) (h : Ps 4 W lo hi v (knosC [⟨eA, 1⟩])) => show Calls Try.prog 10 #[v] W fun e w' => e = .returned (.bool true) ∧ Kept None W w' from by
    have h1 := hR v lo hi [⟨eA, 1⟩] W h kok_one.w (by decide)
    rw [right_one] at h1
    exact h1)
  have HR2 := hid (fun (W : World) (v : Value) (lo hi : Nat) (h : Ps 4 W lo hi v (knosC [Kno.none])) => show Calls Try.prog 10 #[v] W fun e w' => e = .returned (.bool false) ∧ Kept None W w' from by
    have h1 := hR v lo hi [Kno.none] W h kok_none.w (by decide)
    rw [right_none] at h1
    exact h1)
  have HI1 := hid (fun (W : World) (v : Value) (lo hi : Nat) (h : Ps 4 W lo hi v (knosC [⟨eA, 1⟩])) => show Calls Try.prog 22 #[v, .int .i64 1] W fun e w' => ∃ a c, e = .returned (.slice a 1 c) ∧ Kept None W w' from by
    have h1 := hI v lo hi [⟨eA, 1⟩] 1 W h rt_one kok_one (by decide)
    refine h1.mono (fun e w2 ⟨u, h2, h3, h4⟩ => ?_)
    obtain ⟨a, c, h5, _⟩ := h3.form
    rw [items_one] at h5
    exact ⟨a, c, h2.trans (by rw [h5]), h4⟩)
  have HI0 := hid (fun (W : World) (v : Value) (lo hi : Nat) (h : Ps 4 W lo hi v (knosC [⟨eA, 1⟩])) => show Calls Try.prog 22 #[v, .int .i64 0] W fun e w' => ∃ a c, e = .returned (.slice a 0 c) ∧ Kept None W w' from by
    have h1 := hI v lo hi [⟨eA, 1⟩] 0 W h rt_one kok_one (by decide)
    refine h1.mono (fun e w2 ⟨u, h2, h3, h4⟩ => ?_)
    obtain ⟨a, c, h5, _⟩ := h3.form
    rw [items_none] at h5
    exact ⟨a, c, h2.trans (by rw [h5]; rfl), h4⟩)
  clear hR hL hA hI
  have k1 : Kept None w (w.alloc (.cells #[.string ⟨#[97]⟩, .int .i64 1, .int .u64 5] 29)) := (Kept.refl _ _).alloc _
  have b1 : Blk (w.alloc (.cells #[.string ⟨#[97]⟩, .int .i64 1, .int .u64 5] 29)) w.heap.size #[.string ⟨#[97]⟩, .int .i64 1, .int .u64 5] 29 := Blk.new _ _ _
  go_enter Try.func8, Try.ntmps8
  go_upto_region 2 with fail
  obtain ⟨w1, hw1⟩ : ∃ z, z = w.alloc (.cells #[.string ⟨#[97]⟩, .int .i64 1, .int .u64 5] 29) := ⟨_, rfl⟩
  obtain ⟨g1, hg1⟩ : ∃ z, z = w.heap.size := ⟨_, rfl⟩
  rw [← hw1] at k1 b1 ⊢
  rw [← hg1] at b1 ⊢
  clear hw1 hg1
  go_wp2_with (first | (refine wpList_load_blk rfl _ _ rfl rfl b1 Es.aEnt16 ?_) | (refine wpList_one_item rfl _ _ rfl Es.rtEnt16 (by decide) rfl rfl ?_) | fail)
  refine (HA1.out _ _ _ _ (R16.ps_blk (x := [.string ⟨#[97]⟩, .int .i64 1, .int .u64 5]) (Blk.new _ _ _) rfl)).mono ?_
  rintro e w2 ⟨u2, rfl, k2, p2⟩
  obtain ⟨a2, c2, hu2, _⟩ := p2.form
  have hu2 : u2 = .slice a2 1 c2 := hu2
  subst hu2
  have k12 := (Kept.alloc (Kept.refl None w1) (.cells #[.string ⟨#[97]⟩, .int .i64 1, .int .u64 5] 29)).trans k2
  have b2 := b1.kept k12 (fun h => h)
  have K2 := hid (k1.trans k12)
  have P2 := hid p2
  have B2 := hid b2
  clear k1 b1 k2 k12 p2 HA1
  go_wp2_with (first | (refine wpList_load_blk rfl _ _ rfl rfl b2 Es.aEnt16 ?_) | (refine wpList_one_item rfl _ _ rfl Es.rtEnt16 (by decide) rfl rfl ?_) | fail)
  refine (HA2.out _ _ _ _ _ _ _ ((P2.out.kept ((Kept.refl None w2).alloc _) (fun _ _ _ h => h))) (R16.ps_blk (x := [.string ⟨#[97]⟩, .int .i64 1, .int .u64 5]) (Blk.new _ _ _) rfl)).mono ?_
  rintro e w3 ⟨u3, rfl, k3⟩
  have k23 := ((Kept.refl None w2).alloc (.cells #[.string ⟨#[97]⟩, .int .i64 1, .int .u64 5] 29)).trans k3
  have K3 := hid (K2.out.trans k23)
  have P3 := hid (P2.out.kept k23 (fun _ _ _ h => h))
  have B3 := hid (B2.out.kept k23 (fun h => h))
  clear b2 k3 k23 HA2 K2 P2 B2
  go_wp2_with fail
  refine (HLa.out _ _ _ _ P3.out).mono ?_
  rintro e w4 ⟨rfl, k4⟩
  have kA := k4.alloc (.cells #[.string ⟨#[97]⟩, .int .i64 1, .int .u64 5, .int .i64 1] 31)
  have K5 := hid (K3.out.trans kA)
  have P5 := hid (P3.out.kept kA (fun _ _ _ h => h))
  have B5 := hid (B3.out.kept kA (fun h => h))
  have X5 := hid (Blk.new w4 #[.string ⟨#[97]⟩, .int .i64 1, .int .u64 5, .int .i64 1] 31)
  clear k4 kA HLa K3 P3 B3
  go_upto_region 5 with fail
  obtain ⟨w5, hw5⟩ : ∃ z, z = w4.alloc (.cells #[.string ⟨#[97]⟩, .int .i64 1, .int .u64 5, .int .i64 1] 31) := ⟨_, rfl⟩
  obtain ⟨g4, hg4⟩ : ∃ z, z = w4.heap.size := ⟨_, rfl⟩
  rw [← hw5] at K5 P5 B5 X5 ⊢
  rw [← hg4] at X5 ⊢
  clear hw5 hg4
  have b5 := B5.out
  have r5 : w5.rangeAt g4 0 [.string ⟨#[97]⟩, .int .i64 1, .int .u64 5] := fun i v hv => by
    rw [Nat.zero_add, X5.out.cell]
    match i, hv with
    | 0, hv => exact hv
    | 1, hv => exact hv
    | 2, hv => exact hv
    | i + 3, hv => simp at hv
  have aE : AggTy Try.prog 29 ([.string ⟨#[97]⟩, .int .i64 1, .int .u64 5] : List Value).length := Es.aEnt16
  have c5 : w5.cell? ⟨g4, 3, none⟩ = some (.int .i64 1) := X5.out.cell 3
  have he : ∀ W, (binOp .eql 29 (.agg #[.string ⟨#[97]⟩, .int .i64 1, .int .u64 5]) (.agg #[.string ⟨#[97]⟩, .int .i64 1, .int .u64 5])).run Try.prog W = .ok (.bool true) W := fun W => by
    have h := eqlEnt eA eA W
    rw [(entEq_iff eA eA).2 rfl] at h
    exact h
  go_wp2_with (first | go_skip | (refine wpList_load_bw (by kernel_rfl) rfl rfl b5 Es.aEnt16 ?_) | (refine wpList_load_wr (by kernel_rfl) rfl rfl r5 aE ?_) | fail)
  refine (HR1.out _ _ _ _ P5.out).mono ?_
  rintro e w6 ⟨rfl, k6⟩
  have K6 := hid (K5.out.trans k6)
  have P6 := hid (P5.out.kept k6 (fun _ _ _ h => h))
  clear k6 b5 r5 c5 he K5 P5 B5 X5 HR1
  go_wp2_with (first | go_skip | fail)
  refine (HI1.out _ _ _ _ P6.out).mono ?_
  rintro e w7 ⟨a7, c7, rfl, k7⟩
  have K7 := hid (K6.out.trans k7)
  have P7 := hid (P6.out.kept k7 (fun _ _ _ h => h))
  clear k7 K6 P6 HI1
  go_wp2_with (first | go_skip | fail)
  refine (HI0.out _ _ _ _ P7.out).mono ?_
  rintro e w8 ⟨a8, c8, rfl, k8⟩
  have K8 := hid (K7.out.trans k8)
  clear k8 K7 P7 HI0
  have hn : Ps 4 (w8.alloc (.cells #[.string ⟨#[]⟩, .int .i64 0, .int .u64 0, .int .i64 0] 31)) 0 (w8.alloc (.cells #[.string ⟨#[]⟩, .int .i64 0, .int .u64 0, .int .i64 0] 31)).heap.size (.slice (some ⟨w8.heap.size, 0, none⟩) 1 1) (knosC [Kno.none]) := R16.ps_blk (x := knoC Kno.none) (Blk.new _ _ _) rfl
  have HN := hid hn
  clear hn
  go_wp2_with (first | go_skip | (refine wpList_one_w (by kernel_rfl) _ _ rfl rtKno16 (by decide) rfl rfl ?_) | fail)
  refine (HR2.out _ _ _ _ HN.out).mono ?_
  rintro e w9 ⟨rfl, k9⟩
  have K9 := hid ((K8.out.alloc _).trans k9)
  clear k9 K8 HN HR2
  go_wp2_with (first | go_skip | fail)
  go_ret
  exact ⟨rfl, K9.out⟩
end P16
end Go.Proofs.Ytglibdggoobocaa
namespace Go.Proofs.Ytglibdggoobocaa
open Go.RowKit Go.Pm
namespace P16
open Dr
theorem find_zero {l : List Kno} (h : RtK l) (nm : ByteArray) : finK l nm 0 = (Kno.none, false) := finK_none (fun x hx _ hv => by have := headK_v (h.head x hx); omega)
theorem find_beyond {l : List Kno} (nm : ByteArray) : finK l nm ((latF l nm).1.e.v + 1) = (Kno.none, false) := finK_none (fun x hx hn hv => by have := ((latF_spec l nm).top x hx hn).2; omega)
theorem lat_any (l : List Kno) (nm : ByteArray) : (latF l nm).2 = l.any (fun x => eqN x.e.n nm) := by
  have s := latF_spec l nm
  cases hb : (latF l nm).2 with
  | true =>
    obtain ⟨q1, q2⟩ := s.yes hb
    exact (List.any_eq_true.2 ⟨_, q1, eqN_iff.2 q2⟩).symm
  | false => exact (List.any_eq_false.2 (fun x hx => by rw [eqN_iff]; exact (s.no hb).2 x hx)).symm
theorem any_take {l : List Kno} {k : Nat} (h : k < l.length) (f : Kno → Bool) : (l.take (k + 1)).any f = ((l.take k).any f || f l[k]) := by
  rw [take_one l k h, List.any_append]
  simp
/-- A directory that the seat made, and what its functions tell of it. -/
structure Facts (w1 : World) (v : Value) (d : List Kno) : Prop where
  ps : ∀ W, Kept None w1 W → Ps 4 W 0 w1.heap.size v (knosC d)
  rt : RtK d
  ok : KOk d
  len : d.length ≤ 1000
theorem Facts.find {w1 : World} {v : Value} {d : List Kno} (h : Facts w1 v d) (hF : FindC) {W : World} (hW : Kept None w1 W) (nm : ByteArray) (ver : Int) : Calls Try.prog 19 #[v, .string nm, .int .i64 ver] W fun e w' => e = .returned (.tuple #[(finK d nm ver).1.V, .bool (finK d nm ver).2]) ∧ Kept None W w' :=
  hF v _ _ d nm ver W (h.ps W hW) h.rt (Nat.le_trans h.len (by decide))
theorem Facts.latest {w1 : World} {v : Value} {d : List Kno} (h : Facts w1 v d) (hL : LatestC) {W : World} (hW : Kept None w1 W) (nm : ByteArray) : Calls Try.prog 18 #[v, .string nm] W fun e w' => e = .returned (.tuple #[(latF d nm).1.V, .bool (latF d nm).2]) ∧ Kept None W w' :=
  hL v _ _ d nm W (h.ps W hW) h.rt (Nat.le_trans h.len (by decide))
theorem Facts.right {w1 : World} {v : Value} {d : List Kno} (h : Facts w1 v d) (hR : RightC) {W : World} (hW : Kept None w1 W) : Calls Try.prog 10 #[v] W fun e w' => e = .returned (.bool true) ∧ Kept None W w' := by
  have h1 := hR v _ _ d W (h.ps W hW) h.ok.w (Nat.le_trans h.len (by decide))
  rw [(rightK_iff d).2 h.rt] at h1
  exact h1
theorem Facts.of {w1 : World} {v : Value} {d : List Kno} {p : Int} (h : Ps 4 w1 0 w1.heap.size v (knosC d)) (ho : DirOk d p) (hl : d.length ≤ 1000) : Facts w1 v d := ⟨fun _W hW => h.kept hW (fun _ _ _ h => h), ho.rt, ho.ok, hl⟩
theorem noneV : (.tuple #[(Kno.none, false).1.V, .bool (Kno.none, false).2] : Value) = .tuple #[.agg #[.string ⟨#[]⟩, .int .i64 0, .int .u64 0, .int .i64 0], .bool false] := rfl
set_option maxRecDepth 100000 in
set_option maxHeartbeats 16000000 in
theorem finds (hR : RightC) (hL : LatestC) (hF : FindC) (hA : AddC) (hI : ItemsC) (v : Value) (lo hi : Nat) (l : List UInt8) (nm : ByteArray) (w : World) (hv : Bs w lo hi v l) : Calls Try.prog 5 #[v, .string nm] w fun e w' => e = .returned (.bool true) ∧ Kept None w w' := by
  obtain ⟨a, cap, rfl, q1, q2, q3⟩ := hv.shape
  have HK := hid (known hR hL hA hI w)
  have HV := hid hv
  have HC := hid (And.intro hR (And.intro hL hF))
  clear hv q3 hR hL hF hA hI
  go_enter Try.func5, Try.ntmps5
  go_wp2_with fail
  refine HK.out.mono ?_
  rintro e w0 ⟨rfl, k0⟩
  have K0 := hid k0
  clear k0 HK
  by_cases hl : 20 < l.length
  · have z2 : (20 : Int) < (l.length : Int) := by omega
    have z1 : decide ((20 : Int) < (l.length : Int)) = true := decide_eq_true z2
    go_wp2_with (first | go_skip | fail)
    go_ret
    exact ⟨rfl, K0.out⟩
  · have z2 : ¬ (20 : Int) < (l.length : Int) := by omega
    have z1 : decide ((20 : Int) < (l.length : Int)) = false := decide_eq_false z2
    by_cases hm : 40 < nm.size
    · have y2 : (40 : Int) < (nm.size : Int) := by omega
      have y1 : decide ((40 : Int) < (nm.size : Int)) = true := decide_eq_true y2
      go_wp2_with (first | go_skip | fail)
      go_ret
      exact ⟨rfl, K0.out⟩
    · have y2 : ¬ (40 : Int) < (nm.size : Int) := by omega
      have y1 : decide ((40 : Int) < (nm.size : Int)) = false := decide_eq_false y2
      have HD := hid (Es.directory (.slice a l.length cap) lo hi l w0 (HV.out.kept K0.out (fun _ _ _ h => h)) (by omega))
      have HL := hid (show l.length ≤ 20 by omega)
      clear HV
      go_wp2_with (first | go_skip | fail)
      refine HD.out.mono ?_
      rintro e w1 ⟨u, d, rfl, k1, p1, o1, n1⟩
      obtain ⟨ad, cd, hu, _⟩ := p1.form
      rw [knosC_len] at hu
      subst hu
      have K1 := hid (K0.out.trans k1)
      have FA := hid (Facts.of p1 o1 (by have := HL.out; omega))
      clear k1 p1 o1 n1 HD K0 z1 z2 y1 y2 HL
      obtain ⟨N, hN⟩ : ∃ z, z = d.length := ⟨_, rfl⟩
      rw [← hN] at FA ⊢
      have HN := hid (show N = d.length ∧ N ≤ 1000 from ⟨hN, by rw [hN]; exact FA.out.len⟩)
      clear hN
      have KR := hid (Kept.refl None w1)
      go_wp2
      go_loopg [6] N (fun kx s6 wr => ∃ k : Nat, s6 = .int .i64 k ∧ k ≤ N ∧ N - k ≤ kx ∧ Hid (Kept None w1 wr))
      case atStart => exact ⟨0, rfl, Nat.zero_le _, Nat.le_refl _, KR⟩
      case round =>
        obtain ⟨k, rfl, hk, hkx, HW⟩ := hrel
        by_cases hlt : k < N
        · have hz : (k : Int) < (N : Int) := by omega
          have wk : IntKind.i64.wrap ((k : Int) + 1) = (k : Int) + 1 := by rw [IntKind.wrap_i64]; have := HN.out.2; omega
          have kl : k < d.length := by have := HN.out.1; omega
          obtain ⟨bb, o, q1, hc⟩ := (FA.out.ps wr HW.out).kno (by omega)
          obtain rfl := q1
          obtain ⟨_, _, _, _, rK, rE⟩ := hc k kl
          have hxm := List.getElem_mem kl
          obtain ⟨X, hX⟩ : ∃ z, z = d[k] := ⟨_, rfl⟩
          rw [← hX] at rK rE hxm
          have hf1 := finK_some FA.out.rt.lt hxm (nm := X.e.n) rfl (v := X.e.v) rfl
          have hf2 := find_zero FA.out.rt X.e.n
          have hf3 := find_beyond (l := d) X.e.n
          have hla := (latF_spec d X.e.n).top X hxm rfl
          have hvb := ver_le FA.out.rt X.e.n
          have hfi := fun W (hW : Kept None w1 W) (ver : Int) => FA.out.find HC.out.2.2 hW X.e.n ver
          have hlt2 := fun W (hW : Kept None w1 W) => FA.out.latest HC.out.2.1 hW X.e.n
          have h1 := fun W (hW : Kept None w1 W) => hfi W hW X.e.v
          rw [hf1] at h1
          have h2 := fun W (hW : Kept None w1 W) => hfi W hW 0
          rw [hf2, noneV] at h2
          have h3 := fun W (hW : Kept None w1 W) => hfi W hW ((latF d X.e.n).1.e.v + 1)
          rw [hf3, noneV] at h3
          have F1 := hid h1
          have F2 := hid h2
          have F3 := hid h3
          clear h1 h2 h3
          obtain ⟨⟨⟨Nn, Nv, Nk⟩, Np⟩, Nb, hNL⟩ : ∃ n b, latF d X.e.n = (n, b) := ⟨_, _, rfl⟩
          rw [hNL] at hla hvb F3 hlt2
          have hnb : Nb = true := hla.1
          subst hnb
          have hnv : X.e.v ≤ Nv := hla.2
          have hvb' : 0 ≤ Nv ∧ Nv ≤ 1073741824 := hvb
          have F4 := hid hlt2
          have hnq := fun W => Jk.neqKno X X W
          rw [(knoEq_iff X X).2 rfl] at hnq
          obtain ⟨⟨xn, xv, xk⟩, xp⟩ := X
          have hnv2 : xv ≤ Nv := hnv
          have hnq2 : ∀ W, (binOp .neq 31 (.agg #[.string xn, .int .i64 xv, .int .u64 (xk : Int), .int .i64 xp]) (.agg #[.string xn, .int .i64 xv, .int .u64 (xk : Int), .int .i64 xp])).run Try.prog W = .ok (.bool false) W := hnq
          have HNQ := hid hnq2
          have HNV := hid (And.intro hnv2 hvb')
          have rE2 : wr.rangeAt bb (o + k * 4) [.string xn, .int .i64 xv, .int .u64 (xk : Int)] := rE
          have RK : Hid (∀ W, Kept None wr W → W.rangeAt bb (o + k * 4) [.string xn, .int .i64 xv, .int .u64 (xk : Int), .int .i64 xp]) := hid (fun W hW => rangeAt_kept rK hW)
          clear hc rK rE hxm hX hf1 hf2 hf3 hla hvb hfi hlt2 hNL hnq hnq2 hnv hnv2 hvb'
          have aE : AggTy Try.prog 29 ([.string xn, .int .i64 xv, .int .u64 (xk : Int)] : List Value).length := Es.aEnt16
          go_upto_region 10 with (first | (refine wpList_load_at (.refl _) _ _ rfl rfl rE2 aE ?_) | fail)
          obtain ⟨w2, hw2⟩ : ∃ z, z = wr.alloc (.cells #[.string xn, .int .i64 xv, .int .u64 (xk : Int)] 29) := ⟨_, rfl⟩
          obtain ⟨g7, hg7⟩ : ∃ z, z = wr.heap.size := ⟨_, rfl⟩
          have k2 : Kept None wr w2 := by rw [hw2]; exact (Kept.refl _ _).alloc _
          have b7 : Blk w2 g7 #[.string xn, .int .i64 xv, .int .u64 (xk : Int)] 29 := by rw [hw2, hg7]; exact Blk.new _ _ _
          rw [← hw2, ← hg7]
          have f0 : w2.cell? ⟨g7, 0, none⟩ = some (.string xn) := b7.cell 0
          have f1 : w2.cell? ⟨g7, 1, none⟩ = some (.int .i64 xv) := b7.cell 1
          have K2 := hid k2
          have B7 := hid b7
          clear hw2 hg7 k2 b7 rE2
          go_wp2_with fail
          refine (F1.out _ (HW.out.trans K2.out)).mono ?_
          rintro e w3 ⟨rfl, k3⟩
          go_upto_region 11 with fail
          obtain ⟨w3a, hw⟩ : ∃ z, z = w3.alloc (.cells #[.string xn, .int .i64 xv, .int .u64 (xk : Int), .int .i64 xp] 31) := ⟨_, rfl⟩
          obtain ⟨g8, hg⟩ : ∃ z, z = w3.heap.size := ⟨_, rfl⟩
          have ka : Kept None w2 w3a := by rw [hw]; exact k3.alloc _
          have bb3 : Blk w3a g8 #[.string xn, .int .i64 xv, .int .u64 (xk : Int), .int .i64 xp] 31 := by rw [hw, hg]; exact Blk.new _ _ _
          rw [← hw, ← hg]
          have f0 : w3a.cell? ⟨g7, 0, none⟩ = some (.string xn) := (B7.out.kept ka (fun h => h)).cell 0
          have K3 := hid (K2.out.trans ka)
          have B7 := hid (B7.out.kept ka (fun h => h))
          have B8 := hid bb3
          clear hw hg ka bb3 k3 K2 F1 f1
          go_wp2_with fail
          refine (F4.out _ (HW.out.trans K3.out)).mono ?_
          rintro e w4 ⟨rfl, k4⟩
          go_upto_region 12 with fail
          obtain ⟨w4a, hw⟩ : ∃ z, z = w4.alloc (.cells #[.string Nn, .int .i64 Nv, .int .u64 (Nk : Int), .int .i64 Np] 31) := ⟨_, rfl⟩
          obtain ⟨g10, hg⟩ : ∃ z, z = w4.heap.size := ⟨_, rfl⟩
          have ka : Kept None w3a w4a := by rw [hw]; exact k4.alloc _
          have bb4 : Blk w4a g10 #[.string Nn, .int .i64 Nv, .int .u64 (Nk : Int), .int .i64 Np] 31 := by rw [hw, hg]; exact Blk.new _ _ _
          rw [← hw, ← hg]
          have f0 : w4a.cell? ⟨g7, 0, none⟩ = some (.string xn) := (B7.out.kept ka (fun h => h)).cell 0
          have K4 := hid (K3.out.trans ka)
          have B7 := hid (B7.out.kept ka (fun h => h))
          have B8 := hid (B8.out.kept ka (fun h => h))
          have B10 := hid bb4
          clear hw hg ka bb4 k4 K3 F4
          go_wp2_with fail
          refine (F2.out _ (HW.out.trans K4.out)).mono ?_
          rintro e w5 ⟨rfl, k5⟩
          go_upto_region 13 with fail
          obtain ⟨w5a, hw⟩ : ∃ z, z = w5.alloc (.cells #[.string ⟨#[]⟩, .int .i64 0, .int .u64 0, .int .i64 0] 31) := ⟨_, rfl⟩
          obtain ⟨g12, hg⟩ : ∃ z, z = w5.heap.size := ⟨_, rfl⟩
          have ka : Kept None w4a w5a := by rw [hw]; exact k5.alloc _
          have bb5 : Blk w5a g12 #[.string ⟨#[]⟩, .int .i64 0, .int .u64 0, .int .i64 0] 31 := by rw [hw, hg]; exact Blk.new _ _ _
          rw [← hw, ← hg]
          have K5 := hid (K4.out.trans ka)
          have B7 := hid (B7.out.kept ka (fun h => h))
          have B8 := hid (B8.out.kept ka (fun h => h))
          have B10 := hid (B10.out.kept ka (fun h => h))
          clear hw hg ka bb5 k5 K4 F2 f0
          have RK2 := hid (RK.out w5a K5.out)
          have aK : AggTy Try.prog 31 ([.string xn, .int .i64 xv, .int .u64 (xk : Int), .int .i64 xp] : List Value).length := R16.aKno
          have r8 : Hid (w5a.rangeAt g8 0 [.string xn, .int .i64 xv, .int .u64 (xk : Int), .int .i64 xp]) := hid (fun i v hv => by rw [Nat.zero_add, B8.out.cell]; simpa using hv)
          have dlt : decide (Nv < xv) = false := decide_eq_false (by have := HNV.out.1; omega)
          refine wp_region_kn w5a [] Go.Pm.Steady.nil (Kept.refl _ _) (by kernel_rfl) (by kernel_rfl) (by kernel_rfl) ?_
          iterate 25 (refine wpPar_pure rfl (by kernel_rfl) _ (fun W hW => by
              have hnq := HNQ.out
              have s1 : W.cell? ⟨g10, 1, none⟩ = some (.int .i64 Nv) := (B10.out.kept hW (fun h => h)).cell 1
              have s2 : W.cell? ⟨g7, 1, none⟩ = some (.int .i64 xv) := (B7.out.kept hW (fun h => h)).cell 1
              first | exact exec_load_at rfl rfl (rangeAt_kept r8.out hW) aK | exact exec_load_at rfl rfl (rangeAt_kept RK2.out hW) aK | (go_simp; exact rfl)) ?_; simp only [Act.put, List.setIfInBounds_toArray, List.set_cons_zero, List.set_cons_succ])
          refine wpPar_nil (fun w6 hW hG => ?_)
          have f0 : w6.cell? ⟨g7, 0, none⟩ = some (.string xn) := (B7.out.kept hW (fun h => h)).cell 0
          have f1 : w6.cell? ⟨g10, 1, none⟩ = some (.int .i64 Nv) := (B10.out.kept hW (fun h => h)).cell 1
          have K6 := hid (K5.out.trans hW)
          have wn : IntKind.i64.wrap (Nv + 1) = Nv + 1 := by rw [IntKind.wrap_i64]; have := HNV.out; omega
          clear hG hW B7 B8 B10 RK RK2 r8 HNQ K5 dlt
          go_wp2_with fail
          refine (F3.out _ (HW.out.trans K6.out)).mono ?_
          rintro e w7 ⟨rfl, k7⟩
          have KE := hid (HW.out.trans ((K6.out.trans k7).alloc (.cells #[.string ⟨#[]⟩, .int .i64 0, .int .u64 0, .int .i64 0] 31)))
          clear k7 F3 K6 f0 f1
          go_wp2_with fail
          go_roundg (N - (k + 1))
          case measure => omega
          case rel => exact ⟨k + 1, by go_num, by omega, Nat.le_refl _, KE⟩
        · have hz : ¬ (k : Int) < (N : Int) := by omega
          have HW2 := hid HW.out
          have KR2 := hid (Kept.refl None wr)
          obtain ⟨wo, hwo⟩ : ∃ z, z = wr := ⟨_, rfl⟩
          rw [← hwo] at HW2 KR2 ⊢
          clear hwo HW
          go_wp2
          go_loopg [16, 17] N (fun kx s16 s17 wr => ∃ (i : Nat) (B : Bool), s17 = .int .i64 i ∧ s16 = .bool B ∧ i ≤ N ∧ N - i ≤ kx ∧ Hid (Kept None wo wr) ∧ Hid ((d.take i).any (fun x => eqN x.e.n nm) = B))
          case atStart => exact ⟨0, false, rfl, rfl, Nat.zero_le _, Nat.le_refl _, KR2, hid rfl⟩
          case round =>
            obtain ⟨i, B, rfl, rfl, hi, hix, HQ, HB⟩ := hrel
            by_cases hin : i < N
            · have hiz : (i : Int) < (N : Int) := by omega
              have wi : IntKind.i64.wrap ((i : Int) + 1) = (i : Int) + 1 := by rw [IntKind.wrap_i64]; have := HN.out.2; omega
              have il : i < d.length := by have := HN.out.1; omega
              obtain ⟨bb, o, q1, hc⟩ := (FA.out.ps wr (HW2.out.trans HQ.out)).kno (by omega)
              obtain rfl := q1
              have c0 := (hc i il).1
              have hst := any_take il (fun x => eqN x.e.n nm)
              rw [HB.out] at hst
              obtain ⟨E, hE⟩ : ∃ E, E = eqN d[i].e.n nm := ⟨_, rfl⟩
              obtain ⟨x0, hx0⟩ : ∃ x, x = d[i].e.n := ⟨_, rfl⟩
              rw [← hx0] at c0
              rw [← hE] at hst
              have hE' : (x0.toList == nm.toList) = E := by rw [hx0, hE]; rfl
              have HST := hid hst
              clear hc hE hx0 hst
              cases B with
              | true =>
                go_wp2_with (first | go_skip | fail)
                go_roundg (N - (i + 1))
                case measure => omega
                case rel => exact ⟨i + 1, true, by go_num, rfl, by omega, Nat.le_refl _, HQ, hid (by rw [HST.out]; rfl)⟩
              | false =>
                go_wp2_with (first | go_skip | fail)
                go_roundg (N - (i + 1))
                case measure => omega
                case rel => exact ⟨i + 1, E, by go_num, rfl, by omega, Nat.le_refl _, HQ, hid (by rw [HST.out]; rfl)⟩
            · have hiz : ¬ (i : Int) < (N : Int) := by omega
              have hBB : B = (latF d nm).2 := by
                rw [lat_any, ← HB.out, List.take_of_length_le (by have := HN.out.1; omega)]
              have hla := fun W (hW : Kept None w1 W) => FA.out.latest HC.out.2.1 hW nm
              rw [← hBB] at hla
              obtain ⟨M, hM⟩ : ∃ z, z = (latF d nm).1 := ⟨_, rfl⟩
              rw [← hM] at hla
              obtain ⟨⟨Mn, Mv, Mk⟩, Mp⟩ := M
              have HLA := hid hla
              have HRI := hid (fun W (hW : Kept None w1 W) => FA.out.right HC.out.1 hW)
              have HW3 := hid (HW2.out.trans HQ.out)
              clear hBB hla hM HB HQ
              go_wp2_with fail
              refine (HLA.out _ HW3.out).mono ?_
              rintro e w8 ⟨rfl, k8⟩
              have ka := HW3.out.trans (k8.alloc (.cells #[.string Mn, .int .i64 Mv, .int .u64 (Mk : Int), .int .i64 Mp] 31))
              have K8 := hid ka
              have bq : (B == B) = true := by cases B <;> rfl
              clear k8 ka HLA HW3
              go_wp2_with (first | go_skip | fail)
              refine (HRI.out _ K8.out).mono ?_
              rintro e w9 ⟨rfl, k9⟩
              have K9 := hid ((K1.out.trans K8.out).trans k9)
              clear k9 HRI K8
              go_wp2_with (first | go_skip | fail)
              go_ret
              exact ⟨rfl, K9.out⟩
end P16
end Go.Proofs.Ytglibdggoobocaa
