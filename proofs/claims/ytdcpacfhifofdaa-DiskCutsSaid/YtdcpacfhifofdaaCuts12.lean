/- postmarklaw12.DiskCuts: true. -/
import Derived.Test.YtdcpacfhifofdaaPre12
import Derived.Lib.Walk
namespace Go.Proofs.Ytdcpacfhifofdaa
open Go.RowKit Go.Pm
namespace K12
open Dk
/-- A cut beyond the file's ends does nothing. -/
theorem cut_out (X : Nat → Prop) (d i : Nat) (n : Int) (D : Dsk) (w : World) (hi : i < 3) (hD : DAt w X d D) (h : n < 0 ∨ (D.f i).t.length < n) :
    Calls Try.prog 16 #[.pointer (some ⟨d, 0, none⟩), .int .i64 (i : Int), .int .i64 n] w fun e w' => e = .returned (.int .i64 36) ∧ Kept None w w' := by
  have hl : (i : Int) < 3 := by omega
  have HI := hid hi
  obtain ⟨a, c, b, hc, _⟩ := hD.text hi
  clear hD hi
  by_cases h0 : n < 0
  · have d0 : decide (n < 0) = true := by simpa using h0
    clear h0 h
    go_enter Try.func16, Try.ntmps16
    go_wp2_with fail
    refine (there (i : Int) w).mono ?_
    rintro e w0 ⟨rfl, rfl⟩
    rw [at_two HI.out]
    go_wp2
    go_ret
    exact ⟨rfl, Kept.refl _ _⟩
  · have h1 : (D.f i).t.length < n := h.resolve_left h0
    have d0 : decide (n < 0) = false := by simpa using h0
    have d1 : decide (((D.f i).t.length : Int) < n) = true := by simpa using h1
    clear h0 h1 h
    go_enter Try.func16, Try.ntmps16
    go_wp2_with fail
    refine (there (i : Int) w).mono ?_
    rintro e w0 ⟨rfl, rfl⟩
    rw [at_two HI.out]
    go_wp2
    go_ret
    exact ⟨rfl, Kept.refl _ _⟩
theorem sx_cut_out {w wi : World} {B : Nat → Prop} {d i : Nat} {n : Int} {D : Dsk} (h : Sx w wi B d D) (hi : i < 3) (hn : n < 0 ∨ (D.f i).t.length < n) :
    Calls Try.prog 16 #[.pointer (some ⟨d, 0, none⟩), .int .i64 (i : Int), .int .i64 n] wi fun e w' => e = .returned (.int .i64 36) ∧ Kept None wi w' := by
  obtain ⟨X, hX, _⟩ := h.ex
  exact cut_out X d i n D wi hi hX hn
theorem sx_sure_k {w wi : World} {B : Nat → Prop} {d i : Nat} {D : Dsk} (h : Sx w wi B d D) (hi : i < 3) {n : Nat} (hn : (D.f i).sure = n) :
    Calls Try.prog 13 #[.pointer (some ⟨d, 0, none⟩), .int .i64 (i : Int)] wi fun e wk => e = .returned (.int .i64 (n : Int)) ∧ Kept None wi wk := by
  refine (sx_sure h hi hn).mono ?_
  rintro e wk ⟨rfl, rfl⟩
  exact ⟨rfl, Kept.refl _ _⟩
set_option maxRecDepth 100000 in
set_option maxHeartbeats 16000000 in
theorem cuts (v0 v1 : Value) (lo hi lo1 hi1 lo2 hi2 : Nat) (sure : List UInt8) (l : List (List UInt8)) (n : Nat) (w : World) (hv0 : Bs w lo hi v0 sure) (hv1 : Bss w lo1 hi1 lo2 hi2 v1 l) (hn : n < 256) : Calls Try.prog 5 #[v0, v1, .int .u8 (n : Int)] w fun e w' => e = .returned (.bool true) ∧ Kept None w w' := by
  obtain ⟨a0, c0, rfl, _⟩ := hv0.shape
  obtain ⟨a1, c1, rfl, _⟩ := hv1.shape
  have HV0 := hid (hv0.all)
  have HV1 := hid hv1
  have HN := hid hn
  clear hn
  clear hv0 hv1
  by_cases hs : sure.length ≤ 40
  · by_cases hl : l.length ≤ 10
    · have ds : decide ((40 : Int) < (sure.length : Int)) = false := by simp; omega
      have dl : decide ((10 : Int) < (l.length : Int)) = false := by simp; omega
      have HL := hid (And.intro hs hl)
      clear hs hl
      go_enter Try.func5, Try.ntmps5
      go_wp2_with fail
      refine (known w).mono ?_
      rintro e w1 ⟨rfl, k1⟩
      go_wp2_with fail
      refine (sx_new 1048576 w w1 None k1 (fun _ h => h.elim) (by decide) 2).mono ?_
      rintro e w2 ⟨d, rfl, s2, _⟩
      have S2 := hid s2
      clear s2 k1
      go_wp2_with fail
      refine (sx_app_old (i := 2) (x := sure) S2.out (d1_ok (Fl.ok_nil _) (by decide) (by decide) (by decide) (by decide)) (by decide) (HV0.out.kept S2.out.kept (fun _ _ _ h => h)) (Nat.le_refl _) (by have := HL.out.1; omega)).mono ?_
      intro e w3 h3
      obtain ⟨rfl, s⟩ := drop_kept (d1_app (j := 2) (F := ⟨[], []⟩) (r := 1048576) (x := sure) (by decide) (by have := HL.out.1; simp; omega)).2 (d1_app (j := 2) (F := ⟨[], []⟩) (r := 1048576) (x := sure) (by decide) (by have := HL.out.1; simp; omega)).1 h3
      have S3 := hid s
      clear s h3
      go_wp2_with fail
      refine (sx_sync (i := 2) S3.out (d1_ok (Fl.ok_add (Fl.ok_nil _) _) (by have := HL.out.1; simp [Fl.add]; omega) (by simp [Fl.add]) (by decide) (by decide)) (by decide)).mono ?_
      intro e w4 h4
      obtain ⟨rfl, s⟩ := drop_kept (d1_sync (j := 2)).2 (d1_sync (j := 2)).1 h4
      have S4 := hid s
      clear s h4
      have hn : Ob w4 w.heap.size (.slice none 0 0) [] := Bo.nil _ _ _
      have hu := HV0.out.kept S4.out.kept (fun _ _ _ h => h)
      have hln : ([] : List UInt8).length + sure.length ≤ 140737488355328 := by have := HL.out.1; simp; omega
      go_wp2_with (first | (refine wpList_append_bk rfl _ _ 22 rfl rtBytes rfl rfl hn hu hln S4.out.kept.size ?_; intro a5 n5 c5 w5 hB5 hK5 hO5) | fail)
      obtain ⟨sx, hb⟩ : Sx w w5 (Of (.slice a5 n5 c5)) d (d1 2 (Fl.settle (Fl.add ⟨[], []⟩ sure)) 1048576 (-1)) ∧ Ob w5 w.heap.size (.slice a5 n5 c5) sure := by
        have k5 : Kept None w4 w5 := hK5.mono (fun k _ h => by cases h)
        refine ⟨S4.out.rows (k5.mono (fun _ _ h => h)) (S4.out.kept.trans k5) (fun q hq => ⟨?_, (hB5.own q hq).2⟩), by simpa using hB5⟩
        rcases hO5 q hq with h | h
        · cases h
        · exact .inr (by omega)
      have SX5 := hid sx
      have HB5 := hid hb
      clear sx hb hn hu hln hB5 hK5 hO5
      go_wp2_with fail
      go_loopg [8, 9] l.length (fun kx sA sI wr => ∃ (i : Nat) (F : Fl) (a8 : Option Addr) (n8 c8 : Nat), sA = .slice a8 n8 c8 ∧ sI = .int .i64 (i : Int) ∧ i ≤ l.length ∧ l.length - i ≤ kx ∧ Hid (Gf F sure (allL sure l i) i ∧ (allL sure l i).length ≤ 40 + 20 * i) ∧ Hid (Sx w wr (Of (.slice a8 n8 c8)) d (d1 2 F 1048576 (-1))) ∧ Hid (Ob wr w.heap.size (.slice a8 n8 c8) (allL sure l i)))
      case atStart => exact ⟨0, _, a5, n5, c5, rfl, rfl, Nat.zero_le _, Nat.le_refl _, hid ⟨by rw [allL_zero]; exact Gf.start sure, by rw [allL_zero]; exact HL.out.1⟩, SX5, by rw [allL_zero]; exact HB5⟩
      case round =>
      obtain ⟨i, F, a8, n8, c8, rfl, rfl, hi, hix, HG, HS, HB⟩ := hrel
      by_cases hlt : i < l.length
      · have hlt' : decide ((i : Int) < (l.length : Int)) = true := by simpa using hlt
        obtain ⟨b, o, rfl, q1, q2, q3, hcell⟩ := (HV1.out.kept HS.out.kept (fun _ _ _ h => h) (fun _ _ _ h => h)).at (by omega)
        obtain ⟨ax, cx, hcx, hx⟩ := hcell i hlt
        have hxw : Bs w 0 w.heap.size (.slice ax l[i].length cx) l[i] := by
          obtain ⟨b', o', e', _, _, q3', hcell'⟩ := HV1.out.at (by omega)
          obtain ⟨rfl, rfl⟩ : b = b' ∧ o = o' := by simpa using e'
          obtain ⟨ax', cx', hcx', hx'⟩ := hcell' i hlt
          have := (HS.out.kept.cell (p := ⟨b, o + i, none⟩) q3' (fun h => h)).symm.trans hcx
          rw [hcx'] at this
          injection this with this
          injection this with e1 e2 e3
          subst e1 e3
          exact hx'.all
        have hnext := allL_next sure l i hlt
        have HXC := hid (fun W (hW : Kept None w W) => show W.cell? ⟨b, o + i, none⟩ = some (.slice ax l[i].length cx) from (by
          obtain ⟨b', o', e', _, _, q3', hcell'⟩ := HV1.out.at (by omega)
          obtain ⟨rfl, rfl⟩ : b = b' ∧ o = o' := by simpa using e'
          have h1 := HS.out.kept.cell (p := ⟨b, o + i, none⟩) q3' (fun h => h)
          have h2 := hW.cell (p := ⟨b, o + i, none⟩) q3' (fun h => h)
          exact h2.trans (h1.symm.trans hcx)))
        obtain ⟨x, hxe⟩ : ∃ x, x = l[i] := ⟨_, rfl⟩
        rw [← hxe] at hcx hxw hnext HXC
        have HX := hid (And.intro hxw hnext)
        clear hcell hx hxw hnext hxe q1 q2 q3
        by_cases hx20 : x.length ≤ 20
        · have dx : decide ((20 : Int) < (x.length : Int)) = false := by simp; omega
          have dx2 : decide (20 < x.length) = false := by simp; omega
          have HX2 := hid hx20
          clear hx20
          have dok : (d1 2 F 1048576 (-1)).Ok := HG.out.1.dok (by have := HG.out.2; have := HL.out; omega) (by have := HL.out; omega)
          have app := d1_app (j := 2) (F := F) (r := 1048576) (x := x) (by decide) (by rw [HG.out.1.t]; have := HG.out.2; have := HL.out; have := HX2.out; omega)
          have HDK := hid (And.intro dok app)
          clear dok app
          go_wp2_with fail
          refine (sx_app_old (i := 2) (x := x) HS.out HDK.out.1 (by decide) (HX.out.1.kept HS.out.kept (fun _ _ _ h => h)) (Nat.le_refl _) (by have := HX2.out; omega)).mono ?_
          rintro e w6 ⟨rfl, s, k6⟩
          rw [HDK.out.2.2] at s
          rw [HDK.out.2.1]
          have hb6 : Ob w6 w.heap.size (.slice a8 n8 c8) (allL sure l i) := HB.out.kept k6 (fun k h h' => h'.2 h)
          have hu6 : Bs w6 0 w.heap.size (.slice ax x.length cx) x := HX.out.1.kept s.kept (fun _ _ _ h => h)
          have S6 := hid s
          have hc6 := HXC.out w6 s.kept
          have hln : (allL sure l i).length + x.length ≤ 140737488355328 := by have := HG.out.2; have := HL.out; have := HX2.out; omega
          have hsz := s.kept.size
          clear s k6 hcx dx dx2
          go_wp2_with (first | (refine wpList_append_bk rfl _ _ 22 rfl rtBytes rfl rfl hb6 hu6 hln hsz ?_; intro a7 n7 c7 w7 hB7 hK7 hO7) | fail)
          obtain ⟨sx, hb⟩ : Sx w w7 (Of (.slice a7 n7 c7)) d (d1 2 (F.add x) 1048576 (-1)) ∧ Ob w7 w.heap.size (.slice a7 n7 c7) (allL sure l (i + 1)) := by
            refine ⟨S6.out.rows hK7 (S6.out.kept.then hK7 (fun q hq h => by have := (hb6.own q h).1; omega)) (fun q hq => ⟨?_, (hB7.own q hq).2⟩), by rw [HX.out.2]; exact hB7⟩
            rcases hO7 q hq with h | h
            · exact .inl h
            · exact .inr (by omega)
          have SX7 := hid sx
          have HB7 := hid hb
          clear sx hb hb6 hu6 hc6 hln hsz hB7 hK7 hO7
          go_wp2
          go_roundg (l.length - (i + 1))
          case measure => omega
          case rel => exact ⟨i + 1, F.add x, a7, n7, c7, rfl, by go_num, by omega, Nat.le_refl _, hid ⟨by rw [HX.out.2]; exact HG.out.1.add x, by rw [HX.out.2, List.length_append]; have := HG.out.2; have := HX2.out; omega⟩, SX7, HB7⟩
        · have dx : decide ((20 : Int) < (x.length : Int)) = true := by simp; omega
          have dx2 : decide (20 < x.length) = true := by simp; omega
          clear hx20
          go_wp2
          go_ret
          exact ⟨rfl, HS.out.kept⟩
      · have hlt' : decide ((i : Int) < (l.length : Int)) = false := by simpa using hlt
        obtain rfl : i = l.length := by omega
        clear hlt hi hix
        obtain ⟨AL, hAL⟩ : ∃ A, A = allL sure l l.length := ⟨_, rfl⟩
        rw [← hAL] at HG HB
        have HA := hid hAL
        clear hAL
        obtain ⟨aA, cA, eV⟩ := HB.out.form
        obtain ⟨rfl, rfl, rfl⟩ : a8 = aA ∧ n8 = AL.length ∧ c8 = cA := by simpa using eV
        clear eV
        obtain ⟨M, hM⟩ : ∃ M, M = AL.length + 1 := ⟨_, rfl⟩
        obtain ⟨K, hK⟩ : ∃ K, K = n % M := ⟨_, rfl⟩
        have hKM : K < M := by rw [hK]; exact Nat.mod_lt _ (by omega)
        have HMM := hid (show M = AL.length + 1 ∧ K < M from ⟨hM, hKM⟩)
        have hM2 : (AL.length : Int) + 1 = (M : Int) := by omega
        have hK2 : (n : Int) % (M : Int) = (K : Int) := by rw [hK]; simp
        have WM := hid (show wrap64 (M : Int) = (M : Int) ∧ IntKind.i64.wrap (M : Int) = (M : Int) ∧ IntKind.i64.wrap (n : Int) = (n : Int) from ⟨by rw [wrap_in _ (by omega) (by have := HG.out.2; have := HL.out; omega)], by rw [IntKind.wrap_i64]; have := HG.out.2; have := HL.out; omega, by rw [IntKind.wrap_i64]; have := HN.out; omega⟩)
        have hM0 : ¬ M = 0 := by omega
        have WMM := hid (show IntKind.i64.wrap ((AL.length : Int) + 1) = (M : Int) by rw [IntKind.wrap_i64]; have := HG.out.2; have := HL.out; omega)
        clear hM hK hKM
        obtain ⟨m1, m2, m3⟩ := WM.out
        have hn := HN.out
        go_wp2_with fail
        rw [hK2]
        clear m1 m2 m3 hM0 hK2 hM2
        by_cases hks : K ≤ sure.length
        · skip
          obtain ⟨S, hS⟩ : ∃ S, S = K := ⟨_, rfl⟩
          have hmin : min K sure.length = S := by omega
          have hmi : min (K : Int) (sure.length : Int) = (S : Int) := by omega
          have HMN := hid hmi
          have hcu := Fl.ok_cut HG.out.1.ok (n := K) (by rw [HG.out.1.t]; have := HMM.out; omega)
          rw [HG.out.1.s, hmin] at hcu
          have HDK := hid (And.intro (show (d1 2 F 1048576 (-1)).Ok from HG.out.1.dok (by have := HG.out.2; have := HL.out; omega) (by have := HL.out; omega)) (d1_cut' (j := 2) (F := F) (r := 1048576) (n := -1) (m := K) (by decide) (by rw [HG.out.1.t]; have := HMM.out; omega)))
          obtain ⟨T, hT⟩ : ∃ T, T = AL.take K := ⟨_, rfl⟩
          have hFT : (F.cut K).t = T := by rw [hT, ← HG.out.1.t]; rfl
          have hlb : (F.cut K).b.length ≤ 1048576 := by have := HG.out.1.b; have := HL.out; have := (List.takeWhile_prefix (l := F.b) (fun x => decide (x < K))).length_le; simp only [Fl.cut]; omega
          have HDK2 := hid (And.intro (show (d1 2 (F.cut K) 1048576 (-1)).Ok from d1_ok hcu.1 (by rw [hFT, hT, List.length_take]; have := HG.out.2; have := HL.out; omega) hlb (by decide) (by decide)) (And.intro hFT hcu.2))
          have htk : ∀ W, Kept (Free w (Of (.slice a8 AL.length c8))) wr W → Ob W w.heap.size (.slice a8 K c8) T := fun W k => by
            have h := row_take (HB.out.kept k (fun q h h' => h'.2 h)) (i := K) (by have := HMM.out; omega)
            rw [← List.map_take, ← hT] at h
            have hK : T.length = K := by rw [hT, List.length_take]; have := HMM.out; omega
            unfold Ob Bo
            rw [hK]
            exact h
          have HCA := hid (fun W (hW : Kept (Free w (Of (.slice a8 AL.length c8))) wr W) => (by
            have h := cvBytes ((htk W hW).bs (Nat.le_refl _))
            exact h : (convert 22 9 (.slice a8 K c8)).run Try.prog W = .ok (.string ⟨T.toArray⟩) W))
          have hrow := HB.out
          unfold Ob Bo at hrow
          have hsl := row_slice_to tBytes zBytes hrow .i64 (K : Int) (by omega) (by have := HMM.out; omega)
          have hsl2 := row_slice_to tBytes zBytes hrow .i64 (S : Int) (by omega) (by have := HMM.out; omega)
          simp only [Int.toNat_natCast] at hsl hsl2
          have hT2 : ((F.cut K).crash 0 0) = ⟨AL.take S, []⟩ := by
            rw [Fl.crash_none 0 hcu.1, hcu.2, hFT, hT, List.take_take, Nat.min_eq_left (by omega)]
          have HT2 := hid hT2
          have HSK := hid (show S ≤ K ∧ S ≤ sure.length by omega)
          clear hS hmin hcu hT hFT hlb htk hrow hT2
          
          go_wp2_with fail
          refine wp_region_plan (Kept (Free w (Of (.slice a8 AL.length c8))) wr) [{ k := 4, uses := [100], pure := fun u => u = .int .i64 36 }, { k := 8, uses := [100], pure := fun u => u = .int .i64 36 }, { k := 14, uses := [100], spends := [100], later := [19], pure := fun u => u = .int .i64 0, fact := fun u W => Sx w W (Of (.slice a8 AL.length c8)) d (d1 2 (F.cut K) 1048576 (-1)) }, { k := 19, uses := [14], pure := fun u => ∃ a c, u = .slice a T.length c, fact := fun u W => ∃ lo hi, Bs W lo hi u T }, { k := 20, uses := [19], pure := fun u => u = .string ⟨T.toArray⟩ }, { k := 29, uses := [14], pure := fun u => u = .int .i64 (S : Int) }, { k := 100, uses := [], fact := fun u W => Sx w W (Of (.slice a8 AL.length c8)) d (d1 2 F 1048576 (-1)) }] [100] (by kernel_rfl) (by kernel_rfl) (by kernel_rfl) (by rfl) ?pures ((Kept.refl _ wr).drew) ?starts ?walk
          case pures =>
            intro f hf
            simp only [List.mem_cons, List.not_mem_nil, or_false] at hf
            rcases hf with rfl | rfl | rfl | rfl | rfl | rfl | rfl
            · exact ⟨_, rfl⟩
            · exact ⟨_, rfl⟩
            · exact ⟨_, rfl⟩
            · exact ⟨_, none, 0, rfl⟩
            · exact ⟨_, rfl⟩
            · exact ⟨_, rfl⟩
            · exact ⟨undef, trivial⟩
          case starts =>
            intro k hk
            have hk : k = 100 := by simpa using hk
            subst hk
            exact HS.out.keptN ((Kept.refl None wr).drew)
          iterate 3 (refine wpPar_pure rfl (by rfl) _ (fun W hW => by
              have cva := HCA.out W hW
              go_simp
              exact rfl) ?_; simp only [Act.put, List.setIfInBounds_toArray, List.set_cons_zero, List.set_cons_succ])
          refine wpPar_pure rfl (by rfl) (.int .i64 (M : Int)) (fun W hW => by have wm := WMM.out; go_simp) ?_; simp only [Act.put, List.setIfInBounds_toArray, List.set_cons_zero, List.set_cons_succ]
          refine wpPar_adds rfl (by rfl) (fun W hW hd => ?_) (fun v4 hv => ?_)
          · unfold Gives
            go_simp
            refine gives_call (sx_cut_out (i := 2) (n := (M : Int)) (hd 100 (List.Mem.head _)) (by decide) (.inr (by rw [d1_f, HG.out.1.t]; have := HMM.out.1; omega))) ?_
            rintro e w3 ⟨rfl, k3⟩
            refine ⟨_, rfl, hW.then k3 (fun _ _ h => h.elim), rfl, trivial, keeps_of fun f hf hs hl hne u hfu => ?_⟩
            simp only [List.mem_cons, List.not_mem_nil, or_false] at hf
            rcases hf with rfl | rfl | rfl | rfl | rfl | rfl | rfl
            · exact absurd rfl hne
            · exact hfu
            · exact hfu.keptN k3
            · (obtain ⟨lo, hi, hb⟩ := hfu; exact ⟨lo, hi, hb.kept k3 (fun _ _ _ h => h)⟩)
            · exact hfu
            · exact hfu
            · exact hfu.keptN k3
          obtain rfl : v4 = .int .i64 36 := hv
          simp only [Act.put, List.setIfInBounds_toArray, List.set_cons_zero, List.set_cons_succ]
          iterate 2 (refine wpPar_pure rfl (by rfl) _ (fun W hW => by
              have cva := HCA.out W hW
              go_simp
              exact rfl) ?_; simp only [Act.put, List.setIfInBounds_toArray, List.set_cons_zero, List.set_cons_succ])
          refine wpPar_pure rfl (by kernel_rfl) _ (fun W hW => by
              have cva := HCA.out W hW
              go_simp
              exact rfl) ?_; simp only [Act.put, List.setIfInBounds_toArray, List.set_cons_zero, List.set_cons_succ]
          refine wpPar_adds rfl (by kernel_rfl) (fun W hW hd => ?_) (fun v8 hv => ?_)
          · unfold Gives
            go_simp
            refine gives_call (sx_cut_out (i := 2) (n := -1) (hd 100 (List.Mem.head _)) (by decide) (.inl (by decide))) ?_
            rintro e w3 ⟨rfl, k3⟩
            refine ⟨_, rfl, hW.then k3 (fun _ _ h => h.elim), rfl, trivial, keeps_of fun f hf hs hl hne u hfu => ?_⟩
            simp only [List.mem_cons, List.not_mem_nil, or_false] at hf
            rcases hf with rfl | rfl | rfl | rfl | rfl | rfl | rfl
            · exact hfu
            · exact absurd rfl hne
            · exact hfu.keptN k3
            · (obtain ⟨lo, hi, hb⟩ := hfu; exact ⟨lo, hi, hb.kept k3 (fun _ _ _ h => h)⟩)
            · exact hfu
            · exact hfu
            · exact hfu.keptN k3
          obtain rfl : v8 = .int .i64 36 := hv
          simp only [Act.put, List.setIfInBounds_toArray, List.set_cons_zero, List.set_cons_succ]
          refine wpPar_pure rfl (by kernel_rfl) _ (fun W hW => by
              have cva := HCA.out W hW
              go_simp
              exact rfl) ?_; simp only [Act.put, List.setIfInBounds_toArray, List.set_cons_zero, List.set_cons_succ]
          iterate 2 (refine wpPar_pure rfl (by rfl) _ (fun W hW => by
              have cva := HCA.out W hW
              go_simp
              exact rfl) ?_; simp only [Act.put, List.setIfInBounds_toArray, List.set_cons_zero, List.set_cons_succ])
          refine wpPar_pure rfl (by kernel_rfl) _ (fun W hW => by
              have cva := HCA.out W hW
              go_simp
              exact rfl) ?_; simp only [Act.put, List.setIfInBounds_toArray, List.set_cons_zero, List.set_cons_succ]
          refine wpPar_pure rfl (by kernel_rfl) _ (fun W hW => by
              have cva := HCA.out W hW
              go_simp
              exact rfl) ?_; simp only [Act.put, List.setIfInBounds_toArray, List.set_cons_zero, List.set_cons_succ]
          refine wpPar_adds rfl (by kernel_rfl) (fun W hW hd => ?_) (fun v14 hv => ?_)
          · have hS : Sx w W (Of (.slice a8 AL.length c8)) d (d1 2 F 1048576 (-1)) := hd 100 (List.Mem.head _)
            unfold Gives
            go_simp
            refine gives_call (sx_cut (i := 2) (n := (K : Int)) hS HDK.out.1 (by decide)) ?_
            rintro e w3 ⟨rfl, s, kS⟩
            rw [HDK.out.2.2] at s
            rw [HDK.out.2.1]
            refine ⟨_, rfl, hW.trans kS, rfl, s, keeps_of fun f hf hs hl hne u hfu => ?_⟩
            simp only [List.mem_cons, List.not_mem_nil, or_false] at hf
            rcases hf with rfl | rfl | rfl | rfl | rfl | rfl | rfl
            · exact hfu
            · exact hfu
            · exact absurd rfl hne
            · exact absurd (List.Mem.head _) hl
            · exact hfu
            · exact hfu
            · exact absurd (List.Mem.head _) hs
          obtain rfl : v14 = .int .i64 0 := hv
          simp only [Act.put, List.setIfInBounds_toArray, List.set_cons_zero, List.set_cons_succ]
          refine wpPar_pure rfl (by kernel_rfl) _ (fun W hW => by
              have cva := HCA.out W hW
              go_simp
              exact rfl) ?_; simp only [Act.put, List.setIfInBounds_toArray, List.set_cons_zero, List.set_cons_succ]
          iterate 2 (refine wpPar_pure rfl (by rfl) _ (fun W hW => by
              have cva := HCA.out W hW
              go_simp
              exact rfl) ?_; simp only [Act.put, List.setIfInBounds_toArray, List.set_cons_zero, List.set_cons_succ])
          refine wpPar_pure rfl (by kernel_rfl) _ (fun W hW => by
              have cva := HCA.out W hW
              go_simp
              exact rfl) ?_; simp only [Act.put, List.setIfInBounds_toArray, List.set_cons_zero, List.set_cons_succ]
          refine wpPar_adds rfl (by kernel_rfl) (fun W hW hd => ?_) (fun v19 hv => ?_)
          · have hS : Sx w W (Of (.slice a8 AL.length c8)) d (d1 2 (F.cut K) 1048576 (-1)) := hd 14 (List.Mem.head _)
            unfold Gives
            go_simp
            refine gives_call (sx_read (i := 2) (l := T) hS HDK2.out.1 (by decide) (by rw [d1_f]; exact HDK2.out.2.1)) ?_
            rintro e w3 ⟨v, rfl, k3, b3⟩
            obtain ⟨a, c, rfl⟩ := b3.form
            refine ⟨_, rfl, hW.then k3 (fun _ _ h => h.elim), ⟨_, _, rfl⟩, ⟨_, _, b3.bs (Nat.le_refl _)⟩, keeps_of fun f hf hs hl hne u hfu => ?_⟩
            simp only [List.mem_cons, List.not_mem_nil, or_false] at hf
            rcases hf with rfl | rfl | rfl | rfl | rfl | rfl | rfl
            · exact hfu
            · exact hfu
            · exact hfu.keptN k3
            · exact absurd rfl hne
            · exact hfu
            · exact hfu
            · exact hfu.keptN k3
          obtain ⟨a19, c19, rfl⟩ : ∃ a c, v19 = .slice a T.length c := hv
          simp only [Act.put, List.setIfInBounds_toArray, List.set_cons_zero, List.set_cons_succ]
          refine wpPar_adds rfl (by kernel_rfl) (fun W hW hd => ?_) (fun v20 hv => ?_)
          · obtain ⟨lo, hi, hb⟩ : ∃ lo hi, Bs W lo hi (.slice a19 T.length c19) T := hd 19 (List.Mem.head _)
            have hcv := cvBytes hb
            unfold Gives
            go_simp
            exact ⟨hW, rfl, trivial, keeps_of fun f hf hs hl hne u hfu => hfu⟩
          obtain rfl : v20 = .string ⟨T.toArray⟩ := hv
          simp only [Act.put, List.setIfInBounds_toArray, List.set_cons_zero, List.set_cons_succ]
          refine wpPar_pure rfl (by kernel_rfl) _ (fun W hW => by
              have cva := HCA.out W hW
              go_simp
              exact rfl) ?_; simp only [Act.put, List.setIfInBounds_toArray, List.set_cons_zero, List.set_cons_succ]
          refine wpPar_pure rfl (by kernel_rfl) _ (fun W hW => by
              have cva := HCA.out W hW
              go_simp
              exact rfl) ?_; simp only [Act.put, List.setIfInBounds_toArray, List.set_cons_zero, List.set_cons_succ]
          refine wpPar_pure rfl (by kernel_rfl) _ (fun W hW => by
              have cva := HCA.out W hW
              go_simp
              exact rfl) ?_; simp only [Act.put, List.setIfInBounds_toArray, List.set_cons_zero, List.set_cons_succ]
          refine wpPar_pure rfl (by kernel_rfl) _ (fun W hW => by
              have cva := HCA.out W hW
              go_simp
              exact rfl) ?_; simp only [Act.put, List.setIfInBounds_toArray, List.set_cons_zero, List.set_cons_succ]
          refine wpPar_pure rfl (by kernel_rfl) _ (fun W hW => by
              have cva := HCA.out W hW
              go_simp
              exact rfl) ?_; simp only [Act.put, List.setIfInBounds_toArray, List.set_cons_zero, List.set_cons_succ]
          iterate 2 (refine wpPar_pure rfl (by rfl) _ (fun W hW => by
              have cva := HCA.out W hW
              go_simp
              exact rfl) ?_; simp only [Act.put, List.setIfInBounds_toArray, List.set_cons_zero, List.set_cons_succ])
          refine wpPar_pure rfl (by kernel_rfl) _ (fun W hW => by
              have cva := HCA.out W hW
              go_simp
              exact rfl) ?_; simp only [Act.put, List.setIfInBounds_toArray, List.set_cons_zero, List.set_cons_succ]
          refine wpPar_adds rfl (by kernel_rfl) (fun W hW hd => ?_) (fun v29 hv => ?_)
          · unfold Gives
            go_simp
            refine gives_call (sx_sure_k (i := 2) (n := S) (hd 14 (List.Mem.head _)) (by decide) (by rw [d1_f]; exact HDK2.out.2.2)) ?_
            rintro e w3 ⟨rfl, k3⟩
            refine ⟨_, rfl, hW.then k3 (fun _ _ h => h.elim), rfl, trivial, keeps_of fun f hf hs hl hne u hfu => ?_⟩
            simp only [List.mem_cons, List.not_mem_nil, or_false] at hf
            rcases hf with rfl | rfl | rfl | rfl | rfl | rfl | rfl
            · exact hfu
            · exact hfu
            · exact hfu.keptN k3
            · (obtain ⟨lo, hi, hb⟩ := hfu; exact ⟨lo, hi, hb.kept k3 (fun _ _ _ h => h)⟩)
            · exact hfu
            · exact absurd rfl hne
            · exact hfu.keptN k3
          obtain rfl : v29 = .int .i64 (S : Int) := hv
          simp only [Act.put, List.setIfInBounds_toArray, List.set_cons_zero, List.set_cons_succ]
          refine wpPar_pure rfl (by kernel_rfl) _ (fun W hW => by
              have cva := HCA.out W hW
              go_simp
              exact rfl) ?_; simp only [Act.put, List.setIfInBounds_toArray, List.set_cons_zero, List.set_cons_succ]
          refine wpPar_pure rfl (by kernel_rfl) _ (fun W hW => by
              have cva := HCA.out W hW
              go_simp
              exact rfl) ?_; simp only [Act.put, List.setIfInBounds_toArray, List.set_cons_zero, List.set_cons_succ]
          refine wpPar_pure rfl (by kernel_rfl) _ (fun W hW => by
              have cva := HCA.out W hW
              go_simp
              exact rfl) ?_; simp only [Act.put, List.setIfInBounds_toArray, List.set_cons_zero, List.set_cons_succ]
          refine wpPar_pure rfl (by kernel_rfl) (.int .i64 (S : Int)) (fun W hW => by have wm := HMN.out; go_simp) ?_; simp only [Act.put, List.setIfInBounds_toArray, List.set_cons_zero, List.set_cons_succ]
          refine wpPar_pure rfl (by kernel_rfl) _ (fun W hW => by
              have cva := HCA.out W hW
              go_simp
              exact rfl) ?_; simp only [Act.put, List.setIfInBounds_toArray, List.set_cons_zero, List.set_cons_succ]
          iterate 1 (refine wpPar_pure rfl (by rfl) _ (fun W hW => by
              have cva := HCA.out W hW
              go_simp
              exact rfl) ?_; simp only [Act.put, List.setIfInBounds_toArray, List.set_cons_zero, List.set_cons_succ])
          refine wpPar_nil (fun W hW hGG => ?_)
          have S17 : Hid (Sx w W (Of (.slice a8 AL.length c8)) d (d1 2 (F.cut K) 1048576 (-1))) := hid (hGG 14)
          have A17 := hid (HB.out.kept hW (fun q h h' => h'.2 h))
          clear hGG hW HCA HB HS
          go_wp2_with fail
          refine (sx_crash (m := 0) (torn := 0) S17.out HDK2.out.1 (by decide) (by decide) (by decide)).mono ?_
          rintro e w12 ⟨rfl, s, kf⟩
          rw [d1_crash, HT2.out] at s
          have S12 := hid s
          have A12 := hid (A17.out.kept kf (fun q h h' => h'.2 h))
          clear s kf
          obtain ⟨T2, hT2⟩ : ∃ T, T = AL.take S := ⟨_, rfl⟩
          rw [← hT2] at S12
          have htk2 : ∀ W, Kept None w12 W → Ob W w.heap.size (.slice a8 S c8) T2 := fun W k => by
            have h := row_take (A12.out.kept k (fun _ _ h => h)) (i := S) (by have := HMM.out; have := HSK.out; omega)
            rw [← List.map_take, ← hT2] at h
            have hK : T2.length = S := by rw [hT2, List.length_take]; have := HMM.out; have := HSK.out; omega
            unfold Ob Bo
            rw [hK]
            exact h
          have HCA2 := hid (fun W (hW : Kept None w12 W) => (by
            have h := cvBytes ((htk2 W hW).bs (Nat.le_refl _))
            exact h : (convert 22 9 (.slice a8 S c8)).run Try.prog W = .ok (.string ⟨T2.toArray⟩) W))
          have HDK3 := hid (show (d1 2 ⟨T2, []⟩ 1048576 (-1)).Ok from d1_ok (Fl.ok_nil _) (by rw [hT2]; simp only [List.length_take]; have := HG.out.2; have := HL.out; omega) (by simp) (by decide) (by decide))
          have HRD2 := hid (fun W (hW : Kept None w12 W) => sx_read (i := 2) (l := T2) (S12.out.keptN hW) HDK3.out (by decide) (by rw [d1_f]))
          clear hT2 htk2
          go_wp2_with fail
          have hs : Steady [.bytes 1 (T2), .val 2 (.string ⟨(T2).toArray⟩) [1]] := Go.Pm.Steady.bytes (Go.Pm.Steady.val (Go.Pm.Steady.nil))
          refine wp_region_kn w12 _ hs (Kept.refl _ _) (by kernel_rfl) (by kernel_rfl) (by kernel_rfl) ?_
          iterate 1 (refine wpPar_pure rfl (by rfl) _ (fun W hW => by
              have cva := HCA2.out W hW
              have wm := HMN.out
              go_simp
              exact rfl) ?_; simp only [Act.put, List.setIfInBounds_toArray, List.set_cons_zero, List.set_cons_succ])
          refine wpKn_adds hs rfl (by rfl) (fun W hW hd => ?_) (fun v1 hv => ?_)
          · unfold Gives
            go_simp
            refine gives_call (HRD2.out W hW) ?_
            rintro e w3 ⟨v, rfl, k3, b3⟩
            obtain ⟨a, c, rfl⟩ := b3.form
            exact ⟨_, rfl, k3, ⟨_, _, rfl⟩, _, _, b3.bs (Nat.le_refl _)⟩
          obtain ⟨a1, c1, rfl⟩ : ∃ a c, v1 = .slice a (T2).length c := hv
          simp only [Act.put, List.setIfInBounds_toArray, List.set_cons_zero, List.set_cons_succ]
          refine wpKn_adds hs rfl (by rfl) (fun W hW hd => ?_) (fun v2 hv => ?_)
          · unfold Gives
            obtain ⟨lo, hi, hb⟩ : ∃ lo hi, Bs W lo hi (.slice a1 (T2).length c1) (T2) := hd 1 (List.Mem.head _)
            have hcv := cvBytes hb
            go_simp
            exact ⟨Kept.refl _ _, rfl, trivial⟩
          obtain rfl : v2 = .string ⟨(T2).toArray⟩ := hv
          simp only [Act.put, List.setIfInBounds_toArray, List.set_cons_zero, List.set_cons_succ]
          iterate 4 (refine wpPar_pure rfl (by rfl) _ (fun W hW => by
              have cva := HCA2.out W hW
              have wm := HMN.out
              go_simp
              exact rfl) ?_; simp only [Act.put, List.setIfInBounds_toArray, List.set_cons_zero, List.set_cons_succ])
          refine wpPar_pure rfl (by rfl) (.int .i64 (S : Int)) (fun W hW => by have wm := HMN.out; go_simp) ?_; simp only [Act.put, List.setIfInBounds_toArray, List.set_cons_zero, List.set_cons_succ]
          iterate 4 (refine wpPar_pure rfl (by rfl) _ (fun W hW => by
              have cva := HCA2.out W hW
              have wm := HMN.out
              go_simp
              exact rfl) ?_; simp only [Act.put, List.setIfInBounds_toArray, List.set_cons_zero, List.set_cons_succ])
          refine wpPar_nil (fun W2 hW2 hGG => ?_)
          have kz := S12.out.kept.trans hW2
          clear hGG hW2 hs
          go_wp2
          go_ret
          exact ⟨rfl, kz⟩
        · skip
          obtain ⟨S, hS⟩ : ∃ S, S = sure.length := ⟨_, rfl⟩
          have hmin : min K sure.length = S := by omega
          have hmi : min (K : Int) (sure.length : Int) = (S : Int) := by omega
          have HMN := hid hmi
          have hcu := Fl.ok_cut HG.out.1.ok (n := K) (by rw [HG.out.1.t]; have := HMM.out; omega)
          rw [HG.out.1.s, hmin] at hcu
          have HDK := hid (And.intro (show (d1 2 F 1048576 (-1)).Ok from HG.out.1.dok (by have := HG.out.2; have := HL.out; omega) (by have := HL.out; omega)) (d1_cut' (j := 2) (F := F) (r := 1048576) (n := -1) (m := K) (by decide) (by rw [HG.out.1.t]; have := HMM.out; omega)))
          obtain ⟨T, hT⟩ : ∃ T, T = AL.take K := ⟨_, rfl⟩
          have hFT : (F.cut K).t = T := by rw [hT, ← HG.out.1.t]; rfl
          have hlb : (F.cut K).b.length ≤ 1048576 := by have := HG.out.1.b; have := HL.out; have := (List.takeWhile_prefix (l := F.b) (fun x => decide (x < K))).length_le; simp only [Fl.cut]; omega
          have HDK2 := hid (And.intro (show (d1 2 (F.cut K) 1048576 (-1)).Ok from d1_ok hcu.1 (by rw [hFT, hT, List.length_take]; have := HG.out.2; have := HL.out; omega) hlb (by decide) (by decide)) (And.intro hFT hcu.2))
          have htk : ∀ W, Kept (Free w (Of (.slice a8 AL.length c8))) wr W → Ob W w.heap.size (.slice a8 K c8) T := fun W k => by
            have h := row_take (HB.out.kept k (fun q h h' => h'.2 h)) (i := K) (by have := HMM.out; omega)
            rw [← List.map_take, ← hT] at h
            have hK : T.length = K := by rw [hT, List.length_take]; have := HMM.out; omega
            unfold Ob Bo
            rw [hK]
            exact h
          have HCA := hid (fun W (hW : Kept (Free w (Of (.slice a8 AL.length c8))) wr W) => (by
            have h := cvBytes ((htk W hW).bs (Nat.le_refl _))
            exact h : (convert 22 9 (.slice a8 K c8)).run Try.prog W = .ok (.string ⟨T.toArray⟩) W))
          have hrow := HB.out
          unfold Ob Bo at hrow
          have hsl := row_slice_to tBytes zBytes hrow .i64 (K : Int) (by omega) (by have := HMM.out; omega)
          have hsl2 := row_slice_to tBytes zBytes hrow .i64 (S : Int) (by omega) (by have := HMM.out; omega)
          simp only [Int.toNat_natCast] at hsl hsl2
          have hT2 : ((F.cut K).crash 0 0) = ⟨AL.take S, []⟩ := by
            rw [Fl.crash_none 0 hcu.1, hcu.2, hFT, hT, List.take_take, Nat.min_eq_left (by omega)]
          have HT2 := hid hT2
          have HSK := hid (show S ≤ K ∧ S ≤ sure.length by omega)
          clear hS hmin hcu hT hFT hlb htk hrow hT2
          
          go_wp2_with fail
          refine wp_region_plan (Kept (Free w (Of (.slice a8 AL.length c8))) wr) [{ k := 4, uses := [100], pure := fun u => u = .int .i64 36 }, { k := 8, uses := [100], pure := fun u => u = .int .i64 36 }, { k := 14, uses := [100], spends := [100], later := [19], pure := fun u => u = .int .i64 0, fact := fun u W => Sx w W (Of (.slice a8 AL.length c8)) d (d1 2 (F.cut K) 1048576 (-1)) }, { k := 19, uses := [14], pure := fun u => ∃ a c, u = .slice a T.length c, fact := fun u W => ∃ lo hi, Bs W lo hi u T }, { k := 20, uses := [19], pure := fun u => u = .string ⟨T.toArray⟩ }, { k := 29, uses := [14], pure := fun u => u = .int .i64 (S : Int) }, { k := 100, uses := [], fact := fun u W => Sx w W (Of (.slice a8 AL.length c8)) d (d1 2 F 1048576 (-1)) }] [100] (by kernel_rfl) (by kernel_rfl) (by kernel_rfl) (by rfl) ?pures2 ((Kept.refl _ wr).drew) ?starts2 ?walk2
          case pures2 =>
            intro f hf
            simp only [List.mem_cons, List.not_mem_nil, or_false] at hf
            rcases hf with rfl | rfl | rfl | rfl | rfl | rfl | rfl
            · exact ⟨_, rfl⟩
            · exact ⟨_, rfl⟩
            · exact ⟨_, rfl⟩
            · exact ⟨_, none, 0, rfl⟩
            · exact ⟨_, rfl⟩
            · exact ⟨_, rfl⟩
            · exact ⟨undef, trivial⟩
          case starts2 =>
            intro k hk
            have hk : k = 100 := by simpa using hk
            subst hk
            exact HS.out.keptN ((Kept.refl None wr).drew)
          iterate 3 (refine wpPar_pure rfl (by rfl) _ (fun W hW => by
              have cva := HCA.out W hW
              go_simp
              exact rfl) ?_; simp only [Act.put, List.setIfInBounds_toArray, List.set_cons_zero, List.set_cons_succ])
          refine wpPar_pure rfl (by rfl) (.int .i64 (M : Int)) (fun W hW => by have wm := WMM.out; go_simp) ?_; simp only [Act.put, List.setIfInBounds_toArray, List.set_cons_zero, List.set_cons_succ]
          refine wpPar_adds rfl (by rfl) (fun W hW hd => ?_) (fun v4 hv => ?_)
          · unfold Gives
            go_simp
            refine gives_call (sx_cut_out (i := 2) (n := (M : Int)) (hd 100 (List.Mem.head _)) (by decide) (.inr (by rw [d1_f, HG.out.1.t]; have := HMM.out.1; omega))) ?_
            rintro e w3 ⟨rfl, k3⟩
            refine ⟨_, rfl, hW.then k3 (fun _ _ h => h.elim), rfl, trivial, keeps_of fun f hf hs hl hne u hfu => ?_⟩
            simp only [List.mem_cons, List.not_mem_nil, or_false] at hf
            rcases hf with rfl | rfl | rfl | rfl | rfl | rfl | rfl
            · exact absurd rfl hne
            · exact hfu
            · exact hfu.keptN k3
            · (obtain ⟨lo, hi, hb⟩ := hfu; exact ⟨lo, hi, hb.kept k3 (fun _ _ _ h => h)⟩)
            · exact hfu
            · exact hfu
            · exact hfu.keptN k3
          obtain rfl : v4 = .int .i64 36 := hv
          simp only [Act.put, List.setIfInBounds_toArray, List.set_cons_zero, List.set_cons_succ]
          iterate 2 (refine wpPar_pure rfl (by rfl) _ (fun W hW => by
              have cva := HCA.out W hW
              go_simp
              exact rfl) ?_; simp only [Act.put, List.setIfInBounds_toArray, List.set_cons_zero, List.set_cons_succ])
          refine wpPar_pure rfl (by kernel_rfl) _ (fun W hW => by
              have cva := HCA.out W hW
              go_simp
              exact rfl) ?_; simp only [Act.put, List.setIfInBounds_toArray, List.set_cons_zero, List.set_cons_succ]
          refine wpPar_adds rfl (by kernel_rfl) (fun W hW hd => ?_) (fun v8 hv => ?_)
          · unfold Gives
            go_simp
            refine gives_call (sx_cut_out (i := 2) (n := -1) (hd 100 (List.Mem.head _)) (by decide) (.inl (by decide))) ?_
            rintro e w3 ⟨rfl, k3⟩
            refine ⟨_, rfl, hW.then k3 (fun _ _ h => h.elim), rfl, trivial, keeps_of fun f hf hs hl hne u hfu => ?_⟩
            simp only [List.mem_cons, List.not_mem_nil, or_false] at hf
            rcases hf with rfl | rfl | rfl | rfl | rfl | rfl | rfl
            · exact hfu
            · exact absurd rfl hne
            · exact hfu.keptN k3
            · (obtain ⟨lo, hi, hb⟩ := hfu; exact ⟨lo, hi, hb.kept k3 (fun _ _ _ h => h)⟩)
            · exact hfu
            · exact hfu
            · exact hfu.keptN k3
          obtain rfl : v8 = .int .i64 36 := hv
          simp only [Act.put, List.setIfInBounds_toArray, List.set_cons_zero, List.set_cons_succ]
          refine wpPar_pure rfl (by kernel_rfl) _ (fun W hW => by
              have cva := HCA.out W hW
              go_simp
              exact rfl) ?_; simp only [Act.put, List.setIfInBounds_toArray, List.set_cons_zero, List.set_cons_succ]
          iterate 2 (refine wpPar_pure rfl (by rfl) _ (fun W hW => by
              have cva := HCA.out W hW
              go_simp
              exact rfl) ?_; simp only [Act.put, List.setIfInBounds_toArray, List.set_cons_zero, List.set_cons_succ])
          refine wpPar_pure rfl (by kernel_rfl) _ (fun W hW => by
              have cva := HCA.out W hW
              go_simp
              exact rfl) ?_; simp only [Act.put, List.setIfInBounds_toArray, List.set_cons_zero, List.set_cons_succ]
          refine wpPar_pure rfl (by kernel_rfl) _ (fun W hW => by
              have cva := HCA.out W hW
              go_simp
              exact rfl) ?_; simp only [Act.put, List.setIfInBounds_toArray, List.set_cons_zero, List.set_cons_succ]
          refine wpPar_adds rfl (by kernel_rfl) (fun W hW hd => ?_) (fun v14 hv => ?_)
          · have hS : Sx w W (Of (.slice a8 AL.length c8)) d (d1 2 F 1048576 (-1)) := hd 100 (List.Mem.head _)
            unfold Gives
            go_simp
            refine gives_call (sx_cut (i := 2) (n := (K : Int)) hS HDK.out.1 (by decide)) ?_
            rintro e w3 ⟨rfl, s, kS⟩
            rw [HDK.out.2.2] at s
            rw [HDK.out.2.1]
            refine ⟨_, rfl, hW.trans kS, rfl, s, keeps_of fun f hf hs hl hne u hfu => ?_⟩
            simp only [List.mem_cons, List.not_mem_nil, or_false] at hf
            rcases hf with rfl | rfl | rfl | rfl | rfl | rfl | rfl
            · exact hfu
            · exact hfu
            · exact absurd rfl hne
            · exact absurd (List.Mem.head _) hl
            · exact hfu
            · exact hfu
            · exact absurd (List.Mem.head _) hs
          obtain rfl : v14 = .int .i64 0 := hv
          simp only [Act.put, List.setIfInBounds_toArray, List.set_cons_zero, List.set_cons_succ]
          refine wpPar_pure rfl (by kernel_rfl) _ (fun W hW => by
              have cva := HCA.out W hW
              go_simp
              exact rfl) ?_; simp only [Act.put, List.setIfInBounds_toArray, List.set_cons_zero, List.set_cons_succ]
          iterate 2 (refine wpPar_pure rfl (by rfl) _ (fun W hW => by
              have cva := HCA.out W hW
              go_simp
              exact rfl) ?_; simp only [Act.put, List.setIfInBounds_toArray, List.set_cons_zero, List.set_cons_succ])
          refine wpPar_pure rfl (by kernel_rfl) _ (fun W hW => by
              have cva := HCA.out W hW
              go_simp
              exact rfl) ?_; simp only [Act.put, List.setIfInBounds_toArray, List.set_cons_zero, List.set_cons_succ]
          refine wpPar_adds rfl (by kernel_rfl) (fun W hW hd => ?_) (fun v19 hv => ?_)
          · have hS : Sx w W (Of (.slice a8 AL.length c8)) d (d1 2 (F.cut K) 1048576 (-1)) := hd 14 (List.Mem.head _)
            unfold Gives
            go_simp
            refine gives_call (sx_read (i := 2) (l := T) hS HDK2.out.1 (by decide) (by rw [d1_f]; exact HDK2.out.2.1)) ?_
            rintro e w3 ⟨v, rfl, k3, b3⟩
            obtain ⟨a, c, rfl⟩ := b3.form
            refine ⟨_, rfl, hW.then k3 (fun _ _ h => h.elim), ⟨_, _, rfl⟩, ⟨_, _, b3.bs (Nat.le_refl _)⟩, keeps_of fun f hf hs hl hne u hfu => ?_⟩
            simp only [List.mem_cons, List.not_mem_nil, or_false] at hf
            rcases hf with rfl | rfl | rfl | rfl | rfl | rfl | rfl
            · exact hfu
            · exact hfu
            · exact hfu.keptN k3
            · exact absurd rfl hne
            · exact hfu
            · exact hfu
            · exact hfu.keptN k3
          obtain ⟨a19, c19, rfl⟩ : ∃ a c, v19 = .slice a T.length c := hv
          simp only [Act.put, List.setIfInBounds_toArray, List.set_cons_zero, List.set_cons_succ]
          refine wpPar_adds rfl (by kernel_rfl) (fun W hW hd => ?_) (fun v20 hv => ?_)
          · obtain ⟨lo, hi, hb⟩ : ∃ lo hi, Bs W lo hi (.slice a19 T.length c19) T := hd 19 (List.Mem.head _)
            have hcv := cvBytes hb
            unfold Gives
            go_simp
            exact ⟨hW, rfl, trivial, keeps_of fun f hf hs hl hne u hfu => hfu⟩
          obtain rfl : v20 = .string ⟨T.toArray⟩ := hv
          simp only [Act.put, List.setIfInBounds_toArray, List.set_cons_zero, List.set_cons_succ]
          refine wpPar_pure rfl (by kernel_rfl) _ (fun W hW => by
              have cva := HCA.out W hW
              go_simp
              exact rfl) ?_; simp only [Act.put, List.setIfInBounds_toArray, List.set_cons_zero, List.set_cons_succ]
          refine wpPar_pure rfl (by kernel_rfl) _ (fun W hW => by
              have cva := HCA.out W hW
              go_simp
              exact rfl) ?_; simp only [Act.put, List.setIfInBounds_toArray, List.set_cons_zero, List.set_cons_succ]
          refine wpPar_pure rfl (by kernel_rfl) _ (fun W hW => by
              have cva := HCA.out W hW
              go_simp
              exact rfl) ?_; simp only [Act.put, List.setIfInBounds_toArray, List.set_cons_zero, List.set_cons_succ]
          refine wpPar_pure rfl (by kernel_rfl) _ (fun W hW => by
              have cva := HCA.out W hW
              go_simp
              exact rfl) ?_; simp only [Act.put, List.setIfInBounds_toArray, List.set_cons_zero, List.set_cons_succ]
          refine wpPar_pure rfl (by kernel_rfl) _ (fun W hW => by
              have cva := HCA.out W hW
              go_simp
              exact rfl) ?_; simp only [Act.put, List.setIfInBounds_toArray, List.set_cons_zero, List.set_cons_succ]
          iterate 2 (refine wpPar_pure rfl (by rfl) _ (fun W hW => by
              have cva := HCA.out W hW
              go_simp
              exact rfl) ?_; simp only [Act.put, List.setIfInBounds_toArray, List.set_cons_zero, List.set_cons_succ])
          refine wpPar_pure rfl (by kernel_rfl) _ (fun W hW => by
              have cva := HCA.out W hW
              go_simp
              exact rfl) ?_; simp only [Act.put, List.setIfInBounds_toArray, List.set_cons_zero, List.set_cons_succ]
          refine wpPar_adds rfl (by kernel_rfl) (fun W hW hd => ?_) (fun v29 hv => ?_)
          · unfold Gives
            go_simp
            refine gives_call (sx_sure_k (i := 2) (n := S) (hd 14 (List.Mem.head _)) (by decide) (by rw [d1_f]; exact HDK2.out.2.2)) ?_
            rintro e w3 ⟨rfl, k3⟩
            refine ⟨_, rfl, hW.then k3 (fun _ _ h => h.elim), rfl, trivial, keeps_of fun f hf hs hl hne u hfu => ?_⟩
            simp only [List.mem_cons, List.not_mem_nil, or_false] at hf
            rcases hf with rfl | rfl | rfl | rfl | rfl | rfl | rfl
            · exact hfu
            · exact hfu
            · exact hfu.keptN k3
            · (obtain ⟨lo, hi, hb⟩ := hfu; exact ⟨lo, hi, hb.kept k3 (fun _ _ _ h => h)⟩)
            · exact hfu
            · exact absurd rfl hne
            · exact hfu.keptN k3
          obtain rfl : v29 = .int .i64 (S : Int) := hv
          simp only [Act.put, List.setIfInBounds_toArray, List.set_cons_zero, List.set_cons_succ]
          refine wpPar_pure rfl (by kernel_rfl) _ (fun W hW => by
              have cva := HCA.out W hW
              go_simp
              exact rfl) ?_; simp only [Act.put, List.setIfInBounds_toArray, List.set_cons_zero, List.set_cons_succ]
          refine wpPar_pure rfl (by kernel_rfl) _ (fun W hW => by
              have cva := HCA.out W hW
              go_simp
              exact rfl) ?_; simp only [Act.put, List.setIfInBounds_toArray, List.set_cons_zero, List.set_cons_succ]
          refine wpPar_pure rfl (by kernel_rfl) _ (fun W hW => by
              have cva := HCA.out W hW
              go_simp
              exact rfl) ?_; simp only [Act.put, List.setIfInBounds_toArray, List.set_cons_zero, List.set_cons_succ]
          refine wpPar_pure rfl (by kernel_rfl) (.int .i64 (S : Int)) (fun W hW => by have wm := HMN.out; go_simp) ?_; simp only [Act.put, List.setIfInBounds_toArray, List.set_cons_zero, List.set_cons_succ]
          refine wpPar_pure rfl (by kernel_rfl) _ (fun W hW => by
              have cva := HCA.out W hW
              go_simp
              exact rfl) ?_; simp only [Act.put, List.setIfInBounds_toArray, List.set_cons_zero, List.set_cons_succ]
          iterate 1 (refine wpPar_pure rfl (by rfl) _ (fun W hW => by
              have cva := HCA.out W hW
              go_simp
              exact rfl) ?_; simp only [Act.put, List.setIfInBounds_toArray, List.set_cons_zero, List.set_cons_succ])
          refine wpPar_nil (fun W hW hGG => ?_)
          have S17 : Hid (Sx w W (Of (.slice a8 AL.length c8)) d (d1 2 (F.cut K) 1048576 (-1))) := hid (hGG 14)
          have A17 := hid (HB.out.kept hW (fun q h h' => h'.2 h))
          clear hGG hW HCA HB HS
          go_wp2_with fail
          refine (sx_crash (m := 0) (torn := 0) S17.out HDK2.out.1 (by decide) (by decide) (by decide)).mono ?_
          rintro e w12 ⟨rfl, s, kf⟩
          rw [d1_crash, HT2.out] at s
          have S12 := hid s
          have A12 := hid (A17.out.kept kf (fun q h h' => h'.2 h))
          clear s kf
          obtain ⟨T2, hT2⟩ : ∃ T, T = AL.take S := ⟨_, rfl⟩
          rw [← hT2] at S12
          have htk2 : ∀ W, Kept None w12 W → Ob W w.heap.size (.slice a8 S c8) T2 := fun W k => by
            have h := row_take (A12.out.kept k (fun _ _ h => h)) (i := S) (by have := HMM.out; have := HSK.out; omega)
            rw [← List.map_take, ← hT2] at h
            have hK : T2.length = S := by rw [hT2, List.length_take]; have := HMM.out; have := HSK.out; omega
            unfold Ob Bo
            rw [hK]
            exact h
          have HCA2 := hid (fun W (hW : Kept None w12 W) => (by
            have h := cvBytes ((htk2 W hW).bs (Nat.le_refl _))
            exact h : (convert 22 9 (.slice a8 S c8)).run Try.prog W = .ok (.string ⟨T2.toArray⟩) W))
          have HDK3 := hid (show (d1 2 ⟨T2, []⟩ 1048576 (-1)).Ok from d1_ok (Fl.ok_nil _) (by rw [hT2]; simp only [List.length_take]; have := HG.out.2; have := HL.out; omega) (by simp) (by decide) (by decide))
          have HRD2 := hid (fun W (hW : Kept None w12 W) => sx_read (i := 2) (l := T2) (S12.out.keptN hW) HDK3.out (by decide) (by rw [d1_f]))
          clear hT2 htk2
          go_wp2_with fail
          have hs : Steady [.bytes 1 (T2), .val 2 (.string ⟨(T2).toArray⟩) [1]] := Go.Pm.Steady.bytes (Go.Pm.Steady.val (Go.Pm.Steady.nil))
          refine wp_region_kn w12 _ hs (Kept.refl _ _) (by kernel_rfl) (by kernel_rfl) (by kernel_rfl) ?_
          iterate 1 (refine wpPar_pure rfl (by rfl) _ (fun W hW => by
              have cva := HCA2.out W hW
              have wm := HMN.out
              go_simp
              exact rfl) ?_; simp only [Act.put, List.setIfInBounds_toArray, List.set_cons_zero, List.set_cons_succ])
          refine wpKn_adds hs rfl (by rfl) (fun W hW hd => ?_) (fun v1 hv => ?_)
          · unfold Gives
            go_simp
            refine gives_call (HRD2.out W hW) ?_
            rintro e w3 ⟨v, rfl, k3, b3⟩
            obtain ⟨a, c, rfl⟩ := b3.form
            exact ⟨_, rfl, k3, ⟨_, _, rfl⟩, _, _, b3.bs (Nat.le_refl _)⟩
          obtain ⟨a1, c1, rfl⟩ : ∃ a c, v1 = .slice a (T2).length c := hv
          simp only [Act.put, List.setIfInBounds_toArray, List.set_cons_zero, List.set_cons_succ]
          refine wpKn_adds hs rfl (by rfl) (fun W hW hd => ?_) (fun v2 hv => ?_)
          · unfold Gives
            obtain ⟨lo, hi, hb⟩ : ∃ lo hi, Bs W lo hi (.slice a1 (T2).length c1) (T2) := hd 1 (List.Mem.head _)
            have hcv := cvBytes hb
            go_simp
            exact ⟨Kept.refl _ _, rfl, trivial⟩
          obtain rfl : v2 = .string ⟨(T2).toArray⟩ := hv
          simp only [Act.put, List.setIfInBounds_toArray, List.set_cons_zero, List.set_cons_succ]
          iterate 4 (refine wpPar_pure rfl (by rfl) _ (fun W hW => by
              have cva := HCA2.out W hW
              have wm := HMN.out
              go_simp
              exact rfl) ?_; simp only [Act.put, List.setIfInBounds_toArray, List.set_cons_zero, List.set_cons_succ])
          refine wpPar_pure rfl (by rfl) (.int .i64 (S : Int)) (fun W hW => by have wm := HMN.out; go_simp) ?_; simp only [Act.put, List.setIfInBounds_toArray, List.set_cons_zero, List.set_cons_succ]
          iterate 4 (refine wpPar_pure rfl (by rfl) _ (fun W hW => by
              have cva := HCA2.out W hW
              have wm := HMN.out
              go_simp
              exact rfl) ?_; simp only [Act.put, List.setIfInBounds_toArray, List.set_cons_zero, List.set_cons_succ])
          refine wpPar_nil (fun W2 hW2 hGG => ?_)
          have kz := S12.out.kept.trans hW2
          clear hGG hW2 hs
          go_wp2
          go_ret
          exact ⟨rfl, kz⟩
    · have ds : decide ((40 : Int) < (sure.length : Int)) = false := by simp; omega
      have dl : decide ((10 : Int) < (l.length : Int)) = true := by simp; omega
      clear hs hl
      go_enter Try.func5, Try.ntmps5
      go_wp2_with fail
      refine (known w).mono ?_
      rintro e w1 ⟨rfl, k1⟩
      go_wp2
      go_ret
      exact ⟨rfl, k1⟩
  · have ds : decide ((40 : Int) < (sure.length : Int)) = true := by simp; omega
    clear hs
    go_enter Try.func5, Try.ntmps5
    go_wp2_with fail
    refine (known w).mono ?_
    rintro e w1 ⟨rfl, k1⟩
    go_wp2
    go_ret
    exact ⟨rfl, k1⟩
end K12
end Go.Proofs.Ytdcpacfhifofdaa
