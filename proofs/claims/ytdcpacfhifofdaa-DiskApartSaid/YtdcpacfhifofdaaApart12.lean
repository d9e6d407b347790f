/- postmarklaw12.DiskApart: true. -/
import Derived.Test.YtdcpacfhifofdaaAp12
namespace Go.Proofs.Ytdcpacfhifofdaa
open Go.RowKit Go.Pm
namespace K12
open Dk
theorem lt_of_cell12 {w : World} {a : Addr} {v : Value} (h : w.cell? a = some v) : a.block < w.heap.size := World.block_lt_of_cell? w a h
theorem Ap.cells12 {wr : World} {p q : Nat} {V : Nat → Value} {s : Nat → Nat} (hp : Blk wr p #[V 0, V 1, V 2] 39) (hq : Blk wr q #[.int .i64 (s 0), .int .i64 (s 1), .int .i64 (s 2)] 40) {j : Nat} (hj : j < 3) :
    wr.cell? ⟨p, j, none⟩ = some (V j) ∧ wr.cell? ⟨q, j, none⟩ = some (.int .i64 (s j : Int)) ∧ wr.frozen? ⟨p, j, none⟩ = false ∧ wr.frozen? ⟨q, j, none⟩ = false := by
  refine ⟨?_, ?_, hp.free j, hq.free j⟩
  · rw [hp.cell]
    match j, hj with
    | 0, _ => rfl
    | 1, _ => rfl
    | 2, _ => rfl
  · rw [hq.cell]
    match j, hj with
    | 0, _ => rfl
    | 1, _ => rfl
    | 2, _ => rfl
set_option maxRecDepth 100000 in
set_option maxHeartbeats 16000000 in
theorem apart (v0 v1 : Value) (lo hi lo1 hi1 lo2 hi2 : Nat) (l : List (List UInt8)) (fs : List UInt8) (w : World) (hv0 : Bss w lo1 hi1 lo2 hi2 v0 l) (hv1 : Bs w lo hi v1 fs) : Calls Try.prog 7 #[v0, v1] w fun e w' => e = .returned (.bool true) ∧ Kept None w w' := by
  obtain ⟨a0, c0, rfl, _⟩ := hv0.shape
  obtain ⟨a1, c1, rfl, _⟩ := hv1.shape
  have HV0 := hid hv0
  have HV1 := hid (hv1.all)
  clear hv0 hv1
  by_cases hl : l.length ≤ 20
  · have dl : decide ((20 : Int) < (l.length : Int)) = false := by simp; omega
    by_cases hfs : l.length ≤ fs.length
    · have df : decide ((fs.length : Int) < (l.length : Int)) = false := by simp; omega
      have df2 : decide (fs.length < l.length) = false := by simp; omega
      have HL := hid (And.intro hl hfs)
      clear hl hfs
      go_enter Try.func7, Try.ntmps7
      go_wp2_with fail
      refine (known w).mono ?_
      rintro e w1 ⟨rfl, k1⟩
      go_wp2_with fail
      refine (sx_new 1048576 w w1 None k1 (fun _ h => h.elim) (by decide) 0).mono ?_
      rintro e w2 ⟨d, rfl, s2, _⟩
      have HS0 := hid (Ap.start s2)
      clear s2 k1
      go_wp2_with fail
      refine wp_nm ?_
      intro w3 e3
      rw [← e3] at HS0
      obtain ⟨p, hp⟩ : ∃ p, p = w2.heap.size := ⟨_, rfl⟩
      obtain ⟨q, hq⟩ : ∃ q, q = w2.heap.size + 1 := ⟨_, rfl⟩
      rw [← hq, ← hp] at HS0
      try rw [← hq]
      try rw [← hp]
      clear e3 hp hq df df2 dl
      go_loopg [8] l.length (fun kx s8 wr => ∃ (i : Nat) (V : Nat → Value) (A : Nat → List UInt8) (s : Nat → Nat) (D : Dsk), s8 = .int .i64 (i : Int) ∧ i ≤ l.length ∧ l.length - i ≤ kx ∧ Hid (Ap w wr p q d V A s i D))
      case atStart => exact ⟨0, _, _, _, _, rfl, Nat.zero_le _, Nat.le_refl _, HS0⟩
      case round =>
      obtain ⟨i, V, A, s, D, rfl, hi, hix, HP0⟩ := hrel
      by_cases hlt : i < l.length
      · have hlt' : decide ((i : Int) < (l.length : Int)) = true := by simpa using hlt
        obtain ⟨b, o, rfl, q1, q2, q3, hcell⟩ := HV0.out.at (by omega)
        obtain ⟨ax, cx, hcx, hx⟩ := hcell i hlt
        have hxw : Bs w 0 w.heap.size (.slice ax l[i].length cx) l[i] := hx.all
        have HXC := hid (fun W (hW : Kept None w W) => show W.cell? ⟨b, o + i, none⟩ = some (.slice ax l[i].length cx) from (hW.cell (p := ⟨b, o + i, none⟩) q3 (fun h => h)).trans hcx)
        obtain ⟨x, hxe⟩ : ∃ x, x = l[i] := ⟨_, rfl⟩
        rw [← hxe] at hcx hxw HXC
        have HX := hid hxw
        obtain ⟨bf, of, rfl, _, _, g3, gcell⟩ := HV1.out.ne (by have := HL.out.2; omega)
        have hif : i < fs.length := by have := HL.out.2; omega
        have hcf := gcell i hif
        obtain ⟨R, hR⟩ : ∃ R : Nat, R = (fs.getD i 0).toNat := ⟨_, rfl⟩
        rw [show bAt fs i = (R : Int) by rw [hR]; rfl] at hcf
        have hR2 : R < 256 := by rw [hR]; exact UInt8.toNat_lt _
        have HC0 := hid (fun W (hW : Kept None w W) => (hW.cell (p := ⟨bf, of + i, none⟩) g3 (fun h => h)).trans hcf)
        have hcxw := HXC.out wr HP0.out.sx.kept
        have hcfw := HC0.out wr HP0.out.sx.kept
        clear hcell hx hxw hxe q1 q2 q3 gcell g3 hcx hcf hR
        by_cases hx20 : x.length ≤ 20
        · have dx : decide ((20 : Int) < (x.length : Int)) = false := by simp; omega
          have dx2 : decide (20 < x.length) = false := by simp; omega
          have HX2 := hid hx20
          clear hx20
          obtain ⟨F, hF⟩ : ∃ F, F = R % 3 := ⟨_, rfl⟩
          have r3 : (R : Int) % 3 = (F : Int) := by omega
          have HF3 := hid (show F < 3 by omega)
          have hF3 : F < 3 := by omega
          have hF3i : (F : Int) < 3 := by omega
          clear hF
          by_cases hR200 : 200 ≤ R
          · skip
            have dR : decide ((200 : Int) ≤ (R : Int)) = true := by simp; omega
            have dR2 : decide (200 ≤ R) = true := by simp; omega
            have hap := HP0.out
            go_wp2_with fail
            refine (hap.doSync HF3.out (by have := HL.out.1; omega)).mono ?_
            rintro e wk ⟨rfl, s1, kf⟩
            obtain ⟨bp, bq, ho⟩ := hap.side kf
            have hz := hap.synced HF3.out s1 kf
            have hc := (Ap.cells12 bp bq HF3.out)
            have hoF := ho F HF3.out
            obtain ⟨T, hT⟩ : ∃ T, T = A F := ⟨_, rfl⟩
            obtain ⟨aF, cF, eF⟩ := hoF.form
            rw [← hT] at eF hz
            rw [eF] at hc
            obtain ⟨c1, c2, f1, f2⟩ := hc
            have HZ := hid hz
            have c3 := HC0.out wk s1.kept
            clear hoF hT eF hz s1 kf bp bq ho hap
            go_wp2
            refine wp_nm ?_
            intro WC eWC
            rw [← eWC] at HZ
            clear eWC c1 c2 c3 f1 f2 dR dR2
            obtain ⟨V2, A2, s2, D2, HP⟩ : ∃ (V2 : Nat → Value) (A2 : Nat → List UInt8) (s2 : Nat → Nat) (D2 : Dsk), Hid (Ap w WC p q d V2 A2 s2 (i + 1) D2) := ⟨_, _, _, _, HZ⟩
            clear HZ HP0
            obtain ⟨woa, rfl⟩ : ∃ wo : World, wo = wr := ⟨_, rfl⟩
            go_loopg [10] 3 (fun kx s10 wr => ∃ k : Nat, s10 = .int .i64 (k : Int) ∧ k ≤ 3 ∧ 3 - k ≤ kx ∧ Hid (Kept None WC wr))
            case atStart => exact ⟨0, rfl, by omega, Nat.le_refl _, hid (Kept.refl _ _)⟩
            case round =>
            obtain ⟨k, rfl, hk, hkx, HK⟩ := hrel
            by_cases hlt : k < 3
            · have hlt3 : (k : Int) < 3 := by omega
              have hlt' : decide ((k : Int) < 3) = true := by simpa using hlt3
              have hP := HP.out.keptN HK.out
              have hoK := hP.o k hlt
              have hcK := hP.cells hlt
              have hfK := hP.f k hlt
              have hokK := hP.ok (by have := HL.out.1; omega)
              obtain ⟨T, hT⟩ : ∃ T, T = A2 k := ⟨_, rfl⟩
              obtain ⟨S, hS⟩ : ∃ S, S = s2 k := ⟨_, rfl⟩
              obtain ⟨aK, cK, eK⟩ := hoK.form
              rw [← hT] at hoK hfK eK
              rw [← hS] at hcK hfK
              rw [eK] at hoK hcK
              have HC := hid (fun W (hW : Kept None wr W) => (⟨(hW.cell (lt_of_cell12 hcK.1) (fun h => h)).trans hcK.1, (hW.cell (lt_of_cell12 hcK.2.1) (fun h => h)).trans hcK.2.1, cvBytes ((hoK.kept hW (fun _ _ h => h)).bs (Nat.le_refl _))⟩ : W.cell? ⟨p, k, none⟩ = some (.slice aK T.length cK) ∧ W.cell? ⟨q, k, none⟩ = some (.int .i64 (S : Int)) ∧ (convert 22 9 (.slice aK T.length cK)).run Try.prog W = .ok (.string ⟨T.toArray⟩) W))
              have HRD := hid (fun W (hW : Kept None wr W) => sx_read (i := k) (l := T) (hP.sx.keptN hW) hokK hlt hfK.1)
              have HSU := hid (fun W (hW : Kept None wr W) => sx_sure (i := k) (n := S) (hP.sx.keptN hW) hlt hfK.2.1)
              have WK := hid (show wrap64 ((k : Int) + 1) = ((k + 1 : Nat) : Int) by rw [wrap_in _ (by omega) (by omega)]; omega)
              clear hT hS eK hoK hcK hfK hokK hP
              go_wp2_with fail
              have hs : Steady [.bytes 2 (T), .val 3 (.string ⟨(T).toArray⟩) [2], .val 12 (.int .i64 (S : Int))] := Go.Pm.Steady.bytes (Go.Pm.Steady.val (Go.Pm.Steady.val (Go.Pm.Steady.nil)))
              refine wp_region_kn wr _ hs (Kept.refl _ _) (by kernel_rfl) (by kernel_rfl) (by kernel_rfl) ?_
              iterate 2 (refine wpPar_pure rfl (by rfl) _ (fun W hW => by
                  obtain ⟨c1, c2, cva⟩ := HC.out W hW
                  go_simp
                  exact rfl) ?_; simp only [Act.put, List.setIfInBounds_toArray, List.set_cons_zero, List.set_cons_succ])
              refine wpKn_adds hs rfl (by rfl) (fun W hW hd => ?_) (fun v2 hv => ?_)
              · unfold Gives
                go_simp
                refine gives_call (HRD.out W hW) ?_
                rintro e w3 ⟨v, rfl, k3, b3⟩
                obtain ⟨a, c, rfl⟩ := b3.form
                exact ⟨_, rfl, k3, ⟨_, _, rfl⟩, _, _, b3.bs (Nat.le_refl _)⟩
              obtain ⟨a2, c2, rfl⟩ : ∃ a c, v2 = .slice a (T).length c := hv
              simp only [Act.put, List.setIfInBounds_toArray, List.set_cons_zero, List.set_cons_succ]
              refine wpKn_adds hs rfl (by rfl) (fun W hW hd => ?_) (fun v3 hv => ?_)
              · unfold Gives
                obtain ⟨lo, hi, hb⟩ : ∃ lo hi, Bs W lo hi (.slice a2 (T).length c2) (T) := hd 2 (List.Mem.head _)
                have hcv := cvBytes hb
                go_simp
                exact ⟨Kept.refl _ _, rfl, trivial⟩
              obtain rfl : v3 = .string ⟨(T).toArray⟩ := hv
              simp only [Act.put, List.setIfInBounds_toArray, List.set_cons_zero, List.set_cons_succ]
              iterate 6 (refine wpPar_pure rfl (by rfl) _ (fun W hW => by
                  obtain ⟨c1, c2, cva⟩ := HC.out W hW
                  go_simp
                  exact rfl) ?_; simp only [Act.put, List.setIfInBounds_toArray, List.set_cons_zero, List.set_cons_succ])
              refine wpPar_pure rfl (by kernel_rfl) _ (fun W hW => by
                  obtain ⟨c1, c2, cva⟩ := HC.out W hW
                  go_simp
                  exact rfl) ?_; simp only [Act.put, List.setIfInBounds_toArray, List.set_cons_zero, List.set_cons_succ]
              refine wpPar_pure rfl (by kernel_rfl) _ (fun W hW => by
                  obtain ⟨c1, c2, cva⟩ := HC.out W hW
                  go_simp
                  exact rfl) ?_; simp only [Act.put, List.setIfInBounds_toArray, List.set_cons_zero, List.set_cons_succ]
              refine wpKn_adds hs rfl (by kernel_rfl) (fun W hW hd => ?_) (fun v12 hv => ?_)
              · unfold Gives
                go_simp
                refine gives_call ((HSU.out W hW)) ?_
                rintro e w3 ⟨rfl, rfl⟩
                exact ⟨_, rfl, Kept.refl _ _, rfl, trivial⟩
              obtain rfl : v12 = .int .i64 (S : Int) := hv
              simp only [Act.put, List.setIfInBounds_toArray, List.set_cons_zero, List.set_cons_succ]
              refine wpPar_pure rfl (by kernel_rfl) _ (fun W hW => by
                  obtain ⟨c1, c2, cva⟩ := HC.out W hW
                  go_simp
                  exact rfl) ?_; simp only [Act.put, List.setIfInBounds_toArray, List.set_cons_zero, List.set_cons_succ]
              refine wpPar_pure rfl (by kernel_rfl) _ (fun W hW => by
                  obtain ⟨c1, c2, cva⟩ := HC.out W hW
                  go_simp
                  exact rfl) ?_; simp only [Act.put, List.setIfInBounds_toArray, List.set_cons_zero, List.set_cons_succ]
              refine wpPar_pure rfl (by kernel_rfl) _ (fun W hW => by
                  obtain ⟨c1, c2, cva⟩ := HC.out W hW
                  go_simp
                  exact rfl) ?_; simp only [Act.put, List.setIfInBounds_toArray, List.set_cons_zero, List.set_cons_succ]
              refine wpPar_pure rfl (by kernel_rfl) _ (fun W hW => by
                  obtain ⟨c1, c2, cva⟩ := HC.out W hW
                  go_simp
                  exact rfl) ?_; simp only [Act.put, List.setIfInBounds_toArray, List.set_cons_zero, List.set_cons_succ]
              iterate 1 (refine wpPar_pure rfl (by rfl) _ (fun W hW => by
                  obtain ⟨c1, c2, cva⟩ := HC.out W hW
                  go_simp
                  exact rfl) ?_; simp only [Act.put, List.setIfInBounds_toArray, List.set_cons_zero, List.set_cons_succ])
              refine wpPar_nil (fun W hW hGG => ?_)
              have KK := hid (HK.out.trans hW)
              clear hGG hW hs
              go_wp2
              go_roundg (3 - (k + 1))
              case measure => omega
              case rel => exact ⟨k + 1, by first | rfl | exact congrArg (Value.int .i64) WK.out | go_num, by omega, Nat.le_refl _, KK⟩
            · have hlt3 : ¬ (k : Int) < 3 := by omega
              have hlt' : decide ((k : Int) < 3) = false := by simpa using hlt3
              have HPN := hid (HP.out.keptN HK.out)
              have WI := hid (show wrap64 ((i : Int) + 1) = ((i + 1 : Nat) : Int) by rw [wrap_in _ (by omega) (by have := HL.out.1; omega)]; omega)
              go_wp2
              go_roundg (l.length - (i + 1))
              case measure => omega
              case rel => exact ⟨i + 1, V2, A2, s2, D2, by first | rfl | exact congrArg (Value.int .i64) WI.out | go_num, by omega, Nat.le_refl _, HPN⟩
          · skip
            have dR : decide ((200 : Int) ≤ (R : Int)) = false := by simp; omega
            have dR2 : decide (200 ≤ R) = false := by simp; omega
            have hap := HP0.out
            go_wp2_with fail
            refine (hap.doAppend HF3.out (by have := HL.out.1; omega) (HX.out.kept hap.sx.kept (fun _ _ _ h => h)) (Nat.le_refl _) HX2.out).mono ?_
            rintro e wk ⟨rfl, s1, kf⟩
            obtain ⟨bp, bq, ho⟩ := hap.side kf
            have hc := (Ap.cells12 bp bq HF3.out)
            have hoF := ho F HF3.out
            have hlF := (hap.f F HF3.out).2.2.2.2
            obtain ⟨T, hT⟩ : ∃ T, T = A F := ⟨_, rfl⟩
            obtain ⟨aF, cF, eF⟩ := hoF.form
            rw [← hT] at eF hoF hlF
            rw [eF] at hc hoF
            obtain ⟨c1, c2, f1, f2⟩ := hc
            have HC20 := hid (fun W (hW : Kept None wk W) => (⟨(hW.cell (lt_of_cell12 c1) (fun h => h)).trans c1, HXC.out W (s1.kept.trans hW)⟩ : W.cell? ⟨p, F, none⟩ = some (.slice aF T.length cF) ∧ W.cell? ⟨b, o + i, none⟩ = some (.slice ax x.length cx)))
            have HFR := hid (fun W (hW : Kept None wk W) => (bp.kept hW (fun h => h)).free F)
            have HOF := hid hoF
            have HLT := hid (show T.length ≤ 1000 by have := HL.out.1; omega)
            have HKW := hid s1.kept
            have HT := hid hT
            have hadd := fun W u (k2 : Kept None wk W) (hu : Ob W wk.heap.size u (A F ++ x)) => hap.added HF3.out x HX2.out s1 kf k2 hu
            rw [← hT] at hadd
            have HADD := hid hadd
            clear hadd hoF hlF hT eF s1 kf bp bq ho hap c1 c2 f1 f2 dR dR2
            go_wp2_with fail
            refine wp_region_plan_tail 11 (Kept None wk) [{ k := 4, uses := [], pure := fun u => ∃ a n c, u = .slice a n c, fact := fun u W => Ob W wk.heap.size u T }, { k := 9, uses := [4], spends := [4], pure := fun u => ∃ a n c, u = .slice a n c, fact := fun u W => Ob W wk.heap.size u (T ++ x) }] [] (by kernel_rfl) (by kernel_rfl) (by kernel_rfl) (by rfl) ?pures ((Kept.refl _ wk).drew) ?starts ?walk
            case pures =>
              intro f hf
              simp only [List.mem_cons, List.not_mem_nil, or_false] at hf
              rcases hf with rfl | rfl
              · exact ⟨_, none, 0, 0, rfl⟩
              · exact ⟨_, none, 0, 0, rfl⟩
            case starts =>
              intro k hk
              cases hk
            simp only [List.take_succ_cons, List.take_zero, List.drop_succ_cons, List.drop_zero]
            iterate 4 (refine wpPar_pure rfl (by rfl) _ (fun W hW => by
                obtain ⟨c1, c2⟩ := HC20.out W hW
                go_simp
                exact rfl) ?_; simp only [Act.put, List.setIfInBounds_toArray, List.set_cons_zero, List.set_cons_succ])
            refine wpPar_adds rfl (by rfl) (fun W hW hd => ?_) (fun v4 hv => ?_)
            · have hB : Bs W w.heap.size W.heap.size (.slice aF T.length cF) T := (HOF.out.kept hW (fun _ _ h => h)).bs (Nat.le_refl _)
              have hn : Ob W wk.heap.size (.slice none 0 0) [] := Bo.nil _ _ _
              refine gives_append_bo (.const (.slice none 0 0)) (.tmp 69) 22 rfl rtBytes rfl rfl hn hB (by have := HLT.out; simp; omega) hW.size (fun a' n' c' w' hb hk ho => ?_)
              have kS : Kept None W w' := hk.mono (fun k _ h => by cases h)
              have hb' : Ob w' wk.heap.size (.slice a' n' c') T := by rw [List.nil_append] at hb; exact hb
              refine ⟨hW.trans kS, ⟨_, _, _, rfl⟩, hb', keeps_of fun f hf hs hl hne u hfu => ?_⟩
              simp only [List.mem_cons, List.not_mem_nil, or_false] at hf
              rcases hf with rfl | rfl
              · exact absurd rfl hne
              · exact hfu.kept kS (fun _ _ h => h)
            obtain ⟨a4, n4, c4, rfl⟩ : ∃ a n c, v4 = .slice a n c := hv
            simp only [Act.put, List.setIfInBounds_toArray, List.set_cons_zero, List.set_cons_succ]
            iterate 4 (refine wpPar_pure rfl (by rfl) _ (fun W hW => by
                obtain ⟨c1, c2⟩ := HC20.out W hW
                go_simp
                exact rfl) ?_; simp only [Act.put, List.setIfInBounds_toArray, List.set_cons_zero, List.set_cons_succ])
            refine wpPar_adds rfl (by rfl) (fun W hW hd => ?_) (fun v9 hv => ?_)
            · have hO : Ob W wk.heap.size (.slice a4 n4 c4) T := hd 4 (List.Mem.head _)
              have hx : Bs W 0 w.heap.size (.slice ax x.length cx) x := (HX.out.kept (HKW.out.trans hW) (fun _ _ _ h => h))
              refine gives_append_bo (.tmp 70) (.tmp 74) 22 rfl rtBytes rfl rfl hO hx (by have := HLT.out; have := HX2.out; omega) hW.size (fun a' n' c' w' hb hk ho => ?_)
              have kS : Kept None wk w' := hW.then hk (fun k hk' h => by have := (hO.own k h).1; omega)
              refine ⟨kS, ⟨_, _, _, rfl⟩, hb, keeps_of fun f hf hs hl hne u hfu => ?_⟩
              simp only [List.mem_cons, List.not_mem_nil, or_false] at hf
              rcases hf with rfl | rfl
              · exact absurd (List.Mem.head _) hs
              · exact absurd rfl hne
            obtain ⟨a9, n9, c9, rfl⟩ : ∃ a n c, v9 = .slice a n c := hv
            simp only [Act.put, List.setIfInBounds_toArray, List.set_cons_zero, List.set_cons_succ]
            iterate 1 (refine wpPar_pure rfl (by rfl) _ (fun W hW => by
                obtain ⟨c1, c2⟩ := HC20.out W hW
                go_simp
                exact rfl) ?_; simp only [Act.put, List.setIfInBounds_toArray, List.set_cons_zero, List.set_cons_succ])
            refine wpPar_nil (fun W hW hGG => ?_)
            have hu : Ob W wk.heap.size (.slice a9 n9 c9) (T ++ x) := hGG 9
            have HZ := hid (HADD.out W _ hW hu)
            obtain ⟨c1, c2⟩ := HC20.out W hW
            have f1 := HFR.out W hW
            clear hGG hu hW
            go_wp2
            refine wp_nm ?_
            intro WC eWC
            rw [← eWC] at HZ
            clear eWC c1 c2 f1
            obtain ⟨V2, A2, s2, D2, HP⟩ : ∃ (V2 : Nat → Value) (A2 : Nat → List UInt8) (s2 : Nat → Nat) (D2 : Dsk), Hid (Ap w WC p q d V2 A2 s2 (i + 1) D2) := ⟨_, _, _, _, HZ⟩
            clear HZ HP0 HADD HFR HC20 HOF HKW HT
            obtain ⟨wob, rfl⟩ : ∃ wo : World, wo = wr := ⟨_, rfl⟩
            go_loopg [10] 3 (fun kx s10 wr => ∃ k : Nat, s10 = .int .i64 (k : Int) ∧ k ≤ 3 ∧ 3 - k ≤ kx ∧ Hid (Kept None WC wr))
            case atStart => exact ⟨0, rfl, by omega, Nat.le_refl _, hid (Kept.refl _ _)⟩
            case round =>
            obtain ⟨k, rfl, hk, hkx, HK⟩ := hrel
            by_cases hlt : k < 3
            · have hlt3 : (k : Int) < 3 := by omega
              have hlt' : decide ((k : Int) < 3) = true := by simpa using hlt3
              have hP := HP.out.keptN HK.out
              have hoK := hP.o k hlt
              have hcK := hP.cells hlt
              have hfK := hP.f k hlt
              have hokK := hP.ok (by have := HL.out.1; omega)
              obtain ⟨T, hT⟩ : ∃ T, T = A2 k := ⟨_, rfl⟩
              obtain ⟨S, hS⟩ : ∃ S, S = s2 k := ⟨_, rfl⟩
              obtain ⟨aK, cK, eK⟩ := hoK.form
              rw [← hT] at hoK hfK eK
              rw [← hS] at hcK hfK
              rw [eK] at hoK hcK
              have HC := hid (fun W (hW : Kept None wr W) => (⟨(hW.cell (lt_of_cell12 hcK.1) (fun h => h)).trans hcK.1, (hW.cell (lt_of_cell12 hcK.2.1) (fun h => h)).trans hcK.2.1, cvBytes ((hoK.kept hW (fun _ _ h => h)).bs (Nat.le_refl _))⟩ : W.cell? ⟨p, k, none⟩ = some (.slice aK T.length cK) ∧ W.cell? ⟨q, k, none⟩ = some (.int .i64 (S : Int)) ∧ (convert 22 9 (.slice aK T.length cK)).run Try.prog W = .ok (.string ⟨T.toArray⟩) W))
              have HRD := hid (fun W (hW : Kept None wr W) => sx_read (i := k) (l := T) (hP.sx.keptN hW) hokK hlt hfK.1)
              have HSU := hid (fun W (hW : Kept None wr W) => sx_sure (i := k) (n := S) (hP.sx.keptN hW) hlt hfK.2.1)
              have WK := hid (show wrap64 ((k : Int) + 1) = ((k + 1 : Nat) : Int) by rw [wrap_in _ (by omega) (by omega)]; omega)
              clear hT hS eK hoK hcK hfK hokK hP
              go_wp2_with fail
              have hs : Steady [.bytes 2 (T), .val 3 (.string ⟨(T).toArray⟩) [2], .val 12 (.int .i64 (S : Int))] := Go.Pm.Steady.bytes (Go.Pm.Steady.val (Go.Pm.Steady.val (Go.Pm.Steady.nil)))
              refine wp_region_kn wr _ hs (Kept.refl _ _) (by kernel_rfl) (by kernel_rfl) (by kernel_rfl) ?_
              iterate 2 (refine wpPar_pure rfl (by rfl) _ (fun W hW => by
                  obtain ⟨c1, c2, cva⟩ := HC.out W hW
                  go_simp
                  exact rfl) ?_; simp only [Act.put, List.setIfInBounds_toArray, List.set_cons_zero, List.set_cons_succ])
              refine wpKn_adds hs rfl (by rfl) (fun W hW hd => ?_) (fun v2 hv => ?_)
              · unfold Gives
                go_simp
                refine gives_call (HRD.out W hW) ?_
                rintro e w3 ⟨v, rfl, k3, b3⟩
                obtain ⟨a, c, rfl⟩ := b3.form
                exact ⟨_, rfl, k3, ⟨_, _, rfl⟩, _, _, b3.bs (Nat.le_refl _)⟩
              obtain ⟨a2, c2, rfl⟩ : ∃ a c, v2 = .slice a (T).length c := hv
              simp only [Act.put, List.setIfInBounds_toArray, List.set_cons_zero, List.set_cons_succ]
              refine wpKn_adds hs rfl (by rfl) (fun W hW hd => ?_) (fun v3 hv => ?_)
              · unfold Gives
                obtain ⟨lo, hi, hb⟩ : ∃ lo hi, Bs W lo hi (.slice a2 (T).length c2) (T) := hd 2 (List.Mem.head _)
                have hcv := cvBytes hb
                go_simp
                exact ⟨Kept.refl _ _, rfl, trivial⟩
              obtain rfl : v3 = .string ⟨(T).toArray⟩ := hv
              simp only [Act.put, List.setIfInBounds_toArray, List.set_cons_zero, List.set_cons_succ]
              iterate 6 (refine wpPar_pure rfl (by rfl) _ (fun W hW => by
                  obtain ⟨c1, c2, cva⟩ := HC.out W hW
                  go_simp
                  exact rfl) ?_; simp only [Act.put, List.setIfInBounds_toArray, List.set_cons_zero, List.set_cons_succ])
              refine wpPar_pure rfl (by kernel_rfl) _ (fun W hW => by
                  obtain ⟨c1, c2, cva⟩ := HC.out W hW
                  go_simp
                  exact rfl) ?_; simp only [Act.put, List.setIfInBounds_toArray, List.set_cons_zero, List.set_cons_succ]
              refine wpPar_pure rfl (by kernel_rfl) _ (fun W hW => by
                  obtain ⟨c1, c2, cva⟩ := HC.out W hW
                  go_simp
                  exact rfl) ?_; simp only [Act.put, List.setIfInBounds_toArray, List.set_cons_zero, List.set_cons_succ]
              refine wpKn_adds hs rfl (by kernel_rfl) (fun W hW hd => ?_) (fun v12 hv => ?_)
              · unfold Gives
                go_simp
                refine gives_call ((HSU.out W hW)) ?_
                rintro e w3 ⟨rfl, rfl⟩
                exact ⟨_, rfl, Kept.refl _ _, rfl, trivial⟩
              obtain rfl : v12 = .int .i64 (S : Int) := hv
              simp only [Act.put, List.setIfInBounds_toArray, List.set_cons_zero, List.set_cons_succ]
              refine wpPar_pure rfl (by kernel_rfl) _ (fun W hW => by
                  obtain ⟨c1, c2, cva⟩ := HC.out W hW
                  go_simp
                  exact rfl) ?_; simp only [Act.put, List.setIfInBounds_toArray, List.set_cons_zero, List.set_cons_succ]
              refine wpPar_pure rfl (by kernel_rfl) _ (fun W hW => by
                  obtain ⟨c1, c2, cva⟩ := HC.out W hW
                  go_simp
                  exact rfl) ?_; simp only [Act.put, List.setIfInBounds_toArray, List.set_cons_zero, List.set_cons_succ]
              refine wpPar_pure rfl (by kernel_rfl) _ (fun W hW => by
                  obtain ⟨c1, c2, cva⟩ := HC.out W hW
                  go_simp
                  exact rfl) ?_; simp only [Act.put, List.setIfInBounds_toArray, List.set_cons_zero, List.set_cons_succ]
              refine wpPar_pure rfl (by kernel_rfl) _ (fun W hW => by
                  obtain ⟨c1, c2, cva⟩ := HC.out W hW
                  go_simp
                  exact rfl) ?_; simp only [Act.put, List.setIfInBounds_toArray, List.set_cons_zero, List.set_cons_succ]
              iterate 1 (refine wpPar_pure rfl (by rfl) _ (fun W hW => by
                  obtain ⟨c1, c2, cva⟩ := HC.out W hW
                  go_simp
                  exact rfl) ?_; simp only [Act.put, List.setIfInBounds_toArray, List.set_cons_zero, List.set_cons_succ])
              refine wpPar_nil (fun W hW hGG => ?_)
              have KK := hid (HK.out.trans hW)
              clear hGG hW hs
              go_wp2
              go_roundg (3 - (k + 1))
              case measure => omega
              case rel => exact ⟨k + 1, by first | rfl | exact congrArg (Value.int .i64) WK.out | go_num, by omega, Nat.le_refl _, KK⟩
            · have hlt3 : ¬ (k : Int) < 3 := by omega
              have hlt' : decide ((k : Int) < 3) = false := by simpa using hlt3
              have HPN := hid (HP.out.keptN HK.out)
              have WI := hid (show wrap64 ((i : Int) + 1) = ((i + 1 : Nat) : Int) by rw [wrap_in _ (by omega) (by have := HL.out.1; omega)]; omega)
              go_wp2
              go_roundg (l.length - (i + 1))
              case measure => omega
              case rel => exact ⟨i + 1, V2, A2, s2, D2, by first | rfl | exact congrArg (Value.int .i64) WI.out | go_num, by omega, Nat.le_refl _, HPN⟩
        · have dx : decide ((20 : Int) < (x.length : Int)) = true := by simp; omega
          have dx2 : decide (20 < x.length) = true := by simp; omega
          have kz := HP0.out.sx.kept
          clear hx20
          go_wp2
          go_ret
          exact ⟨rfl, kz⟩
      · have hlt' : decide ((i : Int) < (l.length : Int)) = false := by simpa using hlt
        obtain rfl : i = l.length := by omega
        clear hlt hi hix
        have hap := HP0.out
        have hok0 := hap.ok (i := l.length) (by have := HL.out.1; omega)
        have HOK0 := hid hok0
        clear hok0
        go_wp2_with fail
        refine (sx_crash (m := 0) (torn := -1) hap.sx HOK0.out (by decide) (by decide) (by decide)).mono ?_
        rintro e wk ⟨rfl, s1, kf⟩
        obtain ⟨bp, bq, ho⟩ := hap.side kf
        have HSD := hid (And.intro bp (And.intro bq ho))
        have HSX := hid s1
        have HFF := hid hap.f
        clear hap s1 kf bp bq ho
        obtain ⟨wo, rfl⟩ : ∃ wo : World, wo = wr := ⟨_, rfl⟩
        go_wp2_with fail
        go_loopg [11] 3 (fun kx s11 wr => ∃ k : Nat, s11 = .int .i64 (k : Int) ∧ k ≤ 3 ∧ 3 - k ≤ kx ∧ Hid (Kept None wk wr))
        case atStart => exact ⟨0, rfl, by omega, Nat.le_refl _, hid (Kept.refl _ _)⟩
        case round =>
        obtain ⟨k, rfl, hk, hkx, HK⟩ := hrel
        by_cases hlt : k < 3
        · have hlt3 : (k : Int) < 3 := by omega
          have hlt' : decide ((k : Int) < 3) = true := by simpa using hlt3
          obtain ⟨bp, bq, ho⟩ := HSD.out
          have hcK := Ap.cells12 (bp.kept HK.out (fun h => h)) (bq.kept HK.out (fun h => h)) hlt
          have hoK := (ho k hlt).kept HK.out (fun _ _ h => h)
          have hfK := HFF.out k hlt
          obtain ⟨U, hU⟩ : ∃ U, U = A k := ⟨_, rfl⟩
          obtain ⟨S, hS⟩ : ∃ S, S = s k := ⟨_, rfl⟩
          obtain ⟨aK, cK, eK⟩ := hoK.form
          rw [← hU] at hoK hfK eK
          rw [← hS] at hcK hfK
          rw [eK] at hoK hcK
          have hSU : S ≤ U.length := by rw [← hfK.2.1, ← hfK.1]; exact hfK.2.2.1.sure_le
          have hcr : (Dsk.crashD D 0 (-1)).f k = ⟨U.take S, []⟩ := by
            show (D.f k).crash 0 (-1) = _
            rw [Fl.crash_none (-1) hfK.2.2.1, hfK.1, hfK.2.1]
          obtain ⟨T, hT⟩ : ∃ T, T = U.take S := ⟨_, rfl⟩
          have hrow := hoK
          unfold Ob Bo at hrow
          have hsl := row_slice_to tBytes zBytes hrow .i64 (S : Int) (by omega) (by omega)
          simp only [Int.toNat_natCast] at hsl
          have htk : Ob wr w.heap.size (.slice aK S cK) T := by
            have h := row_take hrow (i := S) hSU
            rw [← List.map_take, ← hT] at h
            have hK : T.length = S := by rw [hT, List.length_take]; omega
            unfold Ob Bo
            rw [hK]
            exact h
          have hokC : (Dsk.crashD D 0 (-1)).Ok := ⟨fun j hj => by
            have := HFF.out j hj
            show ((D.f j).crash 0 (-1)).Ok ∧ ((D.f j).crash 0 (-1)).t.length ≤ _ ∧ ((D.f j).crash 0 (-1)).b.length ≤ _
            rw [Fl.crash_none (-1) this.2.2.1]
            refine ⟨Fl.ok_nil _, ?_, by simp⟩
            have h5 := this.2.2.2.2
            have := HL.out.1
            simp only [List.length_take]
            rw [(HFF.out j hj).1]
            omega, HOK0.out.room, by show (-1 : Int) ≤ -1; decide, by show (-1 : Int) ≤ 9223372036854775807; decide⟩
          have HC := hid (fun W (hW : Kept None wr W) => (⟨(hW.cell (lt_of_cell12 hcK.1) (fun h => h)).trans hcK.1, (hW.cell (lt_of_cell12 hcK.2.1) (fun h => h)).trans hcK.2.1, (cvBytes ((htk.kept hW (fun _ _ h => h)).bs (Nat.le_refl _)) : (convert 22 9 (.slice aK S cK)).run Try.prog W = .ok (.string ⟨T.toArray⟩) W)⟩ : W.cell? ⟨p, k, none⟩ = some (.slice aK U.length cK) ∧ W.cell? ⟨q, k, none⟩ = some (.int .i64 (S : Int)) ∧ (convert 22 9 (.slice aK S cK)).run Try.prog W = .ok (.string ⟨T.toArray⟩) W))
          have HRD := hid (fun W (hW : Kept None wr W) => sx_read (i := k) (l := T) (HSX.out.keptN (HK.out.trans hW)) hokC hlt (by rw [hcr, hT]))
          have WK := hid (show wrap64 ((k : Int) + 1) = ((k + 1 : Nat) : Int) by rw [wrap_in _ (by omega) (by omega)]; omega)
          clear hU hS eK hoK hcK hfK hokC hcr hT hrow htk bp bq ho hSU
          go_wp2_with fail
          have hs : Steady [.bytes 2 (T), .val 3 (.string ⟨(T).toArray⟩) [2]] := Go.Pm.Steady.bytes (Go.Pm.Steady.val (Go.Pm.Steady.nil))
          refine wp_region_kn wr _ hs (Kept.refl _ _) (by kernel_rfl) (by kernel_rfl) (by kernel_rfl) ?_
          iterate 2 (refine wpPar_pure rfl (by rfl) _ (fun W hW => by
              obtain ⟨c1, c2, cva⟩ := HC.out W hW
              go_simp
              exact rfl) ?_; simp only [Act.put, List.setIfInBounds_toArray, List.set_cons_zero, List.set_cons_succ])
          refine wpKn_adds hs rfl (by rfl) (fun W hW hd => ?_) (fun v2 hv => ?_)
          · unfold Gives
            go_simp
            refine gives_call (HRD.out W hW) ?_
            rintro e w3 ⟨v, rfl, k3, b3⟩
            obtain ⟨a, c, rfl⟩ := b3.form
            exact ⟨_, rfl, k3, ⟨_, _, rfl⟩, _, _, b3.bs (Nat.le_refl _)⟩
          obtain ⟨a2, c2, rfl⟩ : ∃ a c, v2 = .slice a (T).length c := hv
          simp only [Act.put, List.setIfInBounds_toArray, List.set_cons_zero, List.set_cons_succ]
          refine wpKn_adds hs rfl (by rfl) (fun W hW hd => ?_) (fun v3 hv => ?_)
          · unfold Gives
            obtain ⟨lo, hi, hb⟩ : ∃ lo hi, Bs W lo hi (.slice a2 (T).length c2) (T) := hd 2 (List.Mem.head _)
            have hcv := cvBytes hb
            go_simp
            exact ⟨Kept.refl _ _, rfl, trivial⟩
          obtain rfl : v3 = .string ⟨(T).toArray⟩ := hv
          simp only [Act.put, List.setIfInBounds_toArray, List.set_cons_zero, List.set_cons_succ]
          iterate 9 (refine wpPar_pure rfl (by rfl) _ (fun W hW => by
              obtain ⟨c1, c2, cva⟩ := HC.out W hW
              go_simp
              exact rfl) ?_; simp only [Act.put, List.setIfInBounds_toArray, List.set_cons_zero, List.set_cons_succ])
          refine wpPar_nil (fun W hW hGG => ?_)
          have KK := hid (HK.out.trans hW)
          clear hGG hW hs hsl
          go_wp2
          go_roundg (3 - (k + 1))
          case measure => omega
          case rel => exact ⟨k + 1, by first | rfl | exact congrArg (Value.int .i64) WK.out | go_num, by omega, Nat.le_refl _, KK⟩
        · have hlt3 : ¬ (k : Int) < 3 := by omega
          have hlt' : decide ((k : Int) < 3) = false := by simpa using hlt3
          have kz := HSX.out.kept.trans HK.out
          go_wp2
          go_ret
          exact ⟨rfl, kz⟩
    · have df : decide ((fs.length : Int) < (l.length : Int)) = true := by simp; omega
      have df2 : decide (fs.length < l.length) = true := by simp; omega
      clear hl hfs
      go_enter Try.func7, Try.ntmps7
      go_wp2_with fail
      refine (known w).mono ?_
      rintro e w1 ⟨rfl, k1⟩
      go_wp2
      go_ret
      exact ⟨rfl, k1⟩
  · have dl : decide ((20 : Int) < (l.length : Int)) = true := by simp; omega
    clear hl
    go_enter Try.func7, Try.ntmps7
    go_wp2_with fail
    refine (known w).mono ?_
    rintro e w1 ⟨rfl, k1⟩
    go_wp2
    go_ret
    exact ⟨rfl, k1⟩
end K12
end Go.Proofs.Ytdcpacfhifofdaa
