/- postmarkref5.Make: by contract. -/
import Derived.Test.YtidegffdhpdhjaaRead7
import Derived.Test.YtidegffdhpdhjaaMake7
import Derived.Deep.LoopGhost
import Derived.Deep.DeepCutAuto
namespace Go.Pm
open Go Go.RowKit
theorem range_kept7 {S : Nat → Prop} {w w' : World} {b o : Nat} {cs : List Value} (h : w.rangeAt b o cs) (hk : Kept S w w') (hs : ¬ S b) : w'.rangeAt b o cs := fun j v hv => by
  have h1 := h j v hv
  rw [hk.cell (block_lt_of_cell h1) hs]
  exact h1
/-- A proof's Item, stored over. -/
theorem pf_store_item {P : Program} {ops : Array Oper} {rest : List Oper} {o : Oper} {a : Act} {w : World} {Q : Exit → Act → World → Prop} (hgd : o.guard = none) (ty : TypeId) (x y : Operand) (ho : o.op = .store ty x y)
    {g : Nat} {s : Value} {p : Pf} {t : TypeId} {X : It} {CX : List Value} (hx : a.eval x = .pointer (some ⟨g, 2, none⟩)) (hC : CX = itC X) (hy : a.eval y = .agg CX.toArray) (hb : Blk w g (pfC s p).toArray t) (hp : p.Ok) (hX : X.i.length = 32 ∧ X.v.length = 32) (hT : (P.info? ty).map (·.size) = some 64)
    (hk : ∀ w', Blk w' g (pfC s ⟨p.path, p.e, X⟩).toArray t → Kept (Just g) w w' → wpList P ops Q rest (a.put o.dst undef) w') : wpList P ops Q (o :: rest) a w := by
  subst hC
  have h66 := pfC_len s hp
  have h64 := itC_len hX
  have z64 : (itC p.x).length = 64 := itC_len hp.2
  refine wpList_store_mid hgd ty x y ho g 2 (itC X).toArray hx hy (fun j hj => ?_) (by simpa [h64] using hT) (all_oneCell_toArray (fun c hc => itsC_one [X] c (by simpa [itsC] using hc))) ?_
  · simp only [List.size_toArray, h64] at hj
    refine ⟨?_, hb.free _⟩
    rw [hb.cell]
    simp [show 2 + j < (pfC s p).length by omega]
  · refine hk _ ?_ (kept_setCells (S := Just g) (fun _ => rfl) _ _ _ (Kept.refl _ _))
    have hs := Blk.setCells (itC X) 2 w (pfC s p).toArray hb (by simp [h66, h64])
    have e : (pfC s p).toArray.toList.take 2 ++ itC X ++ (pfC s p).toArray.toList.drop (2 + (itC X).length) = pfC s ⟨p.path, p.e, X⟩ := by
      have e1 : (pfC s p).drop (2 + (itC X).length) = [] := List.drop_of_length_le (by simp [h66, h64])
      have e2 : (pfC s p).take 2 = [s, .int .i64 p.e] := rfl
      show (pfC s p).take 2 ++ itC X ++ (pfC s p).drop (2 + (itC X).length) = _
      rw [e1, e2]
      simp [pfC]
    rw [e] at hs
    exact hs
end Go.Pm
namespace Go.Proofs.Ytidegffdhpdhjaa
open Go.RowKit Go.Pm
namespace RPr
open Pr
/-- What Make's loop has: what it tells, its own proof, what is left of the items. -/
structure Mk (T E TI : TypeId) (w0 : World) (z L : Array Value) (g5 : Nat) (l : List It) (i : List UInt8) (k : Nat) (v : Value) (m : List It) (w : World) : Prop where
  kept : Kept None w0 w
  hz : Blk w (w0.heap.size + 1) z E
  bi : Blk w w0.heap.size L T
  pf : ∃ s qs, Blk w g5 (pfC s zeroPf).toArray E ∧ Ho T w (g5 + 1) s qs ∧ downI 256 (setI l) i 0 = (qs ++ (downI (256 - k) m i k).1, (downI (256 - k) m i k).2)
  its : ∃ lo hi, Its w lo hi v m ∧ (hi ≤ g5 ∨ g5 < lo)
  srt : Srt m
  agr : Agree m k
  len : m.length ≤ 549755813888
  lt : w0.heap.size + 1 < g5 ∧ g5 < w.heap.size
set_option maxRecDepth 100000 in
set_option maxHeartbeats 16000000 in
theorem make (l : List It) (i : List UInt8) (v : Value) (lo hi : Nat) (w : World) (hv : Its w lo hi v l) (hl : l.length ≤ 549755813888) (hi32 : i.length = 32) :
    Calls Try.prog 28 #[v, hashV i] w fun e w' => ∃ u, e = .returned (pfV u (makeP l i)) ∧ Kept None w w' ∧ Rh w.heap.size w' u (makeP l i).path := by
  have hS : ∀ w, Its w lo hi v l → Calls Try.prog 62 #[v, .slice none 0 0] w _ := fun w h => RTr.set v (.slice none 0 0) lo hi 0 0 l [] w h (Its.nil _ _ _) (by simpa using hl)
  rw [List.append_nil] at hS
  have aL := aH32 hi32
  have hBit := fun k (hk : k < 256) w => RTr.bit i hi32 k hk w
  obtain ⟨L, hL⟩ : ∃ L : Array Value, L = (i.map u8v).toArray := ⟨_, rfl⟩
  simp only [hashV, ← hL] at hBit
  show Calls Try.prog 28 #[v, .agg (i.map u8v).toArray] w _
  rw [← hL] at aL ⊢
  obtain ⟨SL, hSL⟩ : ∃ x, x = setI l := ⟨_, rfl⟩
  have sS : SL.length ≤ 549755813888 := by rw [hSL]; exact Nat.le_trans (len_setI l) hl
  have srtS : Srt SL := by rw [hSL]; exact srt_setI l
  have fullS : Len SL := by rw [hSL]; exact full_setI hv.1
  rw [← hSL] at hS
  have HS := hid hS
  have HB := hid hBit
  have HV := hid hv
  have HL := hid hL
  have HSL := hid (And.intro hSL (And.intro sS (And.intro srtS fullS)))
  have k0 : Kept None w ((w.alloc (.cells L 23)).alloc (.cells Try.zeroCells63 63)) := ((Kept.refl _ _).alloc _).alloc _
  have bL : Blk ((w.alloc (.cells L 23)).alloc (.cells Try.zeroCells63 63)) w.heap.size L 23 := (Blk.new w _ _).alloc _
  have v0 : Blk ((w.alloc (.cells L 23)).alloc (.cells Try.zeroCells63 63)) (w.heap.size + 1) Try.zeroCells63 63 := Blk.new2 w _ _ _
  obtain ⟨z, hz, hZ⟩ := Blk.any (n := 66) v0 (by rfl)
  obtain ⟨a, cap, rfl, g1, g2, g3⟩ := hv.form
  have HZ := hid hz
  clear hS hBit hv v0 g3 hL hSL sS srtS fullS hz
  go_enter Try.func28, Try.ntmps28
  go_wp2_with fail
  have hv1 := HV.out.kept k0 (fun _ _ _ h => h)
  refine (HS.out _ hv1).mono ?_
  rintro e w2 ⟨u, rfl, o2, k2⟩
  have o2i := o2.its (Nat.le_refl _)
  obtain ⟨a2, c2, rfl⟩ := o2.form
  obtain ⟨n2, hn2⟩ : ∃ n, n = SL.length := ⟨_, rfl⟩
  rw [← hn2] at o2i ⊢
  have HI : Hid (Mk 23 63 61 w z L w2.heap.size l i 0 (.slice a2 n2 c2) SL (w2.alloc (.cells Try.zeroCells63 63))) := hid (by
    have ka : Kept None w2 (w2.alloc (.cells Try.zeroCells63 63)) := (Kept.refl _ _).alloc _
    have h1 := k0.trans k2
    have h2 := hZ.kept k2 (fun h => h)
    refine ⟨h1.trans ka, h2.kept ka (fun h => h), (bL.kept k2 (fun h => h)).kept ka (fun h => h), ⟨.slice none 0 0, [], Blk.new w2 _ _, Ho.nil _ _ _, by rw [← HSL.out.1]; simp⟩, ⟨_, _, o2i.kept ka (fun _ _ _ h => h), .inl (Nat.le_refl _)⟩, HSL.out.2.2.1, ?_, HSL.out.2.1, ?_⟩
    · exact fun _ _ _ _ k hk => by omega
    · have := h2.lt
      simp
      omega)
  have HN2 := hid hn2
  obtain ⟨g5, hg5⟩ : ∃ g, g = w2.heap.size := ⟨_, rfl⟩
  clear k0 k2 o2 o2i bL hZ hv1 hn2
  go_wp2_with fail
  rw [← hg5] at HI ⊢
  clear hg5
  go_loopg [0, 6] 256 (fun kx s0 s6 wr => ∃ (k : Nat) (m : List It) (am : Option Addr) (nm cm : Nat), s0 = .slice am nm cm ∧ s6 = .int .i64 k ∧ k ≤ 256 ∧ 256 - k ≤ kx ∧ Hid (Mk 23 63 61 w z L g5 l i k (.slice am nm cm) m wr) ∧ Hid (nm = m.length))
  case atStart => exact ⟨0, SL, a2, n2, c2, rfl, rfl, by omega, by omega, HI, HN2⟩
  case round =>
    obtain ⟨k, m, am, nm, cm, rfl, rfl, hk, hkx, HR, HNM⟩ := hrel
    clear HI HN2
    obtain ⟨wo, rfl⟩ : ∃ wo : World, wo = wr := ⟨_, rfl⟩
    by_cases hlt : 1 < nm
    · have hlz : (1 : Int) < (nm : Int) := by omega
      have hm2 : 2 ≤ m.length := by have := HNM.out; omega
      obtain ⟨lom, him, hIm, hoff⟩ := HR.out.its
      have hk256 : k < 256 := agree_lt HR.out.srt hIm.1 HR.out.agr hm2
      obtain ⟨bt, hbt⟩ : ∃ b, b = bitI i k := ⟨_, rfl⟩
      have hb01 : bt = 0 ∨ bt = 1 := by rw [hbt]; exact bitI_two i k
      have hBk := fun w => HB.out k hk256 w
      rw [← hbt] at hBk
      obtain ⟨k1, hk1⟩ : ∃ k1, k1 = k + 1 := ⟨_, rfl⟩
      obtain ⟨FL, hFL⟩ : ∃ x, x = half m k (1 - bt) := ⟨_, rfl⟩
      obtain ⟨NL, hNL⟩ : ∃ x, x = half m k bt := ⟨_, rfl⟩
      obtain ⟨rt, hrt⟩ : ∃ x, x = rootI (255 - k) FL k1 := ⟨_, rfl⟩
      obtain ⟨RA, hRA⟩ : ∃ A : Array Value, A = (rt.map u8v).toArray := ⟨_, rfl⟩
      have fl1 : Srt FL := by rw [hFL]; exact srt_half HR.out.srt _ _
      have fl2 : Len FL := by rw [hFL]; exact len_half hIm.1 _ _
      have fl3 : Agree FL k1 := by rw [hFL, hk1]; exact agree_half HR.out.agr _
      have fl4 : FL.length ≤ 549755813888 := by rw [hFL]; exact Nat.le_trans (List.length_filter_le _ _) HR.out.len
      have rt32 : rt.length = 32 := by rw [hrt]; exact rootI_len' _ _ _ fl1 fl2 fl3 (by omega)
      have hRT : ∀ v lo hi w, Its w lo hi v FL → Calls Try.prog 65 #[v, .int .i64 k1] w fun e w' => e = .returned (.agg RA) ∧ Kept None w w' := fun v lo hi w h => by
        have h2 := RTr.root (255 - k) FL k1 v lo hi w h fl1 fl3 (by omega) (by omega) fl4
        rwa [← hrt, hashV, ← hRA] at h2
      have HRT := hid hRT
      have HBK := hid hBk
      have HRA := hid (And.intro (show RA.size = 32 by rw [hRA]; simpa using rt32) (And.intro hRA rt32))
      have HK1 := hid hk1
      have HNF := hid (And.intro hFL (And.intro hNL (And.intro hrt hbt)))
      have HIM := hid hIm
      have bi0 := HR.out.bi
      clear hoff hm2 hBk hbt hFL hNL hrt hRA fl1 fl2 fl3 fl4 rt32 hRT hk1 hIm
      go_wp2_with fail
      refine (RTr.sides _ _ _ m k wo HIM.out HR.out.len hk256).mono ?_
      rintro e w3 ⟨va, vb, rfl, k3, oa, ob⟩
      obtain ⟨aa, ca, rfl⟩ := oa.form
      obtain ⟨ab, cb, rfl⟩ := ob.form
      obtain ⟨na, hna⟩ : ∃ n, n = (half m k 0).length := ⟨_, rfl⟩
      obtain ⟨nb, hnb⟩ : ∃ n, n = (half m k 1).length := ⟨_, rfl⟩
      rw [← hna, ← hnb]
      have bi3 := bi0.kept k3 (fun h => h)
      clear bi0
      have OAB := hid (And.intro oa ob)
      have HNAB := hid (And.intro hna hnb)
      have K3 := hid k3
      clear oa ob hna hnb k3
      go_wp2_with (first | (refine wpList_load_blk rfl _ _ rfl rfl bi3 aL ?_) | fail)
      refine (HBK.out _).mono ?_
      rintro e w4 ⟨rfl, k4⟩
      have K4 := hid k4
      clear k4
      go_upto_if 25 with fail
      go_cut [7, 8] (fun s7 s8 wx => ∃ (an : Option Addr) (nn cn : Nat) (af : Option Addr) (nf cf : Nat), s7 = .slice an nn cn ∧ s8 = .slice af nf cf ∧ Hid (nn = NL.length) ∧ Hid (∃ hi, Its wx wo.heap.size hi (.slice an nn cn) NL) ∧ Hid (∃ hi, Its wx wo.heap.size hi (.slice af nf cf) FL) ∧ Hid (Kept None wo wx))
      case first =>
        obtain ⟨oa, ob⟩ := OAB.out
        have ia := (oa.kept K4.out (fun _ _ h => h)).its (Nat.le_refl _)
        have ib := (ob.kept K4.out (fun _ _ h => h)).its (Nat.le_refl _)
        have KK := hid (K3.out.trans K4.out)
        rw [← HNAB.out.1] at ia
        rw [← HNAB.out.2] at ib
        have hf := HNF.out
        rcases hb01 with h0 | h0
        · subst h0
          have e1 : NL = half m k 0 := hf.2.1
          have e2 : FL = half m k 1 := hf.1
          rw [← e1] at ia
          rw [← e2] at ib
          have HIA := hid (And.intro ia (show na = NL.length by rw [e1]; exact HNAB.out.1))
          have HIB := hid ib
          clear ia ib hf e1 e2 oa ob
          go_wp2_with fail
          go_meet
          exact ⟨_, _, _, _, _, _, rfl, rfl, hid HIA.out.2, hid ⟨_, HIA.out.1⟩, hid ⟨_, HIB.out⟩, KK⟩
        · subst h0
          have e1 : NL = half m k 1 := hf.2.1
          have e2 : FL = half m k 0 := hf.1
          rw [← e1] at ib
          rw [← e2] at ia
          have HIA := hid (And.intro ib (show nb = NL.length by rw [e1]; exact HNAB.out.2))
          have HIB := hid ia
          clear ia ib hf e1 e2 oa ob
          go_wp2_with fail
          go_meet
          exact ⟨_, _, _, _, _, _, rfl, rfl, hid HIA.out.2, hid ⟨_, HIA.out.1⟩, hid ⟨_, HIB.out⟩, KK⟩
      case rest =>
        obtain ⟨an, nn, cn, af, nf, cf, rfl, rfl, HNN, HNL, HFL, KQ⟩ := hcut
        clear OAB HNAB K3 K4 bi3
        obtain ⟨wq, rfl⟩ : ∃ wq : World, wq = wc := ⟨_, rfl⟩
        obtain ⟨s, qs, hP, hO, hD⟩ := HR.out.pf
        obtain ⟨a3, c3, rfl⟩ := hO.form
        obtain ⟨nq, hnq⟩ : ∃ n, n = qs.length := ⟨_, rfl⟩
        rw [← hnq] at hP hO
        have HOW : Hid (∀ q, (Value.slice a3 nq c3).ownBlock = some q → g5 + 1 ≤ q ∧ q < wo.heap.size) := hid (fun q hq => hO.2.own q hq)
        have HLN : Hid (qs.length ≤ 256) := hid (by
          have h1 := downI_len 256 (setI l) i 0
          rw [hD, List.length_append] at h1
          omega)
        have HQ := hid (And.intro HR.out.lt KQ.out.size)
        have hPq := hP.kept KQ.out (fun h => h)
        have hOq := hO.kept KQ.out (fun _ _ h => h)
        have hO := hid hOq
        have HC := hid (fun W (hW : Kept (fun q => (Value.slice a3 nq c3).ownBlock = some q) wq W) => (show W.cell? ⟨g5, 0, none⟩ = some (.slice a3 nq c3) from pf_c0 (hPq.kept hW (fun h => by have := (HOW.out g5 h).1; omega))))
        have HP := hid hPq
        have HD := hid hD
        have wk1 : IntKind.i64.wrap ((k : Int) + 1) = (k1 : Int) := by rw [IntKind.wrap_i64, HK1.out]; omega
        clear hP hOq hPq hD hnq
        go_wp2_with fail
        refine wp_region_plan_tail 9 (Kept (fun q => (Value.slice a3 nq c3).ownBlock = some q) wq) [{ k := 5, uses := [100], spends := [100], pure := fun u => u = .agg RA, fact := fun _ _ => True },
          { k := 6, uses := [], pure := fun u => ∃ g, u = .slice (some ⟨g, 0, none⟩) 1 1, fact := fun u W => ∃ g, u = .slice (some ⟨g, 0, none⟩) 1 1 ∧ wq.heap.size ≤ g ∧ Blk W g RA 23 },
          { k := 7, uses := [6, 101], spends := [101], pure := fun u => ∃ a n c, u = .slice a n c, fact := fun u W => Ho 23 W (g5 + 1) u (qs ++ [rt]) },
          { k := 100, uses := [], fact := fun _ W => ∃ hi, Its W wo.heap.size hi (.slice af nf cf) FL },
          { k := 101, uses := [], fact := fun _ W => Ho 23 W (g5 + 1) (.slice a3 nq c3) qs }] [100, 101] (by kernel_rfl) (by kernel_rfl) (by kernel_rfl) (by rfl) ?pures ((Kept.refl _ wq).drew) ?starts ?walk
        case pures =>
          intro f hf
          simp only [List.mem_cons, List.not_mem_nil, or_false] at hf
          rcases hf with rfl | rfl | rfl | rfl | rfl
          · exact ⟨_, rfl⟩
          · exact ⟨_, 0, rfl⟩
          · exact ⟨_, none, 0, 0, rfl⟩
          · exact ⟨undef, trivial⟩
          · exact ⟨undef, trivial⟩
        case starts =>
          intro k hk
          have hk : k = 100 ∨ k = 101 := by simpa using hk
          rcases hk with rfl | rfl
          · obtain ⟨hi7, h7⟩ := HFL.out
            exact ⟨hi7, h7.kept ((Kept.refl None wq).drew) (fun _ _ _ h => h)⟩
          · exact hO.out.kept ((Kept.refl None wq).drew) (fun _ _ h => h)
        simp only [List.take_succ_cons, List.take_zero, List.drop_succ_cons, List.drop_zero]
        iterate 5 (refine wpPar_pure rfl (by rfl) _ (fun W hW => by
            have c0 := HC.out W hW
            go_simp
            exact rfl) ?_; simp only [Act.put, List.setIfInBounds_toArray, List.set_cons_zero, List.set_cons_succ])
        refine wpPar_adds rfl (by rfl) (fun W hW hd => ?_) (fun v5 hv => ?_)
        · obtain ⟨hi9, rW⟩ : ∃ hi, Its W wo.heap.size hi (.slice af nf cf) FL := hd 100 (List.Mem.head _)
          unfold Gives
          go_simp
          refine gives_call (HRT.out _ _ _ W rW) ?_
          rintro e W' ⟨rfl, k⟩
          refine ⟨_, rfl, hW.trans (k.mono (fun _ _ h => by cases h)), rfl, trivial, keeps_of fun f hf hs _ hne u hfu => ?_⟩
          simp only [List.mem_cons, List.not_mem_nil, or_false] at hf
          rcases hf with rfl | rfl | rfl | rfl | rfl
          · exact absurd rfl hne
          · obtain ⟨g, e1, e2, e3⟩ := hfu
            exact ⟨g, e1, e2, e3.kept k (fun h => h)⟩
          · exact Ho.kept hfu k (fun _ _ h => h)
          · exact absurd (List.Mem.head _) hs
          · exact Ho.kept hfu k (fun _ _ h => h)
        obtain rfl : v5 = .agg RA := hv
        simp only [Act.put, List.setIfInBounds_toArray, List.set_cons_zero, List.set_cons_succ]
        refine wpPar_adds rfl (by rfl) (fun W hW hd => ?_) (fun v6 hv => ?_)
        · unfold Gives
          rw [exec_one_item 59 (.tmp 33) rfl rtHashes (by decide) (A := RA) rfl HRA.out.1]
          · refine ⟨hW.alloc _, ⟨_, rfl⟩, ⟨_, rfl, hW.size, Blk.new _ _ _⟩, keeps_of fun f hf hs _ hne u hfu => ?_⟩
            have ka : Kept None W (W.alloc (.cells RA 23)) := (Kept.refl None W).alloc _
            simp only [List.mem_cons, List.not_mem_nil, or_false] at hf
            rcases hf with rfl | rfl | rfl | rfl | rfl
            · exact trivial
            · exact absurd rfl hne
            · exact Ho.kept hfu ka (fun _ _ h => h)
            · obtain ⟨hi8, h8⟩ := hfu
              exact ⟨hi8, h8.kept ka (fun _ _ _ h => h)⟩
            · exact Ho.kept hfu ka (fun _ _ h => h)
        obtain ⟨g4, rfl⟩ : ∃ g, v6 = .slice (some ⟨g, 0, none⟩) 1 1 := hv
        simp only [Act.put, List.setIfInBounds_toArray, List.set_cons_zero, List.set_cons_succ]
        refine wpPar_adds rfl (by rfl) (fun W hW hd => ?_) (fun v7 hv => ?_)
        · obtain ⟨g, hgg, hg2, hg3⟩ : ∃ g, Value.slice (some ⟨g4, 0, none⟩) 1 1 = .slice (some ⟨g, 0, none⟩) 1 1 ∧ wq.heap.size ≤ g ∧ Blk W g RA 23 := hd 6 (List.Mem.head _)
          obtain rfl : g4 = g := by simpa using hgg
          have hOW : Ho 23 W (g5 + 1) (.slice a3 nq c3) qs := hd 101 (List.Mem.tail _ (List.Mem.head _))
          have hsz := hW.size
          rw [HRA.out.2.1] at hg3
          have hu := Hs.ofBlk hg3 HRA.out.2.2
          refine gives_append_po _ _ 59 rfl rtHashes (by decide) rfl rfl hOW.2 hu.2 (hsC_one _) (by rw [hsC_len, hsC_len]; have := HLN.out; simp; omega) (by have := HQ.out; omega) ?_
          intro a' n' c' W' hP k hown
          have hown0 : ∀ q, (Value.slice a3 nq c3).ownBlock = some q → (g5 + 1) ≤ q ∧ q < wq.heap.size := fun q hq => hO.out.2.own q hq
          refine ⟨hW.trans (k.mono (fun q _ h => h)), ⟨_, _, _, rfl⟩, ⟨hOW.1.append hu.1, by rw [hsC_append]; exact hP⟩, keeps_of fun f hf hs _ hne u hfu => ?_⟩
          simp only [List.mem_cons, List.not_mem_nil, or_false] at hf
          rcases hf with rfl | rfl | rfl | rfl | rfl
          · exact trivial
          · obtain ⟨g, e1, e2, e3⟩ := hfu
            exact ⟨g, e1, e2, e3.kept k (fun h => by have := (hown0 _ h).2; omega)⟩
          · exact absurd rfl hne
          · obtain ⟨hi8, h8⟩ := hfu
            exact ⟨hi8, h8.kept k (fun q h1 h2 h => by have := HOW.out q h; omega)⟩
          · exact absurd (List.Mem.head _) hs
        obtain ⟨a5, n5, c5, rfl⟩ : ∃ a n c, v7 = .slice a n c := hv
        simp only [Act.put, List.setIfInBounds_toArray, List.set_cons_zero, List.set_cons_succ]
        iterate 1 (refine wpPar_pure rfl (by rfl) _ (fun W hW => by
            go_simp
            exact rfl) ?_; simp only [Act.put, List.setIfInBounds_toArray, List.set_cons_zero, List.set_cons_succ])
        refine wpPar_nil (fun W hW hG => ?_)
        have hOW : Ho 23 W (g5 + 1) (.slice a5 n5 c5) (qs ++ [rt]) := hG 7
        have hown0 : ∀ q, (Value.slice a3 nq c3).ownBlock = some q → (g5 + 1) ≤ q ∧ q < wq.heap.size := fun q hq => hO.out.2.own q hq
        have hPW := HP.out.kept hW (fun h => by have := (HOW.out g5 h).1; omega)
        have hq := HQ.out
        have kW : Kept None w W := (HR.out.kept.trans KQ.out).then hW (fun j hj h => by have := (HOW.out j h).1; omega)
        have hzW := (HR.out.hz.kept KQ.out (fun h => h)).kept hW (fun h => by have := (HOW.out _ h).1; omega)
        have biW := (HR.out.bi.kept KQ.out (fun h => h)).kept hW (fun h => by have := (HOW.out _ h).1; omega)
        have c0 := pf_c0 hPW
        have f0 := hPW.free 0
        have HRM : Hid (Mk 23 63 61 w z L g5 l i k1 (.slice an nn cn) NL (W.setCell ⟨g5, 0, none⟩ (.slice a5 n5 c5))) := hid (by
          have kk := Kept.one W g5 0 (.slice a5 n5 c5)
          have hf := HNF.out
          have hWs := hW.size
          refine ⟨kW.setCell (p := ⟨g5, 0, none⟩) (fun h => by have h : g5 < w.heap.size := h; omega) _, hzW.setOther (by show w.heap.size + 1 ≠ g5; omega) _, biW.setOther (by show w.heap.size ≠ g5; omega) _, ⟨.slice a5 n5 c5, qs ++ [rt], ?_, ?_, ?_⟩, ?_, ?_, ?_, ?_, ?_⟩
          · have h := hPW.set 0 (.slice a5 n5 c5)
            simpa [pfC] using h
          · exact hOW.kept kk (fun q hq2 h => by have h : q = g5 := h; have := (hOW.2.own q hq2).1; omega)
          · have hm2 : 2 ≤ m.length := by have := HNM.out; omega
            have e1 : 256 - k = (255 - k) + 1 := by omega
            have e2 : 256 - k1 = 255 - k := by have := HK1.out; omega
            have h1 := HD.out
            rw [e1, downI_more (255 - k) i k hm2, ← hf.2.2.2, ← hf.1, ← hf.2.1, ← HK1.out, ← hf.2.2.1] at h1
            rw [e2, h1, List.append_assoc]
            rfl
          · obtain ⟨hi7, h7⟩ := HNL.out
            exact ⟨_, _, (h7.kept hW (fun q h1 h2 h => by have := (HOW.out q h).2; omega)).kept kk (fun q h1 h2 h => by have h : q = g5 := h; omega), .inr (by have := HQ.out; omega)⟩
          · rw [hf.2.1]; exact srt_half HR.out.srt _ _
          · rw [hf.2.1, HK1.out]; exact agree_half HR.out.agr _
          · rw [hf.2.1]; exact Nat.le_trans (List.length_filter_le _ _) HR.out.len
          · refine ⟨by omega, ?_⟩
            have := kk.size
            omega)
        have hk1 : k1 ≤ 256 ∧ 256 - k1 ≤ 256 - (k + 1) := by have := HK1.out; omega
        have HKK := hid hk1
        clear hG hW hOW hown0 hPW hq kW hzW biW HC HP HR HNL HFL HD wk1 hk1
        go_wp2
        go_roundg (256 - (k + 1))
        case measure => omega
        case rel => exact ⟨k1, NL, an, nn, cn, rfl, by rw [HK1.out]; go_num, HKK.out.1, HKK.out.2, HRM, HNN⟩
    · have hlz : ¬ (1 : Int) < (nm : Int) := by omega
      have hm : m.length < 2 := by have := HNM.out; omega
      obtain ⟨s, qs, hP, hO, hD⟩ := HR.out.pf
      obtain ⟨a3, c3, rfl⟩ := hO.form
      rw [downI_few _ i k hm, List.append_nil] at hD
      have hmk : makeP l i = endI qs m i := by unfold makeP; rw [hD]
      have hq := HR.out.lt
      have hRh := hO.rh
      have hz0 := HR.out.hz
      have kw := HR.out.kept
      have HQ := hid hq
      have HMK := hid hmk
      have hms : m = [] ∨ ∃ x, m = [x] := by
        match m, hm with
        | [], _ => exact .inl rfl
        | [x], _ => exact .inr ⟨x, rfl⟩
      clear hmk hD hm
      rcases hms with rfl | ⟨x, rfl⟩
      · have hn0 : nm = 0 := HNM.out
        subst hn0
        have HMK : Hid (makeP l i = ⟨qs, 1, zeroIt⟩) := hid HMK.out
        clear HR HNM
        have c1 := pf_c1 hP
        have f1 := hP.free 1
        have hset : Blk (wo.setCell ⟨g5, 1, none⟩ (.int .i64 1)) g5 (pfC (.slice a3 qs.length c3) ⟨qs, 1, zeroIt⟩).toArray 63 := by
          have h := hP.set 1 (.int .i64 1)
          simpa [pfC, zeroPf] using h
        have k1 := Kept.one wo g5 1 (.int .i64 1)
        have hz8 := hz0.kept k1 (fun h => by have h : w.heap.size + 1 = g5 := h; omega)
        have hokF : Pf.Ok ⟨qs, 1, zeroIt⟩ := ⟨hO.1, rfl, rfl⟩
        have aPF := aP (s := .slice a3 qs.length c3) hokF
        have hRh8 := hRh.keptS k1 (fun q h1 h => by have h : q = g5 := h; omega)
        have hallF : (pfC (.slice a3 qs.length c3) ⟨qs, 1, zeroIt⟩).toArray.all (·.oneCell') = true := pfC_one (p := ⟨qs, 1, zeroIt⟩) hRh8
        have HAF := hid hallF
        have EF := hid (HZ.out.trans (show 66 = (pfC (.slice a3 qs.length c3) ⟨qs, 1, zeroIt⟩).toArray.size by simpa using (pfC_len (.slice a3 qs.length c3) hokF).symm))
        have KW := hid (kw.then k1 (fun j hj h => by have h : j = g5 := h; omega))
        have HRH := hid hRh8
        clear hP k1 hz0 hO kw hq hallF hRh hRh8
        go_wp2_with (first | (refine wpList_load_blk rfl _ _ rfl rfl hset aPF ?_) | (refine wpList_store_blk rfl _ _ _ rfl rfl rfl hz8 aPF EF.out HAF.out ?_; intro w9 hR9 k9) | fail)
        exact bodyPost_ret (v := pfV (.slice a3 qs.length c3) ⟨qs, 1, zeroIt⟩) (results_blk rfl _ rfl hR9 aPF) rfl ⟨_, by rw [HMK.out], KW.out.then k9 (fun j hj h => by have h : j = w.heap.size + 1 := h; omega), by rw [HMK.out]; exact (HRH.out.keptS k9 (fun q2 h1 h => by have h : q2 = w.heap.size + 1 := h; have := HQ.out; omega)).mono (by have := HQ.out; omega)⟩
      · have hn1 : nm = 1 := HNM.out
        subst hn1
        obtain ⟨lom, him, hIm, hoff⟩ := HR.out.its
        have hx32 : x.i.length = 32 ∧ x.v.length = 32 := hIm.1 x (List.Mem.head _)
        have HX32 := hid hx32
        have aX := aH32' hx32.1
        have aY := aI64' hx32
        have hE := Tr.eqHash x.i i hx32.1 hi32
        obtain ⟨be, hbe⟩ : ∃ b, b = (x.i == i) := ⟨_, rfl⟩
        rw [← hbe] at hE
        rw [← HL.out] at hE
        obtain ⟨CI, hCI⟩ : ∃ CI : List Value, CI = x.i.map u8v := ⟨_, rfl⟩
        obtain ⟨CX, hCX⟩ : ∃ CX : List Value, CX = itC x := ⟨_, rfl⟩
        rw [← hCI] at hE aX
        rw [← hCX] at aY
        obtain ⟨b, o, hbo, hb1, hb2, _, hc⟩ := hIm.ne (by simp)
        have hbg : b ≠ g5 := by omega
        have HBG := hid hbg
        have rX := hc 0 x rfl
        have rI := rangeAt_take rX 32
        rw [show (itC x).take 32 = x.i.map u8v from List.take_left' (by simp [hx32.1]), ← hCI] at rI
        rw [← hCX] at rX
        simp only [Nat.zero_mul, Nat.add_zero] at rI rX
        have RI := hid rI
        have RX := hid rX
        have BL := hid HR.out.bi
        have HX := hid (And.intro hCI (And.intro hCX hbe))
        obtain rfl : am = some ⟨b, o, none⟩ := hbo
        clear hc rI rX hCI hCX hbe HR HNM hIm hx32 hoff hb1 hb2 hbg
        go_wp2_with fail
        have hs : Steady [] := Steady.nil
        refine wp_region_kn wo _ hs (Kept.refl _ _) (by kernel_rfl) (by kernel_rfl) (by kernel_rfl) ?_
        iterate 3 (refine wpPar_pure rfl (by rfl) _ (fun W hW => by
            go_simp
            exact rfl) ?_; simp only [Act.put, List.setIfInBounds_toArray, List.set_cons_zero, List.set_cons_succ])
        refine wpPar_pure rfl (by rfl) _ (fun W hW => exec_load_at rfl rfl (rangeAt_kept RI.out hW) aX) ?_; simp only [Act.put, List.setIfInBounds_toArray, List.set_cons_zero, List.set_cons_succ]
        refine wpPar_pure rfl (by rfl) _ (fun W hW => exec_load_blk _ _ rfl rfl (BL.out.kept hW (fun h => h)) aL) ?_; simp only [Act.put, List.setIfInBounds_toArray, List.set_cons_zero, List.set_cons_succ]
        iterate 2 (refine wpPar_pure rfl (by rfl) _ (fun W hW => by
            go_simp
            exact rfl) ?_; simp only [Act.put, List.setIfInBounds_toArray, List.set_cons_zero, List.set_cons_succ])
        refine wpPar_nil (fun W hW hG => ?_)
        have hP := hP.kept hW (fun h => h)
        have hz0 := hz0.kept hW (fun h => h)
        have kw := kw.trans hW
        have hRh := hRh.kept hW
        have rX2 := rangeAt_kept RX.out hW
        have hWs := hW.size
        clear hG hs hW RI RX BL hE
        cases be with
        | true =>
          go_wp2_with fail
          have hxi : (x.i = i) = True := by
            have h := HX.out.2.2
            simpa using h.symm
          have HMF : Hid (makeP l i = ⟨qs, 0, x⟩) := hid (by rw [HMK.out]; unfold endI; simp only [hxi, if_true])
          have HXX := hid HX.out
          clear hxi
          have hx32 := HX32.out
          have hP0 := hid hP
          have hzz := hid hz0
          have hsz0 := hid hWs
          obtain ⟨wv, hwv⟩ : ∃ wv : World, wv = W := ⟨_, rfl⟩
          subst hwv
          refine wp_region_plan_tail 6 (Kept (Just g5) wv) [{ k := 4, uses := [100], spends := [100], fact := fun _ W => Blk W g5 (pfC (.slice a3 qs.length c3) ⟨[], 0, zeroIt⟩).toArray 63 },
            { k := 100, uses := [], fact := fun _ W => Blk W g5 (pfC (.slice a3 qs.length c3) zeroPf).toArray 63 }] [100] (by kernel_rfl) (by kernel_rfl) (by kernel_rfl) (by rfl) ?puresA ((Kept.refl _ wv).drew) ?startsA ?walkA
          case puresA =>
            intro f hf
            simp only [List.mem_cons, List.not_mem_nil, or_false] at hf
            rcases hf with rfl | rfl
            · exact ⟨undef, trivial⟩
            · exact ⟨undef, trivial⟩
          case startsA =>
            intro k hk
            have hk : k = 100 := by simpa using hk
            subst hk
            exact hP0.out.kept ((Kept.refl None wv).drew) (fun h => h)
          simp only [List.take_succ_cons, List.take_zero, List.drop_succ_cons, List.drop_zero]
          iterate 2 (refine wpPar_pure rfl (by rfl) _ (fun W hW => by
              go_simp
              exact rfl) ?_; simp only [Act.put, List.setIfInBounds_toArray, List.set_cons_zero, List.set_cons_succ])
          refine wpPar_pure rfl (by rfl) _ (fun W hW => exec_load_at rfl rfl (range_kept7 rX2 hW (fun h => HBG.out h)) aY) ?_; simp only [Act.put, List.setIfInBounds_toArray, List.set_cons_zero, List.set_cons_succ]
          iterate 1 (refine wpPar_pure rfl (by rfl) _ (fun W hW => by
              go_simp
              exact rfl) ?_; simp only [Act.put, List.setIfInBounds_toArray, List.set_cons_zero, List.set_cons_succ])
          refine wpPar_adds rfl (by rfl) (fun W hW hd => ?_) (fun v4 hv => ?_)
          · have hB : Blk W g5 (pfC (.slice a3 qs.length c3) zeroPf).toArray 63 := hd 100 (List.Mem.head _)
            have c1 := pf_c1 hB
            have f1 := hB.free 1
            have hset : Blk (W.setCell ⟨g5, 1, none⟩ (.int .i64 0)) g5 (pfC (.slice a3 qs.length c3) ⟨[], 0, zeroIt⟩).toArray 63 := by
              have h := hB.set 1 (.int .i64 0)
              simpa [pfC, zeroPf] using h
            have HSET := hid hset
            have KW := hid (hW.setCell (p := ⟨g5, 1, none⟩) (fun _ => rfl) (.int .i64 0))
            clear hB hset
            unfold Gives
            go_simp
            refine ⟨KW.out, trivial, HSET.out, keeps_of fun f hf hs _ hne u hfu => ?_⟩
            simp only [List.mem_cons, List.not_mem_nil, or_false] at hf
            rcases hf with rfl | rfl
            · exact absurd rfl hne
            · exact absurd (List.Mem.head _) hs
          simp only [Act.put]
          iterate 1 (refine wpPar_pure rfl (by rfl) _ (fun W hW => by
              go_simp
              exact rfl) ?_; simp only [Act.put, List.setIfInBounds_toArray, List.set_cons_zero, List.set_cons_succ])
          refine wpPar_nil (fun W hW hG => ?_)
          have hB4 : Blk W g5 (pfC (.slice a3 qs.length c3) ⟨[], 0, zeroIt⟩).toArray 63 := hG 4
          have hzW := hzz.out.kept hW (fun h => by have h : w.heap.size + 1 = g5 := h; have := HQ.out; omega)
          have kW := kw.then hW (fun j hj h => by have h : j = g5 := h; have := HQ.out; omega)
          have hRW := hRh.keptS hW (fun q h1 h => by have h : q = g5 := h; omega)
          have hok4 : Pf.Ok ⟨[], 0, zeroIt⟩ := ⟨H32.nil, rfl, rfl⟩
          have HRW := hid hRW
          have KW := hid kW
          clear hW hG kW hRW rX2 hRh kw
          refine pf_store_item rfl _ _ _ rfl rfl HXX.out.2.1 rfl hB4 hok4 hx32 (by kernel_rfl) ?_
          intro W5 hB5 k5
          have hz5 := hzW.kept k5 (fun h => by have h : w.heap.size + 1 = g5 := h; have := HQ.out; omega)
          have HRW := hid (HRW.out.keptS k5 (fun q h1 h => by have h : q = g5 := h; omega))
          have KW := hid (KW.out.then k5 (fun j hj h => by have h : j = g5 := h; have := HQ.out; omega))
          have hokF : Pf.Ok ⟨[], 0, x⟩ := ⟨H32.nil, hx32⟩
          have aPF := aP (s := .slice a3 qs.length c3) hokF
          have hallF : (pfC (.slice a3 qs.length c3) ⟨[], 0, x⟩).toArray.all (·.oneCell') = true := pfC_one (p := ⟨qs, 0, x⟩) HRW.out
          have HAF := hid hallF
          have EF := hid (HZ.out.trans (show 66 = (pfC (.slice a3 qs.length c3) ⟨[], 0, x⟩).toArray.size by simpa using (pfC_len (.slice a3 qs.length c3) hokF).symm))
          clear hallF hzW hB4 k5
          go_wp2_with (first | (refine wpList_load_blk rfl _ _ rfl rfl hB5 aPF ?_) | (refine wpList_store_blk rfl _ _ _ rfl rfl rfl hz5 aPF EF.out HAF.out ?_; intro w9 hR9 k9) | fail)
          exact bodyPost_ret (v := pfV (.slice a3 qs.length c3) ⟨qs, 0, x⟩) (results_blk rfl _ rfl hR9 aPF) rfl ⟨_, by rw [HMF.out], KW.out.then k9 (fun j hj h => by have h : j = w.heap.size + 1 := h; omega), by rw [HMF.out]; exact (HRW.out.keptS k9 (fun q2 h1 h => by have h : q2 = w.heap.size + 1 := h; have := HQ.out; omega)).mono (by have := HQ.out; omega)⟩
        | false =>
          go_wp2_with fail
          have hxi : (x.i = i) = False := by
            have h := HX.out.2.2
            simpa using h.symm
          have HMF : Hid (makeP l i = ⟨qs, 2, x⟩) := hid (by rw [HMK.out]; unfold endI; simp only [hxi, if_false])
          have HXX := hid HX.out
          clear hxi
          have hx32 := HX32.out
          have hP0 := hid hP
          have hzz := hid hz0
          have hsz0 := hid hWs
          obtain ⟨wv, hwv⟩ : ∃ wv : World, wv = W := ⟨_, rfl⟩
          subst hwv
          refine wp_region_plan_tail 6 (Kept (Just g5) wv) [{ k := 4, uses := [100], spends := [100], fact := fun _ W => Blk W g5 (pfC (.slice a3 qs.length c3) ⟨[], 2, zeroIt⟩).toArray 63 },
            { k := 100, uses := [], fact := fun _ W => Blk W g5 (pfC (.slice a3 qs.length c3) zeroPf).toArray 63 }] [100] (by kernel_rfl) (by kernel_rfl) (by kernel_rfl) (by rfl) ?puresB ((Kept.refl _ wv).drew) ?startsB ?walkB
          case puresB =>
            intro f hf
            simp only [List.mem_cons, List.not_mem_nil, or_false] at hf
            rcases hf with rfl | rfl
            · exact ⟨undef, trivial⟩
            · exact ⟨undef, trivial⟩
          case startsB =>
            intro k hk
            have hk : k = 100 := by simpa using hk
            subst hk
            exact hP0.out.kept ((Kept.refl None wv).drew) (fun h => h)
          simp only [List.take_succ_cons, List.take_zero, List.drop_succ_cons, List.drop_zero]
          iterate 2 (refine wpPar_pure rfl (by rfl) _ (fun W hW => by
              go_simp
              exact rfl) ?_; simp only [Act.put, List.setIfInBounds_toArray, List.set_cons_zero, List.set_cons_succ])
          refine wpPar_pure rfl (by rfl) _ (fun W hW => exec_load_at rfl rfl (range_kept7 rX2 hW (fun h => HBG.out h)) aY) ?_; simp only [Act.put, List.setIfInBounds_toArray, List.set_cons_zero, List.set_cons_succ]
          iterate 1 (refine wpPar_pure rfl (by rfl) _ (fun W hW => by
              go_simp
              exact rfl) ?_; simp only [Act.put, List.setIfInBounds_toArray, List.set_cons_zero, List.set_cons_succ])
          refine wpPar_adds rfl (by rfl) (fun W hW hd => ?_) (fun v4 hv => ?_)
          · have hB : Blk W g5 (pfC (.slice a3 qs.length c3) zeroPf).toArray 63 := hd 100 (List.Mem.head _)
            have c1 := pf_c1 hB
            have f1 := hB.free 1
            have hset : Blk (W.setCell ⟨g5, 1, none⟩ (.int .i64 2)) g5 (pfC (.slice a3 qs.length c3) ⟨[], 2, zeroIt⟩).toArray 63 := by
              have h := hB.set 1 (.int .i64 2)
              simpa [pfC, zeroPf] using h
            have HSET := hid hset
            have KW := hid (hW.setCell (p := ⟨g5, 1, none⟩) (fun _ => rfl) (.int .i64 2))
            clear hB hset
            unfold Gives
            go_simp
            refine ⟨KW.out, trivial, HSET.out, keeps_of fun f hf hs _ hne u hfu => ?_⟩
            simp only [List.mem_cons, List.not_mem_nil, or_false] at hf
            rcases hf with rfl | rfl
            · exact absurd rfl hne
            · exact absurd (List.Mem.head _) hs
          simp only [Act.put]
          iterate 1 (refine wpPar_pure rfl (by rfl) _ (fun W hW => by
              go_simp
              exact rfl) ?_; simp only [Act.put, List.setIfInBounds_toArray, List.set_cons_zero, List.set_cons_succ])
          refine wpPar_nil (fun W hW hG => ?_)
          have hB4 : Blk W g5 (pfC (.slice a3 qs.length c3) ⟨[], 2, zeroIt⟩).toArray 63 := hG 4
          have hzW := hzz.out.kept hW (fun h => by have h : w.heap.size + 1 = g5 := h; have := HQ.out; omega)
          have kW := kw.then hW (fun j hj h => by have h : j = g5 := h; have := HQ.out; omega)
          have hRW := hRh.keptS hW (fun q h1 h => by have h : q = g5 := h; omega)
          have hok4 : Pf.Ok ⟨[], 2, zeroIt⟩ := ⟨H32.nil, rfl, rfl⟩
          have HRW := hid hRW
          have KW := hid kW
          clear hW hG kW hRW rX2 hRh kw
          refine pf_store_item rfl _ _ _ rfl rfl HXX.out.2.1 rfl hB4 hok4 hx32 (by kernel_rfl) ?_
          intro W5 hB5 k5
          have hz5 := hzW.kept k5 (fun h => by have h : w.heap.size + 1 = g5 := h; have := HQ.out; omega)
          have HRW := hid (HRW.out.keptS k5 (fun q h1 h => by have h : q = g5 := h; omega))
          have KW := hid (KW.out.then k5 (fun j hj h => by have h : j = g5 := h; have := HQ.out; omega))
          have hokF : Pf.Ok ⟨[], 2, x⟩ := ⟨H32.nil, hx32⟩
          have aPF := aP (s := .slice a3 qs.length c3) hokF
          have hallF : (pfC (.slice a3 qs.length c3) ⟨[], 2, x⟩).toArray.all (·.oneCell') = true := pfC_one (p := ⟨qs, 2, x⟩) HRW.out
          have HAF := hid hallF
          have EF := hid (HZ.out.trans (show 66 = (pfC (.slice a3 qs.length c3) ⟨[], 2, x⟩).toArray.size by simpa using (pfC_len (.slice a3 qs.length c3) hokF).symm))
          clear hallF hzW hB4 k5
          go_wp2_with (first | (refine wpList_load_blk rfl _ _ rfl rfl hB5 aPF ?_) | (refine wpList_store_blk rfl _ _ _ rfl rfl rfl hz5 aPF EF.out HAF.out ?_; intro w9 hR9 k9) | fail)
          exact bodyPost_ret (v := pfV (.slice a3 qs.length c3) ⟨qs, 2, x⟩) (results_blk rfl _ rfl hR9 aPF) rfl ⟨_, by rw [HMF.out], KW.out.then k9 (fun j hj h => by have h : j = w.heap.size + 1 := h; omega), by rw [HMF.out]; exact (HRW.out.keptS k9 (fun q2 h1 h => by have h : q2 = w.heap.size + 1 := h; have := HQ.out; omega)).mono (by have := HQ.out; omega)⟩
