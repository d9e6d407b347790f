/- Rows.AdmitTellsSaid: what a request is, and the version that a name gets next, are the document's, whatever is known, whatever waits and whatever is asked. No condition. -/
import Derived.Test.YtdobmebhjmgkmaaPk2
import Derived.Test.YtdobmebhjmgkmaaPk6
import Derived.Lib.Walk
import Derived.Test.YtdobmebhjmgkmaaPk3
import Derived.Test.YtdobmebhjmgkmaaRows
namespace Go.Pm
open Go Go.RowKit
theorem fill_three (k : Nat) (z A B C : Array Value) (hz : z.size = 3 * k) (hA : A.size = k) (hB : B.size = k) (hC : C.size = k) : Instr.fill (fun i => some (i * k, k)) z [(0, .agg A), (1, .agg B), (2, .agg C)] = some (A ++ B ++ C) := by
  have ha := fold_put 0 A.toList 0 z (by simp; omega)
  have hb := fold_put (1 * k) B.toList 0 (A ++ (z.toList.drop k).toArray) (by simp; omega)
  have hc := fold_put (2 * k) C.toList 0 (A ++ B ++ (z.toList.drop (2 * k)).toArray) (by simp; omega)
  have e1 : A.zipIdx.foldl (fun cs (c, j) => cs.setIfInBounds (0 * k + j) c) z = A ++ (z.toList.drop k).toArray := by
    rw [← Array.foldl_toList, Array.toList_zipIdx, Nat.zero_mul]
    refine ha.trans ?_
    apply Array.ext'
    simp [hA]
  have e2 : B.zipIdx.foldl (fun cs (c, j) => cs.setIfInBounds (1 * k + j) c) (A ++ (z.toList.drop k).toArray) = A ++ B ++ (z.toList.drop (2 * k)).toArray := by
    rw [← Array.foldl_toList, Array.toList_zipIdx]
    refine hb.trans ?_
    apply Array.ext'
    have h1 : (A.toList ++ z.toList.drop k).take k = A.toList := List.take_left' (by simpa using hA)
    have h2 : (A.toList ++ z.toList.drop k).drop (k + B.size) = z.toList.drop (2 * k) := by
      rw [hB, List.drop_append, List.drop_eq_nil_of_le (by simp; omega), List.nil_append, List.drop_drop]
      congr 1
      simp only [Array.length_toList]
      omega
    simp [h1, h2]
  have e3 : C.zipIdx.foldl (fun cs (c, j) => cs.setIfInBounds (2 * k + j) c) (A ++ B ++ (z.toList.drop (2 * k)).toArray) = A ++ B ++ C := by
    rw [← Array.foldl_toList, Array.toList_zipIdx]
    refine hc.trans ?_
    apply Array.ext'
    have h1 : (A.toList ++ (B.toList ++ z.toList.drop (2 * k))).take (2 * k) = A.toList ++ B.toList := by
      rw [← List.append_assoc]
      exact List.take_left' (by simp; omega)
    have h2 : (A.toList ++ (B.toList ++ z.toList.drop (2 * k))).drop (2 * k + C.size) = [] := List.drop_eq_nil_of_le (by simp; omega)
    simp [h1, h2]
  rw [fill_cons (v := .agg A) (off := 0 * k) (size := k) (by simp) (show (Value.agg A).cells.size = k from hA) (by show 0 * k + A.size ≤ z.size; omega)]
  rw [show (Value.agg A).cells = A from rfl, e1]
  rw [fill_cons (v := .agg B) (off := 1 * k) (size := k) (by simp) (show (Value.agg B).cells.size = k from hB) (by show 1 * k + B.size ≤ _; simp; omega)]
  rw [show (Value.agg B).cells = B from rfl, e2]
  rw [fill_cons (v := .agg C) (off := 2 * k) (size := k) (by simp) (show (Value.agg C).cells.size = k from hC) (by show 2 * k + C.size ≤ _; simp; omega)]
  rw [show (Value.agg C).cells = C from rfl, e3]
  rfl
/-- A new row of three, in a drawn region. -/
theorem exec_three {P : Program} {o : Oper} {ev : Operand → Value} {w : World} (t : TypeId) (x y u : Operand) (ho : o.op = .buildSlice t 3 #[(0, x), (1, y), (2, u)])
    {e : TypeId} {z : Value} {k bytes : Nat} (hT : RowTyK P t e z k bytes) (hk : k ≤ 1000) {A B C : Array Value} (hx : ev x = .agg A) (hy : ev y = .agg B) (hu : ev u = .agg C) (hA : A.size = k) (hB : B.size = k) (hC : C.size = k) :
    (execOp ev o).run P w = .ok (.value (.slice (some ⟨w.heap.size, 0, none⟩) 3 3)) (w.alloc (.cells (A ++ B ++ C) e)) := by
  obtain ⟨i, hi, hz, hs, hb⟩ := hT.info
  have hp := hT.pos
  have hr := run_buildSlice (P := P) w t e 3 #[(0, .agg A), (1, .agg B), (2, .agg C)] (A ++ B ++ C) i z hT.sl hi hz (by omega) (by omega) (by rw [hs]; exact fill_three k _ A B C (by simp) hA hB hC)
  unfold execOp
  simp only [ho, Sem.run_bind]
  rw [show (#[(0, x), (1, y), (2, u)] : Array (Nat × Operand)).map (fun (i, x) => (i, ev x)) = #[(0, .agg A), (1, .agg B), (2, .agg C)] by simp [hx, hy, hu]]
  rw [hr]
  rfl
/-- Each third of a row of three. -/
theorem three_at {w : World} {g k : Nat} {t : TypeId} {A B C : Array Value} (hb : Blk w g (A ++ B ++ C) t) (hA : A.size = k) (hB : B.size = k) : w.rangeAt g 0 A.toList ∧ w.rangeAt g k B.toList ∧ w.rangeAt g (2 * k) C.toList := by
  refine ⟨fun j v hv => ?_, fun j v hv => ?_, fun j v hv => ?_⟩
  · have h := hb.cell (0 + j)
    rw [h]
    have hj : j < A.size := by simpa using (List.getElem?_eq_some_iff.1 hv).1
    have : (A ++ B ++ C)[0 + j]? = some v := by
      rw [Nat.zero_add, Array.append_assoc, Array.getElem?_append_left hj, ← Array.getElem?_toList]; exact hv
    exact this
  · have h := hb.cell (k + j)
    rw [h]
    have hj : j < B.size := by simpa using (List.getElem?_eq_some_iff.1 hv).1
    have : (A ++ B ++ C)[k + j]? = some v := by
      rw [Array.append_assoc, Array.getElem?_append_right (by omega), show k + j - A.size = j by omega, Array.getElem?_append_left hj, ← Array.getElem?_toList]; exact hv
    exact this
  · have h := hb.cell (2 * k + j)
    rw [h]
    have : (A ++ B ++ C)[2 * k + j]? = some v := by
      rw [Array.getElem?_append_right (by simp; omega), show 2 * k + j - (A ++ B).size = j by simp; omega, ← Array.getElem?_toList]; exact hv
    exact this
end Go.Pm
namespace Go.Proofs.Ytdobmebhjmgkmaa
open Go.RowKit Go.Pm
namespace P17
open Ad
theorem and_three (v : Int) : 0 ≤ bits .and .i64 v 3 ∧ bits .and .i64 v 3 ≤ 3 := by
  have h : bits .and .i64 v 3 = IntKind.i64.wrap ((BitVec.ofInt 64 v &&& BitVec.ofInt 64 3).toNat : Int) := rfl
  have h2 : (BitVec.ofInt 64 v &&& BitVec.ofInt 64 3).toNat ≤ 3 := by
    rw [BitVec.toNat_and]
    exact Nat.and_le_right
  rw [h, IntKind.wrap_i64]
  omega
theorem rtUpd17 : RowTyK Try.prog 37 27 (.agg #[.string ⟨#[]⟩, .int .i64 0, .int .u64 0, .int .i64 0, .int .u64 0, .int .u64 0]) 6 56 := Hk.rtyK (by kernel_rfl) (by kernel_rfl) (by rfl) (by decide)
set_option maxRecDepth 100000 in
set_option maxHeartbeats 16000000 in
/-- Who may, who waits already, who is published, and why others may not. -/
theorem tells (hN : NextC) (hD : DecideC) (v vm : Value) (lo hi lo' hi' : Nat) (l m : List UInt8) (k : Nat) (ver : Int) (cl how : Nat) (raw : Req) (nm : ByteArray) (hraw : raw.Fits) (w : World) (hv : Bs w lo hi v l) (hvm : Bs w lo' hi' vm m) :
    Calls Try.prog 3 #[v, vm, .int .u8 (k : Int), .int .i64 ver, .int .u8 (cl : Int), .int .u8 (how : Int), raw.V, .string nm] w fun e w' => e = .returned (.bool true) ∧ Kept None w w' := by
  obtain ⟨al, cl0, rfl, _⟩ := hv.shape
  obtain ⟨am, cm, rfl, _⟩ := hvm.shape
  obtain ⟨an, av, ak, ac, ar, aq⟩ := raw
  unfold Req.V updV
  simp only
  obtain ⟨w0, hw0⟩ : ∃ z, z = w.alloc (.cells #[.string an, .int .i64 av, .int .u64 (ak : Int), .int .i64 ac, .int .u64 (ar : Int), .int .u64 (aq : Int)] 27) := ⟨_, rfl⟩
  have K0 := hid (show Kept None w w0 from hw0 ▸ (Kept.refl _ _).alloc _)
  have B0 := hid (show Blk w0 w.heap.size #[.string an, .int .i64 av, .int .u64 (ak : Int), .int .i64 ac, .int .u64 (ar : Int), .int .u64 (aq : Int)] 27 from hw0 ▸ Blk.new w _ _)
  have HKN := hid (known hN hD w0)
  have HV := hid hv.all
  have HVM := hid hvm.all
  have HC := hid (And.intro hN hD)
  have HRW := hid hraw
  clear hv hvm hN hD hraw
  go_enter Try.func3, Try.ntmps3
  go_upto_region 1 with fail
  rw [← hw0]
  obtain ⟨g0, hg0⟩ : ∃ z, z = w.heap.size := ⟨_, rfl⟩
  rw [← hg0] at B0 ⊢
  clear hw0 hg0
  go_wp2_with fail
  refine HKN.out.mono ?_
  rintro e w1 ⟨rfl, k1⟩
  have K1 := hid (K0.out.trans k1)
  have B1 := hid (B0.out.kept k1 (fun h => h))
  have c0 : w1.cell? ⟨g0, 0, none⟩ = some (.string an) := B1.out.cell 0
  clear k1 HKN K0 B0
  by_cases hl : 10 < l.length
  · have z2hl : (10 : Int) < (l.length : Int) := by omega
    have z1hl : decide ((10 : Int) < (l.length : Int)) = true := decide_eq_true z2hl
    go_wp2_with (first | go_skip | fail)
    go_ret
    exact ⟨rfl, K1.out⟩
  have z2hl : ¬ (10 : Int) < (l.length : Int) := by omega
  have z1hl : decide ((10 : Int) < (l.length : Int)) = false := decide_eq_false z2hl
  by_cases hm : 8 < m.length
  · have z2hm : (8 : Int) < (m.length : Int) := by omega
    have z1hm : decide ((8 : Int) < (m.length : Int)) = true := decide_eq_true z2hm
    go_wp2_with (first | go_skip | fail)
    go_ret
    exact ⟨rfl, K1.out⟩
  have z2hm : ¬ (8 : Int) < (m.length : Int) := by omega
  have z1hm : decide ((8 : Int) < (m.length : Int)) = false := decide_eq_false z2hm
  by_cases ha : 40 < an.size
  · have z2ha : (40 : Int) < (an.size : Int) := by omega
    have z1ha : decide ((40 : Int) < (an.size : Int)) = true := decide_eq_true z2ha
    go_wp2_with (first | go_skip | fail)
    go_ret
    exact ⟨rfl, K1.out⟩
  have z2ha : ¬ (40 : Int) < (an.size : Int) := by omega
  have z1ha : decide ((40 : Int) < (an.size : Int)) = false := decide_eq_false z2ha
  by_cases hn : 40 < nm.size
  · have z2hn : (40 : Int) < (nm.size : Int) := by omega
    have z1hn : decide ((40 : Int) < (nm.size : Int)) = true := decide_eq_true z2hn
    go_wp2_with (first | go_skip | fail)
    go_ret
    exact ⟨rfl, K1.out⟩
  have z2hn : ¬ (40 : Int) < (nm.size : Int) := by omega
  have z1hn : decide ((40 : Int) < (nm.size : Int)) = false := decide_eq_false z2hn
  have HLM := hid (show l.length ≤ 10 ∧ m.length ≤ 8 ∧ an.size ≤ 40 ∧ nm.size ≤ 40 by omega)
  have HST := hid (story (.slice al l.length cl0) (.slice am m.length cm) 0 w1.heap.size 0 w1.heap.size l m w1 ((HV.out.kept K1.out (fun _ _ _ h => h)).wider (Nat.zero_le _) K1.out.size) ((HVM.out.kept K1.out (fun _ _ _ h => h)).wider (Nat.zero_le _) K1.out.size) (by omega) (by omega))
  go_wp2_with (first | go_skip | fail)
  refine HST.out.mono ?_
  rintro e w2 ⟨a, b, rfl, k2, pa, pb⟩
  obtain ⟨D, p, hsd⟩ := Sd.of (w := w2) (l := l) (m := m) (by omega) (by omega) pa pb
  have HS := hid hsd
  have K2 := hid (K1.out.trans k2)
  have B2 := hid (B1.out.kept k2 (fun h => h))
  clear k2 pa pb HST K1 B1 c0 z1hl z2hl z1hm z2hm z1ha z2ha z1hn z2hn hl hm ha hn
  obtain ⟨xa, ca, rfl⟩ := hsd.da
  obtain ⟨xb, cb, rfl⟩ := hsd.pb
  clear hsd
  obtain ⟨n, hn⟩ : ∃ n, n = Seat.nameS k := ⟨_, rfl⟩
  have hsz := Seat.nameS_size k
  have hnm := Seat.name k w2
  rw [← hn] at hnm hsz
  have HNM := hid hnm
  have HSZ := hid hsz
  clear hnm hn hsz
  go_wp2_with fail
  refine HNM.out.mono ?_
  rintro e w3 ⟨rfl, k3⟩
  have K3 := hid (K2.out.trans k3)
  have KS := hid k3
  have B3 := hid (B2.out.kept k3 (fun h => h))
  clear k3 HNM K2 B2
  obtain ⟨C, hC⟩ : ∃ C, C = cnt l n + cnt m n := ⟨_, rfl⟩
  have hCb : C ≤ 18 := by have := HLM.out; have := cnt_le l n; have := cnt_le m n; omega
  have hrn : ∀ W z, Kept None w2 W → Calls Try.prog 11 #[.slice xa D.length ca, .slice xb p.length cb, .string z] W fun e w' => e = .returned (.tuple #[.int .i64 (nextP D p z).1, .int .u64 ((nextP D p z).2 : Int)]) ∧ Kept None W w' := fun W z hW => R16.next _ _ 0 W.heap.size 0 W.heap.size D p z W (HS.out.ra W hW) (HS.out.rb W hW) (Nat.le_trans HS.out.dl (by decide)) (Nat.le_trans HS.out.pl (by decide))
  have hn1 := hrn w3 n KS.out
  rw [nextP_q HS.out.wq n (by omega), ← hC] at hn1
  have HN1 := hid hn1
  have HRN := hid hrn
  have HCB := hid hCb
  clear hn1 hrn hC hCb
  go_wp2_with fail
  refine HN1.out.mono ?_
  rintro e w4 ⟨rfl, k4⟩
  have K4 := hid (K3.out.trans k4)
  have KS4 := hid (KS.out.trans k4)
  have B4 := hid (B3.out.kept k4 (fun h => h))
  clear k4 K3 KS B3 HN1
  obtain ⟨q3, hq3⟩ : ∃ z, z = bits .and .i64 ver 3 := ⟨_, rfl⟩
  have hqb := and_three ver
  rw [← hq3] at hqb
  obtain ⟨V2, hV2⟩ : ∃ V, V = max ((C : Int) + 1 + q3 - 2) 1 := ⟨_, rfl⟩
  have hV2b : 1 ≤ V2 ∧ V2 ≤ 1000 := by have := HCB.out; omega
  have hup1 : ∀ W, Calls Try.prog 12 #[.string n, .int .i64 ((C : Int) + 1), .int .u8 (cl : Int), .int .u8 (how : Int)] W fun e w' => e = .returned (Seat.req n ((C : Int) + 1) cl how).V ∧ Kept None W w' := fun W => Seat.update n ((C : Int) + 1) cl how W HSZ.out.2 (by omega) (by have := HCB.out; omega)
  have hup2 : ∀ W, Calls Try.prog 12 #[.string n, .int .i64 V2, .int .u8 (cl : Int), .int .u8 (how : Int)] W fun e w' => e = .returned (Seat.req n V2 cl how).V ∧ Kept None W w' := fun W => Seat.update n V2 cl how W HSZ.out.2 hV2b.1 hV2b.2
  have hf1 := req_fits n (v := (C : Int) + 1) (by omega) (by have := HCB.out; omega) cl how
  have hf2 := req_fits n (v := V2) (by omega) (by omega) cl how
  have hs1 : (Seat.req n ((C : Int) + 1) cl how).n.size ≤ 1000 := Nat.le_trans HSZ.out.2 (by decide)
  have hs2 : (Seat.req n V2 cl how).n.size ≤ 1000 := Nat.le_trans HSZ.out.2 (by decide)
  obtain ⟨⟨rn, rv, rk, rc, rr, rs⟩, hR⟩ : ∃ r, r = Seat.req n ((C : Int) + 1) cl how := ⟨_, rfl⟩
  obtain ⟨⟨tn, tv, tk, tc, tr, ts⟩, hT⟩ : ∃ r, r = Seat.req n V2 cl how := ⟨_, rfl⟩
  rw [← hR] at hup1 hf1 hs1
  rw [← hT] at hup2 hf2 hs2
  unfold Req.V updV at hup1 hup2
  simp only at hup1 hup2
  have HU1 := hid hup1
  have HU2 := hid hup2
  have HF := hid (And.intro hf1 (And.intro hf2 (And.intro hs1 hs2)))
  have hq3' := hq3.symm
  have wq1 : IntKind.i64.wrap ((C : Int) + 1 + q3) = (C : Int) + 1 + q3 := by rw [IntKind.wrap_i64]; have := HCB.out; omega
  have wq2 : IntKind.i64.wrap ((C : Int) + 1 + q3 - 2) = (C : Int) + 1 + q3 - 2 := by rw [IntKind.wrap_i64]; have := HCB.out; omega
  have hmx := hV2.symm
  have HWQ := hid (And.intro hq3' (And.intro wq1 (And.intro wq2 hmx)))
  clear hup1 hup2 hf1 hf2 hs1 hs2 hR hT hq3 hqb hV2 hV2b hq3' wq1 wq2 hmx
  go_upto_region 8 with fail
  have hs : Steady [.val 5 (.agg #[.string rn, .int .i64 rv, .int .u64 (rk : Int), .int .i64 rc, .int .u64 (rr : Int), .int .u64 (rs : Int)]), .val 15 (.agg #[.string tn, .int .i64 tv, .int .u64 (tk : Int), .int .i64 tc, .int .u64 (tr : Int), .int .u64 (ts : Int)]), { k := 16, uses := [], pure := fun u => ∃ g, u = .slice (some ⟨g, 0, none⟩) 3 3, fact := fun u W => ∃ g, u = .slice (some ⟨g, 0, none⟩) 3 3 ∧ Blk W g (#[.string an, .int .i64 av, .int .u64 (ak : Int), .int .i64 ac, .int .u64 (ar : Int), .int .u64 (aq : Int)] ++ #[.string rn, .int .i64 rv, .int .u64 (rk : Int), .int .i64 rc, .int .u64 (rr : Int), .int .u64 (rs : Int)] ++ #[.string tn, .int .i64 tv, .int .u64 (tk : Int), .int .i64 tc, .int .u64 (tr : Int), .int .u64 (ts : Int)]) 27 }] :=
    Steady.val (Steady.val (Steady.cons ⟨_, 0, rfl⟩ (fun _ _ _ hk ⟨g, h1, h2⟩ => ⟨g, h1, h2.kept hk (fun h => h)⟩) Steady.nil))
  refine wp_region_kn w4 _ hs (Kept.refl _ _) (by kernel_rfl) (by kernel_rfl) (by kernel_rfl) ?_
  iterate 1 (refine wpPar_pure rfl (by rfl) _ (fun W hW => by exact exec_load_blk _ _ rfl rfl (B4.out.kept hW (fun h => h)) Up.aUpd) ?_; simp only [Act.put, List.setIfInBounds_toArray, List.set_cons_zero, List.set_cons_succ])
  iterate 4 (refine wpPar_pure rfl (by rfl) _ (fun W hW => by go_simp; exact rfl) ?_; simp only [Act.put, List.setIfInBounds_toArray, List.set_cons_zero, List.set_cons_succ])
  refine wpKn_adds hs rfl (by rfl) (fun W hW hd => ?_) (fun v5 hv => ?_)
  · unfold Gives
    go_simp
    refine gives_call (HU1.out _) ?_
    rintro e w3 ⟨rfl, k3⟩
    exact ⟨_, rfl, k3, rfl, trivial⟩
  obtain rfl : v5 = .agg #[.string rn, .int .i64 rv, .int .u64 (rk : Int), .int .i64 rc, .int .u64 (rr : Int), .int .u64 (rs : Int)] := hv
  simp only [Act.put, List.setIfInBounds_toArray, List.set_cons_zero, List.set_cons_succ]
  iterate 3 (refine wpPar_pure rfl (by rfl) _ (fun W hW => by go_simp; exact rfl) ?_; simp only [Act.put, List.setIfInBounds_toArray, List.set_cons_zero, List.set_cons_succ])
  iterate 1 (refine wpPar_pure rfl (by rfl) (.int .i64 q3) (fun W hW => by have q := HWQ.out.1; go_simp) ?_; simp only [Act.put, List.setIfInBounds_toArray, List.set_cons_zero, List.set_cons_succ])
  iterate 1 (refine wpPar_pure rfl (by rfl) (.int .i64 ((C : Int) + 1 + q3)) (fun W hW => by have q := HWQ.out.2.1; go_simp) ?_; simp only [Act.put, List.setIfInBounds_toArray, List.set_cons_zero, List.set_cons_succ])
  iterate 1 (refine wpPar_pure rfl (by rfl) (.int .i64 ((C : Int) + 1 + q3 - 2)) (fun W hW => by have q := HWQ.out.2.2.1; go_simp) ?_; simp only [Act.put, List.setIfInBounds_toArray, List.set_cons_zero, List.set_cons_succ])
  iterate 1 (refine wpPar_pure rfl (by rfl) (.int .i64 V2) (fun W hW => by have q := HWQ.out.2.2.2; go_simp) ?_; simp only [Act.put, List.setIfInBounds_toArray, List.set_cons_zero, List.set_cons_succ])
  iterate 2 (refine wpPar_pure rfl (by rfl) _ (fun W hW => by go_simp; exact rfl) ?_; simp only [Act.put, List.setIfInBounds_toArray, List.set_cons_zero, List.set_cons_succ])
  refine wpKn_adds hs rfl (by rfl) (fun W hW hd => ?_) (fun v15 hv => ?_)
  · unfold Gives
    go_simp
    refine gives_call (HU2.out _) ?_
    rintro e w3 ⟨rfl, k3⟩
    exact ⟨_, rfl, k3, rfl, trivial⟩
  obtain rfl : v15 = .agg #[.string tn, .int .i64 tv, .int .u64 (tk : Int), .int .i64 tc, .int .u64 (tr : Int), .int .u64 (ts : Int)] := hv
  simp only [Act.put, List.setIfInBounds_toArray, List.set_cons_zero, List.set_cons_succ]
  refine wpKn_adds hs rfl (by rfl) (fun W hW hd => ?_) (fun v16 hv => ?_)
  · unfold Gives
    rw [exec_three 37 (.tmp 70) (.tmp 75) (.tmp 85) rfl rtUpd17 (by decide) (A := #[.string an, .int .i64 av, .int .u64 (ak : Int), .int .i64 ac, .int .u64 (ar : Int), .int .u64 (aq : Int)]) (B := #[.string rn, .int .i64 rv, .int .u64 (rk : Int), .int .i64 rc, .int .u64 (rr : Int), .int .u64 (rs : Int)]) (C := #[.string tn, .int .i64 tv, .int .u64 (tk : Int), .int .i64 tc, .int .u64 (tr : Int), .int .u64 (ts : Int)]) rfl rfl rfl rfl rfl rfl]
    exact ⟨(Kept.refl None W).alloc _, ⟨_, rfl⟩, _, rfl, Blk.new _ _ _⟩
  obtain ⟨g, rfl⟩ : ∃ g, v16 = .slice (some ⟨g, 0, none⟩) 3 3 := hv
  simp only [Act.put, List.setIfInBounds_toArray, List.set_cons_zero, List.set_cons_succ]
  iterate 2 (refine wpPar_pure rfl (by rfl) _ (fun W hW => by go_simp; exact rfl) ?_; simp only [Act.put, List.setIfInBounds_toArray, List.set_cons_zero, List.set_cons_succ])
  refine wpPar_nil (fun w5 hW hG => ?_)
  obtain ⟨gg, hgg, hb5⟩ : ∃ gg, Value.slice (some ⟨g, 0, none⟩) 3 3 = .slice (some ⟨gg, 0, none⟩) 3 3 ∧ Blk w5 gg ((#[.string an, .int .i64 av, .int .u64 (ak : Int), .int .i64 ac, .int .u64 (ar : Int), .int .u64 (aq : Int)] : Array Value) ++ (#[.string rn, .int .i64 rv, .int .u64 (rk : Int), .int .i64 rc, .int .u64 (rr : Int), .int .u64 (rs : Int)] : Array Value) ++ (#[.string tn, .int .i64 tv, .int .u64 (tk : Int), .int .i64 tc, .int .u64 (tr : Int), .int .u64 (ts : Int)] : Array Value)) 27 := hG 16
  obtain rfl : g = gg := by simpa using hgg
  have K5 := hid (K4.out.trans hW)
  have KS5 := hid (KS4.out.trans hW)
  have R5 := hid hb5
  clear hG hs hW hgg hb5 K4 KS4 B4 HU1 HU2 HWQ
  have hrq : ∀ W, Kept None w5 W → ∀ j : Nat, j < 3 → ∃ u : Req, u.Fits ∧ u.n.size ≤ 1000 ∧ W.rangeAt g (j * 6) [.string u.n, .int .i64 u.v, .int .u64 (u.k : Int), .int .i64 u.c, .int .u64 (u.r : Int), .int .u64 (u.s : Int)] := fun W hW j hj => by
    obtain ⟨h1, h2, h3⟩ := three_at (k := 6) (R5.out.kept hW (fun h => h)) rfl rfl
    rcases (show j = 0 ∨ j = 1 ∨ j = 2 by omega) with rfl | rfl | rfl
    · exact ⟨⟨an, av, ak, ac, ar, aq⟩, HRW.out, Nat.le_trans HLM.out.2.2.1 (by decide), h1⟩
    · exact ⟨⟨rn, rv, rk, rc, rr, rs⟩, HF.out.1, HF.out.2.2.1, h2⟩
    · exact ⟨⟨tn, tv, tk, tc, tr, ts⟩, HF.out.2.1, HF.out.2.2.2, h3⟩
  have HRQ := hid hrq
  clear hrq R5 HF HRW
  go_wp2_with fail
  go_loopg [88] 3 (fun kx s88 wr => ∃ (j : Nat), s88 = .int .i64 (j : Int) ∧ j ≤ 3 ∧ 3 - j ≤ kx ∧ Hid (Kept None w5 wr))
  case atStart => exact ⟨0, rfl, Nat.zero_le _, Nat.le_refl _, hid (Kept.refl _ _)⟩
  case round =>
  obtain ⟨j, rfl, hj3, hjx, HT⟩ := hrel
  by_cases hj : j < 3
  · have hz : (j : Int) < 3 := by omega
    have wj : IntKind.i64.wrap ((j : Int) + 1) = (j : Int) + 1 := by rw [IntKind.wrap_i64]; omega
    obtain ⟨u, hfu, hsu, rU⟩ := HRQ.out wr HT.out j hj
    have hd1 := fun W hW => HS.out.decide HC.out.2 u hfu hsu W hW
    have hd2 := fun W hW => R16.decide17 (.slice xa D.length ca) (.slice xb p.length cb) 0 W.heap.size 0 W.heap.size D p u W (HS.out.ra W hW) (HS.out.rb W hW) (Nat.le_trans HS.out.dl (by decide)) (Nat.le_trans HS.out.pl (by decide)) hsu hfu.2.1
    obtain ⟨⟨Q1, Q2⟩, hQ⟩ : ∃ z, z = decP D p u := ⟨_, rfl⟩
    rw [← hQ] at hd1 hd2
    obtain ⟨un, uv, uk, uc, ur, us⟩ := u
    unfold Req.V updV at hd1 hd2
    simp only at hd1 hd2 rU
    have HD1 := hid hd1
    have HD2 := hid hd2
    have HJ := hid (And.intro hj hjx)
    clear hd1 hd2 hQ hfu hsu hj hjx
    obtain ⟨gU, hgU⟩ : ∃ z, z = wr.heap.size := ⟨_, rfl⟩
    have HGU := hid (show w5.heap.size ≤ gU from by rw [hgU]; exact HT.out.size)
    have zU := Blk.new wr #[.string ⟨#[]⟩, .int .i64 0, .int .u64 0, .int .i64 0, .int .u64 0, .int .u64 0] 27
    have HKU := hid (show Kept None wr (wr.alloc (.cells #[.string ⟨#[]⟩, .int .i64 0, .int .u64 0, .int .i64 0, .int .u64 0, .int .u64 0] 27)) from (Kept.refl _ _).alloc _)
    go_upto_region 11 with (first | (refine wpList_load_at (.refl _) _ _ rfl rfl rU Up.aUpd ?_) | (refine wpList_store_blk (.refl _) _ _ _ rfl rfl rfl zU Up.aUpd rfl (Up.upd_all _ _ _ _ _ _) ?_; intro wu xU kU) | fail)
    have T6 := hid ((HT.out.trans HKU.out).then kU (fun i hi (h : i = wr.heap.size) => by have := HGU.out; omega))
    have X6 := hid xU
    rw [← hgU] at X6 ⊢
    clear rU zU HKU xU kU hgU HT
    have x6 := X6.out
    go_wp2_with (first | (refine wpList_load_blk rfl _ _ rfl rfl x6 Up.aUpd ?_) | fail)
    refine (HD1.out wu (KS5.out.trans T6.out)).mono ?_
    rintro e w7 ⟨rfl, k7⟩
    have T7 := hid (T6.out.trans k7)
    have x7 := X6.out.kept k7 (fun h => h)
    clear k7 x6 X6 T6 HD1
    go_wp2_with (first | (refine wpList_load_blk rfl _ _ rfl rfl x7 Up.aUpd ?_) | fail)
    refine (HD2.out w7 (KS5.out.trans T7.out)).mono ?_
    rintro e w8 ⟨rfl, k8⟩
    have T8 := hid (T7.out.trans k8)
    clear k8 x7 T7 HD2
    go_wp2_with (first | go_skip | fail)
    go_roundg (3 - (j + 1))
    case measure => have := HJ.out; omega
    case rel => exact ⟨j + 1, by go_num, by have := HJ.out; omega, Nat.le_refl _, T8⟩
  have hz : ¬ (j : Int) < 3 := by omega
  obtain ⟨w6, hw6⟩ : ∃ w6, w6 = wr := ⟨_, rfl⟩
  rw [← hw6] at HT ⊢
  clear hw6 hj3 hjx hj
  have K6 := hid (K5.out.trans HT.out)
  have KS6 := hid (KS5.out.trans HT.out)
  clear HT K5 KS5 HRQ
  have hN2 := fun W z hW => HS.out.next HC.out.1 z W hW
  have HN2 := hid hN2
  clear hN2
  obtain ⟨g9, hg9⟩ : ∃ z, z = w6.heap.size := ⟨_, rfl⟩
  obtain ⟨w9, hw9⟩ : ∃ z, z = w6.alloc (.cells #[.string nm, .string n] 9) := ⟨_, rfl⟩
  have B9 := hid (show Blk w9 g9 #[.string nm, .string n] 9 from by rw [hg9]; exact hw9 ▸ Blk.new w6 _ _)
  have K9 := hid (show Kept None w w9 from hw9 ▸ K6.out.alloc _)
  have KS9 := hid (show Kept None w2 w9 from hw9 ▸ KS6.out.alloc _)
  go_wp2_with fail
  rw [← hw9, ← hg9]
  clear hw9 hg9 K6 KS6 hz
  go_loopg [119] 2 (fun kx s119 wr => ∃ (j : Nat), s119 = .int .i64 (j : Int) ∧ j ≤ 2 ∧ 2 - j ≤ kx ∧ Hid (Kept None w9 wr))
  case atStart => exact ⟨0, rfl, Nat.zero_le _, Nat.le_refl _, hid (Kept.refl _ _)⟩
  case round =>
  obtain ⟨j, rfl, hj2, hjx, HT⟩ := hrel
  by_cases hj : j < 2
  · have hz : (j : Int) < 2 := by omega
    have wj : IntKind.i64.wrap ((j : Int) + 1) = (j : Int) + 1 := by rw [IntKind.wrap_i64]; omega
    have hcz : ∃ z, wr.cell? ⟨g9, j, none⟩ = some (.string z) := by
      have hb := B9.out.kept HT.out (fun h => h)
      rcases (show j = 0 ∨ j = 1 by omega) with rfl | rfl
      · exact ⟨nm, hb.cell 0⟩
      · exact ⟨n, hb.cell 1⟩
    obtain ⟨z, cz⟩ := hcz
    have hx1 := fun W hW => HN2.out W z hW
    have hx2 := fun W hW => HRN.out W z hW
    obtain ⟨⟨Q1, Q2⟩, hQ⟩ : ∃ z', z' = nextP D p z := ⟨_, rfl⟩
    rw [← hQ] at hx1 hx2
    simp only at hx1 hx2
    have HX1 := hid hx1
    have HX2 := hid hx2
    have HJ := hid (And.intro hj hjx)
    clear hx1 hx2 hQ hj hjx
    go_wp2_with fail
    refine (HX1.out wr (KS9.out.trans HT.out)).mono ?_
    rintro e w10 ⟨rfl, k10⟩
    have T10 := hid (HT.out.trans k10)
    clear k10 HT HX1 cz
    go_wp2_with fail
    refine (HX2.out w10 (KS9.out.trans T10.out)).mono ?_
    rintro e w11 ⟨rfl, k11⟩
    have T11 := hid (T10.out.trans k11)
    clear k11 T10 HX2
    go_wp2_with (first | go_skip | fail)
    go_roundg (2 - (j + 1))
    case measure => have := HJ.out; omega
    case rel => exact ⟨j + 1, by go_num, by have := HJ.out; omega, Nat.le_refl _, T11⟩
  have hz : ¬ (j : Int) < 2 := by omega
  have KZ := hid (K9.out.trans HT.out)
  clear HT hj2 hjx hj
  go_wp2
  go_ret
  exact ⟨rfl, KZ.out⟩
end P17
end Go.Proofs.Ytdobmebhjmgkmaa
namespace Go.Pm
open Go Go.RowKit Go.ChangeShapes Go.WideShapes Go.ChangeAt
section
variable {H : Type} {enc : TypeId × Value → H} {P : Program}
theorem inI_wf {x : Int} (h : (Lit.int .i64 x).wf = true) : inI x := by
  simp [Lit.wf, IntKind.min, IntKind.max, IntKind.signed, IntKind.bits] at h
  exact ⟨by omega, by omega⟩
/-- A request's cells. -/
theorem trodReq {w : World} {base : Nat} {spare : Nat → Bool} {held : Bool} {n : Nat} {t : TypeId} {f0 f1 f2 f3 f4 g0 g1 : Field} {l : List Value} {y : DataW H × List MemPlace} (ht : P.underlying t = some (.struct #[f0, f1, f2, f3, f4])) (hl6 : l.length = 6)
    (o0 : f0.offset = 0) (o1 : f1.offset = 1) (o2 : f2.offset = 2) (o3 : f3.offset = 3) (o4 : f4.offset = 4) (hu0 : P.underlying f0.type = some .string) (hu1 : P.underlying f1.type = some (.int .i64)) (hu2 : P.underlying f2.type = some (.int .u64)) (hu3 : P.underlying f3.type = some (.int .i64))
    (hu4 : P.underlying f4.type = some (.struct #[g0, g1])) (q0 : g0.offset = 0) (q1 : g1.offset = 1) (hg0 : P.underlying g0.type = some (.int .u64)) (hg1 : P.underlying g1.type = some (.int .u64))
    (hc0 : P.cellsOf f0.type = 1) (hc1 : P.cellsOf f1.type = 1) (hc2 : P.cellsOf f2.type = 1) (hc3 : P.cellsOf f3.type = 1) (hc4 : P.cellsOf f4.type = 2) (hd0 : P.cellsOf g0.type = 1) (hd1 : P.cellsOf g1.type = 1)
    (h : DataW.trod enc P w base spare held n t l = some y) : ∃ u : Req, l = reqC u ∧ u.Fits := by
  obtain ⟨xs, n', _, _, _, hlen, hx⟩ := DataW.trod_struct ht h
  match l, hl6 with
  | [c0, c1, c2, c3, c4, c5], _ =>
    match xs, hlen with
    | [y0, y1, y2, y3, y4], _ =>
      have e0 := hx 0 f0 rfl
      have e1 := hx 1 f1 rfl
      have e2 := hx 2 f2 rfl
      have e3 := hx 3 f3 rfl
      have e4 := hx 4 f4 rfl
      rw [o0, hc0] at e0
      rw [o1, hc1] at e1
      rw [o2, hc2] at e2
      rw [o3, hc3] at e3
      rw [o4, hc4] at e4
      obtain ⟨s0, r0, _, _⟩ := DataW.trod_string hu0 e0
      obtain ⟨k1, r1, _, w1⟩ := DataW.trod_int hu1 e1
      obtain ⟨k2, r2, _, w2⟩ := DataW.trod_int hu2 e2
      obtain ⟨k3, r3, _, w3⟩ := DataW.trod_int hu3 e3
      obtain ⟨z0, z1, n4, _, _, m0, m1⟩ := trod_struct2 hu4 e4
      rw [q0, hd0] at m0
      rw [q1, hd1] at m1
      obtain ⟨k4, r4, _, w4⟩ := DataW.trod_int hg0 m0
      obtain ⟨k5, r5, _, w5⟩ := DataW.trod_int hg1 m1
      have i1 := inI_wf w1
      have i3 := inI_wf w3
      simp at r0 r1 r2 r3 r4 r5
      simp [Lit.wf, IntKind.min, IntKind.max, IntKind.signed, IntKind.bits] at w2 w4 w5
      subst r0 r1 r2 r3 r4 r5
      refine ⟨⟨s0, k1, k2.toNat, k3, k4.toNat, k5.toNat⟩, ?_, i1, by show k2.toNat < _; omega, i3, by show k4.toNat < _; omega, by show k5.toNat < _; omega⟩
      show _ = [_, _, Value.int .u64 ((k2.toNat : Nat) : Int), _, Value.int .u64 ((k4.toNat : Nat) : Int), Value.int .u64 ((k5.toNat : Nat) : Int)]
      rw [Int.toNat_of_nonneg (by omega), Int.toNat_of_nonneg (by omega), Int.toNat_of_nonneg (by omega)]
/-- An api.Record argument. -/
theorem openRec {W : World} {t : TypeId} {f0 f1 f2 f3 f4 g0 g1 e0 e1 e2 e3 e4 e5 e6 : Field} {v : Value} {d : DataW H} {p : List MemPlace} {base : Nat} (htr : P.underlying t = some (.struct #[e0, e1, e2, e3, e4, e5, e6])) (hC : P.cellsOf t = 12)
    (a0 : e0.offset = 0) (a1 : e1.offset = 1) (a2 : e2.offset = 2) (a3 : e3.offset = 3) (a4 : e4.offset = 4) (a5 : e5.offset = 10) (a6 : e6.offset = 11)
    (b0 : P.underlying e0.type = some (.int .i64)) (b1 : P.underlying e1.type = some (.int .i64)) (b2 : P.underlying e2.type = some (.int .i64)) (b3 : P.underlying e3.type = some (.int .i64)) (b5 : P.underlying e5.type = some (.int .i64)) (b6 : P.underlying e6.type = some (.int .i64))
    (k0 : P.cellsOf e0.type = 1) (k1 : P.cellsOf e1.type = 1) (k2 : P.cellsOf e2.type = 1) (k3 : P.cellsOf e3.type = 1) (k4 : P.cellsOf e4.type = 6) (k5 : P.cellsOf e5.type = 1) (k6 : P.cellsOf e6.type = 1)
    (ht : P.underlying e4.type = some (.struct #[f0, f1, f2, f3, f4]))
    (o0 : f0.offset = 0) (o1 : f1.offset = 1) (o2 : f2.offset = 2) (o3 : f3.offset = 3) (o4 : f4.offset = 4) (hu0 : P.underlying f0.type = some .string) (hu1 : P.underlying f1.type = some (.int .i64)) (hu2 : P.underlying f2.type = some (.int .u64)) (hu3 : P.underlying f3.type = some (.int .i64))
    (hu4 : P.underlying f4.type = some (.struct #[g0, g1])) (q0 : g0.offset = 0) (q1 : g1.offset = 1) (hg0 : P.underlying g0.type = some (.int .u64)) (hg1 : P.underlying g1.type = some (.int .u64))
    (hc0 : P.cellsOf f0.type = 1) (hc1 : P.cellsOf f1.type = 1) (hc2 : P.cellsOf f2.type = 1) (hc3 : P.cellsOf f3.type = 1) (hc4 : P.cellsOf f4.type = 2) (hd0 : P.cellsOf g0.type = 1) (hd1 : P.cellsOf g1.type = 1)
    (hok : Value.okWide P W .any base t v) (h : DataW.Trod enc P W 0 (fun _ => true) true t v d p) : ∃ r : Rec, v = r.V ∧ r.Fits := by
  simp only [Value.okWide, htr] at hok
  obtain ⟨cs, rfl, h2, _⟩ := hok
  rw [hC] at h2
  obtain ⟨fuel, hf⟩ := h
  obtain ⟨xs, n', _, _, _, hlen, hx⟩ := DataW.trod_struct htr hf
  obtain ⟨l⟩ := cs
  match l, h2 with
  | [c0, c1, c2, c3, c4, c5, c6, c7, c8, c9, c10, c11], _ =>
    match xs, hlen with
    | [y0, y1, y2, y3, y4, y5, y6], _ =>
      have m0 := hx 0 e0 rfl
      have m1 := hx 1 e1 rfl
      have m2 := hx 2 e2 rfl
      have m3 := hx 3 e3 rfl
      have m4 := hx 4 e4 rfl
      have m5 := hx 5 e5 rfl
      have m6 := hx 6 e6 rfl
      rw [a0, k0] at m0
      rw [a1, k1] at m1
      rw [a2, k2] at m2
      rw [a3, k3] at m3
      rw [a4, k4] at m4
      rw [a5, k5] at m5
      rw [a6, k6] at m6
      obtain ⟨x0, r0, _, w0⟩ := DataW.trod_int b0 m0
      obtain ⟨x1, r1, _, w1⟩ := DataW.trod_int b1 m1
      obtain ⟨x2, r2, _, w2⟩ := DataW.trod_int b2 m2
      obtain ⟨x3, r3, _, w3⟩ := DataW.trod_int b3 m3
      obtain ⟨x5, r5, _, w5⟩ := DataW.trod_int b5 m5
      obtain ⟨x6, r6, _, w6⟩ := DataW.trod_int b6 m6
      obtain ⟨u, hu, hfu⟩ := trodReq (l := [c4, c5, c6, c7, c8, c9]) ht rfl o0 o1 o2 o3 o4 hu0 hu1 hu2 hu3 hu4 q0 q1 hg0 hg1 hc0 hc1 hc2 hc3 hc4 hd0 hd1 m4
      simp [Value.cells] at r0 r1 r2 r3 r5 r6
      simp only [reqC, List.cons.injEq, and_true] at hu
      obtain ⟨u0, u1, u2, u3, u4, u5⟩ := hu
      subst r0 r1 r2 r3 r5 r6 u0 u1 u2 u3 u4 u5
      exact ⟨⟨x0, x1, x2, x3, u, x5, x6⟩, rfl, inI_wf w0, inI_wf w1, inI_wf w2, inI_wf w3, hfu, inI_wf w5, inI_wf w6⟩
theorem trodAll_8 {w : World} {base : Nat} {spare : Nat → Bool} {held : Bool} {t0 t1 t2 t3 t4 t5 t6 t7 : TypeId} {args : Array Value} {ds : List (DataW H)} {ps : List MemPlace} (h : DataW.TrodAll enc P w base spare held [t0, t1, t2, t3, t4, t5, t6, t7] args.toList ds ps) :
    ∃ v0 v1 v2 v3 v4 v5 v6 v7 d0 d1 d2 d3 d4 d5 d6 d7 p0 p1 p2 p3 p4 p5 p6 p7, args = #[v0, v1, v2, v3, v4, v5, v6, v7] ∧ ds = [d0, d1, d2, d3, d4, d5, d6, d7] ∧ ps = p0 ++ (p1 ++ (p2 ++ (p3 ++ (p4 ++ (p5 ++ (p6 ++ p7)))))) ∧
      DataW.Trod enc P w base spare held t0 v0 d0 p0 ∧ DataW.Trod enc P w base spare held t1 v1 d1 p1 ∧ DataW.Trod enc P w base spare held t2 v2 d2 p2 ∧ DataW.Trod enc P w base spare held t3 v3 d3 p3 ∧ DataW.Trod enc P w base spare held t4 v4 d4 p4 ∧ DataW.Trod enc P w base spare held t5 v5 d5 p5 ∧ DataW.Trod enc P w base spare held t6 v6 d6 p6 ∧ DataW.Trod enc P w base spare held t7 v7 d7 p7 := by
  obtain ⟨v0, l0, d0, e0, p0, q0, ha, rfl, rfl, h0, h⟩ := trodAll_cons h
  obtain ⟨v1, v2, v3, v4, v5, v6, v7, d1, d2, d3, d4, d5, d6, d7, p1, p2, p3, p4, p5, p6, p7, hb, rfl, rfl, h1, h2, h3, h4, h5, h6, h7⟩ := trodAll_seven (args := l0.toArray) (by simpa using h)
  refine ⟨v0, v1, v2, v3, v4, v5, v6, v7, d0, d1, d2, d3, d4, d5, d6, d7, p0, p1, p2, p3, p4, p5, p6, p7, ?_, rfl, by simp, h0, h1, h2, h3, h4, h5, h6, h7⟩
  apply Array.ext'
  rw [ha]
  have := congrArg Array.toList hb
  simp at this
  simp [this]
end
end Go.Pm
namespace Go.Pm
open Go Go.RowKit Go.ChangeShapes Go.WideShapes Go.ChangeAt
section
variable {H : Type} {enc : TypeId × Value → H} {P : Program}
/-- An api.Update argument. -/
theorem openReq {W : World} {t : TypeId} {f0 f1 f2 f3 f4 g0 g1 : Field} {v : Value} {d : DataW H} {p : List MemPlace} {base : Nat} (ht : P.underlying t = some (.struct #[f0, f1, f2, f3, f4])) (hC : P.cellsOf t = 6)
    (o0 : f0.offset = 0) (o1 : f1.offset = 1) (o2 : f2.offset = 2) (o3 : f3.offset = 3) (o4 : f4.offset = 4) (hu0 : P.underlying f0.type = some .string) (hu1 : P.underlying f1.type = some (.int .i64)) (hu2 : P.underlying f2.type = some (.int .u64)) (hu3 : P.underlying f3.type = some (.int .i64))
    (hu4 : P.underlying f4.type = some (.struct #[g0, g1])) (q0 : g0.offset = 0) (q1 : g1.offset = 1) (hg0 : P.underlying g0.type = some (.int .u64)) (hg1 : P.underlying g1.type = some (.int .u64))
    (hc0 : P.cellsOf f0.type = 1) (hc1 : P.cellsOf f1.type = 1) (hc2 : P.cellsOf f2.type = 1) (hc3 : P.cellsOf f3.type = 1) (hc4 : P.cellsOf f4.type = 2) (hd0 : P.cellsOf g0.type = 1) (hd1 : P.cellsOf g1.type = 1)
    (hok : Value.okWide P W .any base t v) (h : DataW.Trod enc P W 0 (fun _ => true) true t v d p) : ∃ u : Req, v = u.V ∧ u.Fits := by
  simp only [Value.okWide, ht] at hok
  obtain ⟨cs, rfl, h2, _⟩ := hok
  rw [hC] at h2
  obtain ⟨fuel, hf⟩ := h
  obtain ⟨l⟩ := cs
  obtain ⟨u, hu, hfu⟩ := trodReq (l := l) ht h2 o0 o1 o2 o3 o4 hu0 hu1 hu2 hu3 hu4 q0 q1 hg0 hg1 hc0 hc1 hc2 hc3 hc4 hd0 hd1 hf
  subst hu
  exact ⟨u, rfl, hfu⟩
end
end Go.Pm
namespace Go.Proofs.Ytdobmebhjmgkmaa
open Go.ChangeShapes Go.WideShapes Go.ChangeAt Go.RowKit Go.Pm

theorem laidOut : laidOutB Try.prog = true := by kernel_rfl
theorem ownKnobs : ownKnob Try.prog.godebug = none := by kernel_rfl
theorem rU64 : Try.prog.underlying 23 = some (.int .u64) := by kernel_rfl
def fSigR : Field := { name := "R", type := 23, offset := 0, embedded := false, tag := "", pkgPath := "", byteOffset := 0 }
def fSigS : Field := { name := "S", type := 23, offset := 1, embedded := false, tag := "", pkgPath := "", byteOffset := 8 }
def fName : Field := { name := "Name", type := 9, offset := 0, embedded := false, tag := "", pkgPath := "", byteOffset := 0 }
def fVersion : Field := { name := "Version", type := 3, offset := 1, embedded := false, tag := "", pkgPath := "", byteOffset := 16 }
def fKey : Field := { name := "Key", type := 23, offset := 2, embedded := false, tag := "", pkgPath := "", byteOffset := 24 }
def fClass : Field := { name := "Class", type := 3, offset := 3, embedded := false, tag := "", pkgPath := "", byteOffset := 32 }
def fSig : Field := { name := "Sig", type := 25, offset := 4, embedded := false, tag := "", pkgPath := "", byteOffset := 40 }
theorem rSig : Try.prog.underlying 25 = some (.struct #[fSigR, fSigS]) := by kernel_rfl
theorem rUpd : Try.prog.underlying 27 = some (.struct #[fName, fVersion, fKey, fClass, fSig]) := by kernel_rfl
theorem rBool : Try.prog.underlying 4 = some .bool := by kernel_rfl
theorem rU8 : Try.prog.underlying 5 = some (.int .u8) := by kernel_rfl
theorem rStr : Try.prog.underlying 9 = some .string := by kernel_rfl
theorem rI64 : Try.prog.underlying 3 = some (.int .i64) := by kernel_rfl
theorem cByte : Try.prog.cellsOf 5 = 1 := by kernel_rfl

set_option maxRecDepth 100000 in
theorem admitTells_lifted (os : Os) (started : os.Started) (H : Type) (enc : TypeId × Value → H) :
    ReturnsInHanded {} Try.checked os 3 .any (Rows.admitTellsSpec.pre6 enc Try.prog Try.f3 Rows.admitTellsRow.domain false) (Rows.admitTellsSpec.post enc Try.prog Try.f3 false true false false) := by
  refine returnsInHanded_of_change (C := Try.checked) ownKnobs started (by kernel_rfl) Try.func3
    (ChangeSpec.witness6 (enc := enc) (C := Try.checked) false ⟨#[], #[.slice none 0 0, .slice none 0 0, .int .u8 0, .int .i64 0, .int .u8 0, .int .u8 0, .agg #[.string ⟨#[]⟩, .int .i64 0, .int .u64 0, .int .i64 0, .int .u64 0, .int .u64 0], .string ⟨#[]⟩], []⟩ 8 (by kernel_rfl) (by kernel_rfl) (by kernel_rfl) (by kernel_rfl)) ?_
  intro W base args ds gs before hval0 hW _ _
  have hval : ∀ (j : Nat) t v, Try.f3.params[j]? = some t → args[j]? = some v → Value.okWide Try.prog W .any base t v := hval0
  have hlt : ∀ x ∈ before, x.block < W.heap.size := fun x hx => by simpa using hW.lt x hx
  have hW' := hW
  obtain ⟨p, q, hA0, hV, rfl, hfz, hnd⟩ := hW
  obtain ⟨rfl, rfl⟩ := trodVars_none hV
  have hA : DataW.TrodAll enc Try.prog W 0 (fun _ => true) true Try.f3.params.toList args.toList ds p := hA0
  rw [Try.params3] at hA hval
  obtain ⟨v0, v1, v2, v3, v4, v5, v6, v7, d0, d1, d2, d3, d4, d5, d6, d7, p0, p1, p2, p3, p4, p5, p6, p7, rfl, rfl, rfl, h0, h1, h2, h3, h4, h5, h6, h7⟩ := trodAll_8 hA
  obtain ⟨l, hl⟩ := openBs tBytes' tByte cByte (hval 0 22 v0 rfl rfl) h0 (fun x hx => hlt x (by simp [hx]))
  obtain ⟨m, hm⟩ := openBs tBytes' tByte cByte (hval 1 22 v1 rfl rfl) h1 (fun x hx => hlt x (by simp [hx]))
  obtain ⟨k, rfl, b2⟩ := openNat_u8 rU8 (hval 2 5 v2 rfl rfl) h2
  obtain ⟨ver, rfl, _, _, b3⟩ := open_int rI64 (hval 3 3 v3 rfl rfl) h3
  obtain ⟨cl, rfl, b4⟩ := openNat_u8 rU8 (hval 4 5 v4 rfl rfl) h4
  obtain ⟨how, rfl, b5⟩ := openNat_u8 rU8 (hval 5 5 v5 rfl rfl) h5
  obtain ⟨raw, rfl, b6⟩ := openReq rUpd (by kernel_rfl) rfl rfl rfl rfl rfl rStr rI64 rU64 rI64 rSig rfl rfl rU64 rU64 (by kernel_rfl) (by kernel_rfl) (by kernel_rfl) (by kernel_rfl) (by kernel_rfl) (by kernel_rfl) (by kernel_rfl) (hval 6 27 v6 rfl rfl) h6
  obtain ⟨nm, rfl, b7⟩ := openStr rStr (hval 7 9 v7 rfl rfl) h7
  refine (P17.tells Ad.next Ad.decide v0 v1 _ _ _ _ l m k ver cl how raw nm b6 W hl hm).mono fun e W' ⟨he, hk⟩ => ?_
  subst he
  exact ⟨_, rfl, law_post (P := Try.prog) (f := Try.f3) rfl rfl rBool laidOut (by kernel_rfl) hW' rfl rfl rfl (hk.below (fun _ _ h => h))⟩

theorem admitTells_holds : Rows.AdmitTellsSaid :=
  OpenClaim.holds_of_wide 3 Try.f3 rfl rfl rfl rfl rfl rfl rfl ⟨rfl, rfl, rfl, rfl, rfl⟩ rfl rfl rfl rfl rfl (by kernel_rfl) Try.func3 (by kernel_rfl)
    (of_decide_eq_true (by kernel_rfl)) (by unfold Func.isWrapper; first | (rw [if_pos (by decide +kernel)]; kernel_rfl) | (rw [if_neg (by decide +kernel)]; exact ⟨rfl, rfl⟩))
    (fun os started H enc _ => admitTells_lifted os started H enc)
end Go.Proofs.Ytdobmebhjmgkmaa
