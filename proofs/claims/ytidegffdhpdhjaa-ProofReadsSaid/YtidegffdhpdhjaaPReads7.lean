/- postmarklaw7.ProofReads: true. -/
import Derived.Test.YtidegffdhpdhjaaTopK7
import Derived.Test.YtidegffdhpdhjaaRMake7
import Derived.Test.YtidegffdhpdhjaaRIO7
import Derived.Laws.MakeOwn
namespace Go.Pm
open Go Go.RowKit
/-- A hash of one byte. -/
def oneH (x : Int) : List UInt8 := Go.Pm.byteOf x :: List.replicate 31 0
theorem oneH_len (x : Int) : (oneH x).length = 32 := rfl
theorem oneH_is {x : Int} (h0 : 0 ≤ x) (h1 : x < 256) : ((oneH x).map u8v).toArray = #[.int .u8 x, .int .u8 0, .int .u8 0, .int .u8 0, .int .u8 0, .int .u8 0, .int .u8 0, .int .u8 0, .int .u8 0, .int .u8 0, .int .u8 0, .int .u8 0, .int .u8 0, .int .u8 0, .int .u8 0, .int .u8 0, .int .u8 0, .int .u8 0, .int .u8 0, .int .u8 0, .int .u8 0, .int .u8 0, .int .u8 0, .int .u8 0, .int .u8 0, .int .u8 0, .int .u8 0, .int .u8 0, .int .u8 0, .int .u8 0, .int .u8 0, .int .u8 0] := by
  rw [← u8v_byteOf' h0 h1]
  rfl
theorem made_zeros (n : Nat) : (madeCells (Array.replicate 32 (.int .u8 0)) n).toList = List.replicate n (.int .u8 0) := by
  refine List.eq_replicate_iff.2 ⟨by simp [madeCells], fun b hb => ?_⟩
  simp only [madeCells, Array.toList_map, List.mem_map] at hb
  obtain ⟨i, _, rfl⟩ := hb
  have h : i % 32 < 32 := Nat.mod_lt _ (by decide)
  simp [h]
theorem Hs.zeros {w : World} {g n : Nat} {cs : Array Value} {e : TypeId} (h : Blk w g cs e) (hc : cs.toList = List.replicate (n * 32) (.int .u8 0)) (hn : n ≤ maxLen) : Hs w g (g + 1) (.slice (some ⟨g, 0, none⟩) n n) (List.replicate n zero32) := by
  have h32 : H32 (List.replicate n zero32) := fun x hx => by rw [List.eq_of_mem_replicate hx]; rfl
  have hf : (hsC (List.replicate n zero32)).flatten = List.replicate (n * 32) (.int .u8 0) := by
    unfold hsC
    rw [List.map_replicate, show zero32.map u8v = List.replicate 32 (.int .u8 0) from rfl, List.flatten_replicate_replicate]
  refine ⟨h32, hsC_each h32, ?_⟩
  have h1 := Fs.ofBlk (k := 32) h (n := n) (c := n) (l := (hsC (List.replicate n zero32)).flatten) (by rw [hf]; simp) (Nat.le_refl _) hn (fun i x hx => by
    rw [hf, ← hc] at hx
    simpa using hx)
  rwa [show (hsC (List.replicate n zero32)).length = n by simp [hsC]] at *
/-- A new row of three, for the walk. -/
theorem wpList_three {P : Program} {ops : Array Oper} {rest : List Oper} {o : Oper} {a : Act} {w : World} {Q : Exit → Act → World → Prop} (hgd : o.guard = none) (t : TypeId) (x y u : Operand) (ho : o.op = .buildSlice t 3 #[(0, x), (1, y), (2, u)])
    {e : TypeId} {z : Value} {k bytes : Nat} (hT : RowTyK P t e z k bytes) (hk : k ≤ 1000) {A B C : Array Value} (hx : a.eval x = .agg A) (hy : a.eval y = .agg B) (hu : a.eval u = .agg C) (hA : A.size = k) (hB : B.size = k) (hC : C.size = k)
    (h : wpList P ops Q rest (a.put o.dst (.slice (some ⟨w.heap.size, 0, none⟩) 3 3)) (w.alloc (.cells (A ++ B ++ C) e))) : wpList P ops Q (o :: rest) a w :=
  wpList_plain hgd fun _ hK => by
    unfold Oper.wp
    rw [exec_three t x y u ho hT hk hx hy hu hA hB hC]
    exact hK _ _ h
/-- A proof whose way is noughts. -/
def longP (n : Nat) : Pf := ⟨List.replicate n zero32, 1, zeroIt⟩
theorem longP_ok (n : Nat) : (longP n).Ok := ⟨fun x hx => by rw [List.eq_of_mem_replicate hx]; rfl, rfl, rfl⟩
end Go.Pm
namespace Go.Proofs.Ytidegffdhpdhjaa
open Go.RowKit Go.Pm
namespace Pr
theorem rmakeA7 (l : List It) (i : List UInt8) (v : Value) (lo hi : Nat) (w : World) (hv : Its w lo hi v l) (hl : l.length ≤ 549755813888) (hi32 : i.length = 32) :
    Calls Try.prog 28 #[v, hashV i] w fun e w' => ∃ A, e = .returned (.agg A) ∧ Kept None w w' ∧ PV (makeP l i) w' A := by
  refine (RPr.make l i v lo hi w hv hl hi32).mono ?_
  rintro e w' ⟨u, rfl, k, r⟩
  exact ⟨_, rfl, k, ok_make l hv.1 i, u, rfl, r.mono (Nat.zero_le _)⟩
theorem rputA (m : Pf) (A : Array Value) (w : World) (h : PV m w A) (hl : m.path.length ≤ 1000000) :
    Calls Try.prog 34 #[.agg A] w fun e w' => ∃ v, e = .returned v ∧ Kept None w w' ∧ Ob w' w.heap.size v (putP m) := by
  obtain ⟨h0, u, rfl, h2⟩ := h
  exact RPr.put u m w h0 h2 hl
theorem rreadA (v : Value) (lo hi : Nat) (l : List UInt8) (w : World) (hv : Bs w lo hi v l) (hl : l.length ≤ 1099511627776) :
    Calls Try.prog 37 #[v] w fun e w' => ∃ A, e = .returned (.tuple #[.agg A, .int .i64 (readEP l)]) ∧ Kept None w w' ∧ PV (readQP l) w' A := by
  refine (RPr.readP v lo hi l w hv hl).mono ?_
  rintro e w' ⟨s, rfl, k, r⟩
  exact ⟨_, rfl, k, readQP_ok l, s, rfl, r.mono (Nat.zero_le _)⟩
theorem u8_xor7 (a b : Int) : 0 ≤ bits .xor .u8 a b ∧ bits .xor .u8 a b < 256 := by
  have h : bits .xor .u8 a b = IntKind.u8.wrap ((BitVec.ofInt 8 a ^^^ BitVec.ofInt 8 b).toNat : Int) := rfl
  rw [h]
  constructor <;> simp [IntKind.wrap, IntKind.bits, IntKind.signed] <;> omega
set_option maxRecDepth 100000 in
set_option maxHeartbeats 8000000 in
theorem preads (v vr : Value) (lo hi lr hr : Nat) (ns : List Int) (raw : List UInt8) (k n at_ x : Nat) (p : Pf) (PA : Array Value) (w : World) (hv : U16s w lo hi v ns) (hraw : Bs w lr hr vr raw) (hk : k < 65536) (hnn : n < 256) (hat : at_ < 65536) (hx : x < 256) (hp : PV p w PA) : Calls Try.prog 7 #[.agg PA, v, .int .u16 k, vr, .int .u8 n, .int .u16 at_, .int .u8 x] w fun e w' => e = .returned (.bool true) ∧ Kept None w w' := by
  obtain ⟨a, cap, rfl, g1, g2⟩ := hv.form
  obtain ⟨N, hN⟩ : ∃ n, n = ns.length := ⟨_, rfl⟩
  rw [← hN] at hv g1 ⊢
  have hraw := hraw.all
  obtain ⟨ar, cr, rfl, q1, q2, q3⟩ := hraw.shape
  obtain ⟨RN, hRN⟩ : ∃ n, n = raw.length := ⟨_, rfl⟩
  rw [← hRN] at hraw q1 ⊢
  have aPA := PV.agg hp
  have k0 : Kept None w (w.alloc (.cells PA 63)) := (Kept.refl _ _).alloc _
  have b7 : Blk (w.alloc (.cells PA 63)) w.heap.size PA 63 := Blk.new w _ _
  have HV := hid hv
  have HRW := hid (And.intro hraw hRN)
  have HN := hid hN
  have HPV := hid (hp.kept k0)
  clear hv hraw hN hRN hp q3
  go_enter Try.func7, Try.ntmps7
  go_wp2_with fail
  refine (known _).mono ?_
  rintro e w1 ⟨rfl, k1⟩
  have K1 := hid (k0.trans k1)
  have B7 := hid (b7.kept k1 (fun h => h))
  have PV1 := hid (HPV.out.kept k1)
  obtain ⟨g7, hg7⟩ : ∃ g, g = w.heap.size := ⟨_, rfl⟩
  rw [← hg7] at B7 ⊢
  clear k0 b7 k1 hg7 HPV
  obtain ⟨pa, pc, hp0⟩ := PV1.out.at0
  have hp1 := PV1.out.at1
  obtain ⟨P, hP⟩ : ∃ P, P = p.path.length := ⟨_, rfl⟩
  obtain ⟨E, hE⟩ : ∃ E, E = p.e := ⟨_, rfl⟩
  rw [← hP] at hp0
  rw [← hE] at hp1
  have c0 := B7.out.cell 0
  rw [hp0] at c0
  have c1 := B7.out.cell 1
  rw [hp1] at c1
  clear hp0 hp1
  by_cases h1 : 20 < P
  · have zh1 : decide ((20 : Int) < (P : Int)) = true := by rw [decide_eq_true_eq]; omega
    clear hP hE
    go_wp2_with (first | go_skip | fail)
    go_ret
    exact ⟨rfl, K1.out⟩
  have zh1 : decide ((20 : Int) < (P : Int)) = false := by rw [decide_eq_false_iff_not]; omega
  by_cases h2 : 20 < N
  · have zh2 : decide ((20 : Int) < (N : Int)) = true := by rw [decide_eq_true_eq]; omega
    clear hP hE
    go_wp2_with (first | go_skip | fail)
    go_ret
    exact ⟨rfl, K1.out⟩
  have zh2 : decide ((20 : Int) < (N : Int)) = false := by rw [decide_eq_false_iff_not]; omega
  by_cases h3 : 200 < RN
  · have zh3 : decide ((200 : Int) < (RN : Int)) = true := by rw [decide_eq_true_eq]; omega
    clear hP hE
    go_wp2_with (first | go_skip | fail)
    go_ret
    exact ⟨rfl, K1.out⟩
  have zh3 : decide ((200 : Int) < (RN : Int)) = false := by rw [decide_eq_false_iff_not]; omega
  by_cases h4 : E < 0
  · have zh4 : decide (E < 0) = true := by rw [decide_eq_true_eq]; omega
    clear hP hE
    go_wp2_with (first | go_skip | fail)
    go_ret
    exact ⟨rfl, K1.out⟩
  have zh4 : decide (E < 0) = false := by rw [decide_eq_false_iff_not]; omega
  by_cases h5 : 5 < E
  · have zh5 : decide (5 < E) = true := by rw [decide_eq_true_eq]; omega
    clear hP hE
    go_wp2_with (first | go_skip | fail)
    go_ret
    exact ⟨rfl, K1.out⟩
  have zh5 : decide (5 < E) = false := by rw [decide_eq_false_iff_not]; omega
  have HP20 := hid (show p.path.length ≤ 20 by omega)
  have HR200 := hid (show RN ≤ 200 by omega)
  have hN20 : N ≤ 20 := by omega
  clear hP hE h1 h2 h3 h4 h5
  go_wp2_with (first | go_skip | fail)
  refine (Tr.items (.slice a N cap) lo hi ns w1 (HV.out.kept K1.out (fun _ _ _ h => h)) (by have := HN.out; omega)).mono ?_
  rintro e w2 ⟨v2, l, rfl, h3, hxl, k2⟩
  obtain ⟨a3, c3, rfl⟩ := h3.form
  have hl20 : l.length ≤ 20 := by rw [hxl, ← HN.out]; exact hN20
  have hfull : Len l := h3.1
  have hL := h3.its (Nat.le_refl _)
  obtain ⟨ln, hln⟩ : ∃ n, n = l.length := ⟨_, rfl⟩
  rw [← hln] at hL ⊢
  have K2 := hid (K1.out.trans k2)
  have B7 := hid (B7.out.kept k2 (fun h => h))
  have PV2 := hid (PV1.out.kept k2)
  have HL2 := hid hL
  have HLS := hid (And.intro hln (And.intro hl20 hfull))
  have fI := fun W (h : Its W w1.heap.size w2.heap.size (.slice a3 ln c3) l) => index _ _ _ l k (oneH x) W h hk (oneH_len _)
  simp only [hashV] at fI
  rw [oneH_is (x := (x : Int)) (by omega) (by omega)] at fI
  have FI := hid fI
  clear k2 h3 hxl hl20 hfull hL hln zh1 zh2 zh3 zh4 zh5 hN20 c0 c1 PV1 K1 fI
  go_wp2_with fail
  refine (FI.out w2 HL2.out).mono ?_
  rintro e w3 ⟨i, i32, rfl, k3⟩
  obtain ⟨IA, hIA⟩ : ∃ A : Array Value, A = (i.map u8v).toArray := ⟨_, rfl⟩
  obtain ⟨m, hm⟩ : ∃ m, m = makeP l i := ⟨_, rfl⟩
  have hmok : m.Ok := by rw [hm]; exact ok_make l HLS.out.2.2 i
  have hpath : m.path.length ≤ 256 := rightP_len (i := i) (by rw [hm]; exact right_make l HLS.out.2.2 i)
  have fM := fun W (h : Its W w1.heap.size w2.heap.size (.slice a3 ln c3) l) => rmakeA7 l i _ _ _ W h (by have := HLS.out; omega) i32
  rw [← hm] at fM
  simp only [hashV, ← hIA] at fM
  have FM := hid fM
  have HM := hid (And.intro hmok hpath)
  have K3 := hid (K2.out.trans k3)
  have L3 := hid (HL2.out.kept k3 (fun _ _ _ h => h))
  have B7 := hid (B7.out.kept k3 (fun h => h))
  have PV3 := hid (PV2.out.kept k3)
  simp only []
  rw [← hIA]
  clear i32 hm hmok hpath fM k3 K2 HL2 PV2 FI hIA
  go_wp2_with fail
  refine (FM.out w3 L3.out).mono ?_
  rintro e w5 ⟨AM, rfl, k5, p5⟩
  have K5 := hid (K3.out.trans k5)
  have B7 := hid (B7.out.kept k5 (fun h => h))
  have PV5 := hid (PV3.out.kept k5)
  have aAM := PV.agg p5
  have HAM := hid (And.intro p5.size p5.all)
  have PM5 := hid p5
  obtain ⟨z5, hz5, hZ5⟩ := Blk.any (n := 66) (Blk.new w5 Try.zeroCells63 63) (by rfl)
  have E5 := hid (hz5.trans p5.size.symm)
  clear k5 p5 hz5 PV3 K3 L3 FM HLS
  obtain ⟨LN, hLN⟩ : ∃ L, L = 254 + n % 4 := ⟨_, rfl⟩
  have hLi : (254 : Int) + (n : Int) % 4 = (LN : Int) := by rw [hLN]; omega
  have HLN := hid (show 254 ≤ LN ∧ LN ≤ 257 by omega)
  clear hLN
  go_wp2_with (first | (refine wpList_store_blk (.refl _) _ _ _ rfl rfl rfl hZ5 aAM E5.out HAM.out.2 ?_; intro w6 h16 k6; have k56 := k6.fresh) | fail)
  have K6 := hid (K5.out.trans k56)
  have B7 := hid (B7.out.kept k56 (fun h => h))
  have PV6 := hid (PV5.out.kept k56)
  have PM6 := hid (PM5.out.kept k56)
  have B16 := hid h16
  obtain ⟨g16, hg16⟩ : ∃ g, g = w5.heap.size := ⟨_, rfl⟩
  rw [← hg16] at B16 ⊢
  clear k6 k56 h16 hg16 hZ5 E5 PV5 PM5 K5
  obtain ⟨CL, hCL⟩ : ∃ C : Array Value, C = madeCells (Array.replicate 32 (.int .u8 0)) (LN * 32) := ⟨_, rfl⟩
  have hmk : (Instr.makeSlice 59 (.int .i64 (LN : Int)) (.int .i64 (LN : Int))).run Try.prog w6 = .ok (.slice (some ⟨w6.heap.size, 0, none⟩) LN LN) (w6.alloc (.cells CL 23)) := by
    obtain ⟨ii, hi, hz, hs, hb⟩ := rtHashes.info
    have h := run_makeSlice (P := Try.prog) w6 59 23 ii _ rtHashes.sl hi hz .i64 .i64 (LN : Int) (LN : Int) (by omega) (Int.le_refl _) (by rw [hs]; have := HLN.out; omega) (by rw [hb]; have := HLN.out; omega) (by have := HLN.out; omega)
    rw [hs, Int.toNat_natCast] at h
    rw [hCL]
    exact h
  have HMK := hid hmk
  have hcl : CL.toList = List.replicate (LN * 32) (.int .u8 0) := by rw [hCL]; exact made_zeros _
  clear hCL hmk
  rw [HMK.out]
  have bL := Blk.new w6 CL 23
  have rhL : Rh 0 (w6.alloc (.cells CL 23)) (.slice (some ⟨w6.heap.size, 0, none⟩) LN LN) (longP LN).path := ⟨_, (Hs.zeros bL hcl (by have := HLN.out; unfold maxLen; omega)).wider' (Nat.zero_le _)⟩
  have kL : Kept None w6 (w6.alloc (.cells CL 23)) := (Kept.refl _ _).alloc _
  obtain ⟨w7, hw7⟩ : ∃ w7, w7 = w6.alloc (.cells CL 23) := ⟨_, rfl⟩
  rw [← hw7] at rhL kL ⊢
  clear bL hw7 hcl HMK
  obtain ⟨SL, hSL⟩ : ∃ v : Value, v = .slice (some ⟨w6.heap.size, 0, none⟩) LN LN := ⟨_, rfl⟩
  rw [← hSL] at rhL
  obtain ⟨AL, hAL⟩ : ∃ A : Array Value, A = (pfC SL (longP LN)).toArray := ⟨_, rfl⟩
  have pL : PV (longP LN) w7 AL := ⟨longP_ok LN, SL, hAL, rhL⟩
  have aAL := PV.agg pL
  have HAL := hid (And.intro pL.size pL.all)
  have K7 := hid (K6.out.trans kL)
  have B7 := hid (B7.out.kept kL (fun h => h))
  have B16 := hid (B16.out.kept kL (fun h => h))
  have PV7 := hid (PV6.out.kept kL)
  have PM7 := hid (PM6.out.kept kL)
  have PL7 := hid pL
  have HPA := hid PV7.out.size
  obtain ⟨z7, hz7, hZ7⟩ := Blk.any (n := 66) (Blk.new w7 Try.zeroCells63 63) (by rfl)
  have E7 := hid (hz7.trans pL.size.symm)
  have eAL : Hid (Value.agg AL = .agg (pfC (.slice (some ⟨w6.heap.size, 0, none⟩) LN LN) (longP LN)).toArray) := hid (by rw [hAL, hSL])
  clear rhL kL pL hz7 PV6 PM6 K6 hSL hAL
  go_wp2_with (first | (refine wpList_store_blk (.refl _) _ _ _ rfl rfl (eAL.out ▸ rfl) hZ7 aAL E7.out HAL.out.2 ?_; intro w8 h17 k8; have k78 := k8.fresh; have B7x := B7.out.kept k78 (fun h => h); have B16x := B16.out.kept k78 (fun h => h)) | (refine wpList_load_blk (.refl _) _ _ rfl rfl B7x aPA ?_) | (refine wpList_load_blk (.refl _) _ _ rfl rfl B16x aAM ?_) | (refine wpList_load_blk (.refl _) _ _ rfl rfl h17 aAL ?_) | (refine wpList_three (.refl _) _ _ _ _ rfl rtProofs (by decide) rfl rfl rfl HPA.out HAM.out.1 HAL.out.1 ?_) | fail)
  have K8 := hid (K7.out.trans k78)
  have PV8 := hid (PV7.out.kept k78)
  have PM8 := hid (PM7.out.kept k78)
  have PL8 := hid (PL7.out.kept k78)
  obtain ⟨wR, hwR⟩ : ∃ wR, wR = w8.alloc (.cells (PA ++ (AM ++ AL)) 63) := ⟨_, rfl⟩
  have hrow : Blk wR w8.heap.size (PA ++ AM ++ AL) 63 := by rw [hwR, Array.append_assoc]; exact Blk.new w8 _ _
  have k8R : Kept None w8 wR := by rw [hwR]; exact (Kept.refl _ _).alloc _
  obtain ⟨gR, hgR⟩ : ∃ g, g = w8.heap.size := ⟨_, rfl⟩
  rw [← hwR, ← hgR]
  rw [← hgR] at hrow
  have KR := hid (K8.out.trans k8R)
  have PVp := hid (PV8.out.kept k8R)
  have PVm := hid (PM8.out.kept k8R)
  have PVl := hid (PL8.out.kept k8R)
  have ROW := hid hrow
  have RW := hid (HRW.out.1.kept KR.out (fun _ _ _ h => h))
  clear hwR hrow k8R hgR k8 k78 h17 hZ7 E7 eAL PV7 PM7 PL7 PV8 PM8 PL8 K7 K8 B7 B16 B7x B16x
  go_loopg [74] 3 (fun kx s74 wr => ∃ j : Nat, s74 = .int .i64 j ∧ j ≤ 3 ∧ 3 - j ≤ kx ∧ Hid (Kept None wR wr))
  case atStart => exact ⟨0, rfl, by omega, by omega, Kept.refl _ _⟩
  case round =>
    obtain ⟨j, rfl, hj, hjx, HKr⟩ := hrel
    by_cases hlt : j < 3
    · have hjz : (j : Int) < 3 := by omega
      obtain ⟨wo, rfl⟩ : ∃ wo : World, wo = wr := ⟨_, rfl⟩
      obtain ⟨q, QA, pvq, rq, hql⟩ : ∃ (q : Pf) (QA : Array Value), PV q wR QA ∧ wo.rangeAt gR (j * 66) QA.toList ∧ q.path.length ≤ 257 := by
        obtain ⟨t0, t1, t2⟩ := three_at (ROW.out.kept HKr.out (fun h => h)) HPA.out HAM.out.1
        have h0 : j = 0 ∨ j = 1 ∨ j = 2 := by omega
        rcases h0 with rfl | rfl | rfl
        · exact ⟨p, PA, PVp.out, t0, by have := HP20.out; omega⟩
        · exact ⟨m, AM, PVm.out, t1, by have := HM.out.2; omega⟩
        · exact ⟨longP LN, AL, PVl.out, t2, by have := HLN.out; simp [longP]; omega⟩
      obtain ⟨CQ, hCQ⟩ : ∃ C, C = QA.toList := ⟨_, rfl⟩
      rw [← hCQ] at rq
      have hQ : CQ.toArray = QA := by rw [hCQ]
      have aQ := PV.agg pvq
      have aCQ : AggTy Try.prog 63 CQ.length := by rw [hCQ, Array.length_toList]; exact aQ
      have hbl := putP_len pvq.1
      have fP := fun W (h : PV q W QA) => putA q QA W h (by omega)
      have fPR := fun W (h : PV q W QA) => rputA q QA W h (by omega)
      obtain ⟨Bq, hBq⟩ : ∃ B, B = putP q := ⟨_, rfl⟩
      rw [← hBq] at hbl fP fPR
      have FP := hid fP
      have FPR := hid fPR
      have HBL := hid (show 0 < Bq.length ∧ Bq.length ≤ 10000 by omega)
      have RQ := hid rq
      have HQ := hid hQ
      have HQS := hid (And.intro pvq.size pvq.all)
      have PVQ := hid pvq
      obtain ⟨z, hz, hZ⟩ := Blk.any (n := 66) (Blk.new wo Try.zeroCells63 63) (by rfl)
      have EZ := hid (hz.trans pvq.size.symm)
      clear hCQ rq hQ pvq hz hql hbl fP fPR hBq
      go_upto_region 11 with (first | (refine wpList_load_at rfl _ _ rfl rfl RQ.out aCQ ?_; rw [HQ.out]) | (refine wpList_store_blk (.refl _) _ _ _ rfl rfl rfl hZ aQ EZ.out HQS.out.2 ?_; intro wa h19 ka; have koa := ka.fresh) | fail)
      have Ka := hid (HKr.out.trans koa)
      have B19 := hid h19
      obtain ⟨g19, hg19⟩ : ∃ g, g = wo.heap.size := ⟨_, rfl⟩
      rw [← hg19] at B19 ⊢
      clear ka koa h19 hg19 hZ EZ RQ aCQ
      simp only [Act.put]
      go_wp2_with (first | (refine wpList_load_blk (.refl _) _ _ rfl rfl B19.out aQ ?_) | fail)
      refine (FP.out wa (PVQ.out.kept Ka.out)).mono ?_
      rintro e wb ⟨u20, rfl, kb, b20⟩
      have Kb := hid (Ka.out.trans kb)
      have B19 := hid (B19.out.kept kb (fun h => h))
      have D20 := hid (Rb.all b20)
      obtain ⟨a20, c20, rfl⟩ := b20.form
      clear kb b20 Ka FP
      go_wp2_with fail
      have hs : Steady [.bytes 3 (Bq), .val 4 (.string ⟨Bq.toArray⟩) [3]] := Go.Pm.Steady.bytes (Go.Pm.Steady.val (Go.Pm.Steady.nil))
      refine wp_region_kn wb _ hs (Kept.refl _ _) (by kernel_rfl) (by kernel_rfl) (by kernel_rfl) ?_
      iterate 1 (refine wpPar_pure rfl (by rfl) _ (fun W hW => by
          go_simp
          exact rfl) ?_; simp only [Act.put, List.setIfInBounds_toArray, List.set_cons_zero, List.set_cons_succ])
      refine wpPar_pure rfl (by rfl) (.string ⟨Bq.toArray⟩) (fun W hW => by have hcv := cvBytes (D20.out.kept hW (fun _ _ _ h => h)); go_simp) ?_; simp only [Act.put, List.setIfInBounds_toArray, List.set_cons_zero, List.set_cons_succ]
      refine wpPar_pure rfl (by rfl) _ (fun W hW => by first | exact exec_load_blk _ _ rfl rfl (B19.out.kept hW (fun h => h)) aQ | (go_simp; exact rfl)) ?_; simp only [Act.put, List.setIfInBounds_toArray, List.set_cons_zero, List.set_cons_succ]
      refine wpKn_adds hs rfl (by rfl) (fun W hW hd => ?_) (fun v3 hv => ?_)
      · unfold Gives
        go_simp
        refine gives_call (FPR.out W (PVQ.out.kept (Kb.out.trans hW))) ?_
        rintro e w3 ⟨u, rfl, k3, b3⟩
        exact ⟨_, rfl, k3, b3.form, _, _, b3.bs (Nat.le_refl _)⟩
      obtain ⟨a3v, c3v, rfl⟩ : ∃ a c, v3 = .slice a Bq.length c := hv
      simp only [Act.put, List.setIfInBounds_toArray, List.set_cons_zero, List.set_cons_succ]
      refine wpKn_adds hs rfl (by rfl) (fun W hW hd => ?_) (fun v4 hv => ?_)
      · unfold Gives
        obtain ⟨lo1, hi1, h1⟩ : ∃ lo hi, Bs W lo hi (.slice a3v Bq.length c3v) Bq := hd 3 (List.Mem.head _)
        have hcv := cvBytes h1
        go_simp
        exact ⟨Kept.refl _ _, rfl, trivial⟩
      obtain rfl : v4 = .string ⟨Bq.toArray⟩ := hv
      simp only [Act.put, List.setIfInBounds_toArray, List.set_cons_zero, List.set_cons_succ]
      iterate 1 (refine wpPar_pure rfl (by rfl) _ (fun W hW => by
          go_simp
          exact rfl) ?_; simp only [Act.put, List.setIfInBounds_toArray, List.set_cons_zero, List.set_cons_succ])
      refine wpPar_nil (fun wc hW hG => ?_)
      have Kc := hid (Kb.out.trans hW)
      have D20 := hid (D20.out.kept hW (fun _ _ _ h => h))
      have h20s := hW.size
      clear hG hs hW Kb B19 FPR
      have d20 := D20.out
      go_wp2_with (first | (at_builtin; refine wpList_append_bo (l := []) (m := Bq) (base := wc.heap.size) rfl _ _ 29 rfl rtBytes rfl rfl (Bo.nil _ _ _) d20 (by have := HBL.out; simp; omega) (Nat.le_refl _) ?k4) | fail)
      case k4 =>
        intro a4 n4 c4 w4 b4 k4
        have b4' : Ob w4 wc.heap.size (.slice a4 n4 c4) Bq := by simpa using b4
        have k4n : Kept None wc w4 := k4.mono (fun i _ h => by cases h)
        have hb1 := HBL.out.1
        have hb2 := HBL.out.2
        obtain ⟨g, cc, cur, hval, hbg, hg, hnc, hcm, hcs, htake⟩ : ∃ g cap cur, (Value.slice a4 n4 c4) = .slice (some ⟨g, 0, none⟩) Bq.length cap ∧ wc.heap.size ≤ g ∧ w4.heap[g]? = some (.cells cur 5 (0, 0)) ∧ Bq.length ≤ cap ∧ cap ≤ maxLen ∧ cur.size = cap * 1 ∧ cur.toList.take (Bq.length * 1) = Bq.map u8v := by
          rcases b4'.2 with ⟨_, h0⟩ | h
          · omega
          · exact h
        have hB4 : Blk w4 g cur 5 := hg
        obtain ⟨rfl, rfl, rfl⟩ : a4 = some ⟨g, 0, none⟩ ∧ n4 = Bq.length ∧ c4 = cc := by
          injection hval with e1 e2 e3
          exact ⟨e1, e2, e3⟩
        have hrem : (at_ : Int) % (Bq.length : Int) = ((at_ % Bq.length : Nat) : Int) := by rw [Int.natCast_emod]
        have hil : at_ % Bq.length < Bq.length := Nat.mod_lt _ (by omega)
        obtain ⟨ii, hi⟩ : ∃ i, i = at_ % Bq.length := ⟨_, rfl⟩
        rw [← hi] at hrem hil
        have htm : (at_ : Int).tmod (Bq.length : Int) = (ii : Int) := by rw [Int.tmod_eq_emod_of_nonneg (by omega)]; exact hrem
        have hLz : ((Bq.length : Int) == 0) = false := by rw [beq_eq_false_iff_ne]; omega
        have hcell : w4.cell? ⟨g, ii, none⟩ = some (.int .u8 (bAt Bq ii)) := by
          rw [hB4.cell, ← Array.getElem?_toList]
          have h1 : (Bq.map u8v)[ii]? = some (.int .u8 (bAt Bq ii)) := by rw [List.getElem?_map, List.getElem?_eq_getElem hil, Option.map_some, u8v_at Bq ii hil]
          rw [← htake, List.getElem?_take, if_pos (by omega)] at h1
          exact h1
        have hfree := hB4.free ii
        have hy0 := bAt_ge Bq ii
        have hy1 := bAt_lt Bq ii
        obtain ⟨y, hy⟩ : ∃ y, y = bAt Bq ii := ⟨_, rfl⟩
        rw [← hy] at hcell hy0 hy1
        have hz := u8_xor7 y (x : Int)
        obtain ⟨z, hzz⟩ : ∃ z, z = bits .xor .u8 y (x : Int) := ⟨_, rfl⟩
        have hzx := hzz.symm
        rw [hzx] at hz
        have b5 := b4'.set ii z hz.1 hz.2
        have kS : Kept (Just g) w4 (w4.setCell ⟨g, ii, none⟩ (.int .u8 z)) := Kept.one w4 g ii _
        have d20d := (d20.kept k4n (fun _ _ _ h => h)).kept kS (fun k _ h (e : k = g) => by omega)
        have kD := k4n.then kS (fun k h (e : k = g) => by omega)
        have d21 := (b5.bs (Nat.le_refl _)).all
        obtain ⟨Cq, hCl⟩ : ∃ C, C = Bq.set ii (Go.Pm.byteOf z) := ⟨_, rfl⟩
        rw [← hCl] at d21
        have lC : Cq.length = Bq.length := by rw [hCl, List.length_set]
        obtain ⟨a8, s1, p1⟩ := slice_to tBytes zBytes d20d .i64 (ii : Int) (by omega) (by omega)
        simp only [Int.toNat_natCast] at s1 p1
        rw [← List.map_take] at p1
        have d22 : Bs _ _ _ (.slice a8 ii c20) (Bq.take ii) := p1
        have HS1 := hid s1
        have HRM := hid (And.intro hrem (And.intro htm hLz))
        have HLC := hid (And.intro lC hil)
        clear hval hg hcs htake hB4 hi hy hzz b5 kS hCl b4' hz p1 lC b4 k4 d20
        go_wp2_with fail
        obtain ⟨wd, hwd⟩ : ∃ wd, wd = w4.setCell ⟨g, ii, none⟩ (.int .u8 z) := ⟨_, rfl⟩
        rw [← hwd] at d20d d21 d22 kD ⊢
        have Kd := hid (Kc.out.trans kD)
        have D20 := hid d20d
        have D21 := hid d21
        have D22 := hid d22
        have RWd := hid (RW.out.kept Kd.out (fun _ _ _ h => h))
        have HW3 : Hid (IntKind.u64.wrap ((n : Int) * 3) = (n : Int) * 3 ∧ IntKind.u64.wrap (n : Int) = (n : Int) ∧ IntKind.i64.wrap (at_ : Int) = (at_ : Int) ∧ ¬ Bq = []) := hid ⟨by rw [IntKind.wrap_u64]; omega, by rw [IntKind.wrap_u64]; omega, by rw [IntKind.wrap_i64]; omega, fun h => by rw [h] at hb1; simp at hb1⟩
        clear hwd hcell hfree hLz htm hrem hzx hy0 hy1 hil hnc hcm d20d d21 d22 kD k4n s1 hb1 hb2 hbg Kc
        refine wp_region_plan (Kept None wd) [{ k := 10, uses := [], pure := fun u => ∃ a c, u = .slice a Bq.length c, fact := fun u W => Ob W wd.heap.size u Bq }, { k := 12, uses := [], pure := fun u => ∃ a c, u = .slice a 1 c, fact := fun u W => ∃ lo hi, Bs W lo hi u [Go.Pm.byteOf (x : Int)] }, { k := 13, uses := [10, 12], spends := [10, 12], later := [18, 19], pure := fun u => ∃ a n c, u = .slice a n c, fact := fun u W => Ob W wd.heap.size u (Bq ++ [Go.Pm.byteOf (x : Int)]) }, { k := 18, uses := [], pure := fun u => ∃ a c, u = .slice a (leB ((n : Int) * 3)).length c, fact := fun u W => Ob W wd.heap.size u (leB ((n : Int) * 3)) }, { k := 19, uses := [13, 18], pure := fun u => ∃ g, u = .slice (some ⟨g, 0, none⟩) 6 6, fact := fun u W => ∃ lo hi lo' hi', Bss W lo hi lo' hi' u [Bq, Cq, Bq.take ii, Bq ++ [Go.Pm.byteOf (x : Int)], raw, leB ((n : Int) * 3)] }] [] (by kernel_rfl) (by kernel_rfl) (by kernel_rfl) (by rfl) ?pures ((Kept.refl _ wd).drew) ?starts ?walk
        case pures =>
          intro f hf
          simp only [List.mem_cons, List.not_mem_nil, or_false] at hf
          rcases hf with rfl | rfl | rfl | rfl | rfl
          · exact ⟨_, none, 0, rfl⟩
          · exact ⟨_, none, 0, rfl⟩
          · exact ⟨_, none, 0, 0, rfl⟩
          · exact ⟨_, none, 0, rfl⟩
          · exact ⟨_, 0, rfl⟩
        case starts =>
          intro k hk
          cases hk
        iterate 8 (refine wpPar_pure rfl (by rfl) _ (fun W hW => by
            have hrm := HRM.out.1
            have htm := HRM.out.2.1
            have hlz := HRM.out.2.2
            have hw3 := HW3.out.1
            have wn := HW3.out.2.1
            have wat := HW3.out.2.2.1
            have hne := HW3.out.2.2.2
            go_simp
            exact rfl) ?_; simp only [Act.put, List.setIfInBounds_toArray, List.set_cons_zero, List.set_cons_succ])
        refine wpPar_pure rfl (by rfl) (.slice a8 ii c20) (fun W hW => by have s1 := HS1.out W; go_simp) ?_; simp only [Act.put, List.setIfInBounds_toArray, List.set_cons_zero, List.set_cons_succ]
        iterate 1 (refine wpPar_pure rfl (by rfl) _ (fun W hW => by
            have hrm := HRM.out.1
            have htm := HRM.out.2.1
            have hlz := HRM.out.2.2
            have hw3 := HW3.out.1
            have wn := HW3.out.2.1
            have wat := HW3.out.2.2.1
            have hne := HW3.out.2.2.2
            go_simp
            exact rfl) ?_; simp only [Act.put, List.setIfInBounds_toArray, List.set_cons_zero, List.set_cons_succ])
        refine wpPar_adds rfl (by rfl) (fun W hW hd => ?_) (fun v10 hv => ?_)
        · refine gives_append_bo (l := []) (m := Bq) (base := wd.heap.size) _ _ 29 rfl rtBytes rfl rfl (Bo.nil _ _ _) (D20.out.kept hW (fun _ _ _ h => h)) (by have := HBL.out; simp; omega) hW.size ?_
          intro a' n' c' W' h3 h4 _
          have kS : Kept None W W' := h4.mono (fun k _ h => by cases h)
          rw [List.nil_append] at h3
          refine ⟨hW.trans kS, h3.form, h3, keeps_of fun f hf hs hl hne u hfu => ?_⟩
          simp only [List.mem_cons, List.not_mem_nil, or_false] at hf
          rcases hf with rfl | rfl | rfl | rfl | rfl
          · exact absurd rfl hne
          · exact hfu.elim fun lo h => h.elim fun hi h => ⟨lo, hi, h.kept kS (fun _ _ _ h => h)⟩
          · exact Bo.kept hfu kS (fun _ _ h => h)
          · exact Bo.kept hfu kS (fun _ _ h => h)
          · exact hfu.elim fun lo h => h.elim fun hi h => h.elim fun lo2 h => h.elim fun hi2 h => ⟨lo, hi, lo2, hi2, h.kept kS (fun _ _ _ h => h) (fun _ _ _ h => h)⟩
        obtain ⟨a10, c10, rfl⟩ : ∃ a c, v10 = .slice a Bq.length c := hv
        simp only [Act.put, List.setIfInBounds_toArray, List.set_cons_zero, List.set_cons_succ]
        iterate 1 (refine wpPar_pure rfl (by rfl) _ (fun W hW => by
            have hrm := HRM.out.1
            have htm := HRM.out.2.1
            have hlz := HRM.out.2.2
            have hw3 := HW3.out.1
            have wn := HW3.out.2.1
            have wat := HW3.out.2.2.1
            have hne := HW3.out.2.2.2
            go_simp
            exact rfl) ?_; simp only [Act.put, List.setIfInBounds_toArray, List.set_cons_zero, List.set_cons_succ])
        refine wpPar_adds rfl (by rfl) (fun W hW hd => ?_) (fun v12 hv => ?_)
        · unfold Gives
          go_simp
          have b12 := Bo.new W 5 [Go.Pm.byteOf (x : Int)] #[.int .u8 (x : Int)] (by simp [u8v_byteOf' (show (0 : Int) ≤ (x : Int) by omega) (show (x : Int) < 256 by omega)]) 1 rfl (by decide)
          have kS : Kept None W (W.alloc (.cells #[.int .u8 (x : Int)] 5)) := (Kept.refl None W).alloc _
          refine ⟨hW.trans kS, ⟨_, _, rfl⟩, ⟨_, _, b12.bs (Nat.le_refl _)⟩, keeps_of fun f hf hs hl hne u hfu => ?_⟩
          simp only [List.mem_cons, List.not_mem_nil, or_false] at hf
          rcases hf with rfl | rfl | rfl | rfl | rfl
          · exact Bo.kept hfu kS (fun _ _ h => h)
          · exact absurd rfl hne
          · exact Bo.kept hfu kS (fun _ _ h => h)
          · exact Bo.kept hfu kS (fun _ _ h => h)
          · exact hfu.elim fun lo h => h.elim fun hi h => h.elim fun lo2 h => h.elim fun hi2 h => ⟨lo, hi, lo2, hi2, h.kept kS (fun _ _ _ h => h) (fun _ _ _ h => h)⟩
        obtain ⟨a12, c12, rfl⟩ : ∃ a c, v12 = .slice a 1 c := hv
        simp only [Act.put, List.setIfInBounds_toArray, List.set_cons_zero, List.set_cons_succ]
        refine wpPar_adds rfl (by rfl) (fun W hW hd => ?_) (fun v13 hv => ?_)
        · have h1 : Ob W wd.heap.size (.slice a10 Bq.length c10) Bq := hd 10 (List.Mem.head _)
          obtain ⟨lo2, hi2, h2⟩ : ∃ lo hi, Bs W lo hi (.slice a12 1 c12) [Go.Pm.byteOf (x : Int)] := hd 12 (List.Mem.tail _ (List.Mem.head _))
          refine gives_append_bo _ _ 29 rfl rtBytes rfl rfl h1 h2 (by have := HBL.out; simp; omega) hW.size ?_
          intro a' n' c' W' h3 h4 _
          refine ⟨Kept.own hW h4 (fun k hk => (h1.own k hk).1), ⟨_, _, _, rfl⟩, h3, keeps_of fun f hf hs hl hne u hfu => ?_⟩
          simp only [List.mem_cons, List.not_mem_nil, or_false] at hf
          rcases hf with rfl | rfl | rfl | rfl | rfl
          · exact absurd (List.Mem.head _) hs
          · exact absurd (List.Mem.tail _ (List.Mem.head _)) hs
          · exact absurd rfl hne
          · exact absurd (List.Mem.head _) hl
          · exact absurd (List.Mem.tail _ (List.Mem.head _)) hl
        obtain ⟨a13, n13, c13, rfl⟩ : ∃ a n c, v13 = .slice a n c := hv
        simp only [Act.put, List.setIfInBounds_toArray, List.set_cons_zero, List.set_cons_succ]
        iterate 4 (refine wpPar_pure rfl (by rfl) _ (fun W hW => by
            have hrm := HRM.out.1
            have htm := HRM.out.2.1
            have hlz := HRM.out.2.2
            have hw3 := HW3.out.1
            have wn := HW3.out.2.1
            have wat := HW3.out.2.2.1
            have hne := HW3.out.2.2.2
            go_simp
            exact rfl) ?_; simp only [Act.put, List.setIfInBounds_toArray, List.set_cons_zero, List.set_cons_succ])
        refine wpPar_adds rfl (by rfl) (fun W hW hd => ?_) (fun v18 hv => ?_)
        · unfold Gives
          have hw3 := HW3.out.1
          go_simp
          refine gives_call (Ref.num ((n : Int) * 3) W (by omega) (by omega)) ?_
          rintro e W' ⟨u, rfl, kS, b4⟩
          refine ⟨_, rfl, hW.trans kS, b4.form, b4.base hW.size, keeps_of fun f hf hs hl hne u hfu => ?_⟩
          simp only [List.mem_cons, List.not_mem_nil, or_false] at hf
          rcases hf with rfl | rfl | rfl | rfl | rfl
          · exact Bo.kept hfu kS (fun _ _ h => h)
          · exact hfu.elim fun lo h => h.elim fun hi h => ⟨lo, hi, h.kept kS (fun _ _ _ h => h)⟩
          · exact Bo.kept hfu kS (fun _ _ h => h)
          · exact absurd rfl hne
          · exact hfu.elim fun lo h => h.elim fun hi h => h.elim fun lo2 h => h.elim fun hi2 h => ⟨lo, hi, lo2, hi2, h.kept kS (fun _ _ _ h => h) (fun _ _ _ h => h)⟩
        obtain ⟨a18, c18, rfl⟩ : ∃ a c, v18 = .slice a (leB ((n : Int) * 3)).length c := hv
        simp only [Act.put, List.setIfInBounds_toArray, List.set_cons_zero, List.set_cons_succ]
        refine wpPar_adds rfl (by rfl) (fun W hW hd => ?_) (fun v19 hv => ?_)
        · unfold Gives
          have h1 : Ob W wd.heap.size (.slice a13 n13 c13) (Bq ++ [Go.Pm.byteOf (x : Int)]) := hd 13 (List.Mem.head _)
          have h2 : Ob W wd.heap.size (.slice a18 (leB ((n : Int) * 3)).length c18) (leB ((n : Int) * 3)) := hd 18 (List.Mem.tail _ (List.Mem.head _))
          go_simp
          have kS : Kept None W (W.alloc (.cells #[.slice a20 Bq.length c20, .slice (some ⟨g, 0, none⟩) Bq.length c4, .slice a8 ii c20, .slice a13 n13 c13, .slice ar RN cr, .slice a18 (leB ((n : Int) * 3)).length c18] 29)) := (Kept.refl None W).alloc _
          refine ⟨hW.trans kS, ⟨_, rfl⟩, ⟨_, _, _, _, Bss.new W #[.slice a20 Bq.length c20, .slice (some ⟨g, 0, none⟩) Bq.length c4, .slice a8 ii c20, .slice a13 n13 c13, .slice ar RN cr, .slice a18 (leB ((n : Int) * 3)).length c18] 29 [Bq, Cq, Bq.take ii, Bq ++ [Go.Pm.byteOf (x : Int)], raw, leB ((n : Int) * 3)] 6 rfl (by decide) ⟨(D20.out.kept hW (fun _ _ _ h => h)).all, (D21.out.kept hW (fun _ _ _ h => h)).all, (D22.out.kept hW (fun _ _ _ h => h)).all, (h1.bs (Nat.le_refl _)).all, (RWd.out.kept hW (fun _ _ _ h => h)).all, (h2.bs (Nat.le_refl _)).all, trivial⟩⟩, keeps_of fun f hf hs hl hne u hfu => ?_⟩
          simp only [List.mem_cons, List.not_mem_nil, or_false] at hf
          rcases hf with rfl | rfl | rfl | rfl | rfl
          · exact Bo.kept hfu kS (fun _ _ h => h)
          · exact hfu.elim fun lo h => h.elim fun hi h => ⟨lo, hi, h.kept kS (fun _ _ _ h => h)⟩
          · exact Bo.kept hfu kS (fun _ _ h => h)
          · exact Bo.kept hfu kS (fun _ _ h => h)
          · exact absurd rfl hne
        obtain ⟨gB, rfl⟩ : ∃ g, v19 = .slice (some ⟨g, 0, none⟩) 6 6 := hv
        simp only [Act.put, List.setIfInBounds_toArray, List.set_cons_zero, List.set_cons_succ]
        iterate 2 (refine wpPar_pure rfl (by rfl) _ (fun W hW => by
            have hrm := HRM.out.1
            have htm := HRM.out.2.1
            have hlz := HRM.out.2.2
            have hw3 := HW3.out.1
            have wn := HW3.out.2.1
            have wat := HW3.out.2.2.1
            have hne := HW3.out.2.2.2
            go_simp
            exact rfl) ?_; simp only [Act.put, List.setIfInBounds_toArray, List.set_cons_zero, List.set_cons_succ])
        refine wpPar_nil (fun we hW hG => ?_)
        obtain ⟨lo1, hi1, lo2, hi2, bss⟩ : ∃ lo hi lo' hi', Bss we lo hi lo' hi' (.slice (some ⟨gB, 0, none⟩) 6 6) [Bq, Cq, Bq.take ii, Bq ++ [Go.Pm.byteOf (x : Int)], raw, leB ((n : Int) * 3)] := hG 19
        have Ke := hid (Kd.out.trans hW)
        obtain ⟨ls, hls⟩ : ∃ l : List (List UInt8), l = [Bq, Cq, Bq.take ii, Bq ++ [Go.Pm.byteOf (x : Int)], raw, leB ((n : Int) * 3)] := ⟨_, rfl⟩
        have hl6 : ls.length = 6 := by rw [hls]; rfl
        have hll : ∀ z ∈ ls, z.length ≤ 20000 := fun z hz => by
          rw [hls] at hz
          have h1 := HBL.out
          have h2 := HLC.out
          have h3 := HR200.out
          have h4 := HRW.out.2
          simp only [List.mem_cons, List.not_mem_nil, or_false] at hz
          rcases hz with rfl | rfl | rfl | rfl | rfl | rfl
          · omega
          · omega
          · rw [List.length_take]; omega
          · rw [List.length_append, List.length_singleton]; omega
          · omega
          · rw [leB_length]; omega
        rw [← hls] at bss
        have BSS := hid bss
        have HLS6 := hid (And.intro hl6 hll)
        clear hG hW bss hls hl6 hll Kd D20 D21 D22 RWd HW3 HS1 HRM HLC
        go_wp2
        go_loopg [120] 6 (fun kx s120 wr => ∃ j6 : Nat, s120 = .int .i64 j6 ∧ j6 ≤ 6 ∧ 6 - j6 ≤ kx ∧ Hid (Kept None we wr))
        case atStart => exact ⟨0, rfl, by omega, by omega, Kept.refl _ _⟩
        case round =>
          obtain ⟨j6, rfl, hj6, hjx6, HKr6⟩ := hrel
          by_cases hlt6 : j6 < 6
          · have hjz6 : (j6 : Int) < 6 := by omega
            obtain ⟨wh, rfl⟩ : ∃ wh : World, wh = wr := ⟨_, rfl⟩
            have hj6l : j6 < ls.length := by have := HLS6.out.1; omega
            obtain ⟨b', o', e1, _, _, _, hcx⟩ := (BSS.out.kept HKr6.out (fun _ _ _ h => h) (fun _ _ _ h => h)).at (by omega)
            obtain ⟨az, cz, hcell, dz⟩ := hcx j6 hj6l
            have hzl := HLS6.out.2 ls[j6] (List.getElem_mem hj6l)
            injection e1 with e1
            injection e1 with e1 e3
            rw [← e1, ← e3, Nat.zero_add] at hcell
            obtain ⟨zl, hzz⟩ : ∃ z, z = ls[j6] := ⟨_, rfl⟩
            rw [← hzz] at hcell dz hzl
            have fR := fun v lo hi W h => readA v lo hi zl W h (by omega)
            have fRR := fun v lo hi W h => rreadA v lo hi zl W h (by omega)
            obtain ⟨qe, hqe⟩ : ∃ e, e = readEP zl := ⟨_, rfl⟩
            obtain ⟨qq, hqq⟩ : ∃ e, e = readQP zl := ⟨_, rfl⟩
            rw [← hqe, ← hqq] at fR fRR
            have FR := hid fR
            have FRR := hid fRR
            have DZ := hid dz
            have hee : (qe != qe) = false := by simp
            clear hcx e1 e3 hzz hzl fR fRR hqe hqq dz hj6l
            go_wp2_with fail
            clear hcell
            refine (FR.out _ _ _ wh DZ.out).mono ?_
            rintro e wi ⟨A1, rfl, ki, p1⟩
            have Ki := hid (HKr6.out.trans ki)
            have DZi := hid (DZ.out.kept ki (fun _ _ _ h => h))
            have aA1 := PV.agg p1
            have HA1 := hid (And.intro p1.size p1.all)
            obtain ⟨z1, hz1, hZ1⟩ := Blk.any (n := 66) (Blk.new wi Try.zeroCells63 63) (by rfl)
            have E1 := hid (hz1.trans p1.size.symm)
            have P1 := hid p1
            clear ki p1 hz1 DZ
            go_wp2_with (first | (refine wpList_store_blk (.refl _) _ _ _ rfl rfl rfl hZ1 aA1 E1.out HA1.out.2 ?_; intro wj h24 kj; have kij := kj.fresh) | fail)
            have Kj := hid (Ki.out.trans kij)
            have DZj := hid (DZi.out.kept kij (fun _ _ _ h => h))
            have P1j := hid (P1.out.kept kij)
            have B24 := hid h24
            obtain ⟨g24, hg24⟩ : ∃ g, g = wi.heap.size := ⟨_, rfl⟩
            rw [← hg24] at B24 ⊢
            clear kj kij h24 hg24 hZ1 E1 DZi P1 Ki
            refine (FRR.out _ _ _ wj DZj.out).mono ?_
            rintro e wk ⟨A2, rfl, kk, p2⟩
            have Kk := hid (Kj.out.trans kk)
            have P1k := hid (P1j.out.kept kk)
            have B24k := hid (B24.out.kept kk (fun h => h))
            have aA2 := PV.agg p2
            have HA2 := hid (And.intro p2.size p2.all)
            obtain ⟨z2, hz2, hZ2⟩ := Blk.any (n := 66) (Blk.new wk Try.zeroCells63 63) (by rfl)
            have E2 := hid (hz2.trans p2.size.symm)
            have P2 := hid p2
            clear kk p2 hz2 DZj P1j B24 Kj
            go_wp2_with (first | go_skip | (refine wpList_store_blk (.refl _) _ _ _ rfl rfl rfl hZ2 aA2 E2.out HA2.out.2 ?_; intro wl h26 kl; have kkl := kl.fresh; have B24l := B24k.out.kept kkl (fun h => h)) | (refine wpList_load_bw (by kernel_rfl) rfl rfl B24l aA1 ?_) | (refine wpList_load_bw (by kernel_rfl) rfl rfl h26 aA2 ?_) | fail)
            have Kl := hid (Kk.out.trans kkl)
            have hsm := sameA qq qq A1 A2 wl (P1k.out.kept kkl) (P2.out.kept kkl)
            rw [decide_eq_true rfl] at hsm
            clear kl kkl h26 B24l hZ2 E2 Kk B24k P1k P2
            refine hsm.mono ?_
            rintro e wm ⟨rfl, km⟩
            have Km := hid (Kl.out.trans km)
            clear km hsm Kl
            go_wp2
            go_roundg (6 - (j6 + 1))
            case measure => omega
            case rel => exact ⟨j6 + 1, by go_num, by omega, by omega, Km⟩
          · have hjz6 : ¬ (j6 : Int) < 6 := by omega
            have KN := hid (Ke.out.trans HKr6.out)
            go_wp2
            go_roundg (3 - (j + 1))
            case measure => omega
            case rel => exact ⟨j + 1, by go_num, by omega, by omega, KN⟩
    · have hjz : ¬ (j : Int) < 3 := by omega
      have kN := KR.out.trans HKr.out
      go_wp2
      go_ret
      exact ⟨rfl, kN⟩
end Pr
end Go.Proofs.Ytidegffdhpdhjaa
