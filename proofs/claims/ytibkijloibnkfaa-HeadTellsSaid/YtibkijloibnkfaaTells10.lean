/- postmarklaw10.HeadTells: true, where Epochs tells some heads. -/
import Derived.Test.YtibkijloibnkfaaBent10
import Derived.Test.YtibkijloibnkfaaHdBuild10
import Derived.Test.YtibkijloibnkfaaKnown10
import Derived.Great.BuildSlice
import Derived.Deep.LoopGhost
import Derived.Deep.DeepCutAuto
namespace Go.Pm
open Go Go.RowKit
/-- A row of heads that may be. -/
def Hds (w : World) (u : Value) (hs : List Hd) : Prop := ∃ a c, u = .slice a hs.length c ∧ hs.length ≤ 1000000 ∧ ∀ i (h : i < hs.length), hs[i].Ok ∧ ∃ b o, a = some ⟨b, o, none⟩ ∧ w.rangeAt b (o + i * 69) (hdC hs[i])
theorem Hds.kept {w w' : World} {u : Value} {hs : List Hd} (h : Hds w u hs) (hk : Kept None w w') : Hds w' u hs := by
  obtain ⟨a, c, h1, h2, h3⟩ := h
  refine ⟨a, c, h1, h2, fun i hi => ?_⟩
  obtain ⟨ho, b, o, e, r⟩ := h3 i hi
  exact ⟨ho, b, o, e, rangeAt_kept r hk⟩
theorem fill_four10 (k : Nat) (hk : 0 < k) (z A B C D : Array Value) (hz : z.size = 4 * k) (hA : A.size = k) (hB : B.size = k) (hC : C.size = k) (hD : D.size = k) : Instr.fill (fun i => some (i * k, k)) z [(0, .agg A), (1, .agg B), (2, .agg C), (3, .agg D)] = some (A ++ (B ++ (C ++ D))) := by
  have h := Go.Great.fill_whole (s := k) hk [.agg A, .agg B, .agg C, .agg D] z (by
    intro v hv
    simp only [List.mem_cons, List.not_mem_nil, or_false] at hv
    rcases hv with rfl | rfl | rfl | rfl
    · exact hA
    · exact hB
    · exact hC
    · exact hD) (by simp [hz])
  have e : (([Value.agg A, Value.agg B, Value.agg C, Value.agg D].zipIdx 0).map fun x => (x.2, x.1)) = [(0, Value.agg A), (1, Value.agg B), (2, Value.agg C), (3, Value.agg D)] := rfl
  rw [e] at h
  rw [h]
  congr 1
  apply Array.ext'
  simp [Value.cells]
theorem exec_four10 {P : Program} {o : Oper} {ev : Operand → Value} {w : World} (t : TypeId) (x y u v : Operand) (ho : o.op = .buildSlice t 4 #[(0, x), (1, y), (2, u), (3, v)])
    {e : TypeId} {z : Value} {k bytes : Nat} (hT : RowTyK P t e z k bytes) (hk : k ≤ 1000) {A B C D : Array Value} (hx : ev x = .agg A) (hy : ev y = .agg B) (hu : ev u = .agg C) (hv : ev v = .agg D) (hA : A.size = k) (hB : B.size = k) (hC : C.size = k) (hD : D.size = k) :
    (execOp ev o).run P w = .ok (.value (.slice (some ⟨w.heap.size, 0, none⟩) 4 4)) (w.alloc (.cells (A ++ (B ++ (C ++ D))) e)) := by
  obtain ⟨i, hi, hz, hs, hb⟩ := hT.info
  have hp := hT.pos
  have hr := run_buildSlice (P := P) w t e 4 #[(0, .agg A), (1, .agg B), (2, .agg C), (3, .agg D)] (A ++ (B ++ (C ++ D))) i z hT.sl hi hz (by omega) (by omega) (by rw [hs]; exact fill_four10 k hp _ A B C D (by simp) hA hB hC hD)
  unfold execOp
  simp only [ho, Sem.run_bind]
  rw [show (#[(0, x), (1, y), (2, u), (3, v)] : Array (Nat × Operand)).map (fun (i, x) => (i, ev x)) = #[(0, .agg A), (1, .agg B), (2, .agg C), (3, .agg D)] by simp [hx, hy, hu, hv]]
  rw [hr]
  rfl
theorem range_in10 {w : World} {g k : Nat} {t : TypeId} {L M R X : Array Value} (hb : Blk w g X t) (hX : X = L ++ (M ++ R)) (hL : L.size = k) : w.rangeAt g k M.toList := fun j v hv => by
  have h := hb.cell (k + j)
  rw [h]
  have hj : j < M.size := by simpa using (List.getElem?_eq_some_iff.1 hv).1
  have : X[k + j]? = some v := by
    rw [hX, Array.getElem?_append_right (by omega), show k + j - L.size = j by omega, Array.getElem?_append_left hj, ← Array.getElem?_toList]; exact hv
  exact this
theorem four_heads {w : World} {g : Nat} {t : TypeId} {a b c d : Hd} (ha : a.Ok) (hb' : b.Ok) (hc : c.Ok) (hd : d.Ok) (hb : Blk w g ((hdC a).toArray ++ ((hdC b).toArray ++ ((hdC c).toArray ++ (hdC d).toArray))) t) (j : Nat) (hj : j < 4) : ∃ h : Hd, h.Ok ∧ w.rangeAt g (j * 69) (hdC h) := by
  have sa := hdC_size ha
  have sb := hdC_size hb'
  have sc := hdC_size hc
  have sd := hdC_size hd
  have h0 : j = 0 ∨ j = 1 ∨ j = 2 ∨ j = 3 := by omega
  rcases h0 with rfl | rfl | rfl | rfl
  · exact ⟨a, ha, range_in10 (L := #[]) (M := (hdC a).toArray) hb (by rw [Array.empty_append]) rfl⟩
  · exact ⟨b, hb', range_in10 (L := (hdC a).toArray) (M := (hdC b).toArray) hb rfl (by omega)⟩
  · exact ⟨c, hc, range_in10 (L := (hdC a).toArray ++ (hdC b).toArray) (M := (hdC c).toArray) hb (by rw [Array.append_assoc]) (by rw [Array.size_append]; omega)⟩
  · exact ⟨d, hd, range_in10 (L := (hdC a).toArray ++ (hdC b).toArray ++ (hdC c).toArray) (M := (hdC d).toArray) (R := #[]) hb (by rw [Array.append_empty, Array.append_assoc, Array.append_assoc]) (by rw [Array.size_append, Array.size_append]; omega)⟩
abbrev Fct.hd10 (k : Nat) (uses : List Nat := []) : Fct := { k := k, uses := uses, pure := fun u => ∃ h : Hd, h.Ok ∧ u = hdV h, fact := fun _ _ => True }
theorem Steady.hd10 {l : List Fct} {k : Nat} {us : List Nat} (h : Steady l) : Steady (.hd10 k us :: l) := .cons ⟨_, zeroHd, zeroHd_ok, rfl⟩ (fun _ _ _ _ _ => trivial) h
abbrev Fct.four10 (k : Nat) (uses : List Nat := []) : Fct := { k := k, uses := uses, pure := fun u => ∃ g, u = .slice (some ⟨g, 0, none⟩) 4 4, fact := fun u W => ∃ g, u = .slice (some ⟨g, 0, none⟩) 4 4 ∧ ∀ j, j < 4 → ∃ h : Hd, h.Ok ∧ W.rangeAt g (j * 69) (hdC h) }
theorem Steady.four10 {l : List Fct} {k : Nat} {us : List Nat} (h : Steady l) : Steady (.four10 k us :: l) := .cons ⟨_, 0, rfl⟩ (fun _ _ _ hk ⟨g, h1, h2⟩ => ⟨g, h1, fun j hj => by
  obtain ⟨X, p, r⟩ := h2 j hj
  exact ⟨X, p, rangeAt_kept r hk⟩⟩) h
end Go.Pm
namespace Go.Proofs.Ytibkijloibnkfaa
open Go.RowKit Go.Pm
namespace H10
open Hp (aHd aHd')
theorem rtHeads : RowTyK Try.prog 34 28 (.agg Try.zeroCells28) 69 104 := Hk.rtyK (by kernel_rfl) (by kernel_rfl) (by rfl) (by decide)
set_option maxRecDepth 100000 in
set_option maxHeartbeats 8000000 in
theorem tells (HE : ∀ v lo hi l W, Bs W lo hi v l → l.length ≤ 6 → Calls Try.prog 8 #[.int .u64 5, v] W fun e w' => ∃ a b u hs, e = .returned (.tuple #[a, b, u]) ∧ Kept None W w' ∧ Hds w' u hs)
    (z : Hd) (v : Value) (lo hi : Nat) (l : List UInt8) (k what : Nat) (x : Int) (raw : List UInt8) (sx sy : Nat) (w : World) (hz : z.Ok) (hv : Bs w lo hi v l) (hk : k < 256) (hwh : what < 256) (hx : -9223372036854775808 ≤ x ∧ x < 9223372036854775808) (hraw : raw.length = 32) (hsx : sx < 18446744073709551616) (hsy : sy < 18446744073709551616) :
    Calls Try.prog 3 #[hdV z, v, .int .u8 k, .int .u8 what, .int .i64 x, hashV raw, .int .u64 sx, .int .u64 sy] w fun e w' => e = .returned (.bool true) ∧ Kept None w w' := by
  obtain ⟨a, cap, rfl, q1, q2, q3⟩ := hv.shape
  obtain ⟨N, hN⟩ : ∃ n, n = l.length := ⟨_, rfl⟩
  rw [← hN] at hv q1 ⊢
  obtain ⟨ZA, hZA⟩ : ∃ X, X = (hdC z).toArray := ⟨_, rfl⟩
  have aZ : AggTy Try.prog 28 ZA.size := by rw [hZA]; exact aHd' hz
  have aR := Hk.aH32 hraw
  have hbd := fun w => Hp.build4 w ((k : Int) + 1) ((k : Int) * 3) ((k : Int) % 8 + 1) raw hraw
  obtain ⟨h0, hh0⟩ : ∃ h : Hd, h = ⟨(k : Int) + 1, (k : Int) * 3, (k : Int) % 8 + 1, raw, zero32, 0, 0⟩ := ⟨_, rfl⟩
  have ok0 : h0.Ok := by rw [hh0]; exact ⟨hraw, rfl, zeroHd_ok.2.2⟩
  rw [← hh0] at hbd
  have fS := fun W => RHp.sign 5 h0 W ok0
  have ok1 := signHd_ok 5 ok0
  obtain ⟨h1, hh1⟩ : ∃ h, h = signHd 5 h0 := ⟨_, rfl⟩
  rw [← hh1] at fS ok1
  obtain ⟨MA, hMA⟩ : ∃ X, X = (hdC h1).toArray := ⟨_, rfl⟩
  simp only [hdV] at fS hbd
  rw [← hMA] at fS
  have aM : AggTy Try.prog 28 MA.size := by rw [hMA]; exact aHd' ok1
  have HMA := hid (And.intro (show 69 = MA.size by rw [hMA]; exact (hdC_size ok1).symm) (And.intro (show MA.all (·.oneCell') = true by rw [hMA]; exact hdC_one _) (And.intro hMA ok1)))
  simp only [hashV] at hbd
  show Calls _ _ #[.agg (hdC z).toArray, .slice a N cap, .int .u8 k, .int .u8 what, .int .i64 x, .agg (raw.map u8v).toArray, .int .u64 sx, .int .u64 sy] w _
  rw [← hZA]
  have wk1 : IntKind.i64.wrap (k : Int) = (k : Int) := by rw [IntKind.wrap_i64]; omega
  have wk2 : IntKind.i64.wrap ((k : Int) + 1) = (k : Int) + 1 := by rw [IntKind.wrap_i64]; omega
  have wk3 : IntKind.i64.wrap ((k : Int) * 3) = (k : Int) * 3 := by rw [IntKind.wrap_i64]; omega
  have k0 : Kept None w ((w.alloc (.cells ZA 28)).alloc (.cells (raw.map u8v).toArray 23)) := ((Kept.refl _ _).alloc _).alloc _
  have bZ : Blk ((w.alloc (.cells ZA 28)).alloc (.cells (raw.map u8v).toArray 23)) w.heap.size ZA 28 := (Blk.new w _ _).alloc _
  have bR : Blk ((w.alloc (.cells ZA 28)).alloc (.cells (raw.map u8v).toArray 23)) (w.heap.size + 1) (raw.map u8v).toArray 23 := Blk.new2 w _ _ _
  have HB := hid hbd
  have FS := hid fS
  have HV := hid (And.intro hv hN)
  have HZ := hid (And.intro hZA hz)
  have HKW := hid (And.intro hwh (And.intro hx (And.intro hraw (And.intro hsx hsy))))
  have AR := hid aR
  have AZ := hid aZ
  clear hbd fS hv hN hZA hz hwh hx hraw hsx hsy hh0 ok0 hh1 ok1 hMA q3 aR aZ
  go_enter Try.func3, Try.ntmps3
  go_wp2_with fail
  refine Calls.nm ?_
  intro w0 e0
  rw [← e0] at k0 bZ bR
  clear e0
  refine (known w0).mono ?_
  rintro e w1 ⟨rfl, k1⟩
  have K1 := hid (k0.trans k1)
  have B8 := hid (bZ.kept k1 (fun h => h))
  have B13 := hid (bR.kept k1 (fun h => h))
  clear k0 k1 bZ bR
  by_cases h6 : 6 < N
  · have z6 : decide ((6 : Int) < (N : Int)) = true := by rw [decide_eq_true_eq]; omega
    go_wp2_with (first | go_skip | fail)
    go_ret
    exact ⟨rfl, K1.out⟩
  have z6 : decide ((6 : Int) < (N : Int)) = false := by rw [decide_eq_false_iff_not]; omega
  have aR := AR.out
  go_wp2_with (first | (refine wpList_load_blk rfl _ _ rfl rfl B13.out aR ?_; refine wpList_build_four rfl rfl rfl rfl rfl rfl (HB.out _) ?_) | fail)
  refine (FS.out w1).mono ?_
  rintro e w2 ⟨rfl, k2⟩
  have K2 := hid (K1.out.trans k2)
  have B8 := hid (B8.out.kept k2 (fun h => h))
  have B13 := hid (B13.out.kept k2 (fun h => h))
  have HS2 := hid (show w.heap.size + 1 < w2.heap.size from B13.out.lt)
  obtain ⟨z2, hz2, hZ2⟩ := Blk.any (n := 69) (Blk.new w2 Try.zeroCells28 28) (by rfl)
  have E2 := hid (hz2.trans HMA.out.1)
  clear k2 hz2 K1 FS HB z6 wk1 wk2 wk3
  go_wp2_with (first | (refine wpList_store_blk rfl _ _ _ rfl rfl rfl hZ2 aM E2.out HMA.out.2.1 ?_; intro w3 h17 k3; have k23 := k3.fresh) | fail)
  have K3 := hid (K2.out.trans k23)
  have B8 := hid (B8.out.kept k23 (fun h => h))
  have B13 := hid (B13.out.kept k23 (fun h => h))
  have B17 := hid h17
  obtain ⟨g17, hg17⟩ : ∃ g, g = w2.heap.size := ⟨_, rfl⟩
  have HG := hid (show w.heap.size + 2 ≤ g17 by have := HS2.out; omega)
  rw [← hg17] at B17 ⊢
  clear k3 k23 h17 hg17 hZ2 E2 K2
  refine (HE _ _ _ l w3 (HV.out.1.kept K3.out (fun _ _ _ h => h)) (by have := HV.out.2; omega)).mono ?_
  rintro e w4 ⟨u18, u19, u20, hs, rfl, k4, hh⟩
  have K4 := hid (K3.out.trans k4)
  have B8 := hid (B8.out.kept k4 (fun h => h))
  have B13 := hid (B13.out.kept k4 (fun h => h))
  have B17 := hid (B17.out.kept k4 (fun h => h))
  obtain ⟨ah, ch, rfl, hlen, h3⟩ := hh
  have HH3 := hid h3
  obtain ⟨n, hn⟩ : ∃ n, n = hs.length := ⟨_, rfl⟩
  rw [← hn] at hlen ⊢
  have HNH := hid hn
  clear k4 K3 hn h6 h3
  go_upto_if 57 with fail
  go_cut [17] (fun s17 wx => s17 = .pointer (some ⟨g17, 0, none⟩) ∧ ∃ m : Hd, Hid m.Ok ∧ Hid (Blk wx g17 (hdC m).toArray 28) ∧ Hid (Kept None w wx) ∧ Hid (Blk wx w.heap.size ZA 28) ∧ Hid (Blk wx (w.heap.size + 1) (raw.map u8v).toArray 23))
  case first =>
    by_cases h0 : 0 < n
    · have z0 : decide ((0 : Int) < (n : Int)) = true := by rw [decide_eq_true_eq]; omega
      obtain ⟨r, hr⟩ : ∃ r : Nat, r = k % n := ⟨_, rfl⟩
      have mi : (k : Int) % (n : Int) = (r : Int) := by rw [hr]; rfl
      have mit : (k : Int).tmod (n : Int) = (r : Int) := by rw [hr]; rfl
      have lix : r < n := by rw [hr]; exact Nat.mod_lt _ h0
      have wq : IntKind.i64.wrap (k : Int) = (k : Int) := by rw [IntKind.wrap_i64]; omega
      have lixz : (r : Int) < (n : Int) := by omega
      have h0p : (0 : Int) < (n : Int) := by omega
      have hnz : ¬ (n : Int) = 0 := by omega
      have hlr : r < hs.length := by rw [← HNH.out]; exact lix
      obtain ⟨okr, b, o, rfl, rr⟩ := HH3.out r hlr
      obtain ⟨m, hm⟩ : ∃ m, m = hs[r] := ⟨_, rfl⟩
      rw [← hm] at okr rr
      obtain ⟨CL, hCL⟩ : ∃ c, c = hdC m := ⟨_, rfl⟩
      rw [← hCL] at rr
      have aCL : AggTy Try.prog 28 CL.length := by rw [hCL, hdC_len okr]; exact aHd
      have aCA : AggTy Try.prog 28 CL.toArray.size := by rw [List.size_toArray]; exact aCL
      have HC := hid (And.intro (show MA.size = CL.toArray.size by rw [← HMA.out.1, hCL]; exact (hdC_size okr).symm) (show CL.toArray.all (·.oneCell') = true by rw [hCL]; exact hdC_one _))
      have RR := hid rr
      have HO := hid (And.intro okr hCL)
      clear hr rr hCL hm okr hlr
      go_wp2_with (first | (refine wpList_load_at rfl _ _ rfl rfl RR.out aCL ?_) | (refine wpList_store_blk rfl _ _ _ rfl rfl rfl B17.out aCA HC.out.1 HC.out.2 ?_; intro w5 h5 k5) | fail)
      have K5 := hid (K4.out.then k5 (fun i hi (h : i = g17) => by have := HG.out; omega))
      have B8 := hid (B8.out.kept k5 (fun (h : w.heap.size = g17) => by have := HG.out; omega))
      have B13 := hid (B13.out.kept k5 (fun (h : w.heap.size + 1 = g17) => by have := HG.out; omega))
      have H5 := hid h5
      clear k5 h5
      go_meet
      exact ⟨rfl, m, hid HO.out.1, hid (by rw [← HO.out.2]; exact H5.out), K5, B8, B13⟩
    · have z0 : decide ((0 : Int) < (n : Int)) = false := by rw [decide_eq_false_iff_not]; omega
      go_wp2_with fail
      go_meet
      exact ⟨rfl, h1, hid HMA.out.2.2.2, hid (by rw [← HMA.out.2.2.1]; exact B17.out), K4, B8, B13⟩
  case rest =>
    obtain ⟨rfl, m, OKM, B17, K5, B8, B13⟩ := hcut
    obtain ⟨w6, rfl⟩ : ∃ w6 : World, w6 = wc := ⟨_, rfl⟩
    obtain ⟨MB, hMB⟩ : ∃ X, X = (hdC m).toArray := ⟨_, rfl⟩
    rw [← hMB] at B17
    have aMB : AggTy Try.prog 28 MB.size := by rw [hMB]; exact aHd' OKM.out
    have aZ := AZ.out
    have HMB := hid (And.intro hMB OKM.out)
    have HSZ := hid (And.intro (show ZA.size = 69 by rw [HZ.out.1]; exact hdC_size HZ.out.2) (show MB.size = 69 by rw [hMB]; exact hdC_size OKM.out))
    have fB : ∀ W (y : Int), Calls Try.prog 9 #[.agg MB, .int .u8 what, .int .i64 y, .agg (raw.map u8v).toArray] W fun e w' => ∃ h', h'.Ok ∧ e = .returned (hdV h') ∧ Kept None W w' := fun W y => by
      rw [hMB]
      exact bent m what y raw W OKM.out HKW.out.1 HKW.out.2.2.1
    have FB := hid fB
    clear hMB fB K4
    go_wp2_with fail
    have hs : Steady [.hd10 6, .hd10 12, .four10 13] := Go.Pm.Steady.hd10 (Go.Pm.Steady.hd10 (Go.Pm.Steady.four10 (Go.Pm.Steady.nil)))
    refine wp_region_kn w6 _ hs (Kept.refl _ _) (by kernel_rfl) (by kernel_rfl) (by kernel_rfl) ?_
    refine wpPar_pure rfl (by rfl) _ (fun W hW => by first | exact exec_load_blk _ _ rfl rfl (B8.out.kept hW (fun h => h)) aZ | exact exec_load_blk _ _ rfl rfl (B17.out.kept hW (fun h => h)) aMB | exact exec_load_blk _ _ rfl rfl (B13.out.kept hW (fun h => h)) aR | (go_simp; exact rfl)) ?_; simp only [Act.put, List.setIfInBounds_toArray, List.set_cons_zero, List.set_cons_succ]
    refine wpPar_pure rfl (by rfl) _ (fun W hW => by first | exact exec_load_blk _ _ rfl rfl (B8.out.kept hW (fun h => h)) aZ | exact exec_load_blk _ _ rfl rfl (B17.out.kept hW (fun h => h)) aMB | exact exec_load_blk _ _ rfl rfl (B13.out.kept hW (fun h => h)) aR | (go_simp; exact rfl)) ?_; simp only [Act.put, List.setIfInBounds_toArray, List.set_cons_zero, List.set_cons_succ]
    refine wpPar_pure rfl (by rfl) _ (fun W hW => by first | exact exec_load_blk _ _ rfl rfl (B8.out.kept hW (fun h => h)) aZ | exact exec_load_blk _ _ rfl rfl (B17.out.kept hW (fun h => h)) aMB | exact exec_load_blk _ _ rfl rfl (B13.out.kept hW (fun h => h)) aR | (go_simp; exact rfl)) ?_; simp only [Act.put, List.setIfInBounds_toArray, List.set_cons_zero, List.set_cons_succ]
    iterate 2 (refine wpPar_pure rfl (by rfl) _ (fun W hW => by
        go_simp
        exact rfl) ?_; simp only [Act.put, List.setIfInBounds_toArray, List.set_cons_zero, List.set_cons_succ])
    refine wpPar_pure rfl (by rfl) _ (fun W hW => by first | exact exec_load_blk _ _ rfl rfl (B8.out.kept hW (fun h => h)) aZ | exact exec_load_blk _ _ rfl rfl (B17.out.kept hW (fun h => h)) aMB | exact exec_load_blk _ _ rfl rfl (B13.out.kept hW (fun h => h)) aR | (go_simp; exact rfl)) ?_; simp only [Act.put, List.setIfInBounds_toArray, List.set_cons_zero, List.set_cons_succ]
    refine wpKn_adds hs rfl (by rfl) (fun W hW hd => ?_) (fun v6 hv => ?_)
    · unfold Gives
      go_simp
      refine gives_call (FB.out W _) ?_
      rintro e w3 ⟨h3, o3, rfl, k3⟩
      exact ⟨_, rfl, k3, ⟨_, o3, rfl⟩, trivial⟩
    obtain ⟨m6, o6, rfl⟩ : ∃ h : Hd, h.Ok ∧ v6 = hdV h := hv
    simp only [Act.put, List.setIfInBounds_toArray, List.set_cons_zero, List.set_cons_succ]
    refine wpPar_pure rfl (by rfl) _ (fun W hW => by first | exact exec_load_blk _ _ rfl rfl (B8.out.kept hW (fun h => h)) aZ | exact exec_load_blk _ _ rfl rfl (B17.out.kept hW (fun h => h)) aMB | exact exec_load_blk _ _ rfl rfl (B13.out.kept hW (fun h => h)) aR | (go_simp; exact rfl)) ?_; simp only [Act.put, List.setIfInBounds_toArray, List.set_cons_zero, List.set_cons_succ]
    iterate 3 (refine wpPar_pure rfl (by rfl) _ (fun W hW => by
        go_simp
        exact rfl) ?_; simp only [Act.put, List.setIfInBounds_toArray, List.set_cons_zero, List.set_cons_succ])
    refine wpPar_pure rfl (by rfl) _ (fun W hW => by first | exact exec_load_blk _ _ rfl rfl (B8.out.kept hW (fun h => h)) aZ | exact exec_load_blk _ _ rfl rfl (B17.out.kept hW (fun h => h)) aMB | exact exec_load_blk _ _ rfl rfl (B13.out.kept hW (fun h => h)) aR | (go_simp; exact rfl)) ?_; simp only [Act.put, List.setIfInBounds_toArray, List.set_cons_zero, List.set_cons_succ]
    refine wpKn_adds hs rfl (by rfl) (fun W hW hd => ?_) (fun v12 hv => ?_)
    · unfold Gives
      go_simp
      refine gives_call (FB.out W _) ?_
      rintro e w3 ⟨h3, o3, rfl, k3⟩
      exact ⟨_, rfl, k3, ⟨_, o3, rfl⟩, trivial⟩
    obtain ⟨m12, o12, rfl⟩ : ∃ h : Hd, h.Ok ∧ v12 = hdV h := hv
    simp only [Act.put, List.setIfInBounds_toArray, List.set_cons_zero, List.set_cons_succ]
    refine wpKn_adds hs rfl (by rfl) (fun W hW hd => ?_) (fun v13 hv => ?_)
    · unfold Gives
      rw [exec_four10 34 (.tmp 66) (.tmp 67) (.tmp 72) (.tmp 78) rfl rtHeads (by decide) rfl rfl rfl rfl HSZ.out.1 HSZ.out.2 (hdC_size o6) (hdC_size o12)]
      have kA : ∀ c, Kept None W (W.alloc c) := fun c => (Kept.refl None W).alloc c
      refine ⟨kA _, ⟨_, rfl⟩, _, rfl, ?_⟩
      rw [HZ.out.1, HMB.out.1]
      exact four_heads HZ.out.2 HMB.out.2 o6 o12 (Blk.new W _ _)
    obtain ⟨g13, rfl⟩ : ∃ g, v13 = .slice (some ⟨g, 0, none⟩) 4 4 := hv
    simp only [Act.put, List.setIfInBounds_toArray, List.set_cons_zero, List.set_cons_succ]
    iterate 2 (refine wpPar_pure rfl (by rfl) _ (fun W hW => by
        go_simp
        exact rfl) ?_; simp only [Act.put, List.setIfInBounds_toArray, List.set_cons_zero, List.set_cons_succ])
    refine wpPar_nil (fun wR hW hG => ?_)
    obtain ⟨g, hg3, hrow⟩ : ∃ g, Value.slice (some ⟨g13, 0, none⟩) 4 4 = .slice (some ⟨g, 0, none⟩) 4 4 ∧ ∀ j, j < 4 → ∃ h : Hd, h.Ok ∧ wR.rangeAt g (j * 69) (hdC h) := hG 13
    obtain rfl : g13 = g := by simpa using hg3
    have KR := hid (K5.out.trans hW)
    have ROW := hid hrow
    clear hG hs hW hg3 hrow K5 B8 B13 B17 FB
    go_wp2
    have BASE := hid (Kept.refl None wR)
    go_loopg [81] 4 (fun kx s81 wr => ∃ j : Nat, s81 = .int .i64 j ∧ j ≤ 4 ∧ 4 - j ≤ kx ∧ Hid (Kept None wR wr))
    case atStart => exact ⟨0, rfl, by omega, by omega, BASE.out⟩
    case round =>
      obtain ⟨j, rfl, hj, hjx, HKr⟩ := hrel
      by_cases hlt : j < 4
      · have hjz : (j : Int) < 4 := by omega
        obtain ⟨wo, rfl⟩ : ∃ wo : World, wo = wr := ⟨_, rfl⟩
        obtain ⟨h, okh, hrc⟩ := ROW.out j hlt
        have hrc := rangeAt_kept hrc HKr.out
        obtain ⟨CQ, hCQ⟩ : ∃ c, c = hdC h := ⟨_, rfl⟩
        rw [← hCQ] at hrc
        obtain ⟨X, hX⟩ : ∃ x, x = (hdC h).toArray := ⟨_, rfl⟩
        have hQ : CQ.toArray = X := by rw [hCQ, hX]
        have aX : AggTy Try.prog 28 X.size := by rw [hX]; exact aHd' okh
        have aCQ : AggTy Try.prog 28 CQ.length := by rw [hCQ, hdC_len okh]; exact aHd
        have RQ := hid hrc
        have HQ := hid hQ
        have HX := hid (And.intro (show 69 = X.size by rw [hX]; exact (hdC_size okh).symm) (And.intro (show X.all (·.oneCell') = true by rw [hX]; exact hdC_one _) (And.intro hX okh)))
        have fp := fun W => Hp.put h W okh
        have fq := fun W => RHp.put h W okh
        simp only [hdV, ← hX] at fp fq
        obtain ⟨BL, hBL⟩ : ∃ l, l = putHdL h := ⟨_, rfl⟩
        obtain ⟨BE, hBE⟩ : ∃ l, l = putHdE h := ⟨_, rfl⟩
        rw [← hBL, ← hBE] at fp fq
        have FP := hid fp
        have FQ := hid fq
        have HBB := hid (And.intro hBL hBE)
        obtain ⟨y, hy, hY⟩ := Blk.any (n := 69) (Blk.new wo Try.zeroCells28 28) (by rfl)
        have EY := hid (hy.trans HX.out.1)
        clear hCQ hrc hQ hX okh fp fq hBL hBE hy
        go_upto_region 12 with (first | (refine wpList_load_at rfl _ _ rfl rfl RQ.out aCQ ?_; rw [HQ.out]) | (refine wpList_store_blk (.refl _) _ _ _ rfl rfl rfl hY aX EY.out HX.out.2.1 ?_; intro wa h22 ka; have koa := ka.fresh) | fail)
        have Ka := hid (HKr.out.trans koa)
        have B22 := hid h22
        obtain ⟨g22, hg22⟩ : ∃ g, g = wo.heap.size := ⟨_, rfl⟩
        rw [← hg22] at B22 ⊢
        clear ka koa h22 hg22 hY EY RQ aCQ HKr
        simp only [Act.put]
        go_wp2_with (first | (refine wpList_load_blk rfl _ _ rfl rfl B22.out aX ?_) | fail)
        refine (FP.out wa).mono ?_
        rintro e wb ⟨u23, rfl, kb, b23⟩
        have Kb := hid (Ka.out.trans kb)
        have B22 := hid (B22.out.kept kb (fun h => h))
        have D23 := hid (b23.bs (Nat.le_refl _))
        obtain ⟨a23, c23, rfl⟩ := b23.form
        clear kb b23 Ka FP
        go_wp2_with (first | (refine wpList_load_blk rfl _ _ rfl rfl B22.out aX ?_) | fail)
        refine (FQ.out wb).mono ?_
        rintro e wc2 ⟨u25, rfl, kc, b25⟩
        have Kc := hid (Kb.out.trans kc)
        have B22 := hid (B22.out.kept kc (fun h => h))
        have D23 := hid (D23.out.kept kc (fun _ _ _ h => h))
        have D25 := hid (b25.bs (Nat.le_refl _))
        obtain ⟨a25, c25, rfl⟩ := b25.form
        clear kc b25 Kb FQ
        go_wp2_with fail
        have okh := HX.out.2.2.2
        have fr1 := fun W => Hp.right h W
        have fr2 := fun W => RHp.right h W
        have fm1 := fun W => Hp.message h W okh
        have fm2 := fun W => RHp.message h W okh
        have fs1 := fun W => Hp.sign sx h W okh
        have fs2 := fun W => RHp.sign sx h W okh
        have eqs := fun W => Hp.neqHead (signHd sx h) (signHd sx h) (signHd_ok sx okh) (signHd_ok sx okh) W
        rw [decide_eq_true (rfl : signHd sx h = signHd sx h)] at eqs
        obtain ⟨rt, hrt⟩ : ∃ b, b = rightHd h := ⟨_, rfl⟩
        rw [← hrt] at fr1 fr2
        obtain ⟨ML, hML⟩ : ∃ b, b = msgHd h := ⟨_, rfl⟩
        rw [← hML] at fm1 fm2
        obtain ⟨SX, hSX⟩ : ∃ b, b = (hdC (signHd sx h)).toArray := ⟨_, rfl⟩
        simp only [hdV, ← hSX, ← HX.out.2.2.1] at fr1 fr2 fm1 fm2 fs1 fs2 eqs
        have FRT := hid (And.intro fr1 fr2)
        have FMS := hid (And.intro fm1 fm2)
        have FSG := hid (And.intro fs1 fs2)
        have EQS := hid eqs
        clear fr1 fr2 fm1 fm2 fs1 fs2 eqs hrt hML hSX okh
        have hs : Steady [.val 12 (.bool rt), .val 14 (.bool rt), .bytes 19 (ML), .val 20 (.string ⟨ML.toArray⟩) [19], .bytes 22 (ML), .val 23 (.string ⟨ML.toArray⟩) [22], .val 29 (.agg SX), .val 32 (.agg SX)] := Go.Pm.Steady.val (Go.Pm.Steady.val (Go.Pm.Steady.bytes (Go.Pm.Steady.val (Go.Pm.Steady.bytes (Go.Pm.Steady.val (Go.Pm.Steady.val (Go.Pm.Steady.val (Go.Pm.Steady.nil))))))))
        refine wp_region_kn wc2 _ hs (Kept.refl _ _) (by kernel_rfl) (by kernel_rfl) (by kernel_rfl) ?_
        iterate 2 (refine wpPar_pure rfl (by rfl) _ (fun W hW => by
            go_simp
            exact rfl) ?_; simp only [Act.put, List.setIfInBounds_toArray, List.set_cons_zero, List.set_cons_succ])
        refine wpPar_pure rfl (by rfl) (.bool false) (fun W hW => by go_simp) ?_; simp only [Act.put, List.setIfInBounds_toArray, List.set_cons_zero, List.set_cons_succ]
        iterate 1 (refine wpPar_pure rfl (by rfl) _ (fun W hW => by
            go_simp
            exact rfl) ?_; simp only [Act.put, List.setIfInBounds_toArray, List.set_cons_zero, List.set_cons_succ])
        refine wpPar_pure rfl (by kernel_rfl) _ (fun W hW => by
            go_simp
            exact rfl) ?_; simp only [Act.put, List.setIfInBounds_toArray, List.set_cons_zero, List.set_cons_succ]
        refine wpPar_pure rfl (by kernel_rfl) (.string ⟨BL.toArray⟩) (fun W hW => by have hcv := cvBytes (D23.out.kept hW (fun _ _ _ h => h)); go_simp) ?_; simp only [Act.put, List.setIfInBounds_toArray, List.set_cons_zero, List.set_cons_succ]
        refine wpPar_pure rfl (by kernel_rfl) _ (fun W hW => by
            go_simp
            exact rfl) ?_; simp only [Act.put, List.setIfInBounds_toArray, List.set_cons_zero, List.set_cons_succ]
        refine wpPar_pure rfl (by kernel_rfl) (.string ⟨BL.toArray⟩) (fun W hW => by have hcv := cvBytes (D25.out.kept hW (fun _ _ _ h => h)); go_simp) ?_; simp only [Act.put, List.setIfInBounds_toArray, List.set_cons_zero, List.set_cons_succ]
        refine wpPar_pure rfl (by kernel_rfl) (.bool false) (fun W hW => by go_simp) ?_; simp only [Act.put, List.setIfInBounds_toArray, List.set_cons_zero, List.set_cons_succ]
        iterate 2 (refine wpPar_pure rfl (by rfl) _ (fun W hW => by
            go_simp
            exact rfl) ?_; simp only [Act.put, List.setIfInBounds_toArray, List.set_cons_zero, List.set_cons_succ])
        refine wpPar_pure rfl (by kernel_rfl) _ (fun W hW => by first | exact exec_load_blk _ _ rfl rfl (B22.out.kept hW (fun h => h)) aX | (go_simp; exact rfl)) ?_; simp only [Act.put, List.setIfInBounds_toArray, List.set_cons_zero, List.set_cons_succ]
        refine wpKn_adds hs rfl (by kernel_rfl) (fun W hW hd => ?_) (fun v12 hv => ?_)
        · unfold Gives
          go_simp
          refine gives_call (FRT.out.1 W) ?_
          rintro e w3 ⟨rfl, k3⟩
          exact ⟨_, rfl, k3, rfl, trivial⟩
        obtain rfl : v12 = .bool rt := hv
        simp only [Act.put, List.setIfInBounds_toArray, List.set_cons_zero, List.set_cons_succ]
        refine wpPar_pure rfl (by kernel_rfl) _ (fun W hW => by first | exact exec_load_blk _ _ rfl rfl (B22.out.kept hW (fun h => h)) aX | (go_simp; exact rfl)) ?_; simp only [Act.put, List.setIfInBounds_toArray, List.set_cons_zero, List.set_cons_succ]
        refine wpKn_adds hs rfl (by kernel_rfl) (fun W hW hd => ?_) (fun v14 hv => ?_)
        · unfold Gives
          go_simp
          refine gives_call (FRT.out.2 W) ?_
          rintro e w3 ⟨rfl, k3⟩
          exact ⟨_, rfl, k3, rfl, trivial⟩
        obtain rfl : v14 = .bool rt := hv
        simp only [Act.put, List.setIfInBounds_toArray, List.set_cons_zero, List.set_cons_succ]
        refine wpPar_pure rfl (by kernel_rfl) (.bool false) (fun W hW => by go_simp) ?_; simp only [Act.put, List.setIfInBounds_toArray, List.set_cons_zero, List.set_cons_succ]
        iterate 2 (refine wpPar_pure rfl (by rfl) _ (fun W hW => by
            go_simp
            exact rfl) ?_; simp only [Act.put, List.setIfInBounds_toArray, List.set_cons_zero, List.set_cons_succ])
        refine wpPar_pure rfl (by kernel_rfl) _ (fun W hW => by first | exact exec_load_blk _ _ rfl rfl (B22.out.kept hW (fun h => h)) aX | (go_simp; exact rfl)) ?_; simp only [Act.put, List.setIfInBounds_toArray, List.set_cons_zero, List.set_cons_succ]
        refine wpKn_adds hs rfl (by kernel_rfl) (fun W hW hd => ?_) (fun v19 hv => ?_)
        · unfold Gives
          go_simp
          refine gives_call (FMS.out.1 W) ?_
          rintro e w3 ⟨u, rfl, k3, b3⟩
          exact ⟨_, rfl, k3, b3.form, _, _, b3.bs (Nat.le_refl _)⟩
        obtain ⟨a19v, c19v, rfl⟩ : ∃ a c, v19 = .slice a ML.length c := hv
        simp only [Act.put, List.setIfInBounds_toArray, List.set_cons_zero, List.set_cons_succ]
        refine wpKn_adds hs rfl (by kernel_rfl) (fun W hW hd => ?_) (fun v20 hv => ?_)
        · unfold Gives
          obtain ⟨lo1, hi1, h1⟩ : ∃ lo hi, Bs W lo hi (.slice a19v ML.length c19v) ML := hd 19 (List.Mem.head _)
          have hcv := cvBytes h1
          go_simp
          exact ⟨Kept.refl _ _, rfl, trivial⟩
        obtain rfl : v20 = .string ⟨ML.toArray⟩ := hv
        simp only [Act.put, List.setIfInBounds_toArray, List.set_cons_zero, List.set_cons_succ]
        refine wpPar_pure rfl (by kernel_rfl) _ (fun W hW => by first | exact exec_load_blk _ _ rfl rfl (B22.out.kept hW (fun h => h)) aX | (go_simp; exact rfl)) ?_; simp only [Act.put, List.setIfInBounds_toArray, List.set_cons_zero, List.set_cons_succ]
        refine wpKn_adds hs rfl (by kernel_rfl) (fun W hW hd => ?_) (fun v22 hv => ?_)
        · unfold Gives
          go_simp
          refine gives_call (FMS.out.2 W) ?_
          rintro e w3 ⟨u, rfl, k3, b3⟩
          exact ⟨_, rfl, k3, b3.form, _, _, b3.bs (Nat.le_refl _)⟩
        obtain ⟨a22v, c22v, rfl⟩ : ∃ a c, v22 = .slice a ML.length c := hv
        simp only [Act.put, List.setIfInBounds_toArray, List.set_cons_zero, List.set_cons_succ]
        refine wpKn_adds hs rfl (by kernel_rfl) (fun W hW hd => ?_) (fun v23 hv => ?_)
        · unfold Gives
          obtain ⟨lo1, hi1, h1⟩ : ∃ lo hi, Bs W lo hi (.slice a22v ML.length c22v) ML := hd 22 (List.Mem.head _)
          have hcv := cvBytes h1
          go_simp
          exact ⟨Kept.refl _ _, rfl, trivial⟩
        obtain rfl : v23 = .string ⟨ML.toArray⟩ := hv
        simp only [Act.put, List.setIfInBounds_toArray, List.set_cons_zero, List.set_cons_succ]
        refine wpPar_pure rfl (by kernel_rfl) (.bool false) (fun W hW => by go_simp) ?_; simp only [Act.put, List.setIfInBounds_toArray, List.set_cons_zero, List.set_cons_succ]
        iterate 2 (refine wpPar_pure rfl (by rfl) _ (fun W hW => by
            go_simp
            exact rfl) ?_; simp only [Act.put, List.setIfInBounds_toArray, List.set_cons_zero, List.set_cons_succ])
        refine wpPar_pure rfl (by kernel_rfl) _ (fun W hW => by
            go_simp
            exact rfl) ?_; simp only [Act.put, List.setIfInBounds_toArray, List.set_cons_zero, List.set_cons_succ]
        refine wpPar_pure rfl (by kernel_rfl) _ (fun W hW => by first | exact exec_load_blk _ _ rfl rfl (B22.out.kept hW (fun h => h)) aX | (go_simp; exact rfl)) ?_; simp only [Act.put, List.setIfInBounds_toArray, List.set_cons_zero, List.set_cons_succ]
        refine wpKn_adds hs rfl (by kernel_rfl) (fun W hW hd => ?_) (fun v29 hv => ?_)
        · unfold Gives
          go_simp
          refine gives_call (FSG.out.1 W) ?_
          rintro e w3 ⟨rfl, k3⟩
          exact ⟨_, rfl, k3, rfl, trivial⟩
        obtain rfl : v29 = .agg SX := hv
        simp only [Act.put, List.setIfInBounds_toArray, List.set_cons_zero, List.set_cons_succ]
        refine wpPar_pure rfl (by kernel_rfl) _ (fun W hW => by
            go_simp
            exact rfl) ?_; simp only [Act.put, List.setIfInBounds_toArray, List.set_cons_zero, List.set_cons_succ]
        refine wpPar_pure rfl (by kernel_rfl) _ (fun W hW => by first | exact exec_load_blk _ _ rfl rfl (B22.out.kept hW (fun h => h)) aX | (go_simp; exact rfl)) ?_; simp only [Act.put, List.setIfInBounds_toArray, List.set_cons_zero, List.set_cons_succ]
        refine wpKn_adds hs rfl (by kernel_rfl) (fun W hW hd => ?_) (fun v32 hv => ?_)
        · unfold Gives
          go_simp
          refine gives_call (FSG.out.2 W) ?_
          rintro e w3 ⟨rfl, k3⟩
          exact ⟨_, rfl, k3, rfl, trivial⟩
        obtain rfl : v32 = .agg SX := hv
        simp only [Act.put, List.setIfInBounds_toArray, List.set_cons_zero, List.set_cons_succ]
        refine wpPar_pure rfl (by kernel_rfl) (.bool false) (fun W hW => by have q := EQS.out; go_simp) ?_; simp only [Act.put, List.setIfInBounds_toArray, List.set_cons_zero, List.set_cons_succ]
        iterate 1 (refine wpPar_pure rfl (by rfl) _ (fun W hW => by
            go_simp
            exact rfl) ?_; simp only [Act.put, List.setIfInBounds_toArray, List.set_cons_zero, List.set_cons_succ])
        refine wpPar_nil (fun wd hW hG => ?_)
        have Kd := hid (Kc.out.trans hW)
        have B22 := hid (B22.out.kept hW (fun h => h))
        have D25 := hid (D25.out.kept hW (fun _ _ _ h => h))
        clear hG hs hW Kc D23 FRT FMS FSG EQS
        go_wp2_with fail
        refine (Ref.pub 5 wd).mono ?_
        rintro e we ⟨rfl, ke⟩
        have Ke := hid (Kd.out.trans ke)
        have B22 := hid (B22.out.kept ke (fun h => h))
        have D25 := hid (D25.out.kept ke (fun _ _ _ h => h))
        obtain ⟨PU, hPU⟩ : ∃ n : Nat, n = pubN 5 := ⟨_, rfl⟩
        rw [← hPU]
        clear ke Kd hPU
        go_wp2_with fail
        obtain ⟨wF, hwF⟩ : ∃ wF, wF = we.alloc (.cells #[.int .u64 (sy : Int), .int .u64 (PU : Int)] 24) := ⟨_, rfl⟩
        have hrow : Blk wF we.heap.size #[.int .u64 (sy : Int), .int .u64 (PU : Int)] 24 := by rw [hwF]; exact Blk.new we _ _
        have keF : Kept None we wF := by rw [hwF]; exact (Kept.refl _ _).alloc _
        obtain ⟨gF, hgF⟩ : ∃ g, g = we.heap.size := ⟨_, rfl⟩
        rw [← hwF, ← hgF]
        rw [← hgF] at hrow
        have KF := hid (Ke.out.trans keF)
        have B22 := hid (B22.out.kept keF (fun h => h))
        have D25 := hid (D25.out.kept keF (fun _ _ _ h => h))
        have ROF := hid hrow
        clear hwF hgF hrow keF Ke
        go_loopg [134] 2 (fun kx2 s134 wr => ∃ i : Nat, s134 = .int .i64 i ∧ i ≤ 2 ∧ 2 - i ≤ kx2 ∧ Hid (Kept None wF wr))
        case atStart => exact ⟨0, rfl, by omega, by omega, Kept.refl _ _⟩
        case round =>
          obtain ⟨i, rfl, hi, hix, HKi⟩ := hrel
          by_cases hlt2 : i < 2
          · have hiz : (i : Int) < 2 := by omega
            obtain ⟨wi, rfl⟩ : ∃ wi : World, wi = wr := ⟨_, rfl⟩
            obtain ⟨yv, cy⟩ : ∃ yv : Nat, wi.cell? ⟨gF, i, none⟩ = some (.int .u64 (yv : Int)) := by
              have hb := ROF.out.kept HKi.out (fun h => h)
              have h0 : i = 0 ∨ i = 1 := by omega
              rcases h0 with rfl | rfl
              · exact ⟨sy, by rw [hb.cell]; rfl⟩
              · exact ⟨PU, by rw [hb.cell]; rfl⟩
            have B22i := hid (B22.out.kept HKi.out (fun h => h))
            have fc1 := fun W => Hp.check yv h W HX.out.2.2.2
            have fc2 := fun W => RHp.check yv h W HX.out.2.2.2
            obtain ⟨q, hq⟩ : ∃ q, q = takenHd yv h := ⟨_, rfl⟩
            simp only [hdV, ← HX.out.2.2.1] at fc1 fc2
            rw [← hq] at fc1 fc2
            have FC := hid (And.intro fc1 fc2)
            have wk : IntKind.i64.wrap ((i : Int) + 1) = (i : Int) + 1 := by rw [IntKind.wrap_i64]; omega
            clear fc1 fc2 hq
            go_wp2_with fail
            have hs : Steady [.val 2 (.bool q), .val 5 (.bool q)] := Go.Pm.Steady.val (Go.Pm.Steady.val (Go.Pm.Steady.nil))
            refine wp_region_kn wi _ hs (Kept.refl _ _) (by kernel_rfl) (by kernel_rfl) (by kernel_rfl) ?_
            iterate 1 (refine wpPar_pure rfl (by rfl) _ (fun W hW => by
                go_simp
                exact rfl) ?_; simp only [Act.put, List.setIfInBounds_toArray, List.set_cons_zero, List.set_cons_succ])
            refine wpPar_pure rfl (by rfl) _ (fun W hW => by first | exact exec_load_blk _ _ rfl rfl (B22i.out.kept hW (fun h => h)) aX | (go_simp; exact rfl)) ?_; simp only [Act.put, List.setIfInBounds_toArray, List.set_cons_zero, List.set_cons_succ]
            refine wpKn_adds hs rfl (by rfl) (fun W hW hd => ?_) (fun v2 hv => ?_)
            · unfold Gives
              go_simp
              refine gives_call (FC.out.1 W) ?_
              rintro e w3 ⟨rfl, k3⟩
              exact ⟨_, rfl, k3, rfl, trivial⟩
            obtain rfl : v2 = .bool q := hv
            simp only [Act.put, List.setIfInBounds_toArray, List.set_cons_zero, List.set_cons_succ]
            iterate 1 (refine wpPar_pure rfl (by rfl) _ (fun W hW => by
                go_simp
                exact rfl) ?_; simp only [Act.put, List.setIfInBounds_toArray, List.set_cons_zero, List.set_cons_succ])
            refine wpPar_pure rfl (by rfl) _ (fun W hW => by first | exact exec_load_blk _ _ rfl rfl (B22i.out.kept hW (fun h => h)) aX | (go_simp; exact rfl)) ?_; simp only [Act.put, List.setIfInBounds_toArray, List.set_cons_zero, List.set_cons_succ]
            refine wpKn_adds hs rfl (by rfl) (fun W hW hd => ?_) (fun v5 hv => ?_)
            · unfold Gives
              go_simp
              refine gives_call (FC.out.2 W) ?_
              rintro e w3 ⟨rfl, k3⟩
              exact ⟨_, rfl, k3, rfl, trivial⟩
            obtain rfl : v5 = .bool q := hv
            simp only [Act.put, List.setIfInBounds_toArray, List.set_cons_zero, List.set_cons_succ]
            refine wpPar_pure rfl (by rfl) (.bool false) (fun W hW => by go_simp) ?_; simp only [Act.put, List.setIfInBounds_toArray, List.set_cons_zero, List.set_cons_succ]
            refine wpPar_nil (fun wj hW hG => ?_)
            have KJ := hid (HKi.out.trans hW)
            clear hG hs hW FC B22i HKi
            go_wp2
            go_roundg (2 - (i + 1))
            case measure => omega
            case rel => exact ⟨i + 1, by go_num, by omega, Nat.le_refl _, KJ⟩
          · have hiz : ¬ (i : Int) < 2 := by omega
            obtain ⟨wi, rfl⟩ : ∃ wi : World, wi = wr := ⟨_, rfl⟩
            have Ki := hid (KF.out.trans HKi.out)
            have B22 := hid (B22.out.kept HKi.out (fun h => h))
            have D25 := hid (D25.out.kept HKi.out (fun _ _ _ h => h))
            have wk : IntKind.i64.wrap ((j : Int) + 1) = (j : Int) + 1 := by rw [IntKind.wrap_i64]; omega
            clear HKi KF hix
            by_cases hE : BE = 0
            · have hrt : rightHd h = true := by
                have h1 := HBB.out.2
                rw [hE] at h1
                unfold putHdE at h1
                by_cases hc : rightHd h = true
                · exact hc
                · rw [if_neg hc] at h1; cases h1
              have hbl : BL = putHd h := by
                have h1 := HBB.out.1
                unfold putHdL at h1
                rwa [if_pos hrt] at h1
              have hb := read_putHd HX.out.2.2.2 hrt
              have hrd := fun v lo hi W hv => Hp.read v lo hi (putHd h) W hv
              rw [hb.1, hb.2, ← hbl] at hrd
              have eqx := fun W => Hp.neqHead h h HX.out.2.2.2 HX.out.2.2.2 W
              rw [decide_eq_true (rfl : h = h)] at eqx
              simp only [hdV, ← HX.out.2.2.1] at hrd eqx
              have FRD := hid hrd
              have EQX := hid eqx
              subst hE
              clear hrt hbl hb hrd eqx
              go_wp2_with fail
              refine (FRD.out _ _ _ wi D25.out).mono ?_
              rintro e wk2 ⟨rfl, kk⟩
              have Kk := hid (Ki.out.trans kk)
              have B22 := hid (B22.out.kept kk (fun h => h))
              obtain ⟨y9, hy9, hY9⟩ := Blk.any (n := 69) (Blk.new wk2 Try.zeroCells28 28) (by rfl)
              have EY9 := hid (hy9.trans HX.out.1)
              have eqx := EQX.out
              clear kk Ki hy9 FRD D25
              go_wp2_with (first | go_skip | (refine wpList_store_blk rfl _ _ _ rfl rfl rfl hY9 aX EY9.out HX.out.2.1 ?_; intro wl h29 kl; have kkl := kl.fresh; have B22l := B22.out.kept kkl (fun h => h)) | (refine wpList_load_bw (by kernel_rfl) rfl rfl h29 aX ?_) | (refine wpList_load_bw (by kernel_rfl) rfl rfl B22l aX ?_) | fail)
              have KL := hid (Kk.out.trans kkl)
              go_roundg (4 - (j + 1))
              case measure => omega
              case rel => exact ⟨j + 1, by go_num, by omega, Nat.le_refl _, KL⟩
            · have hez : (BE == 0) = false := by simpa using hE
              go_wp2_with (first | go_skip | fail)
              go_roundg (4 - (j + 1))
              case measure => omega
              case rel => exact ⟨j + 1, by go_num, by omega, Nat.le_refl _, Ki⟩
      · have hjz : ¬ (j : Int) < 4 := by omega
        have KZ := hid (KR.out.trans HKr.out)
        go_wp2
        go_ret
        exact ⟨rfl, KZ.out⟩
end H10
end Go.Proofs.Ytibkijloibnkfaa
