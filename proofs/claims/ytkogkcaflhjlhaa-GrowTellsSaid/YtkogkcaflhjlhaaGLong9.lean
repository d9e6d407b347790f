/- postmarklaw9.GrowLong: true. -/
import Derived.Test.YtkogkcaflhjlhaaKnown9
namespace Go.Pm
open Go Go.RowKit
theorem long_nums (n m n1 q K : Nat) (hn : 2 ≤ n) (hn3 : n ≤ 30) (hm : m < 256) (h1 : n1 = n - 1) (hq : q < n1) (hK : K = q + 1) : wrap64 (m : Int) = (m : Int) ∧ wrap64 ((n : Int) - 1) = (n1 : Int) ∧ wrap64 (q : Int) = (q : Int) ∧ wrap64 ((q : Int) + 1) = (K : Int) ∧ (n : Int) - 1 = (n1 : Int) := by
  refine ⟨?_, ?_, ?_, ?_, by omega⟩
  · clear hn hn3 h1 hq hK; unfold wrap64; omega
  · clear hm hq hK; unfold wrap64; omega
  · clear hm hK; unfold wrap64; omega
  · clear hm; unfold wrap64; omega
theorem hsC_each1 {hs : List (List UInt8)} (_h : H32 hs) : ∀ x ∈ hsC hs, ∀ c ∈ x, c.oneCell' = true := by
  intro x hx c hc
  obtain ⟨y, _, rfl⟩ := List.mem_map.1 hx
  obtain ⟨z, _, rfl⟩ := List.mem_map.1 hc
  rfl
end Go.Pm
namespace Go.Proofs.Ytkogkcaflhjlhaa
open Go.RowKit Go.Pm
namespace L9
set_option maxRecDepth 100000 in
set_option maxHeartbeats 2000000 in
theorem long_out (v : Value) (lo hi : Nat) (l : List UInt8) (m : Nat) (h : List UInt8) (w : World) (_hh : h.length = 32) (hv : Bs w lo hi v l) (hl : 30 < l.length ∨ l.length < 2) : Calls Try.prog 6 #[v, .int .u8 m, hashV h] w fun e w' => e = .returned (.bool true) ∧ Kept None w w' := by
  obtain ⟨a, cap, rfl, g1, g2, g3⟩ := hv.shape
  obtain ⟨n, hn⟩ : ∃ n, n = l.length := ⟨_, rfl⟩
  rw [← hn] at hl ⊢
  obtain ⟨HA, hHA⟩ : ∃ A : Array Value, A = (h.map u8v).toArray := ⟨_, rfl⟩
  show Calls Try.prog 6 #[.slice a n cap, .int .u8 m, .agg (h.map u8v).toArray] w _
  rw [← hHA]
  have HK := hid (known (w.alloc (.cells HA 25)))
  have ka : Kept None w (w.alloc (.cells HA 25)) := (Kept.refl _ _).alloc _
  clear hv g1 g3 hn hHA
  by_cases h4 : 30 < n
  · have h1 : (30 : Int) < (n : Int) := by omega
    clear hl h4
    go_enter Try.func6, Try.ntmps6
    go_wp2_with fail
    refine HK.out.mono ?_
    rintro e w1 ⟨rfl, k1⟩
    go_wp2
    go_ret
    exact ⟨rfl, ka.trans k1⟩
  · have h1 : ¬ (30 : Int) < (n : Int) := by omega
    have h2 : (n : Int) < 2 := by omega
    clear hl h4
    go_enter Try.func6, Try.ntmps6
    go_wp2_with fail
    refine HK.out.mono ?_
    rintro e w1 ⟨rfl, k1⟩
    go_wp2
    go_ret
    exact ⟨rfl, ka.trans k1⟩
set_option maxRecDepth 100000 in
set_option maxHeartbeats 4000000 in
theorem long_in (v : Value) (lo hi : Nat) (l : List UInt8) (m : Nat) (h : List UInt8) (w : World) (hh : h.length = 32) (hv : Bs w lo hi v l) (hl : l.length ≤ 30) (h2 : 2 ≤ l.length) (hm : m < 256) : Calls Try.prog 6 #[v, .int .u8 m, hashV h] w fun e w' => e = .returned (.bool true) ∧ Kept None w w' := by
  have hv0 := hv
  obtain ⟨a, cap, rfl, g1, g2, g3⟩ := hv.shape
  have HL := hid (fun w1 (k : Kept None w w1) => leaves _ _ _ l w1 (hv0.kept k (fun _ _ _ h => h)) (by omega))
  obtain ⟨x, hx⟩ : ∃ x, x = leavesL l := ⟨_, rfl⟩
  have hxl : x.length = l.length := by rw [hx]; exact leavesL_len l
  have hx32 : H32 x := by rw [hx]; exact leavesK_h32 _ _
  rw [← hx] at HL
  obtain ⟨n, hn⟩ : ∃ n, n = l.length := ⟨_, rfl⟩
  rw [← hn] at hxl hl h2 HL ⊢
  obtain ⟨HA, hHA⟩ : ∃ A : Array Value, A = (h.map u8v).toArray := ⟨_, rfl⟩
  show Calls Try.prog 6 #[.slice a n cap, .int .u8 m, .agg (h.map u8v).toArray] w _
  rw [← hHA]
  have HK := hid (known (w.alloc (.cells HA 25)))
  have ka : Kept None w (w.alloc (.cells HA 25)) := (Kept.refl _ _).alloc _
  obtain ⟨n1, hn1⟩ : ∃ j, j = n - 1 := ⟨_, rfl⟩
  obtain ⟨q, hq⟩ : ∃ j, j = m % n1 := ⟨_, rfl⟩
  have hq1 : q < n1 := by rw [hq]; exact Nat.mod_lt _ (by omega)
  have HR2 := hid (show (m : Int).tmod (n1 : Int) = (q : Int) by rw [hq]; rfl)
  have HR2' := hid (show (m : Int) % (n1 : Int) = (q : Int) by rw [hq]; rfl)
  clear hq
  obtain ⟨K, hKK⟩ : ∃ j, j = q + 1 := ⟨_, rfl⟩
  have HRN := hid (long_nums n m n1 q K h2 hl hm hn1 hq1 hKK)
  have r4 : ¬ (n1 : Int) = 0 := by omega
  have r5 : ((n1 : Int) == 0) = false := by rw [beq_eq_false_iff_ne]; omega
  have r6 : ¬ (n1 : Int) = -1 := by omega
  have hK1 : 1 ≤ K := by omega
  have hKn : K < n := by omega
  obtain ⟨ps, hps⟩ : ∃ x', x' = subL x K true := ⟨_, rfl⟩
  obtain ⟨P, hP⟩ : ∃ j, j = ps.length := ⟨_, rfl⟩
  have hPx : P ≤ x.length := by rw [hP, hps]; exact subL_len x.length K true (Nat.le_refl _) hK1 (by omega)
  have hP1 : 1 ≤ P := by
    have h0 : ps ≠ [] := by rw [hps]; exact subL_some hK1 (by omega) true
    have h1 : ps.length ≠ 0 := fun h => h0 (List.length_eq_zero_iff.1 h)
    omega
  obtain ⟨old, hold⟩ : ∃ r, r = rootL (x.take K) := ⟨_, rfl⟩
  obtain ⟨new, hnew⟩ : ∃ r, r = rootL x := ⟨_, rfl⟩
  have lo' : old.length = 32 := by rw [hold]; exact rootL_len (hx32.take _)
  have ln' : new.length = 32 := by rw [hnew]; exact rootL_len hx32
  have gs := grown_sub x K hK1 (by omega)
  have gl := fun path h => grown_long x K hK1 (by omega) old new path h
  rw [hxl, ← hps, ← hold, ← hnew] at gs
  rw [hxl, ← hps] at gl
  obtain ⟨OA, hOA⟩ : ∃ A : Array Value, A = (old.map u8v).toArray := ⟨_, rfl⟩
  obtain ⟨NA, hNA⟩ : ∃ A : Array Value, A = (new.map u8v).toArray := ⟨_, rfl⟩
  have aO : AggTy Try.prog 25 OA.size := by rw [hOA]; exact Hk.aH32 lo'
  have aN : AggTy Try.prog 25 NA.size := by rw [hNA]; exact Hk.aH32 ln'
  have aHA : AggTy Try.prog 25 HA.size := by rw [hHA]; exact Hk.aH32 hh
  have sO : OA.size = 32 := by rw [hOA]; simpa using lo'
  have sN : NA.size = 32 := by rw [hNA]; simpa using ln'
  have sH : HA.size = 32 := by rw [hHA]; simpa using hh
  have allO : OA.all (·.oneCell') = true := by rw [hOA]; exact u8v_all' _
  have allN : NA.all (·.oneCell') = true := by rw [hNA]; exact u8v_all' _
  have FR1 : Hid (∀ v W, Rh 0 W v (x.take K) → Calls Try.prog 15 #[v] W fun e w' => e = .returned (.agg OA) ∧ Kept None W w') := hid (fun v W h => by
    rw [hOA, hold]; exact RLg.root (x.take K).length (x.take K) v W h (Nat.le_refl _) (by rw [List.length_take]; omega))
  have FR2 : Hid (∀ v W, Rh 0 W v x → Calls Try.prog 15 #[v] W fun e w' => e = .returned (.agg NA) ∧ Kept None W w') := hid (fun v W h => by
    rw [hNA, hnew]; exact RLg.root x.length x v W h (Nat.le_refl _) (by omega))
  have FP : Hid (∀ v W, Rh 0 W v x → Calls Try.prog 12 #[v, .int .i64 K] W fun e w' => ∃ u, e = .returned (.tuple #[u, .bool true]) ∧ Kept None W w' ∧ Ho 25 w' W.heap.size u ps) := hid (fun v W h => by
    rw [hps]; exact Gr.prove x K v W h (by omega) hK1 (by omega))
  have FC0 : Hid (∀ v W, Rh 0 W v ps → Calls Try.prog 16 #[.agg OA, .agg NA, .int .i64 K, .int .i64 n, v] W fun e w' => e = .returned (.bool true) ∧ Kept None W w') := hid (fun v W hv => by
    have h2 := Gr.check old new ps K n v W lo' ln' hv (by omega) (by omega)
    rw [gs] at h2
    rw [hOA, hNA]; exact h2)
  have FCx : ∀ path : List (List UInt8), path.length ≤ 100 → path.length ≠ ps.length → ∀ v W, Rh 0 W v path → Calls Try.prog 16 #[.agg OA, .agg NA, .int .i64 K, .int .i64 n, v] W fun e w' => e = .returned (.bool false) ∧ Kept None W w' := fun path hp hne v W hv => by
    have h2 := Gr.check old new path K n v W lo' ln' hv (by omega) (by omega)
    rw [gl path hne] at h2
    rw [hOA, hNA]; exact h2
  have FC1 := hid (FCx (ps ++ [h]) (by rw [List.length_append]; simp; omega) (by rw [List.length_append]; simp))
  obtain ⟨p1, hp1⟩ : ∃ j, j = P - 1 := ⟨_, rfl⟩
  have FC2 := hid (FCx (ps.take p1) (by rw [List.length_take]; omega) (by rw [List.length_take]; omega))
  have FC3 := hid (FCx (h :: ps) (by rw [List.length_cons]; omega) (by rw [List.length_cons]; omega))
  have bH : Blk (w.alloc (.cells HA 25)) w.heap.size HA 25 := Blk.new w _ _
  have h30z : ¬ (30 : Int) < (n : Int) := by omega
  have h2z : ¬ (n : Int) < 2 := by omega
  have hKz : (K : Int) ≤ (n : Int) := by omega
  have hP0 : ((P : Int) == 0) = false := by rw [beq_eq_false_iff_ne]; omega
  have hpz : (p1 : Int) ≤ (P : Int) := by omega
  have rp : IntKind.i64.wrap ((P : Int) - 1) = (p1 : Int) := by rw [IntKind.wrap_i64]; omega
  have HS := hid (And.intro sO (And.intro sN (And.intro allO allN)))
  have HHA := hid (And.intro hHA (And.intro hh sH))
  have KA := hid ka
  have BH := hid bH
  have HXL := hid hxl
  have HPL := hid hP
  have HLN := hid (show ps.length ≤ 30 by omega)
  have HNm := hid (And.intro hK1 (And.intro hKn (And.intro hp1 (And.intro hP1 hxl))))
  clear hv hv0 g1 g2 g3 hh hHA lo' ln' sH sO sN allO allN ka bH hx hxl hx32 hn hl h2 hm hn1 hq1 hKK hK1 hKn hps hP hPx hP1 hold hnew gs gl hOA hNA FCx hp1
  obtain ⟨r0, r1, r2w, r3, r7⟩ := HRN.out
  have r2 := HR2.out
  have r2' := HR2'.out
  go_enter Try.func6, Try.ntmps6
  go_wp2_with fail
  refine HK.out.mono ?_
  rintro e w1 ⟨rfl, k1⟩
  have K1 := hid (KA.out.trans k1)
  have BH1 := hid (BH.out.kept k1 (fun h => h))
  clear k1 BH
  go_wp2_with (first | go_skip | fail)
  refine (HL.out _ K1.out).mono ?_
  rintro e w2 ⟨u, rfl, k2, p2⟩
  obtain ⟨ax, cx, rfl⟩ := Ho.form p2
  have IX : Hid (Rh 0 w2 (.slice ax n cx) x) := hid (by
    have h := p2.rh.mono (Nat.zero_le _)
    rwa [HXL.out] at h)
  rw [HXL.out]
  have K2 := hid (K1.out.trans k2)
  have BH2 := hid (BH1.out.kept k2 (fun h => h))
  clear k2 p2 BH1
  go_wp2_with fail
  simp only [r3]
  clear r0 r1 r2w r3 r2 r2' r7
  refine (FP.out _ _ IX.out).mono ?_
  rintro e w6 ⟨u, rfl, k6, p6⟩
  obtain ⟨ap, cp, rfl⟩ := Ho.form p6
  have HPP6 : Hid (Rh 0 w6 (.slice ap P cp) ps) := hid (by
    have h := p6.rh.mono (Nat.zero_le _)
    rwa [← HPL.out] at h)
  rw [← HPL.out]
  have K6 := hid (K2.out.trans k6)
  have IX6 := IX.out.kept k6
  have BH6 := hid (BH2.out.kept k6 (fun h => h))
  obtain ⟨aK, sK, iK⟩ := rh_to Lg8.tHashes Lg8.zHashes IX6 .i64 K (by have := HNm.out; omega)
  obtain ⟨aP, sP, iP⟩ := rh_to Lg8.tHashes Lg8.zHashes HPP6.out .i64 p1 (by have := HNm.out; omega)
  have gx : cx ≤ 9223372036854775807 ∧ n ≤ cx := by
    obtain ⟨hi, hv⟩ := IX6
    obtain ⟨_, _, q, q1, q2, _⟩ := hv.form
    injection q with _ q0 q
    omega
  have gp : cp ≤ 9223372036854775807 ∧ P ≤ cp := by
    obtain ⟨hi, hv⟩ := HPP6.out
    obtain ⟨_, _, q, q1, q2, _⟩ := hv.form
    injection q with _ q0 q
    omega
  have hcx : (K : Int) ≤ (cx : Int) := by have := HNm.out; omega
  have hcp : (p1 : Int) ≤ (cp : Int) := by have := HNm.out; omega
  have IK6 := hid iK
  have IP6 := hid iP
  have IX6 := hid IX6
  clear k6 p6 iK iP IX BH2 gx gp
  go_wp2_with fail
  refine (FR1.out _ _ IK6.out).mono ?_
  rintro e w7 ⟨rfl, k7⟩
  have K7 := hid (K6.out.trans k7)
  have IX7 := hid (IX6.out.kept k7)
  have BH7 := hid (BH6.out.kept k7 (fun h => h))
  have HPP7 := hid (HPP6.out.kept k7)
  have IP7 := hid (IP6.out.kept k7)
  clear k7 K6 IX6 BH6 HPP6 IP6 IK6 sK
  go_wp2_with fail
  refine (FR2.out _ _ IX7.out).mono ?_
  rintro e w8 ⟨rfl, k8⟩
  obtain ⟨zA, hzA, hZA⟩ := Blk.any (n := 32) ((Blk.new w8 #[.int .u8 0, .int .u8 0, .int .u8 0, .int .u8 0, .int .u8 0, .int .u8 0, .int .u8 0, .int .u8 0, .int .u8 0, .int .u8 0, .int .u8 0, .int .u8 0, .int .u8 0, .int .u8 0, .int .u8 0, .int .u8 0, .int .u8 0, .int .u8 0, .int .u8 0, .int .u8 0, .int .u8 0, .int .u8 0, .int .u8 0, .int .u8 0, .int .u8 0, .int .u8 0, .int .u8 0, .int .u8 0, .int .u8 0, .int .u8 0, .int .u8 0, .int .u8 0] 25).alloc (.cells #[.int .u8 0, .int .u8 0, .int .u8 0, .int .u8 0, .int .u8 0, .int .u8 0, .int .u8 0, .int .u8 0, .int .u8 0, .int .u8 0, .int .u8 0, .int .u8 0, .int .u8 0, .int .u8 0, .int .u8 0, .int .u8 0, .int .u8 0, .int .u8 0, .int .u8 0, .int .u8 0, .int .u8 0, .int .u8 0, .int .u8 0, .int .u8 0, .int .u8 0, .int .u8 0, .int .u8 0, .int .u8 0, .int .u8 0, .int .u8 0, .int .u8 0, .int .u8 0] 25)) (by rfl)
  obtain ⟨zB, hzB, hZB⟩ := Blk.any (n := 32) (Blk.new2 w8 (.cells #[.int .u8 0, .int .u8 0, .int .u8 0, .int .u8 0, .int .u8 0, .int .u8 0, .int .u8 0, .int .u8 0, .int .u8 0, .int .u8 0, .int .u8 0, .int .u8 0, .int .u8 0, .int .u8 0, .int .u8 0, .int .u8 0, .int .u8 0, .int .u8 0, .int .u8 0, .int .u8 0, .int .u8 0, .int .u8 0, .int .u8 0, .int .u8 0, .int .u8 0, .int .u8 0, .int .u8 0, .int .u8 0, .int .u8 0, .int .u8 0, .int .u8 0, .int .u8 0] 25) #[.int .u8 0, .int .u8 0, .int .u8 0, .int .u8 0, .int .u8 0, .int .u8 0, .int .u8 0, .int .u8 0, .int .u8 0, .int .u8 0, .int .u8 0, .int .u8 0, .int .u8 0, .int .u8 0, .int .u8 0, .int .u8 0, .int .u8 0, .int .u8 0, .int .u8 0, .int .u8 0, .int .u8 0, .int .u8 0, .int .u8 0, .int .u8 0, .int .u8 0, .int .u8 0, .int .u8 0, .int .u8 0, .int .u8 0, .int .u8 0, .int .u8 0, .int .u8 0] 25) (by rfl)
  have EZ := hid (And.intro (hzA.trans HS.out.1.symm) (hzB.trans HS.out.2.1.symm))
  clear hzA hzB
  go_wp2_with (first | go_skip | (refine wpList_store_blk rfl _ _ _ rfl rfl rfl hZA aO EZ.out.1 HS.out.2.2.1 ?_; intro wa ha kka; have hZB9 := hZB.kept kka (fun (h : w8.heap.size + 1 = w8.heap.size) => by omega)) | (refine wpList_store_blk rfl _ _ _ rfl rfl rfl hZB9 aN EZ.out.2 HS.out.2.2.2 ?_; intro wb hb kb; have hab := ha.kept kb (fun (h : w8.heap.size = w8.heap.size + 1) => by omega)) | (refine wpList_load_bw (by kernel_rfl) rfl rfl hab aO ?_) | (refine wpList_load_bw (by kernel_rfl) rfl rfl hb aN ?_) | fail)
  have k8b : Kept None w7 wb := (k8.trans (((Kept.refl None w8).alloc _).alloc _)).then kka (fun i hi (h : i = w8.heap.size) => by have := k8.size; omega) |>.then kb (fun i hi (h : i = w8.heap.size + 1) => by have := k8.size; omega)
  have Kb := hid (K7.out.trans k8b)
  have IXb := hid (IX7.out.kept k8b)
  have BHb := hid (BH7.out.kept k8b (fun h => h))
  have HPPb := hid (HPP7.out.kept k8b)
  have IPb := hid (IP7.out.kept k8b)
  clear k8b k8 kka kb hZA hZB9 hZB ha K7 IX7 BH7 HPP7 IP7
  refine (FC0.out _ _ HPPb.out).mono ?_
  rintro e w9 ⟨rfl, k9⟩
  have K9 := hid (Kb.out.trans k9)
  have BH9 := BHb.out.kept k9 (fun h => h)
  have HPP := hid (HPPb.out.kept k9)
  have I3 := hid (IPb.out.kept k9)
  have BO := hab.kept k9 (fun h => h)
  have BN := hb.kept k9 (fun h => h)
  clear k9 Kb IXb BHb HPPb IPb hab hb
  go_wp2_with (first | go_skip | fail)
  refine wp_region_plan (Kept None w9) [{ k := 6, uses := [], pure := fun u => ∃ a n c, u = .slice a n c, fact := fun u W => Ho 25 W w9.heap.size u ps }, { k := 8, uses := [], pure := fun u => ∃ g, u = .slice (some ⟨g, 0, none⟩) 1 1, fact := fun u W => ∃ g, u = .slice (some ⟨g, 0, none⟩) 1 1 ∧ Blk W g HA 25 }, { k := 9, uses := [6, 8], spends := [6, 8], later := [33, 35], pure := fun u => ∃ a n c, u = .slice a n c, fact := fun u W => Rh 0 W u (ps ++ [h]) }, { k := 10, uses := [9], pure := fun u => u = .bool false }, { k := 23, uses := [], pure := fun u => u = .bool false }, { k := 33, uses := [], pure := fun u => ∃ g, u = .slice (some ⟨g, 0, none⟩) 1 1, fact := fun u W => ∃ g, u = .slice (some ⟨g, 0, none⟩) 1 1 ∧ Blk W g HA 25 }, { k := 35, uses := [33], pure := fun u => ∃ a n c, u = .slice a n c, fact := fun u W => Rh 0 W u (h :: ps) }, { k := 36, uses := [35], pure := fun u => u = .bool false }] [] (by kernel_rfl) (by kernel_rfl) (by kernel_rfl) (by rfl) ?pures ((Kept.refl _ w9).drew) ?starts ?walk
  case pures =>
    intro f hf
    simp only [List.mem_cons, List.not_mem_nil, or_false] at hf
    rcases hf with rfl | rfl | rfl | rfl | rfl | rfl | rfl | rfl
    · exact ⟨_, none, 0, 0, rfl⟩
    · exact ⟨_, 0, rfl⟩
    · exact ⟨_, none, 0, 0, rfl⟩
    · exact ⟨_, rfl⟩
    · exact ⟨_, rfl⟩
    · exact ⟨_, 0, rfl⟩
    · exact ⟨_, none, 0, 0, rfl⟩
    · exact ⟨_, rfl⟩
  case starts =>
    intro k hk
    cases hk
  refine wpPar_pure rfl (by rfl) _ (fun W hW => by first | exact exec_load_blk _ _ rfl rfl (BO.kept hW (fun h => h)) aO | exact exec_load_blk _ _ rfl rfl (BN.kept hW (fun h => h)) aN | exact exec_load_blk _ _ rfl rfl (BH9.kept hW (fun h => h)) aHA | (have q1 := sP W; go_simp; exact rfl)) ?_; simp only [Act.put, List.setIfInBounds_toArray, List.set_cons_zero, List.set_cons_succ]
  refine wpPar_pure rfl (by rfl) _ (fun W hW => by first | exact exec_load_blk _ _ rfl rfl (BO.kept hW (fun h => h)) aO | exact exec_load_blk _ _ rfl rfl (BN.kept hW (fun h => h)) aN | exact exec_load_blk _ _ rfl rfl (BH9.kept hW (fun h => h)) aHA | (have q1 := sP W; go_simp; exact rfl)) ?_; simp only [Act.put, List.setIfInBounds_toArray, List.set_cons_zero, List.set_cons_succ]
  iterate 4 (refine wpPar_pure rfl (by rfl) _ (fun W hW => by
      have q1 := sP W
      go_simp
      exact rfl) ?_; simp only [Act.put, List.setIfInBounds_toArray, List.set_cons_zero, List.set_cons_succ])
  refine wpPar_adds rfl (by rfl) (fun W hW hd => ?_) (fun v6 hv => ?_)
  · obtain ⟨hiP, HPS⟩ := HPP.out.kept hW
    refine gives_append_po _ _ 23 rfl Hk.rtHashes (by decide) rfl rfl (Po.nil 32 25 W w9.heap.size) HPS.2 (hsC_each1 HPS.1) (by rw [hsC_len]; have := HLN.out; simp; omega) hW.size ?_
    intro a' n' c' W' hP kO o9
    have kS : Kept None W W' := (Kept.refl None W).then kO (fun i hi h => by cases h)
    refine ⟨hW.then kS (fun _ _ h => h.elim), ⟨_, _, _, rfl⟩, ⟨HPS.1, by simpa using hP⟩, keeps_of fun f hf hs hl hne u hfu => ?_⟩
    simp only [List.mem_cons, List.not_mem_nil, or_false] at hf
    rcases hf with rfl | rfl | rfl | rfl | rfl | rfl | rfl | rfl
    · exact absurd rfl hne
    · (obtain ⟨g, e1, e3⟩ := hfu; exact ⟨g, e1, e3.kept kS (fun h => h)⟩)
    · exact Rh.kept hfu kS
    · exact hfu
    · exact hfu
    · (obtain ⟨g, e1, e3⟩ := hfu; exact ⟨g, e1, e3.kept kS (fun h => h)⟩)
    · exact Rh.kept hfu kS
    · exact hfu
  obtain ⟨a6, n6, c6, rfl⟩ : ∃ a n c, v6 = .slice a n c := hv
  simp only [Act.put, List.setIfInBounds_toArray, List.set_cons_zero, List.set_cons_succ]
  refine wpPar_pure rfl (by rfl) _ (fun W hW => by first | exact exec_load_blk _ _ rfl rfl (BO.kept hW (fun h => h)) aO | exact exec_load_blk _ _ rfl rfl (BN.kept hW (fun h => h)) aN | exact exec_load_blk _ _ rfl rfl (BH9.kept hW (fun h => h)) aHA | (have q1 := sP W; go_simp; exact rfl)) ?_; simp only [Act.put, List.setIfInBounds_toArray, List.set_cons_zero, List.set_cons_succ]
  refine wpPar_adds rfl (by rfl) (fun W hW hd => ?_) (fun v8 hv => ?_)
  · unfold Gives
    rw [exec_one_item 23 (.tmp 68) rfl Hk.rtHashes (by decide) (A := HA) rfl HHA.out.2.2]
    have kS : Kept None W (W.alloc (.cells HA 25)) := (Kept.refl None W).alloc _
    refine ⟨hW.then kS (fun _ _ h => h.elim), ⟨_, rfl⟩, ⟨_, rfl, Blk.new _ _ _⟩, keeps_of fun f hf hs hl hne u hfu => ?_⟩
    simp only [List.mem_cons, List.not_mem_nil, or_false] at hf
    rcases hf with rfl | rfl | rfl | rfl | rfl | rfl | rfl | rfl
    · exact Ho.kept hfu kS (fun _ _ h => h)
    · exact absurd rfl hne
    · exact Rh.kept hfu kS
    · exact hfu
    · exact hfu
    · (obtain ⟨g, e1, e3⟩ := hfu; exact ⟨g, e1, e3.kept kS (fun h => h)⟩)
    · exact Rh.kept hfu kS
    · exact hfu
  obtain ⟨g8, rfl⟩ : ∃ g, v8 = .slice (some ⟨g, 0, none⟩) 1 1 := hv
  simp only [Act.put, List.setIfInBounds_toArray, List.set_cons_zero, List.set_cons_succ]
  refine wpPar_adds rfl (by rfl) (fun W hW hd => ?_) (fun v9 hv => ?_)
  · have hO : Ho 25 W w9.heap.size (.slice a6 n6 c6) ps := hd 6 (List.Mem.head _)
    obtain ⟨g, hgg, hg3⟩ : ∃ g, Value.slice (some ⟨g8, 0, none⟩) 1 1 = .slice (some ⟨g, 0, none⟩) 1 1 ∧ Blk W g HA 25 := hd 8 (List.Mem.tail _ (List.Mem.head _))
    obtain rfl : g8 = g := by simpa using hgg
    rw [HHA.out.1] at hg3
    have hu := Hs.ofBlk hg3 HHA.out.2.1
    refine gives_append_po _ _ 23 rfl Hk.rtHashes (by decide) rfl rfl hO.2 hu.2 (hsC_one _) (by rw [hsC_len, hsC_len]; have := HLN.out; simp; omega) hW.size ?_
    intro a' n' c' W' hP kS o9
    refine ⟨hW.then kS (fun i hi h => by have := (hO.2.own i h).1; omega), ⟨_, _, _, rfl⟩, (Ho.rh (⟨hO.1.append hu.1, by rw [hsC_append]; exact hP⟩ : Ho 25 W' w9.heap.size (.slice a' n' c') (ps ++ [h]))).mono (Nat.zero_le _), keeps_of fun f hf hs hl hne u hfu => ?_⟩
    simp only [List.mem_cons, List.not_mem_nil, or_false] at hf
    rcases hf with rfl | rfl | rfl | rfl | rfl | rfl | rfl | rfl
    · exact absurd (List.Mem.head _) hs
    · exact absurd (List.Mem.tail _ (List.Mem.head _)) hs
    · exact absurd rfl hne
    · exact hfu
    · exact hfu
    · exact absurd (List.Mem.head _) hl
    · exact absurd (List.Mem.tail _ (List.Mem.head _)) hl
    · exact hfu
  obtain ⟨a9, n9, c9, rfl⟩ : ∃ a n c, v9 = .slice a n c := hv
  simp only [Act.put, List.setIfInBounds_toArray, List.set_cons_zero, List.set_cons_succ]
  refine wpPar_adds rfl (by rfl) (fun W hW hd => ?_) (fun v10 hv => ?_)
  · unfold Gives
    go_simp
    refine gives_call (FC1.out _ W (hd 9 (List.Mem.head _))) ?_
    rintro e w3 ⟨rfl, k3⟩
    refine ⟨_, rfl, hW.then k3 (fun _ _ h => h.elim), rfl, trivial, keeps_of fun f hf hs hl hne u hfu => ?_⟩
    simp only [List.mem_cons, List.not_mem_nil, or_false] at hf
    rcases hf with rfl | rfl | rfl | rfl | rfl | rfl | rfl | rfl
    · exact Ho.kept hfu k3 (fun _ _ h => h)
    · (obtain ⟨g, e1, e3⟩ := hfu; exact ⟨g, e1, e3.kept k3 (fun h => h)⟩)
    · exact Rh.kept hfu k3
    · exact absurd rfl hne
    · exact hfu
    · (obtain ⟨g, e1, e3⟩ := hfu; exact ⟨g, e1, e3.kept k3 (fun h => h)⟩)
    · exact Rh.kept hfu k3
    · exact hfu
  obtain rfl : v10 = .bool false := hv
  simp only [Act.put, List.setIfInBounds_toArray, List.set_cons_zero, List.set_cons_succ]
  iterate 2 (refine wpPar_pure rfl (by rfl) _ (fun W hW => by
      have q1 := sP W
      go_simp
      exact rfl) ?_; simp only [Act.put, List.setIfInBounds_toArray, List.set_cons_zero, List.set_cons_succ])
  refine wpPar_pure rfl (by kernel_rfl) _ (fun W hW => by first | exact exec_load_blk _ _ rfl rfl (BO.kept hW (fun h => h)) aO | exact exec_load_blk _ _ rfl rfl (BN.kept hW (fun h => h)) aN | exact exec_load_blk _ _ rfl rfl (BH9.kept hW (fun h => h)) aHA | (have q1 := sP W; go_simp; exact rfl)) ?_; simp only [Act.put, List.setIfInBounds_toArray, List.set_cons_zero, List.set_cons_succ]
  refine wpPar_pure rfl (by kernel_rfl) _ (fun W hW => by first | exact exec_load_blk _ _ rfl rfl (BO.kept hW (fun h => h)) aO | exact exec_load_blk _ _ rfl rfl (BN.kept hW (fun h => h)) aN | exact exec_load_blk _ _ rfl rfl (BH9.kept hW (fun h => h)) aHA | (have q1 := sP W; go_simp; exact rfl)) ?_; simp only [Act.put, List.setIfInBounds_toArray, List.set_cons_zero, List.set_cons_succ]
  refine wpPar_pure rfl (by kernel_rfl) _ (fun W hW => by
      have q1 := sP W
      go_simp
      exact rfl) ?_; simp only [Act.put, List.setIfInBounds_toArray, List.set_cons_zero, List.set_cons_succ]
  refine wpPar_pure rfl (by kernel_rfl) _ (fun W hW => by
      have q1 := sP W
      go_simp
      exact rfl) ?_; simp only [Act.put, List.setIfInBounds_toArray, List.set_cons_zero, List.set_cons_succ]
  refine wpPar_pure rfl (by kernel_rfl) _ (fun W hW => by
      have q1 := sP W
      go_simp
      exact rfl) ?_; simp only [Act.put, List.setIfInBounds_toArray, List.set_cons_zero, List.set_cons_succ]
  refine wpPar_pure rfl (by kernel_rfl) _ (fun W hW => by
      have q1 := sP W
      go_simp
      exact rfl) ?_; simp only [Act.put, List.setIfInBounds_toArray, List.set_cons_zero, List.set_cons_succ]
  refine wpPar_pure rfl (by kernel_rfl) _ (fun W hW => by
      have q1 := sP W
      go_simp
      exact rfl) ?_; simp only [Act.put, List.setIfInBounds_toArray, List.set_cons_zero, List.set_cons_succ]
  refine wpPar_pure rfl (by kernel_rfl) _ (fun W hW => by
      have q1 := sP W
      go_simp
      exact rfl) ?_; simp only [Act.put, List.setIfInBounds_toArray, List.set_cons_zero, List.set_cons_succ]
  refine wpPar_pure rfl (by kernel_rfl) _ (fun W hW => by
      have q1 := sP W
      go_simp
      exact rfl) ?_; simp only [Act.put, List.setIfInBounds_toArray, List.set_cons_zero, List.set_cons_succ]
  refine wpPar_pure rfl (by kernel_rfl) _ (fun W hW => by
      have q1 := sP W
      go_simp
      exact rfl) ?_; simp only [Act.put, List.setIfInBounds_toArray, List.set_cons_zero, List.set_cons_succ]
  refine wpPar_adds rfl (by kernel_rfl) (fun W hW hd => ?_) (fun v23 hv => ?_)
  · unfold Gives
    go_simp
    refine gives_call (FC2.out _ W (I3.out.kept hW)) ?_
    rintro e w3 ⟨rfl, k3⟩
    refine ⟨_, rfl, hW.then k3 (fun _ _ h => h.elim), rfl, trivial, keeps_of fun f hf hs hl hne u hfu => ?_⟩
    simp only [List.mem_cons, List.not_mem_nil, or_false] at hf
    rcases hf with rfl | rfl | rfl | rfl | rfl | rfl | rfl | rfl
    · exact Ho.kept hfu k3 (fun _ _ h => h)
    · (obtain ⟨g, e1, e3⟩ := hfu; exact ⟨g, e1, e3.kept k3 (fun h => h)⟩)
    · exact Rh.kept hfu k3
    · exact hfu
    · exact absurd rfl hne
    · (obtain ⟨g, e1, e3⟩ := hfu; exact ⟨g, e1, e3.kept k3 (fun h => h)⟩)
    · exact Rh.kept hfu k3
    · exact hfu
  obtain rfl : v23 = .bool false := hv
  simp only [Act.put, List.setIfInBounds_toArray, List.set_cons_zero, List.set_cons_succ]
  refine wpPar_pure rfl (by kernel_rfl) _ (fun W hW => by
      have q1 := sP W
      go_simp
      exact rfl) ?_; simp only [Act.put, List.setIfInBounds_toArray, List.set_cons_zero, List.set_cons_succ]
  iterate 2 (refine wpPar_pure rfl (by rfl) _ (fun W hW => by
      have q1 := sP W
      go_simp
      exact rfl) ?_; simp only [Act.put, List.setIfInBounds_toArray, List.set_cons_zero, List.set_cons_succ])
  refine wpPar_pure rfl (by kernel_rfl) _ (fun W hW => by first | exact exec_load_blk _ _ rfl rfl (BO.kept hW (fun h => h)) aO | exact exec_load_blk _ _ rfl rfl (BN.kept hW (fun h => h)) aN | exact exec_load_blk _ _ rfl rfl (BH9.kept hW (fun h => h)) aHA | (have q1 := sP W; go_simp; exact rfl)) ?_; simp only [Act.put, List.setIfInBounds_toArray, List.set_cons_zero, List.set_cons_succ]
  refine wpPar_pure rfl (by kernel_rfl) _ (fun W hW => by first | exact exec_load_blk _ _ rfl rfl (BO.kept hW (fun h => h)) aO | exact exec_load_blk _ _ rfl rfl (BN.kept hW (fun h => h)) aN | exact exec_load_blk _ _ rfl rfl (BH9.kept hW (fun h => h)) aHA | (have q1 := sP W; go_simp; exact rfl)) ?_; simp only [Act.put, List.setIfInBounds_toArray, List.set_cons_zero, List.set_cons_succ]
  refine wpPar_pure rfl (by kernel_rfl) _ (fun W hW => by
      have q1 := sP W
      go_simp
      exact rfl) ?_; simp only [Act.put, List.setIfInBounds_toArray, List.set_cons_zero, List.set_cons_succ]
  refine wpPar_pure rfl (by kernel_rfl) _ (fun W hW => by
      have q1 := sP W
      go_simp
      exact rfl) ?_; simp only [Act.put, List.setIfInBounds_toArray, List.set_cons_zero, List.set_cons_succ]
  refine wpPar_pure rfl (by kernel_rfl) _ (fun W hW => by
      have q1 := sP W
      go_simp
      exact rfl) ?_; simp only [Act.put, List.setIfInBounds_toArray, List.set_cons_zero, List.set_cons_succ]
  refine wpPar_pure rfl (by kernel_rfl) _ (fun W hW => by first | exact exec_load_blk _ _ rfl rfl (BO.kept hW (fun h => h)) aO | exact exec_load_blk _ _ rfl rfl (BN.kept hW (fun h => h)) aN | exact exec_load_blk _ _ rfl rfl (BH9.kept hW (fun h => h)) aHA | (have q1 := sP W; go_simp; exact rfl)) ?_; simp only [Act.put, List.setIfInBounds_toArray, List.set_cons_zero, List.set_cons_succ]
  refine wpPar_adds rfl (by kernel_rfl) (fun W hW hd => ?_) (fun v33 hv => ?_)
  · unfold Gives
    rw [exec_one_item 23 (.tmp 93) rfl Hk.rtHashes (by decide) (A := HA) rfl HHA.out.2.2]
    have kS : Kept None W (W.alloc (.cells HA 25)) := (Kept.refl None W).alloc _
    refine ⟨hW.then kS (fun _ _ h => h.elim), ⟨_, rfl⟩, ⟨_, rfl, Blk.new _ _ _⟩, keeps_of fun f hf hs hl hne u hfu => ?_⟩
    simp only [List.mem_cons, List.not_mem_nil, or_false] at hf
    rcases hf with rfl | rfl | rfl | rfl | rfl | rfl | rfl | rfl
    · exact Ho.kept hfu kS (fun _ _ h => h)
    · (obtain ⟨g, e1, e3⟩ := hfu; exact ⟨g, e1, e3.kept kS (fun h => h)⟩)
    · exact Rh.kept hfu kS
    · exact hfu
    · exact hfu
    · exact absurd rfl hne
    · exact Rh.kept hfu kS
    · exact hfu
  obtain ⟨g33, rfl⟩ : ∃ g, v33 = .slice (some ⟨g, 0, none⟩) 1 1 := hv
  simp only [Act.put, List.setIfInBounds_toArray, List.set_cons_zero, List.set_cons_succ]
  refine wpPar_pure rfl (by kernel_rfl) _ (fun W hW => by
      have q1 := sP W
      go_simp
      exact rfl) ?_; simp only [Act.put, List.setIfInBounds_toArray, List.set_cons_zero, List.set_cons_succ]
  refine wpPar_adds rfl (by kernel_rfl) (fun W hW hd => ?_) (fun v35 hv => ?_)
  · obtain ⟨g, hgg, hg3⟩ : ∃ g, Value.slice (some ⟨g33, 0, none⟩) 1 1 = .slice (some ⟨g, 0, none⟩) 1 1 ∧ Blk W g HA 25 := hd 33 (List.Mem.head _)
    obtain rfl : g33 = g := by simpa using hgg
    rw [HHA.out.1] at hg3
    refine gives_append_rh _ _ 23 rfl Hk.rtHashes (by decide) (Nat.zero_le _) rfl rfl hg3 HHA.out.2.1 (HPP.out.kept hW) (by have := HLN.out; omega) ?_
    intro a' c' W' hP kS
    refine ⟨hW.trans kS, ⟨_, _, _, rfl⟩, hP, keeps_of fun f hf hs hl hne u hfu => ?_⟩
    simp only [List.mem_cons, List.not_mem_nil, or_false] at hf
    rcases hf with rfl | rfl | rfl | rfl | rfl | rfl | rfl | rfl
    · exact Ho.kept hfu kS (fun _ _ h => h)
    · (obtain ⟨g, e1, e3⟩ := hfu; exact ⟨g, e1, e3.kept kS (fun h => h)⟩)
    · exact Rh.kept hfu kS
    · exact hfu
    · exact hfu
    · (obtain ⟨g, e1, e3⟩ := hfu; exact ⟨g, e1, e3.kept kS (fun h => h)⟩)
    · exact absurd rfl hne
    · exact hfu
  obtain ⟨a35, n35, c35, rfl⟩ : ∃ a n c, v35 = .slice a n c := hv
  simp only [Act.put, List.setIfInBounds_toArray, List.set_cons_zero, List.set_cons_succ]
  refine wpPar_adds rfl (by kernel_rfl) (fun W hW hd => ?_) (fun v36 hv => ?_)
  · unfold Gives
    go_simp
    refine gives_call (FC3.out _ W (hd 35 (List.Mem.head _))) ?_
    rintro e w3 ⟨rfl, k3⟩
    refine ⟨_, rfl, hW.then k3 (fun _ _ h => h.elim), rfl, trivial, keeps_of fun f hf hs hl hne u hfu => ?_⟩
    simp only [List.mem_cons, List.not_mem_nil, or_false] at hf
    rcases hf with rfl | rfl | rfl | rfl | rfl | rfl | rfl | rfl
    · exact Ho.kept hfu k3 (fun _ _ h => h)
    · (obtain ⟨g, e1, e3⟩ := hfu; exact ⟨g, e1, e3.kept k3 (fun h => h)⟩)
    · exact Rh.kept hfu k3
    · exact hfu
    · exact hfu
    · (obtain ⟨g, e1, e3⟩ := hfu; exact ⟨g, e1, e3.kept k3 (fun h => h)⟩)
    · exact Rh.kept hfu k3
    · exact absurd rfl hne
  obtain rfl : v36 = .bool false := hv
  simp only [Act.put, List.setIfInBounds_toArray, List.set_cons_zero, List.set_cons_succ]
  refine wpPar_pure rfl (by kernel_rfl) _ (fun W hW => by
      have q1 := sP W
      go_simp
      exact rfl) ?_; simp only [Act.put, List.setIfInBounds_toArray, List.set_cons_zero, List.set_cons_succ]
  iterate 2 (refine wpPar_pure rfl (by rfl) _ (fun W hW => by
      have q1 := sP W
      go_simp
      exact rfl) ?_; simp only [Act.put, List.setIfInBounds_toArray, List.set_cons_zero, List.set_cons_succ])
  refine wpPar_nil (fun W hW hG => ?_)
  have KW := hid (K9.out.trans hW)
  clear hG hW BO BN BH9 sP
  go_wp2
  go_ret
  exact ⟨rfl, KW.out⟩
/-- GrowLong. -/
theorem long (v : Value) (lo hi : Nat) (l : List UInt8) (m : Nat) (h : List UInt8) (w : World) (hh : h.length = 32) (hv : Bs w lo hi v l) (hm : m < 256) : Calls Try.prog 6 #[v, .int .u8 m, hashV h] w fun e w' => e = .returned (.bool true) ∧ Kept None w w' := by
  by_cases h1 : 30 < l.length ∨ l.length < 2
  · exact long_out v lo hi l m h w hh hv h1
  · exact long_in v lo hi l m h w hh hv (by omega) (by omega) hm
end L9
end Go.Proofs.Ytkogkcaflhjlhaa
