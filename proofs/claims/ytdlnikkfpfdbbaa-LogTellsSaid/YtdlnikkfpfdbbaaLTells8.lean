/- postmarklaw8.LogTells: true. -/
import Derived.Test.YtdlnikkfpfdbbaaKnownL8
import Derived.Test.YtdlnikkfpfdbbaaHashes8
import Derived.Test.YtdlnikkfpfdbbaaLogAny8
namespace Go.Proofs.Ytdlnikkfpfdbbaa
open Go.RowKit Go.Pm
namespace L8
set_option maxRecDepth 100000 in
set_option maxHeartbeats 1000000 in
theorem tells_out (v0 v1 v2 : Value) (lo hi lo1 hi1 : Nat) (b l : List UInt8) (raw : List (List UInt8)) (i n : Int) (k q : Nat) (h : List UInt8) (w : World) (hb : Bs w lo hi v0 b) (hl : Bs w lo1 hi1 v1 l) (hr : Rh 0 w v2 raw) (hx : 100 < b.length ∨ 40 < l.length ∨ 20 < raw.length) : Calls Try.prog 3 #[v0, v1, v2, .int .i64 i, .int .i64 n, .int .u8 k, hashV h, .int .u8 q] w fun e w' => e = .returned (.bool true) ∧ Kept None w w' := by
  obtain ⟨a0, c0, rfl, g01, g02, g03⟩ := hb.shape
  obtain ⟨a1, c1, rfl, g11, g12, g13⟩ := hl.shape
  obtain ⟨a2, c2, rfl⟩ := hr.form
  have HK := hid (fun w => known w)
  obtain ⟨nb, hnb⟩ : ∃ n, n = b.length := ⟨_, rfl⟩
  obtain ⟨nl, hnl⟩ : ∃ n, n = l.length := ⟨_, rfl⟩
  obtain ⟨nr, hnr⟩ : ∃ n, n = raw.length := ⟨_, rfl⟩
  rw [← hnb, ← hnl, ← hnr] at hx
  rw [← hnb, ← hnl, ← hnr]
  clear hb hl hr g01 g03 g11 g13 hnb hnl hnr
  by_cases h4 : 100 < nb
  · have h1 : decide ((100 : Int) < (nb : Int)) = true := by rw [decide_eq_true_eq]; omega
    clear hx h4
    go_enter Try.func3, Try.ntmps3
    go_wp2_with fail
    refine (HK.out _).mono ?_
    rintro e w1 ⟨rfl, k1⟩
    have K1 := hid (((Kept.refl None w).alloc (.cells (h.map u8v).toArray 25)).trans k1)
    clear k1
    go_wp2
    go_ret
    exact ⟨rfl, K1.out⟩
  have h1 : decide ((100 : Int) < (nb : Int)) = false := by rw [decide_eq_false_iff_not]; omega
  by_cases h5 : 40 < nl
  · have h2 : decide ((40 : Int) < (nl : Int)) = true := by rw [decide_eq_true_eq]; omega
    clear hx h4 h5
    go_enter Try.func3, Try.ntmps3
    go_wp2_with fail
    refine (HK.out _).mono ?_
    rintro e w1 ⟨rfl, k1⟩
    have K1 := hid (((Kept.refl None w).alloc (.cells (h.map u8v).toArray 25)).trans k1)
    clear k1
    go_wp2
    go_ret
    exact ⟨rfl, K1.out⟩
  · have h2 : decide ((40 : Int) < (nl : Int)) = false := by rw [decide_eq_false_iff_not]; omega
    have h3 : decide ((20 : Int) < (nr : Int)) = true := by rw [decide_eq_true_eq]; omega
    clear hx h4 h5
    go_enter Try.func3, Try.ntmps3
    go_wp2_with fail
    refine (HK.out _).mono ?_
    rintro e w1 ⟨rfl, k1⟩
    have K1 := hid (((Kept.refl None w).alloc (.cells (h.map u8v).toArray 25)).trans k1)
    clear k1
    go_wp2
    go_ret
    exact ⟨rfl, K1.out⟩
set_option maxRecDepth 100000 in
set_option maxHeartbeats 16000000 in
theorem tells_in (v0 v1 v2 : Value) (lo hi lo1 hi1 : Nat) (b l : List UInt8) (raw : List (List UInt8)) (i n : Int) (k q : Nat) (h : List UInt8) (w : World) (hb : Bs w lo hi v0 b) (hl : Bs w lo1 hi1 v1 l) (hr : Rh 0 w v2 raw) (hb100 : b.length ≤ 100) (hl40 : l.length ≤ 40) (hr20 : raw.length ≤ 20) (hi0 : -9223372036854775808 ≤ i) (hi1 : i < 9223372036854775808) (hn0 : -9223372036854775808 ≤ n) (hn1 : n < 9223372036854775808) (hk : k < 256) (hq : q < 256) (hh : h.length = 32) :
    Calls Try.prog 3 #[v0, v1, v2, .int .i64 i, .int .i64 n, .int .u8 k, hashV h, .int .u8 q] w fun e w' => e = .returned (.bool true) ∧ Kept None w w' := by
  have hb0 := hb
  have hl0 := hl
  have hr0 := hr
  obtain ⟨a0, c0, rfl, g01, g02, g03⟩ := hb.shape
  obtain ⟨a1, c1, rfl, g11, g12, g13⟩ := hl.shape
  obtain ⟨ar, cr, rfl⟩ := hr.form
  have HK := hid (fun w => known w)
  obtain ⟨nb, hnb⟩ : ∃ n, n = b.length := ⟨_, rfl⟩
  obtain ⟨nl, hnl⟩ : ∃ n, n = l.length := ⟨_, rfl⟩
  obtain ⟨nr, hnr⟩ : ∃ n, n = raw.length := ⟨_, rfl⟩
  rw [← hnb] at hb0
  rw [← hnl] at hl0
  rw [← hnr] at hr0
  obtain ⟨lb, hlb⟩ : ∃ x, x = leafL b := ⟨_, rfl⟩
  have lb32 : lb.length = 32 := by rw [hlb]; exact leafL_len _
  obtain ⟨nd, hnd⟩ : ∃ x, x = nodeL h lb := ⟨_, rfl⟩
  have nd32 : nd.length = 32 := by rw [hnd]; exact nodeL_len _ _
  have f1 := fun W (hb : Bs W lo hi (.slice a0 nb c0) b) => Lg.leaf _ _ _ b W hb (by omega)
  have f2 := fun W (hb : Bs W lo hi (.slice a0 nb c0) b) => RLg.leaf _ _ _ b W hb (by omega)
  have f3 := fun W => Lg.splitAny n W hn0 hn1
  have f4 := fun W => RLg.splitAny n W hn0 hn1
  have f5 := fun W => Lg.splitAny (k : Int) W (by omega) (by omega)
  have f6 := fun W => RLg.splitAny (k : Int) W (by omega) (by omega)
  have f7 := fun W => Lg.node h lb W hh lb32
  have f8 := fun W => RLg.node h lb W hh lb32
  rw [← hlb] at f1 f2
  rw [← hnd] at f7 f8
  obtain ⟨s1, hs1⟩ : ∃ x, x = splitZ n := ⟨_, rfl⟩
  obtain ⟨s2, hs2⟩ : ∃ x, x = splitZ (k : Int) := ⟨_, rfl⟩
  rw [← hs1] at f3 f4
  rw [← hs2] at f5 f6
  have e1 := Hk.neqHash lb lb lb32 lb32
  have e2 := Hk.neqHash nd nd nd32 nd32
  rw [beq_self_eq_true] at e1 e2
  obtain ⟨LB, hLB⟩ : ∃ A : Array Value, A = (lb.map u8v).toArray := ⟨_, rfl⟩
  obtain ⟨ND, hND⟩ : ∃ A : Array Value, A = (nd.map u8v).toArray := ⟨_, rfl⟩
  obtain ⟨HA, hHA⟩ : ∃ A : Array Value, A = (h.map u8v).toArray := ⟨_, rfl⟩
  have aHA : AggTy Try.prog 25 HA.size := by rw [hHA]; exact Hk.aH32 hh
  have sHA : HA.size = 32 := by rw [hHA]; simpa using hh
  have allHA : HA.all (·.oneCell') = true := by rw [hHA]; exact u8v_all' _
  simp only [hashV, ← hLB, ← hND, ← hHA] at f1 f2 f7 f8 e1 e2
  show Calls Try.prog 3 #[.slice a0 b.length c0, .slice a1 l.length c1, .slice ar raw.length cr, .int .i64 i, .int .i64 n, .int .u8 k, .agg (h.map u8v).toArray, .int .u8 q] w _
  rw [← hnb, ← hnl, ← hnr, ← hHA]
  have HLv := hid (fun w1 (k : Kept None w w1) => leaves _ _ _ l w1 (hl0.kept k (fun _ _ _ h => h)) (by omega))
  have C6 := hid (And.intro f1 (And.intro f2 (And.intro f3 (And.intro f4 (And.intro f5 (And.intro f6 (And.intro f7 f8)))))))
  have E6 := hid (And.intro e1 e2)
  have HB0 := hid hb0
  have HR0 := hid hr0
  have HSZ := hid (And.intro sHA (And.intro allHA (And.intro hh hHA)))
  have HIN := hid (And.intro hi0 (And.intro hi1 (And.intro hn0 hn1)))
  have HKQ := hid (And.intro hk hq)
  have HNS := hid (And.intro hnl (And.intro hnr (And.intro hl40 hr20)))
  have h1 : decide ((100 : Int) < (nb : Int)) = false := by rw [decide_eq_false_iff_not]; omega
  have h2 : decide ((40 : Int) < (nl : Int)) = false := by rw [decide_eq_false_iff_not]; omega
  have h3 : decide ((20 : Int) < (nr : Int)) = false := by rw [decide_eq_false_iff_not]; omega
  have wk : wrap64 (k : Int) = (k : Int) := wwN k (Nat.lt_of_lt_of_le hk (by decide))
  have ik : IntKind.i64.wrap (k : Int) = (k : Int) := iwN k (Nat.lt_of_lt_of_le hk (by decide))
  have k0 : Kept None w (w.alloc (.cells HA 25)) := (Kept.refl _ _).alloc _
  have b0 : Blk (w.alloc (.cells HA 25)) w.heap.size HA 25 := Blk.new w _ _
  clear hb hl hr hb0 hl0 hr0 g01 g03 g11 g13 hnb hnl hnr hlb lb32 hnd nd32 f1 f2 f3 f4 f5 f6 f7 f8 hs1 hs2 e1 e2 hLB hND hHA sHA allHA hb100 hl40 hr20 hi0 hi1 hn0 hn1 hh hk hq
  go_enter Try.func3, Try.ntmps3
  go_wp2_with fail
  refine (HK.out _).mono ?_
  rintro e w1 ⟨rfl, k1⟩
  have K1 := hid (k0.trans k1)
  have BH1 := hid (b0.kept k1 (fun h => h))
  obtain ⟨gh, hgh⟩ : ∃ g, g = w.heap.size := ⟨_, rfl⟩
  rw [← hgh] at BH1 ⊢
  clear k0 k1 b0 hgh
  go_wp2_with fail
  refine (HLv.out w1 K1.out).mono ?_
  rintro e w2 ⟨u2, rfl, k2, p2⟩
  obtain ⟨x, hx⟩ : ∃ x, x = leavesL l := ⟨_, rfl⟩
  have hxl : x.length = nl := by rw [hx, HNS.out.1]; exact leavesL_len l
  rw [← hx] at p2
  have P2 := p2.rh.mono (Nat.zero_le _)
  obtain ⟨ax, cx, rfl⟩ := P2.form
  rw [hxl] at P2 ⊢
  have K2 := hid (K1.out.trans k2)
  have IX := hid (And.intro P2 hxl)
  have BH2 := hid (BH1.out.kept k2 (fun h => h))
  have BV := hid (HB0.out.kept K2.out (fun _ _ _ h => h))
  have IR := hid (HR0.out.kept K2.out)
  clear k2 p2 P2 hx hxl K1 BH1 HLv HB0 HR0
  go_wp2_with fail
  have hs : Steady [.val 1 (.agg LB), .val 3 (.agg LB), .val 7 (.int .i64 s1), .val 9 (.int .i64 s1), .val 15 (.int .i64 s2), .val 18 (.int .i64 s2), .val 24 (.agg LB), .val 25 (.agg ND), .val 28 (.agg LB), .val 29 (.agg ND)] := Go.Pm.Steady.val (Go.Pm.Steady.val (Go.Pm.Steady.val (Go.Pm.Steady.val (Go.Pm.Steady.val (Go.Pm.Steady.val (Go.Pm.Steady.val (Go.Pm.Steady.val (Go.Pm.Steady.val (Go.Pm.Steady.val (Go.Pm.Steady.nil))))))))))
  refine wp_region_kn w2 _ hs (Kept.refl _ _) (by kernel_rfl) (by kernel_rfl) (by kernel_rfl) ?_
  iterate 1 (refine wpPar_pure rfl (by rfl) _ (fun W hW => by
      have q1 := E6.out.1
      have q2 := E6.out.2
      go_simp
      exact rfl) ?_; simp only [Act.put, List.setIfInBounds_toArray, List.set_cons_zero, List.set_cons_succ])
  refine wpKn_adds hs rfl (by rfl) (fun W hW hd => ?_) (fun v1 hv => ?_)
  · unfold Gives
    go_simp
    refine gives_call (C6.out.1 W (BV.out.kept hW (fun _ _ _ h => h))) ?_
    rintro e w3 ⟨rfl, k3⟩
    exact ⟨_, rfl, k3, rfl, trivial⟩
  obtain rfl : v1 = .agg LB := hv
  simp only [Act.put, List.setIfInBounds_toArray, List.set_cons_zero, List.set_cons_succ]
  iterate 1 (refine wpPar_pure rfl (by rfl) _ (fun W hW => by
      have q1 := E6.out.1
      have q2 := E6.out.2
      go_simp
      exact rfl) ?_; simp only [Act.put, List.setIfInBounds_toArray, List.set_cons_zero, List.set_cons_succ])
  refine wpKn_adds hs rfl (by rfl) (fun W hW hd => ?_) (fun v3 hv => ?_)
  · unfold Gives
    go_simp
    refine gives_call (C6.out.2.1 W (BV.out.kept hW (fun _ _ _ h => h))) ?_
    rintro e w3 ⟨rfl, k3⟩
    exact ⟨_, rfl, k3, rfl, trivial⟩
  obtain rfl : v3 = .agg LB := hv
  simp only [Act.put, List.setIfInBounds_toArray, List.set_cons_zero, List.set_cons_succ]
  iterate 2 (refine wpPar_pure rfl (by rfl) _ (fun W hW => by
      have q1 := E6.out.1
      have q2 := E6.out.2
      go_simp
      exact rfl) ?_; simp only [Act.put, List.setIfInBounds_toArray, List.set_cons_zero, List.set_cons_succ])
  refine wpPar_pure rfl (by kernel_rfl) _ (fun W hW => by
      have q1 := E6.out.1
      have q2 := E6.out.2
      go_simp
      exact rfl) ?_; simp only [Act.put, List.setIfInBounds_toArray, List.set_cons_zero, List.set_cons_succ]
  refine wpKn_adds hs rfl (by kernel_rfl) (fun W hW hd => ?_) (fun v7 hv => ?_)
  · unfold Gives
    go_simp
    refine gives_call (C6.out.2.2.1 W) ?_
    rintro e w3 ⟨rfl, k3⟩
    exact ⟨_, rfl, k3, rfl, trivial⟩
  obtain rfl : v7 = .int .i64 s1 := hv
  simp only [Act.put, List.setIfInBounds_toArray, List.set_cons_zero, List.set_cons_succ]
  refine wpPar_pure rfl (by kernel_rfl) _ (fun W hW => by
      have q1 := E6.out.1
      have q2 := E6.out.2
      go_simp
      exact rfl) ?_; simp only [Act.put, List.setIfInBounds_toArray, List.set_cons_zero, List.set_cons_succ]
  refine wpKn_adds hs rfl (by kernel_rfl) (fun W hW hd => ?_) (fun v9 hv => ?_)
  · unfold Gives
    go_simp
    refine gives_call (C6.out.2.2.2.1 W) ?_
    rintro e w3 ⟨rfl, k3⟩
    exact ⟨_, rfl, k3, rfl, trivial⟩
  obtain rfl : v9 = .int .i64 s1 := hv
  simp only [Act.put, List.setIfInBounds_toArray, List.set_cons_zero, List.set_cons_succ]
  refine wpPar_pure rfl (by kernel_rfl) _ (fun W hW => by
      have q1 := E6.out.1
      have q2 := E6.out.2
      go_simp
      exact rfl) ?_; simp only [Act.put, List.setIfInBounds_toArray, List.set_cons_zero, List.set_cons_succ]
  iterate 2 (refine wpPar_pure rfl (by rfl) _ (fun W hW => by
      have q1 := E6.out.1
      have q2 := E6.out.2
      go_simp
      exact rfl) ?_; simp only [Act.put, List.setIfInBounds_toArray, List.set_cons_zero, List.set_cons_succ])
  refine wpPar_pure rfl (by kernel_rfl) _ (fun W hW => by
      have q1 := E6.out.1
      have q2 := E6.out.2
      go_simp
      exact rfl) ?_; simp only [Act.put, List.setIfInBounds_toArray, List.set_cons_zero, List.set_cons_succ]
  refine wpPar_pure rfl (by kernel_rfl) _ (fun W hW => by
      have q1 := E6.out.1
      have q2 := E6.out.2
      go_simp
      exact rfl) ?_; simp only [Act.put, List.setIfInBounds_toArray, List.set_cons_zero, List.set_cons_succ]
  refine wpKn_adds hs rfl (by kernel_rfl) (fun W hW hd => ?_) (fun v15 hv => ?_)
  · unfold Gives
    go_simp
    refine gives_call (C6.out.2.2.2.2.1 W) ?_
    rintro e w3 ⟨rfl, k3⟩
    exact ⟨_, rfl, k3, rfl, trivial⟩
  obtain rfl : v15 = .int .i64 s2 := hv
  simp only [Act.put, List.setIfInBounds_toArray, List.set_cons_zero, List.set_cons_succ]
  refine wpPar_pure rfl (by kernel_rfl) _ (fun W hW => by
      have q1 := E6.out.1
      have q2 := E6.out.2
      go_simp
      exact rfl) ?_; simp only [Act.put, List.setIfInBounds_toArray, List.set_cons_zero, List.set_cons_succ]
  refine wpPar_pure rfl (by kernel_rfl) _ (fun W hW => by
      have q1 := E6.out.1
      have q2 := E6.out.2
      go_simp
      exact rfl) ?_; simp only [Act.put, List.setIfInBounds_toArray, List.set_cons_zero, List.set_cons_succ]
  refine wpKn_adds hs rfl (by kernel_rfl) (fun W hW hd => ?_) (fun v18 hv => ?_)
  · unfold Gives
    go_simp
    refine gives_call (C6.out.2.2.2.2.2.1 W) ?_
    rintro e w3 ⟨rfl, k3⟩
    exact ⟨_, rfl, k3, rfl, trivial⟩
  obtain rfl : v18 = .int .i64 s2 := hv
  simp only [Act.put, List.setIfInBounds_toArray, List.set_cons_zero, List.set_cons_succ]
  refine wpPar_pure rfl (by kernel_rfl) _ (fun W hW => by
      have q1 := E6.out.1
      have q2 := E6.out.2
      go_simp
      exact rfl) ?_; simp only [Act.put, List.setIfInBounds_toArray, List.set_cons_zero, List.set_cons_succ]
  iterate 2 (refine wpPar_pure rfl (by rfl) _ (fun W hW => by
      have q1 := E6.out.1
      have q2 := E6.out.2
      go_simp
      exact rfl) ?_; simp only [Act.put, List.setIfInBounds_toArray, List.set_cons_zero, List.set_cons_succ])
  refine wpPar_pure rfl (by kernel_rfl) _ (fun W hW => by first | exact exec_load_blk _ _ rfl rfl (BH2.out.kept hW (fun h => h)) aHA | (have q1 := E6.out.1; have q2 := E6.out.2; go_simp; exact rfl)) ?_; simp only [Act.put, List.setIfInBounds_toArray, List.set_cons_zero, List.set_cons_succ]
  refine wpPar_pure rfl (by kernel_rfl) _ (fun W hW => by
      have q1 := E6.out.1
      have q2 := E6.out.2
      go_simp
      exact rfl) ?_; simp only [Act.put, List.setIfInBounds_toArray, List.set_cons_zero, List.set_cons_succ]
  refine wpKn_adds hs rfl (by kernel_rfl) (fun W hW hd => ?_) (fun v24 hv => ?_)
  · unfold Gives
    go_simp
    refine gives_call (C6.out.1 W (BV.out.kept hW (fun _ _ _ h => h))) ?_
    rintro e w3 ⟨rfl, k3⟩
    exact ⟨_, rfl, k3, rfl, trivial⟩
  obtain rfl : v24 = .agg LB := hv
  simp only [Act.put, List.setIfInBounds_toArray, List.set_cons_zero, List.set_cons_succ]
  refine wpKn_adds hs rfl (by kernel_rfl) (fun W hW hd => ?_) (fun v25 hv => ?_)
  · unfold Gives
    go_simp
    refine gives_call (C6.out.2.2.2.2.2.2.1 W) ?_
    rintro e w3 ⟨rfl, k3⟩
    exact ⟨_, rfl, k3, rfl, trivial⟩
  obtain rfl : v25 = .agg ND := hv
  simp only [Act.put, List.setIfInBounds_toArray, List.set_cons_zero, List.set_cons_succ]
  refine wpPar_pure rfl (by kernel_rfl) _ (fun W hW => by first | exact exec_load_blk _ _ rfl rfl (BH2.out.kept hW (fun h => h)) aHA | (have q1 := E6.out.1; have q2 := E6.out.2; go_simp; exact rfl)) ?_; simp only [Act.put, List.setIfInBounds_toArray, List.set_cons_zero, List.set_cons_succ]
  refine wpPar_pure rfl (by kernel_rfl) _ (fun W hW => by
      have q1 := E6.out.1
      have q2 := E6.out.2
      go_simp
      exact rfl) ?_; simp only [Act.put, List.setIfInBounds_toArray, List.set_cons_zero, List.set_cons_succ]
  refine wpKn_adds hs rfl (by kernel_rfl) (fun W hW hd => ?_) (fun v28 hv => ?_)
  · unfold Gives
    go_simp
    refine gives_call (C6.out.2.1 W (BV.out.kept hW (fun _ _ _ h => h))) ?_
    rintro e w3 ⟨rfl, k3⟩
    exact ⟨_, rfl, k3, rfl, trivial⟩
  obtain rfl : v28 = .agg LB := hv
  simp only [Act.put, List.setIfInBounds_toArray, List.set_cons_zero, List.set_cons_succ]
  refine wpKn_adds hs rfl (by kernel_rfl) (fun W hW hd => ?_) (fun v29 hv => ?_)
  · unfold Gives
    go_simp
    refine gives_call (C6.out.2.2.2.2.2.2.2 W) ?_
    rintro e w3 ⟨rfl, k3⟩
    exact ⟨_, rfl, k3, rfl, trivial⟩
  obtain rfl : v29 = .agg ND := hv
  simp only [Act.put, List.setIfInBounds_toArray, List.set_cons_zero, List.set_cons_succ]
  refine wpPar_pure rfl (by kernel_rfl) _ (fun W hW => by
      have q1 := E6.out.1
      have q2 := E6.out.2
      go_simp
      exact rfl) ?_; simp only [Act.put, List.setIfInBounds_toArray, List.set_cons_zero, List.set_cons_succ]
  iterate 1 (refine wpPar_pure rfl (by rfl) _ (fun W hW => by
      have q1 := E6.out.1
      have q2 := E6.out.2
      go_simp
      exact rfl) ?_; simp only [Act.put, List.setIfInBounds_toArray, List.set_cons_zero, List.set_cons_succ])
  refine wpPar_nil (fun w6 hW hG => ?_)
  have K6 := hid (K2.out.trans hW)
  have BH6 := hid (BH2.out.kept hW (fun h => h))
  have IX6 := hid (And.intro (IX.out.1.kept hW) IX.out.2)
  have IR6 := hid (IR.out.kept hW)
  clear hG hs hW K2 BH2 IX IR BV C6 E6 h1 h2 h3
  go_wp2
  go_loopg [86] 2 (fun kx s86 wr => ∃ j : Nat, s86 = .int .i64 j ∧ j ≤ 2 ∧ 2 - j ≤ kx ∧ Hid (Kept None w6 wr) ∧ Hid (Blk wr w6.heap.size #[.slice ax nl cx, .slice ar nr cr] 23))
  case atStart => exact ⟨0, rfl, by omega, by omega, (Kept.refl _ _).alloc _, Blk.new _ _ _⟩
  case round =>
    obtain ⟨j, rfl, hj, hjx, HKr, HBr⟩ := hrel
    by_cases hlt : j < 2
    · have hjz : (j : Int) < 2 := by omega
      obtain ⟨wo, rfl⟩ : ∃ wo : World, wo = wr := ⟨_, rfl⟩
      obtain ⟨ys, ya, ny, yc, hcell, hny, hR⟩ : ∃ (ys : List (List UInt8)) (ya : Option Addr) (ny yc : Nat), wo.cell? ⟨w6.heap.size, j, none⟩ = some (.slice ya ny yc) ∧ (ys.length = ny ∧ ny ≤ 40) ∧ Rh 0 wo (.slice ya ny yc) ys := by
        have hc := HBr.out.cell j
        have h0 : j = 0 ∨ j = 1 := by omega
        rcases h0 with rfl | rfl
        · exact ⟨x, ax, nl, cx, hc, ⟨IX6.out.2, by have := HNS.out; omega⟩, IX6.out.1.kept HKr.out⟩
        · exact ⟨raw, ar, nr, cr, hc, ⟨HNS.out.2.1.symm, by have := HNS.out; omega⟩, IR6.out.kept HKr.out⟩
      have hys32 : H32 ys := by
        obtain ⟨_, h⟩ := hR
        exact h.1
      obtain ⟨r, hr⟩ : ∃ r, r = rootL ys := ⟨_, rfl⟩
      have r32 : r.length = 32 := by rw [hr]; exact rootL_len hys32
      have f1 := fun v w hv => RLg.root ys.length ys v w hv (Nat.le_refl _) (by omega)
      have f2 := fun v w hv => Lg.root ys.length ys v w hv (Nat.le_refl _) (by omega)
      rw [← hr] at f1 f2
      have e1 := Hk.neqHash r r r32 r32
      rw [beq_self_eq_true] at e1
      obtain ⟨RA, hRA⟩ : ∃ A : Array Value, A = (r.map u8v).toArray := ⟨_, rfl⟩
      have aRA : AggTy Try.prog 25 RA.size := by rw [hRA]; exact Hk.aH32 r32
      have sRA : RA.size = 32 := by rw [hRA]; simpa using r32
      have allRA : RA.all (·.oneCell') = true := by rw [hRA]; exact u8v_all' _
      simp only [hashV, ← hRA] at f1 f2 e1
      have FRR := hid f1
      have FR := hid f2
      have ER := hid e1
      have HRS := hid (And.intro sRA (And.intro allRA (And.intro r32 hRA)))
      have HY := hid (And.intro hR (And.intro hny hys32))
      clear f1 f2 e1 hRA sRA allRA hr r32 hR hny hys32
      go_wp2_with fail
      refine (FRR.out _ wo HY.out.1).mono ?_
      rintro e w3 ⟨rfl, k3⟩
      obtain ⟨z3, hz3, hZ3⟩ := Blk.any (n := 32) (Blk.new w3 #[.int .u8 0, .int .u8 0, .int .u8 0, .int .u8 0, .int .u8 0, .int .u8 0, .int .u8 0, .int .u8 0, .int .u8 0, .int .u8 0, .int .u8 0, .int .u8 0, .int .u8 0, .int .u8 0, .int .u8 0, .int .u8 0, .int .u8 0, .int .u8 0, .int .u8 0, .int .u8 0, .int .u8 0, .int .u8 0, .int .u8 0, .int .u8 0, .int .u8 0, .int .u8 0, .int .u8 0, .int .u8 0, .int .u8 0, .int .u8 0, .int .u8 0, .int .u8 0] 25) (by rfl)
      have E3 := hid (hz3.trans HRS.out.1.symm)
      have K3 := hid (HKr.out.trans k3)
      have Y3 := hid (HY.out.1.kept k3)
      have Q3 := hid (HBr.out.kept k3 (fun h => h))
      clear hz3 k3 hcell
      go_wp2_with (first | (refine wpList_store_blk rfl _ _ _ rfl rfl rfl hZ3 aRA E3.out HRS.out.2.1 ?_; intro w4 h4 k4; have k34 := k4.fresh) | fail)
      have K4 := hid (K3.out.trans k34)
      have Y4 := hid (Y3.out.kept k34)
      have Q4 := hid (Q3.out.kept k34 (fun h => h))
      have BR4 := hid h4
      obtain ⟨gr, hgr⟩ : ∃ g, g = w3.heap.size := ⟨_, rfl⟩
      rw [← hgr] at BR4 ⊢
      clear k4 k34 hZ3 K3 Y3 Q3 E3 h4 hgr
      have hs : Steady [.val 1 (.agg RA)] := Go.Pm.Steady.val (Go.Pm.Steady.nil)
      refine wp_region_kn w4 _ hs (Kept.refl _ _) (by kernel_rfl) (by kernel_rfl) (by kernel_rfl) ?_
      iterate 1 (refine wpPar_pure rfl (by rfl) _ (fun W hW => by
          have q1 := ER.out
          go_simp
          exact rfl) ?_; simp only [Act.put, List.setIfInBounds_toArray, List.set_cons_zero, List.set_cons_succ])
      refine wpKn_adds hs rfl (by rfl) (fun W hW hd => ?_) (fun v1 hv => ?_)
      · unfold Gives
        go_simp
        refine gives_call (FR.out _ W (Y4.out.kept hW)) ?_
        rintro e w3 ⟨rfl, k3⟩
        exact ⟨_, rfl, k3, rfl, trivial⟩
      obtain rfl : v1 = .agg RA := hv
      simp only [Act.put, List.setIfInBounds_toArray, List.set_cons_zero, List.set_cons_succ]
      refine wpPar_pure rfl (by rfl) _ (fun W hW => by first | exact exec_load_blk _ _ rfl rfl (BR4.out.kept hW (fun h => h)) aRA | (have q1 := ER.out; go_simp; exact rfl)) ?_; simp only [Act.put, List.setIfInBounds_toArray, List.set_cons_zero, List.set_cons_succ]
      iterate 1 (refine wpPar_pure rfl (by rfl) _ (fun W hW => by
          have q1 := ER.out
          go_simp
          exact rfl) ?_; simp only [Act.put, List.setIfInBounds_toArray, List.set_cons_zero, List.set_cons_succ])
      refine wpPar_nil (fun w5 hW hG => ?_)
      have K5 := hid (K4.out.trans hW)
      have Y5 := hid (Y4.out.kept hW)
      have Q5 := hid (Q4.out.kept hW (fun h => h))
      have BR5 := hid (BR4.out.kept hW (fun h => h))
      have BH5 := hid (BH6.out.kept K5.out (fun h => h))
      clear hG hs hW K4 Y4 Q4 BR4 ER FR FRR
      obtain ⟨M, hM⟩ : ∃ M : Nat, M = ny + 1 := ⟨_, rfl⟩
      obtain ⟨t, ht⟩ : ∃ t : Nat, t = k % M := ⟨_, rfl⟩
      have rM : IntKind.i64.wrap ((ny : Int) + 1) = (M : Int) := iwZ ny M hM.symm (by have := HY.out.2.1; omega)
      have zM : ¬ M = 0 := by omega
      have hkM : (k : Int) % (M : Int) = (t : Int) := by rw [ht]; rfl
      have htk : t < M := by rw [ht]; exact Nat.mod_lt _ (by omega)
      have HT := hid (And.intro htk hM)
      clear htk ht hM
      go_wp2
      rw [hkM]
      go_loopg [105] 2 (fun kx s105 wr => ∃ j2 : Nat, s105 = .int .i64 j2 ∧ j2 ≤ 2 ∧ 2 - j2 ≤ kx ∧ Hid (Kept None w5 wr) ∧ Hid (Blk wr w5.heap.size #[.int .i64 i, .int .i64 t] 3))
      case atStart => exact ⟨0, rfl, by omega, by omega, (Kept.refl _ _).alloc _, Blk.new _ _ _⟩
      case round =>
        obtain ⟨j2, rfl, hj2, hjx2, HKr2, HBr2⟩ := hrel
        by_cases hlt2 : j2 < 2
        · have hjz2 : (j2 : Int) < 2 := by omega
          obtain ⟨wp, rfl⟩ : ∃ wp : World, wp = wr := ⟨_, rfl⟩
          obtain ⟨pl, hcell2, hpl⟩ : ∃ pl : Int, wp.cell? ⟨w5.heap.size, j2, none⟩ = some (.int .i64 pl) ∧ (-9223372036854775808 ≤ pl ∧ pl < 9223372036854775808) := by
            have hc := HBr2.out.cell j2
            have h0 : j2 = 0 ∨ j2 = 1 := by omega
            rcases h0 with rfl | rfl
            · exact ⟨i, hc, HIN.out.1, HIN.out.2.1⟩
            · exact ⟨(t : Int), hc, by omega, by have := HT.out; have := HY.out.2.1; omega⟩
          have HPL := hid hpl
          clear hpl
          have f1 := fun v w hv => Lg.pathAny ys pl v w hv (by have := HY.out.2.1; omega)
          have f2 := fun v w hv => RLg.pathAny ys pl v w hv (by have := HY.out.2.1; omega)
          obtain ⟨ps, hps⟩ : ∃ x, x = pathZ ys pl := ⟨_, rfl⟩
          obtain ⟨ok, hok⟩ : ∃ x, x = inR ys pl := ⟨_, rfl⟩
          obtain ⟨np, hnp⟩ : ∃ x, x = ps.length := ⟨_, rfl⟩
          have hp40 : np ≤ 40 := by
            have h1 := pathZ_len ys pl
            rw [← hps] at h1
            have := HY.out.2.1
            omega
          rw [← hps, ← hok] at f1 f2
          have FP := hid (And.intro f1 f2)
          have HNP := hid (And.intro hnp hp40)
          have HH := hid (fun va vb w hp hq => Hk.hashes va vb ps ps w hp hq)
          have Yp := hid (Y5.out.kept HKr2.out)
          clear f1 f2 hps hok hnp hp40
          go_wp2_with fail
          refine (FP.out.1 _ wp Yp.out).mono ?_
          rintro e w6' ⟨u, rfl, k6, p6⟩
          obtain ⟨a6, c6, rfl⟩ := Ho.form p6
          rw [← HNP.out.1] at p6 ⊢
          have P6 := hid (p6.rh.mono (Nat.zero_le _))
          have K6' := hid k6
          have Y6' := hid (Yp.out.kept k6)
          clear k6 p6 hcell2
          go_wp2_with fail
          refine (FP.out.2 _ w6' Y6'.out).mono ?_
          rintro e w7 ⟨u, rfl, k7, q7⟩
          obtain ⟨a7, c7, rfl⟩ := Ho.form q7
          rw [← HNP.out.1] at q7 ⊢
          have P7 := hid (P6.out.kept k7)
          have Q7 := hid (q7.rh.mono (Nat.zero_le _))
          have K7 := hid (K6'.out.trans k7)
          clear k7 q7 P6 Y6' Yp FP K6'
          go_wp2_with fail
          refine (HH.out _ _ w7 P7.out Q7.out).mono ?_
          rintro e w8 ⟨rfl, k8⟩
          have Q8 := hid (Q7.out.kept k8)
          have QH8 := hid ((Rh.most Q7.out).kept k8 (fun _ _ _ h => h))
          have HS78 := hid k8.size
          have K8 := hid (K7.out.trans k8)
          obtain ⟨q3, hq3⟩ : ∃ x : Nat, x = q % 3 := ⟨_, rfl⟩
          obtain ⟨q5, hq5⟩ : ∃ x : Nat, x = q % 5 := ⟨_, rfl⟩
          have m3 : (q : Int).tmod 3 = (q3 : Int) := by rw [hq3]; rfl
          have m5 : (q : Int).tmod 5 = (q5 : Int) := by rw [hq5]; rfl
          obtain ⟨bz, hbz⟩ : ∃ x : Bool, x = ((q3 : Int) == 0) := ⟨_, rfl⟩
          have m3b : ((q3 : Int) == 0) = bz := hbz.symm
          have m3c : ((q : Int).tmod 3 == 0) = bz := by rw [m3, hbz]
          have lq3 : q3 < 3 := by rw [hq3]; exact Nat.mod_lt _ (by decide)
          have wq3 : wrap64 (q3 : Int) = (q3 : Int) := wwN q3 (Nat.lt_of_lt_of_le lq3 (by decide))
          have HQ3 := hid lq3
          have BH8 := hid (BH5.out.kept (HKr2.out.trans K8.out) (fun h => h))
          have HQp := hid (And.intro Q8.out HNP.out)
          clear k8 P7 Q7 K7 hq3 hq5 lq3 HH hbz
          have HQs : Hid (∃ hi, Ps 32 w8 0 hi (.slice a7 np c7) (hsC ps) ∧ H32 ps) := hid (by obtain ⟨hi, h1, h2⟩ := HQp.out.1; exact ⟨hi, h2, h1⟩)
          obtain ⟨hiq, hPs, h32ps⟩ := HQs.out
          have HPS := hid (And.intro hPs h32ps)
          clear hPs h32ps HQs
          go_upto_if 134 with (first | (at_builtin; refine wpList_append_po rfl _ _ 23 rfl Hk.rtHashes (by decide) rfl rfl (Po.nil 32 25 w8 w8.heap.size) HPS.out.1 (hsC_one _) (by rw [hsC_len]; have := HNP.out; simp; omega) (Nat.le_refl _) ?_; intro a9 n9 c9 w9 p9 k9 o9) | fail)
          have HO9 : Ho 25 w9 w8.heap.size (.slice a9 n9 c9) ps := ⟨HPS.out.2, p9⟩
          have hn9 : n9 = np := by
            obtain ⟨_, _, h⟩ := HO9.form
            injection h with _ h
            rw [h, HNP.out.1]
          subst hn9
          have HO := hid HO9
          have HS8 := hid K8.out.size
          have QH9 := hid (QH8.out.kept (k9.mono (T := None) (fun q _ h => by cases h)) (fun _ _ _ h => h))
          have K9 := hid (K8.out.trans (k9.mono (T := None) (fun q _ h => by cases h)))
          have HS9 : Hid (w8.heap.size ≤ w9.heap.size) := hid k9.size
          have BH9 := hid (BH5.out.kept (HKr2.out.trans K9.out) (fun h => h))
          have Q9 := hid (Q8.out.kept (k9.mono (T := None) (fun q _ h => by cases h)))
          clear p9 k9 o9 HO9 BH8 Q8 HQp HPS K8 QH8
          have ka : Kept None w9 (w9.alloc (.cells HA 25)) := (Kept.refl _ _).alloc _
          have HO10 := hid (HO.out.kept ka (fun _ _ h => h))
          have hrow := Blk.new w9 HA 25
          rw [HSZ.out.2.2.2] at hrow
          have HU10 := hid (Hs.ofBlk hrow HSZ.out.2.2.1)
          rw [← HSZ.out.2.2.2] at HU10
          have KA := hid ka
          clear ka hrow
          go_cut [27] (fun s27 wx => ∃ (ab : Option Addr) (mb cb : Nat) (bs : List (List UInt8)), s27 = .slice ab mb cb ∧ Hid (bs.length = mb ∧ mb ≤ 60) ∧ Hid (Rh 0 wx (.slice ab mb cb) bs) ∧ Hid (Kept None wp wx) ∧ Hid (Rh 0 wx (.slice a7 n9 c7) ps))
          case first =>
            cases bz with
            | true =>
              go_wp2_with (first | (refine wpList_load_blk rfl _ _ rfl rfl BH9.out aHA ?_) | (refine wpList_one_item rfl _ _ rfl Hk.rtHashes (by decide) rfl HSZ.out.1 ?_) | (at_builtin; refine wpList_append_po rfl _ _ 23 rfl Hk.rtHashes (by decide) rfl rfl HO10.out.2 HU10.out.2 (hsC_one _) (by rw [hsC_len, hsC_len]; have := HNP.out; simp; omega) (Nat.le_trans HS9.out KA.out.size) ?_; intro a11 n11 c11 w11 p11 k11 o11) | fail)
              have hown := HO10.out.2.own
              have HO11 : Ho 25 w11 w8.heap.size (.slice a11 n11 c11) (ps ++ [h]) := ⟨HO10.out.1.append (H32.one HSZ.out.2.2.1), by rw [hsC_append]; exact p11⟩
              have hn11 : n11 = n9 + 1 := by
                obtain ⟨_, _, h⟩ := HO11.form
                injection h with _ h
                rw [h, List.length_append, HNP.out.1]; rfl
              subst hn11
              have KE : Hid (Kept None wp w11) := hid ((K9.out.trans KA.out).then k11 (fun q hq h => by have := (hown q h).1; have := HS8.out; omega))
              have Q11 : Hid (Rh 0 w11 (.slice a7 n9 c7) ps) := hid ⟨_, (QH9.out.kept KA.out (fun _ _ _ h => h)).kept k11 (fun q _ h2 h => by have := (hown q h).1; have := HS78.out; omega)⟩
              go_meet
              exact ⟨_, _, _, ps ++ [h], rfl, hid (by rw [List.length_append, ← HNP.out.1]; have := HNP.out.2; constructor; rfl; omega), hid (HO11.rh.mono (Nat.zero_le _)), KE, Q11⟩
            | false =>
              by_cases h0 : n9 = 0
              · subst h0
                go_wp2_with fail
                go_meet
                exact ⟨_, _, _, ps, rfl, hid ⟨HNP.out.1.symm, by decide⟩, hid (HO.out.rh.mono (Nat.zero_le _)), K9, Q9⟩
              · obtain ⟨gb, hgb⟩ : ∃ g, a9 = some ⟨g, 0, none⟩ := by
                  rcases HO.out.2.2.2 with ⟨_, h1⟩ | ⟨g, _, _, h1, _⟩
                  · rw [hsC_len] at h1
                    exact absurd (HNP.out.1.trans h1) h0
                  · injection h1 with h1
                    exact ⟨g, h1⟩
                subst hgb
                obtain ⟨ix, hix⟩ : ∃ x : Nat, x = q % n9 := ⟨_, rfl⟩
                have mi : (q : Int) % (n9 : Int) = (ix : Int) := by rw [hix]; rfl
                have mit : (q : Int).tmod (n9 : Int) = (ix : Int) := by rw [hix]; rfl
                have lix : ix < n9 := by rw [hix]; exact Nat.mod_lt _ (by omega)
                have wq : IntKind.i64.wrap (q : Int) = (q : Int) := iwN q (Nat.lt_of_lt_of_le HKQ.out.2 (by decide))
                have lixz : (ix : Int) < (n9 : Int) := by omega
                have h0p : (0 : Int) < (n9 : Int) := by omega
                have h0n : 0 < n9 := by omega
                have HIX := hid lix
                clear hix lix
                go_wp2_with fail
                have hs : Steady [] := Go.Pm.Steady.nil
                refine wp_region_kn_tail 8 w9 _ hs (Kept.refl _ _) (by kernel_rfl) (by kernel_rfl) (by kernel_rfl) ?_
                simp only [List.take_succ_cons, List.take_zero, List.drop_succ_cons, List.drop_zero]
                iterate 6 (refine wpPar_pure rfl (by rfl) _ (fun W hW => by
                    go_simp
                    exact rfl) ?_; simp only [Act.put, List.setIfInBounds_toArray, List.set_cons_zero, List.set_cons_succ])
                refine wpPar_pure rfl (by rfl) _ (fun W hW => by first | exact exec_load_blk _ _ rfl rfl (BH9.out.kept hW (fun h => h)) aHA | (go_simp; exact rfl)) ?_; simp only [Act.put, List.setIfInBounds_toArray, List.set_cons_zero, List.set_cons_succ]
                iterate 1 (refine wpPar_pure rfl (by rfl) _ (fun W hW => by
                    go_simp
                    exact rfl) ?_; simp only [Act.put, List.setIfInBounds_toArray, List.set_cons_zero, List.set_cons_succ])
                refine wpPar_nil (fun W hW hG => ?_)
                have HOW := hid (HO.out.kept hW (fun _ _ h => h))
                have KW := hid (K9.out.trans hW)
                have KWQ := hid hW
                clear hG hs hW
                go_wp2_with (first | (refine wpList_store_hash rfl _ _ _ rfl HOW.out (by rw [← HNP.out.1]; exact HIX.out) HSZ.out.2.2.1 rfl (by rw [← HSZ.out.2.2.2]; rfl) Sp.aH ?_; intro w11 p11 k11) | fail)
                have KE : Hid (Kept None wp w11) := hid (KW.out.then k11 (fun q hq h => by have h : q = gb := h; have h1 := (HO.out.2.own gb rfl).1; have := HS8.out; omega))
                have Q11 : Hid (Rh 0 w11 (.slice a7 n9 c7) ps) := hid ⟨_, (QH9.out.kept KWQ.out (fun _ _ _ h => h)).kept k11 (fun q _ h2 h => by have h : q = gb := h; have h1 := (HO.out.2.own gb rfl).1; have := HS78.out; omega)⟩
                go_meet
                exact ⟨_, _, _, ps.set ix h, rfl, hid ⟨by rw [List.length_set, HNP.out.1], by have := HNP.out.2; omega⟩, hid (p11.rh.mono (Nat.zero_le _)), KE, Q11⟩
          case rest =>
            obtain ⟨ab, mb, cb, bs, rfl, HMB, RB, KC, QC⟩ := hcut
            clear HO K9 HS9 BH9 Q9 HO10 HU10 KA QH9 HS78 HS8
            obtain ⟨wC, rfl⟩ : ∃ wC : World, wC = wc := ⟨_, rfl⟩
            go_wp2_with fail
            go_loopg [155] 3 (fun kx s155 wr => ∃ j3 : Nat, s155 = .int .i64 j3 ∧ j3 ≤ 3 ∧ 3 - j3 ≤ kx ∧ Hid (Kept None wC wr) ∧ Hid (Blk wr wC.heap.size #[.slice a7 n9 c7, .slice ab mb cb, .slice ar nr cr] 23))
            case atStart => exact ⟨0, rfl, by omega, by omega, (Kept.refl _ _).alloc _, Blk.new _ _ _⟩
            case round =>
              obtain ⟨j3, rfl, hj3, hjx3, HKr3, HBr3⟩ := hrel
              by_cases hlt3 : j3 < 3
              · have hjz3 : (j3 : Int) < 3 := by omega
                obtain ⟨wd, rfl⟩ : ∃ wd : World, wd = wr := ⟨_, rfl⟩
                have KWD := hid (HKr2.out.trans (KC.out.trans HKr3.out))
                obtain ⟨zs, za, zn, zc, hcell3, hzs⟩ : ∃ (zs : List (List UInt8)) (za : Option Addr) (zn zc : Nat), wd.cell? ⟨wC.heap.size, j3, none⟩ = some (.slice za zn zc) ∧ ((zs.length = zn ∧ zn ≤ 60) ∧ Rh 0 wd (.slice za zn zc) zs) := by
                  have hc := HBr3.out.cell j3
                  have h0 : j3 = 0 ∨ j3 = 1 ∨ j3 = 2 := by omega
                  rcases h0 with rfl | rfl | rfl
                  · exact ⟨ps, a7, n9, c7, hc, ⟨HNP.out.1.symm, by have := HNP.out.2; omega⟩, QC.out.kept HKr3.out⟩
                  · exact ⟨bs, ab, mb, cb, hc, HMB.out, RB.out.kept HKr3.out⟩
                  · exact ⟨raw, ar, nr, cr, hc, ⟨HNS.out.2.1.symm, by have := HNS.out; omega⟩, IR6.out.kept (K5.out.trans KWD.out)⟩
                have HZS := hid hzs
                have BHd := hid (BH5.out.kept KWD.out (fun h => h))
                obtain ⟨zd, hzd, hZd⟩ := Blk.any (n := 32) (Blk.new wd #[.int .u8 0, .int .u8 0, .int .u8 0, .int .u8 0, .int .u8 0, .int .u8 0, .int .u8 0, .int .u8 0, .int .u8 0, .int .u8 0, .int .u8 0, .int .u8 0, .int .u8 0, .int .u8 0, .int .u8 0, .int .u8 0, .int .u8 0, .int .u8 0, .int .u8 0, .int .u8 0, .int .u8 0, .int .u8 0, .int .u8 0, .int .u8 0, .int .u8 0, .int .u8 0, .int .u8 0, .int .u8 0, .int .u8 0, .int .u8 0, .int .u8 0, .int .u8 0] 25) (by rfl)
                have Ed := hid (hzd.trans HSZ.out.1.symm)
                clear hzs hzd
                go_upto_region 30 with (first | (refine wpList_load_blk rfl _ _ rfl rfl BHd.out aHA ?_) | (refine wpList_store_blk rfl _ _ _ rfl rfl rfl hZd aHA Ed.out HSZ.out.2.1 ?_; intro we he ke; have kde := ke.fresh) | fail)
                obtain ⟨g30, hg30⟩ : ∃ g, g = wd.heap.size := ⟨_, rfl⟩
                rw [← hg30] at he ⊢
                have B30 := hid he
                have KDE := hid kde
                have HG30 := hid hg30
                clear hcell3 hZd Ed he ke kde hg30 BHd
                simp only [Act.put]
                go_cut [172] (fun s172 wx => ∃ b172 : Bool, s172 = .bool b172 ∧ Hid (b172 = true → 0 ≤ pl ∧ pl < (ny : Int)) ∧ wx = we)
                case first =>
                  by_cases p1 : 0 ≤ pl
                  · by_cases p2 : pl < (ny : Int)
                    · by_cases p3 : 0 < q5
                      · go_wp2_with fail
                        go_meet
                        exact ⟨true, rfl, hid (fun _ => ⟨p1, p2⟩), rfl⟩
                      · go_wp2_with fail
                        go_meet
                        exact ⟨false, rfl, hid (fun h => by cases h), rfl⟩
                    · go_wp2_with fail
                      go_meet
                      exact ⟨false, rfl, hid (fun h => by cases h), rfl⟩
                  · go_wp2_with fail
                    go_meet
                    exact ⟨false, rfl, hid (fun h => by cases h), rfl⟩
                case rest =>
                  obtain ⟨b172, rfl, HC172, hwe⟩ := hcut
                  subst hwe
                  go_upto_if 172 with fail
                  go_cut [30] (fun s30 wx => ∃ lf : List UInt8, s30 = .pointer (some ⟨g30, 0, none⟩) ∧ Hid (lf.length = 32) ∧ Hid (Blk wx g30 (lf.map u8v).toArray 25) ∧ Hid (Kept None wd wx))
                  case first =>
                    cases b172 with
                    | false =>
                      go_wp2_with fail
                      go_meet
                      exact ⟨h, rfl, hid HSZ.out.2.2.1, hid (by rw [← HSZ.out.2.2.2]; exact B30.out), KDE⟩
                    | true =>
                      have hpn := HC172.out rfl
                      obtain ⟨pn, rfl⟩ : ∃ pn : Nat, pl = (pn : Int) := ⟨pl.toNat, by omega⟩
                      have hpy : pn < ys.length := by have := HY.out.2.1; omega
                      have hpz : (pn : Int) < (ny : Int) := hpn.2
                      obtain ⟨yb, yo, hyab, ry⟩ : ∃ b o, ya = some ⟨b, o, none⟩ ∧ wc.rangeAt b (o + pn * 32) ((ys[pn]'hpy).map u8v) := by
                        obtain ⟨hi, h⟩ := Y5.out.kept (KWD.out.trans KDE.out)
                        exact h.at hpy
                      obtain ⟨yl, hyl⟩ : ∃ y, y = ys[pn]'hpy := ⟨_, rfl⟩
                      have lyl : yl.length = 32 := by rw [hyl]; exact HY.out.2.2 _ (List.getElem_mem hpy)
                      rw [← hyl] at ry
                      have ayl := Hk.aH32' lyl
                      have ayA := Hk.aH32 lyl
                      have HYL := hid (And.intro lyl (show HA.size = (yl.map u8v).toArray.size by rw [HSZ.out.1]; simp [lyl]))
                      have RY := hid ry
                      clear hpn hyl lyl ry hpy
                      subst hyab
                      go_wp2_with (first | (refine wpList_load_at rfl _ _ rfl rfl RY.out ayl ?_) | (refine wpList_store_blk rfl _ _ _ rfl rfl rfl B30.out ayA HYL.out.2 (u8v_all' _) ?_; intro wf hf kf) | fail)
                      have KF : Hid (Kept None wd wf) := hid (KDE.out.then kf (fun q hq h => by have h : q = g30 := h; have := HG30.out; omega))
                      have HF := hid hf
                      clear kf hf
                      go_meet
                      exact ⟨yl, rfl, hid HYL.out.1, HF, KF⟩
                  case rest =>
                    obtain ⟨lf, rfl, HLF, BLF, KLF⟩ := hcut
                    clear B30 KDE HC172
                    obtain ⟨wF, rfl⟩ : ∃ wF : World, wF = wc := ⟨_, rfl⟩
                    obtain ⟨LA, hLA⟩ : ∃ A : Array Value, A = (lf.map u8v).toArray := ⟨_, rfl⟩
                    have aLA : AggTy Try.prog 25 LA.size := by rw [hLA]; exact Hk.aH32 HLF.out
                    have BLA : Hid (Blk wF g30 LA 25) := hid (by rw [hLA]; exact BLF.out)
                    obtain ⟨N3, hN3⟩ : ∃ x : Nat, x = ny + q3 := ⟨_, rfl⟩
                    have h60 : N3 ≤ 60 := by rw [hN3]; exact Nat.le_trans (Nat.add_le_add HY.out.2.1.2 (Nat.le_of_lt HQ3.out)) (by decide)
                    have r3 : IntKind.i64.wrap ((ny : Int) + (q3 : Int)) = (N3 : Int) := by rw [show (ny : Int) + (q3 : Int) = (N3 : Int) by rw [hN3]; rfl]; exact iwN N3 (Nat.lt_of_le_of_lt h60 (by decide))
                    have iq3 : IntKind.i64.wrap (q3 : Int) = (q3 : Int) := iwN q3 (Nat.lt_of_lt_of_le HQ3.out (by decide))
                    have HN3 := hid h60
                    have HLAE := hid (And.intro hLA HLF.out)
                    clear hLA hN3 h60 BLF HLF
                    go_wp2_with fail
                    go_loopg [188] 3 (fun kx s188 wr => ∃ j4 : Nat, s188 = .int .i64 j4 ∧ j4 ≤ 3 ∧ 3 - j4 ≤ kx ∧ Hid (Kept None wF wr) ∧ Hid (Blk wr wF.heap.size #[.int .i64 ny, .int .i64 n, .int .i64 N3] 3))
                    case atStart => exact ⟨0, rfl, by omega, by omega, (Kept.refl _ _).alloc _, Blk.new _ _ _⟩
                    case round =>
                      obtain ⟨j4, rfl, hj4, hjx4, HKr4, HBr4⟩ := hrel
                      by_cases hlt4 : j4 < 3
                      · have hjz4 : (j4 : Int) < 3 := by omega
                        obtain ⟨wg, rfl⟩ : ∃ wg : World, wg = wr := ⟨_, rfl⟩
                        obtain ⟨cn, hcell4, hcn⟩ : ∃ cn : Int, wg.cell? ⟨wF.heap.size, j4, none⟩ = some (.int .i64 cn) ∧ cn < 9223372036854775808 := by
                          have hc := HBr4.out.cell j4
                          have h0 : j4 = 0 ∨ j4 = 1 ∨ j4 = 2 := by omega
                          rcases h0 with rfl | rfl | rfl
                          · exact ⟨(ny : Int), hc, Int.lt_of_le_of_lt (Int.ofNat_le.2 HY.out.2.1.2) (by decide)⟩
                          · exact ⟨n, hc, HIN.out.2.2.2⟩
                          · exact ⟨(N3 : Int), hc, Int.lt_of_le_of_lt (Int.ofNat_le.2 HN3.out) (by decide)⟩
                        have KWG := hid (KWD.out.trans (KLF.out.trans HKr4.out))
                        have BRg := hid (BR5.out.kept KWG.out (fun h => h))
                        have BLg := hid (BLA.out.kept HKr4.out (fun h => h))
                        have Zg := hid (HZS.out.2.kept (KLF.out.trans HKr4.out))
                        have hz60 : zs.length ≤ 549755813888 := by have := HZS.out.1; omega
                        have f1 := fun W hv => Lg.check r lf zs cn pl (.slice za zn zc) W HRS.out.2.2.1 HLAE.out.2 hv hz60 hcn
                        have f2 := fun W hv => RLg.check r lf zs cn pl (.slice za zn zc) W HRS.out.2.2.1 HLAE.out.2 hv hz60 hcn
                        obtain ⟨bC, hbC⟩ : ∃ x, x = checkL r cn pl lf zs := ⟨_, rfl⟩
                        rw [← hbC] at f1 f2
                        simp only [hashV, ← HRS.out.2.2.2, ← HLAE.out.1] at f1 f2
                        have FC := hid (And.intro f1 f2)
                        clear f1 f2 hbC hz60 hcn
                        go_wp2_with fail
                        have hs : Steady [.val 5 (.bool bC), .val 11 (.bool bC)] := Go.Pm.Steady.val (Go.Pm.Steady.val (Go.Pm.Steady.nil))
                        refine wp_region_kn wg _ hs (Kept.refl _ _) (by kernel_rfl) (by kernel_rfl) (by kernel_rfl) ?_
                        refine wpPar_pure rfl (by rfl) _ (fun W hW => by first | exact exec_load_blk _ _ rfl rfl (BRg.out.kept hW (fun h => h)) aRA | exact exec_load_blk _ _ rfl rfl (BLg.out.kept hW (fun h => h)) aLA | (have q1 : (bC != bC) = false := by cases bC <;> rfl; go_simp; exact rfl)) ?_; simp only [Act.put, List.setIfInBounds_toArray, List.set_cons_zero, List.set_cons_succ]
                        iterate 2 (refine wpPar_pure rfl (by rfl) _ (fun W hW => by
                            have q1 : (bC != bC) = false := by cases bC <;> rfl
                            go_simp
                            exact rfl) ?_; simp only [Act.put, List.setIfInBounds_toArray, List.set_cons_zero, List.set_cons_succ])
                        refine wpPar_pure rfl (by rfl) _ (fun W hW => by first | exact exec_load_blk _ _ rfl rfl (BRg.out.kept hW (fun h => h)) aRA | exact exec_load_blk _ _ rfl rfl (BLg.out.kept hW (fun h => h)) aLA | (have q1 : (bC != bC) = false := by cases bC <;> rfl; go_simp; exact rfl)) ?_; simp only [Act.put, List.setIfInBounds_toArray, List.set_cons_zero, List.set_cons_succ]
                        iterate 1 (refine wpPar_pure rfl (by rfl) _ (fun W hW => by
                            have q1 : (bC != bC) = false := by cases bC <;> rfl
                            go_simp
                            exact rfl) ?_; simp only [Act.put, List.setIfInBounds_toArray, List.set_cons_zero, List.set_cons_succ])
                        refine wpKn_adds hs rfl (by rfl) (fun W hW hd => ?_) (fun v5 hv => ?_)
                        · unfold Gives
                          go_simp
                          refine gives_call (FC.out.1 W (Zg.out.kept hW)) ?_
                          rintro e w3 ⟨rfl, k3⟩
                          exact ⟨_, rfl, k3, rfl, trivial⟩
                        obtain rfl : v5 = .bool bC := hv
                        simp only [Act.put, List.setIfInBounds_toArray, List.set_cons_zero, List.set_cons_succ]
                        refine wpPar_pure rfl (by rfl) _ (fun W hW => by first | exact exec_load_blk _ _ rfl rfl (BRg.out.kept hW (fun h => h)) aRA | exact exec_load_blk _ _ rfl rfl (BLg.out.kept hW (fun h => h)) aLA | (have q1 : (bC != bC) = false := by cases bC <;> rfl; go_simp; exact rfl)) ?_; simp only [Act.put, List.setIfInBounds_toArray, List.set_cons_zero, List.set_cons_succ]
                        iterate 2 (refine wpPar_pure rfl (by rfl) _ (fun W hW => by
                            have q1 : (bC != bC) = false := by cases bC <;> rfl
                            go_simp
                            exact rfl) ?_; simp only [Act.put, List.setIfInBounds_toArray, List.set_cons_zero, List.set_cons_succ])
                        refine wpPar_pure rfl (by rfl) _ (fun W hW => by first | exact exec_load_blk _ _ rfl rfl (BRg.out.kept hW (fun h => h)) aRA | exact exec_load_blk _ _ rfl rfl (BLg.out.kept hW (fun h => h)) aLA | (have q1 : (bC != bC) = false := by cases bC <;> rfl; go_simp; exact rfl)) ?_; simp only [Act.put, List.setIfInBounds_toArray, List.set_cons_zero, List.set_cons_succ]
                        iterate 1 (refine wpPar_pure rfl (by rfl) _ (fun W hW => by
                            have q1 : (bC != bC) = false := by cases bC <;> rfl
                            go_simp
                            exact rfl) ?_; simp only [Act.put, List.setIfInBounds_toArray, List.set_cons_zero, List.set_cons_succ])
                        refine wpKn_adds hs rfl (by rfl) (fun W hW hd => ?_) (fun v11 hv => ?_)
                        · unfold Gives
                          go_simp
                          refine gives_call (FC.out.2 W (Zg.out.kept hW)) ?_
                          rintro e w3 ⟨rfl, k3⟩
                          exact ⟨_, rfl, k3, rfl, trivial⟩
                        obtain rfl : v11 = .bool bC := hv
                        simp only [Act.put, List.setIfInBounds_toArray, List.set_cons_zero, List.set_cons_succ]
                        iterate 1 (refine wpPar_pure rfl (by rfl) _ (fun W hW => by
                            have q1 : (bC != bC) = false := by cases bC <;> rfl
                            go_simp
                            exact rfl) ?_; simp only [Act.put, List.setIfInBounds_toArray, List.set_cons_zero, List.set_cons_succ])
                        refine wpPar_nil (fun W hW hG => ?_)
                        have KR := hid (HKr4.out.trans hW)
                        have BR := hid (HBr4.out.kept hW (fun h => h))
                        clear hG hs hW FC Zg BLg BRg KWG hcell4
                        go_wp2
                        go_roundg (3 - (j4 + 1))
                        case measure => omega
                        case rel => exact ⟨j4 + 1, by go_num, by omega, Nat.le_refl _, KR, BR⟩
                      · have hjz4 : ¬ (j4 : Int) < 3 := by omega
                        go_wp2
                        go_roundg (3 - (j3 + 1))
                        case measure => omega
                        case rel => exact ⟨j3 + 1, by go_num, by omega, Nat.le_refl _, hid (HKr3.out.trans (KLF.out.trans HKr4.out)), hid (HBr3.out.kept (KLF.out.trans HKr4.out) (fun h => h))⟩
              · have hjz3 : ¬ (j3 : Int) < 3 := by omega
                go_wp2
                go_roundg (2 - (j2 + 1))
                case measure => omega
                case rel => exact ⟨j2 + 1, by go_num, by omega, Nat.le_refl _, hid (HKr2.out.trans (KC.out.trans HKr3.out)), hid (HBr2.out.kept (KC.out.trans HKr3.out) (fun h => h))⟩
        · have hjz2 : ¬ (j2 : Int) < 2 := by omega
          go_wp2
          go_roundg (2 - (j + 1))
          case measure => omega
          case rel => exact ⟨j + 1, by go_num, by omega, Nat.le_refl _, hid (K5.out.trans HKr2.out), hid (Q5.out.kept HKr2.out (fun h => h))⟩
    · have hjz : ¬ (j : Int) < 2 := by omega
      go_wp2
      go_ret
      exact ⟨rfl, K6.out.trans HKr.out⟩
/-- LogTells. -/
theorem tells (v0 v1 v2 : Value) (lo hi lo1 hi1 : Nat) (b l : List UInt8) (raw : List (List UInt8)) (i n : Int) (k q : Nat) (h : List UInt8) (w : World) (hb : Bs w lo hi v0 b) (hl : Bs w lo1 hi1 v1 l) (hr : Rh 0 w v2 raw) (bi0 : -9223372036854775808 ≤ i) (bi1 : i < 9223372036854775808) (bn0 : -9223372036854775808 ≤ n) (bn1 : n < 9223372036854775808) (hk : k < 256) (hq : q < 256) (hh : h.length = 32) :
    Calls Try.prog 3 #[v0, v1, v2, .int .i64 i, .int .i64 n, .int .u8 k, hashV h, .int .u8 q] w fun e w' => e = .returned (.bool true) ∧ Kept None w w' := by
  by_cases hx : 100 < b.length ∨ 40 < l.length ∨ 20 < raw.length
  · exact tells_out v0 v1 v2 lo hi lo1 hi1 b l raw i n k q h w hb hl hr hx
  · exact tells_in v0 v1 v2 lo hi lo1 hi1 b l raw i n k q h w hb hl hr (by omega) (by omega) (by omega) bi0 bi1 bn0 bn1 hk hq hh
end L8
end Go.Proofs.Ytdlnikkfpfdbbaa
