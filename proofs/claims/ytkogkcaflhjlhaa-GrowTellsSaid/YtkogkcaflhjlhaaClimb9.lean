/- full, climb of package grow: by contract. -/
import Derived.Test.YtkogkcaflhjlhaaSub9
import Derived.Test.YtkogkcaflhjlhaaBlks9
namespace Go.Pm
open Go Go.RowKit
theorem andI (a b : Nat) (ha : a < 9223372036854775808) (hb : b < 9223372036854775808) : bits .and .i64 (a : Int) (b : Int) = ((a &&& b : Nat) : Int) := by
  have hx : a &&& b < 2 ^ 63 := Nat.and_lt_two_pow _ (by omega)
  have h1 : (BitVec.ofInt 64 (a : Int)).toNat = a := by
    rw [BitVec.ofInt_natCast, BitVec.toNat_ofNat]; exact Nat.mod_eq_of_lt (by omega)
  have h2 : (BitVec.ofInt 64 (b : Int)).toNat = b := by
    rw [BitVec.ofInt_natCast, BitVec.toNat_ofNat]; exact Nat.mod_eq_of_lt (by omega)
  show IntKind.i64.wrap ((BitVec.ofInt 64 (a : Int) &&& BitVec.ofInt 64 (b : Int)).toNat : Int) = _
  rw [BitVec.toNat_and, h1, h2, IntKind.wrap_i64]
  omega
theorem and_odd (a : Nat) (ha : a < 9223372036854775808) (h : a % 2 = 1) : bits .and .i64 (a : Int) 1 = 1 := by
  have h1 := andI a 1 ha (by decide)
  rw [show a &&& 1 = a % 2 from Nat.and_two_pow_sub_one_eq_mod a 1, h] at h1
  exact h1
theorem and_even (a : Nat) (ha : a < 9223372036854775808) (h : ¬ a % 2 = 1) : bits .and .i64 (a : Int) 1 = 0 := by
  have h1 := andI a 1 ha (by decide)
  rw [show a &&& 1 = a % 2 from Nat.and_two_pow_sub_one_eq_mod a 1, show a % 2 = 0 by omega] at h1
  exact h1
theorem stripO_le : ∀ (f a b : Nat), a ≤ f → a ≤ b → (stripO a b).1 ≤ (stripO a b).2 ∧ (stripO a b).2 ≤ b
  | f, a, b, hf, h => by
    by_cases ho : a % 2 = 1
    · rw [stripO_odd ho]
      match f with
      | 0 => omega
      | f + 1 =>
        have := stripO_le f (a / 2) (b / 2) (by omega) (by omega)
        omega
    · rw [stripO_even ho]
      exact ⟨h, Nat.le_refl _⟩
theorem climbP_none (a b : Nat) (el nw : List UInt8) : climbP [] a b el nw = (el, nw, b == 0) := rfl
theorem climbP_over (h : List UInt8) (hs : List (List UInt8)) (a : Nat) (el nw : List UInt8) : climbP (h :: hs) a 0 el nw = (zero32, zero32, false) := by rw [climbP, if_pos rfl]
theorem climbP_both (h : List UInt8) (hs : List (List UInt8)) {a b : Nat} (hb : b ≠ 0) (ho : a % 2 = 1 ∨ a = b) (el nw : List UInt8) : climbP (h :: hs) a b el nw = climbP hs ((stripE a b).1 / 2) ((stripE a b).2 / 2) (nodeL h el) (nodeL h nw) := by rw [climbP, if_neg hb, if_pos ho]
theorem climbP_new (h : List UInt8) (hs : List (List UInt8)) {a b : Nat} (hb : b ≠ 0) (ho : ¬ (a % 2 = 1 ∨ a = b)) (el nw : List UInt8) : climbP (h :: hs) a b el nw = climbP hs (a / 2) (b / 2) el (nodeL nw h) := by rw [climbP, if_neg hb, if_neg ho]
theorem wrapK (k : Nat) (h : k < 549755813888) : wrap64 ((k : Int) + 1) = ((k + 1 : Nat) : Int) := by unfold wrap64; omega
theorem drop_at {l : List (List UInt8)} {k : Nat} (h : k < l.length) : l.drop k = l[k] :: l.drop (k + 1) := (List.drop_eq_getElem_cons h)
/-- Three results, two in cells. -/
theorem res_cells_tmp {P : Program} {fn : Func} {p p2 q : Tmp} {ty : TypeId} (h : fn.results = #[.cell p ty, .cell p2 ty, .tmp q]) (tmps : Array Value) {w : World} {g g2 : Nat} {t : TypeId} {cs cs2 : Array Value} (hp : tmps.getD p undef = .pointer (some ⟨g, 0, none⟩)) (hp2 : tmps.getD p2 undef = .pointer (some ⟨g2, 0, none⟩)) {x : Value} (hq : tmps.getD q undef = x) (hb : Blk w g cs t) (hb2 : Blk w g2 cs2 t)
    (hT : AggTy P ty cs.size) (hT2 : AggTy P ty cs2.size) : (results fn tmps).run P w = .ok (.tuple #[.agg cs, .agg cs2, x]) w := by
  obtain ⟨d, hu, hd⟩ := hT.ag
  obtain ⟨d2, hu2, hd2⟩ := hT2.ag
  have hp' : tmps[p]?.getD undef = .pointer (some ⟨g, 0, none⟩) := by simpa using hp
  have hp2' : tmps[p2]?.getD undef = .pointer (some ⟨g2, 0, none⟩) := by simpa using hp2
  have hq' : tmps[q]?.getD undef = x := by simpa using hq
  have hl := run_loadVar_row w g t ty cs (0, 0) d hb hu (by cases d <;> first | rfl | exact hd) hT.size
  have hl2 := run_loadVar_row w g2 t ty cs2 (0, 0) d2 hb2 hu2 (by cases d2 <;> first | rfl | exact hd2) hT2.size
  simp [results, h, hp', hp2', hq', asAddr, hl, hl2]
end Go.Pm
namespace Go.Proofs.Ytkogkcaflhjlhaa
open Go.RowKit Go.Pm
namespace Gr
set_option maxRecDepth 100000 in
/-- full. -/
theorem full (m : Nat) (w : World) (h1 : 1 ≤ m) (h2 : m < 9223372036854775808) : Calls Try.prog 44 #[.int .i64 m] w fun e w' => e = .returned (.bool (fullN m)) ∧ w = w' := by
  have e1 : wrap64 ((m : Int) - 1) = ((m - 1 : Nat) : Int) := by unfold wrap64; omega
  have e2 := andI m (m - 1) h2 (by omega)
  have e3 := and_pred h1
  obtain ⟨x, hx⟩ : ∃ x, x = m &&& (m - 1) := ⟨_, rfl⟩
  obtain ⟨j, hj⟩ : ∃ x, x = m - 1 := ⟨_, rfl⟩
  obtain ⟨b, hb⟩ : ∃ x, x = fullN m := ⟨_, rfl⟩
  rw [← hj] at e1 hx
  rw [← hj, ← hx] at e2
  rw [← hj, ← hx, ← hb] at e3
  rw [← hb]
  have e4 : ((x : Int) == 0) = b := by
    rw [← e3]
    by_cases h : x = 0
    · subst h; rfl
    · rw [show (x == 0) = false by simpa using h, beq_eq_false_iff_ne]; omega
  clear hx hj hb e3 h1 h2
  go_enter Try.func44, Try.ntmps44
  go_wp2
  go_ret
  exact ⟨rfl, rfl⟩
set_option maxRecDepth 100000 in
set_option maxHeartbeats 4000000 in
/-- climb. -/
theorem climb (m n : Nat) (start : List UInt8) (path : List (List UInt8)) (v : Value) (w : World) (hs : start.length = 32) (hv : Rh 0 w v path) (hp : path.length ≤ 549755813888) (h1 : 1 ≤ m) (h2 : m < n) (h3 : n < 9223372036854775808) (X : Trio) (hX : X = climbP path (stripO (m - 1) (n - 1)).1 (stripO (m - 1) (n - 1)).2 start start) :
    Calls Try.prog 45 #[.int .i64 m, .int .i64 n, hashV start, v] w fun e w' => e = .returned (.tuple #[hashV X.1, hashV X.2.1, .bool X.2.2]) ∧ Kept None w w' := by
  obtain ⟨ad, cap, rfl⟩ := hv.form
  obtain ⟨N, hN⟩ : ∃ N, N = path.length := ⟨_, rfl⟩
  rw [← hN] at hp ⊢
  obtain ⟨L, hL⟩ : ∃ L : Array Value, L = (start.map u8v).toArray := ⟨_, rfl⟩
  have aL : AggTy Try.prog 25 L.size := by rw [hL]; exact Hk.aH32 hs
  have sL : L.size = 32 := by rw [hL]; simpa using hs
  have allL : L.all (·.oneCell') = true := by rw [hL]; exact u8v_all' _
  obtain ⟨A0, hA0⟩ : ∃ x, x = stripO (m - 1) (n - 1) := ⟨_, rfl⟩
  rw [← hA0] at hX
  obtain ⟨m1, hm1⟩ : ∃ x, x = m - 1 := ⟨_, rfl⟩
  obtain ⟨n1, hn1⟩ : ∃ x, x = n - 1 := ⟨_, rfl⟩
  rw [← hm1, ← hn1] at hA0
  have rm : wrap64 ((m : Int) - 1) = (m1 : Int) := by unfold wrap64; omega
  have rn : wrap64 ((n : Int) - 1) = (n1 : Int) := by unfold wrap64; omega
  have hmn : m1 ≤ n1 ∧ n1 < 9223372036854775808 := by omega
  show Calls Try.prog 45 #[.int .i64 m, .int .i64 n, .agg (start.map u8v).toArray, .slice ad N cap] w _
  rw [← hL]
  have k0 : Kept None w (((w.alloc (.cells L 25)).alloc (.cells #[.int .u8 0, .int .u8 0, .int .u8 0, .int .u8 0, .int .u8 0, .int .u8 0, .int .u8 0, .int .u8 0, .int .u8 0, .int .u8 0, .int .u8 0, .int .u8 0, .int .u8 0, .int .u8 0, .int .u8 0, .int .u8 0, .int .u8 0, .int .u8 0, .int .u8 0, .int .u8 0, .int .u8 0, .int .u8 0, .int .u8 0, .int .u8 0, .int .u8 0, .int .u8 0, .int .u8 0, .int .u8 0, .int .u8 0, .int .u8 0, .int .u8 0, .int .u8 0] 25)).alloc (.cells #[.int .u8 0, .int .u8 0, .int .u8 0, .int .u8 0, .int .u8 0, .int .u8 0, .int .u8 0, .int .u8 0, .int .u8 0, .int .u8 0, .int .u8 0, .int .u8 0, .int .u8 0, .int .u8 0, .int .u8 0, .int .u8 0, .int .u8 0, .int .u8 0, .int .u8 0, .int .u8 0, .int .u8 0, .int .u8 0, .int .u8 0, .int .u8 0, .int .u8 0, .int .u8 0, .int .u8 0, .int .u8 0, .int .u8 0, .int .u8 0, .int .u8 0, .int .u8 0] 25)) := (((Kept.refl _ _).alloc _).alloc _).alloc _
  have bL : Blk (((w.alloc (.cells L 25)).alloc (.cells #[.int .u8 0, .int .u8 0, .int .u8 0, .int .u8 0, .int .u8 0, .int .u8 0, .int .u8 0, .int .u8 0, .int .u8 0, .int .u8 0, .int .u8 0, .int .u8 0, .int .u8 0, .int .u8 0, .int .u8 0, .int .u8 0, .int .u8 0, .int .u8 0, .int .u8 0, .int .u8 0, .int .u8 0, .int .u8 0, .int .u8 0, .int .u8 0, .int .u8 0, .int .u8 0, .int .u8 0, .int .u8 0, .int .u8 0, .int .u8 0, .int .u8 0, .int .u8 0] 25)).alloc (.cells #[.int .u8 0, .int .u8 0, .int .u8 0, .int .u8 0, .int .u8 0, .int .u8 0, .int .u8 0, .int .u8 0, .int .u8 0, .int .u8 0, .int .u8 0, .int .u8 0, .int .u8 0, .int .u8 0, .int .u8 0, .int .u8 0, .int .u8 0, .int .u8 0, .int .u8 0, .int .u8 0, .int .u8 0, .int .u8 0, .int .u8 0, .int .u8 0, .int .u8 0, .int .u8 0, .int .u8 0, .int .u8 0, .int .u8 0, .int .u8 0, .int .u8 0, .int .u8 0] 25)) w.heap.size L 25 := ((Blk.new w _ _).alloc _).alloc _
  have v8 : Blk (((w.alloc (.cells L 25)).alloc (.cells #[.int .u8 0, .int .u8 0, .int .u8 0, .int .u8 0, .int .u8 0, .int .u8 0, .int .u8 0, .int .u8 0, .int .u8 0, .int .u8 0, .int .u8 0, .int .u8 0, .int .u8 0, .int .u8 0, .int .u8 0, .int .u8 0, .int .u8 0, .int .u8 0, .int .u8 0, .int .u8 0, .int .u8 0, .int .u8 0, .int .u8 0, .int .u8 0, .int .u8 0, .int .u8 0, .int .u8 0, .int .u8 0, .int .u8 0, .int .u8 0, .int .u8 0, .int .u8 0] 25)).alloc (.cells #[.int .u8 0, .int .u8 0, .int .u8 0, .int .u8 0, .int .u8 0, .int .u8 0, .int .u8 0, .int .u8 0, .int .u8 0, .int .u8 0, .int .u8 0, .int .u8 0, .int .u8 0, .int .u8 0, .int .u8 0, .int .u8 0, .int .u8 0, .int .u8 0, .int .u8 0, .int .u8 0, .int .u8 0, .int .u8 0, .int .u8 0, .int .u8 0, .int .u8 0, .int .u8 0, .int .u8 0, .int .u8 0, .int .u8 0, .int .u8 0, .int .u8 0, .int .u8 0] 25)) (w.heap.size + 1) #[.int .u8 0, .int .u8 0, .int .u8 0, .int .u8 0, .int .u8 0, .int .u8 0, .int .u8 0, .int .u8 0, .int .u8 0, .int .u8 0, .int .u8 0, .int .u8 0, .int .u8 0, .int .u8 0, .int .u8 0, .int .u8 0, .int .u8 0, .int .u8 0, .int .u8 0, .int .u8 0, .int .u8 0, .int .u8 0, .int .u8 0, .int .u8 0, .int .u8 0, .int .u8 0, .int .u8 0, .int .u8 0, .int .u8 0, .int .u8 0, .int .u8 0, .int .u8 0] 25 := (Blk.new2 w _ _ _).alloc _
  have v9 : Blk (((w.alloc (.cells L 25)).alloc (.cells #[.int .u8 0, .int .u8 0, .int .u8 0, .int .u8 0, .int .u8 0, .int .u8 0, .int .u8 0, .int .u8 0, .int .u8 0, .int .u8 0, .int .u8 0, .int .u8 0, .int .u8 0, .int .u8 0, .int .u8 0, .int .u8 0, .int .u8 0, .int .u8 0, .int .u8 0, .int .u8 0, .int .u8 0, .int .u8 0, .int .u8 0, .int .u8 0, .int .u8 0, .int .u8 0, .int .u8 0, .int .u8 0, .int .u8 0, .int .u8 0, .int .u8 0, .int .u8 0] 25)).alloc (.cells #[.int .u8 0, .int .u8 0, .int .u8 0, .int .u8 0, .int .u8 0, .int .u8 0, .int .u8 0, .int .u8 0, .int .u8 0, .int .u8 0, .int .u8 0, .int .u8 0, .int .u8 0, .int .u8 0, .int .u8 0, .int .u8 0, .int .u8 0, .int .u8 0, .int .u8 0, .int .u8 0, .int .u8 0, .int .u8 0, .int .u8 0, .int .u8 0, .int .u8 0, .int .u8 0, .int .u8 0, .int .u8 0, .int .u8 0, .int .u8 0, .int .u8 0, .int .u8 0] 25)) (w.heap.size + 2) #[.int .u8 0, .int .u8 0, .int .u8 0, .int .u8 0, .int .u8 0, .int .u8 0, .int .u8 0, .int .u8 0, .int .u8 0, .int .u8 0, .int .u8 0, .int .u8 0, .int .u8 0, .int .u8 0, .int .u8 0, .int .u8 0, .int .u8 0, .int .u8 0, .int .u8 0, .int .u8 0, .int .u8 0, .int .u8 0, .int .u8 0, .int .u8 0, .int .u8 0, .int .u8 0, .int .u8 0, .int .u8 0, .int .u8 0, .int .u8 0, .int .u8 0, .int .u8 0] 25 := Blk.new3 w _ _ _ _
  obtain ⟨z8, hz8, v8⟩ := Blk.any (n := 32) v8 (by rfl)
  obtain ⟨z9, hz9, v9⟩ := Blk.any (n := 32) v9 (by rfl)
  have HL := hid (And.intro hL (And.intro sL allL))
  have HZ := hid (And.intro (hz8.trans sL.symm) (hz9.trans sL.symm))
  have HX := hid (And.intro hX hs)
  have HN := hid (And.intro hN hp)
  have HV := hid hv
  have HA := hid (And.intro hA0 hmn)
  have HND := hid (show [w.heap.size, w.heap.size + 1, w.heap.size + 2].Nodup by simp)
  have H1 := hid hm1
  clear hL sL allL hX hs hv hA0 hmn hz8 hz9 hN hp hm1 hn1 h1 h2 h3
  go_enter Try.func45, Try.ntmps45
  go_wp2
  rw [rm, rn]
  refine wp_nm ?_
  intro w1 e1
  rw [← e1] at k0 bL v8 v9
  clear e1 rm rn
  go_loopg [11, 12] n1 (fun kx s11 s12 wr => ∃ a b : Nat, s11 = .int .i64 a ∧ s12 = .int .i64 b ∧ a ≤ kx ∧ Hid (a ≤ b ∧ b < 9223372036854775808) ∧ Hid (stripO a b = A0) ∧ w1 = wr)
  case atStart => exact ⟨m1, n1, rfl, rfl, HA.out.2.1, HA.out.2, HA.out.1.symm, rfl⟩
  case round =>
  obtain ⟨a, b, rfl, rfl, hak, HAB, HS, rfl⟩ := hrel
  by_cases ho : a % 2 = 1
  · have q1 := and_odd a (by have := HAB.out; omega) ho
    go_wp2
    go_roundg (a / 2)
    case measure => omega
    case rel => exact ⟨a / 2, b / 2, by go_num, by go_num, Nat.le_refl _, hid (by have := HAB.out; omega), hid (by rw [← stripO_odd ho]; exact HS.out), rfl⟩
  · have q1 := and_even a (by have := HAB.out; omega) ho
    have HA2 := hid (show A0 = (a, b) by rw [← HS.out, stripO_even ho])
    clear HS hak ho H1 HA
    go_wp2_with fail
    refine wp_region_blk w1 [w.heap.size, w.heap.size + 1, w.heap.size + 2] 25 [.val 0 (.agg L) [4], .val 1 (.agg L) [4], .blk 2 1 L [5] [5], .blk 3 2 L [6] [6], .blk 4 0 L [] [], .blk 5 1 z8 [] [], .blk 6 2 z9 [] []] [4, 5, 6] (Kept.refl _ _) (by kernel_rfl) (by kernel_rfl) (by kernel_rfl) (by decide) ?_ ?_
    · intro k hk
      simp only [List.mem_cons, List.not_mem_nil, or_false] at hk
      rcases hk with rfl | rfl | rfl
      · exact Blk.drew (bL)
      · exact Blk.drew (v8)
      · exact Blk.drew (v9)
    refine wpB_load _ _ rfl (by rfl) rfl rfl aL rfl (fun _ _ => trivial) (fun W hW hd => hd 4 (List.Mem.head _)) ?_; simp only [Act.put, List.setIfInBounds_toArray, List.set_cons_zero, List.set_cons_succ]
    refine wpB_load _ _ rfl (by rfl) rfl rfl aL rfl (fun _ _ => trivial) (fun W hW hd => hd 4 (List.Mem.head _)) ?_; simp only [Act.put, List.setIfInBounds_toArray, List.set_cons_zero, List.set_cons_succ]
    refine wpB_store _ _ _ 1 (A := z8) rfl (by rfl) rfl rfl rfl rfl aL HZ.out.1 HL.out.2.2 HND.out (by simp) (by kernel_rfl) (fun _ => trivial) (fun _ => rfl) (fun W hW hd => hd 5 (List.Mem.head _)) (fun u => ?_)
    refine wpB_store _ _ _ 2 (A := z9) rfl (by rfl) rfl rfl rfl rfl aL HZ.out.2 HL.out.2.2 HND.out (by simp) (by kernel_rfl) (fun _ => trivial) (fun _ => rfl) (fun W hW hd => hd 6 (List.Mem.head _)) (fun u => ?_)
    refine wpPar_nil (fun W hW hG => ?_)

    have b8 : Blk W (w.heap.size + 1) L 25 := hG 2
    have b9 : Blk W (w.heap.size + 2) L 25 := hG 3
    have kW : Kept None w W := k0.then hW (fun i hi h => by
      simp only [List.mem_cons, List.not_mem_nil, or_false] at h
      omega)
    clear hG hW k0 bL v8 v9 HZ
    go_wp2
    go_loopg [11, 12, 14, 30] N (fun kx s11 s12 s14 s30 wr => ∃ (k a2 b2 : Nat) (u14 : Value) (el nw : List UInt8), s11 = .int .i64 a2 ∧ s12 = .int .i64 b2 ∧ s14 = u14 ∧ s30 = .int .i64 k ∧ k ≤ N ∧ N - k ≤ kx ∧ Hid (a2 ≤ b2 ∧ b2 < 9223372036854775808) ∧ Hid (el.length = 32 ∧ nw.length = 32) ∧ Hid (climbP (path.drop k) a2 b2 el nw = X) ∧ Hid (Kept None w wr) ∧ Hid (Blk wr (w.heap.size + 1) (el.map u8v).toArray 25) ∧ Hid (Blk wr (w.heap.size + 2) (nw.map u8v).toArray 25))
    case atStart => exact ⟨0, a, b, _, start, start, rfl, rfl, rfl, rfl, Nat.zero_le _, Nat.le_refl _, HAB, hid ⟨HX.out.2, HX.out.2⟩, hid (by rw [List.drop_zero, HX.out.1, HA2.out]), kW, by rw [← HL.out.1]; exact b8, by rw [← HL.out.1]; exact b9⟩
    case round =>
    clear HAB HA2 kW b8 b9 aL q1
    obtain ⟨k, a2, b2, u14, el, nw, rfl, rfl, rfl, rfl, hk, hkx, HAB2, HE, HC, HK, H8, H9⟩ := hrel
    obtain ⟨EA, hEA⟩ : ∃ A : Array Value, A = (el.map u8v).toArray := ⟨_, rfl⟩
    obtain ⟨NA, hNA⟩ : ∃ A : Array Value, A = (nw.map u8v).toArray := ⟨_, rfl⟩
    have aE : AggTy Try.prog 25 EA.size := by rw [hEA]; exact Hk.aH32 HE.out.1
    have aN : AggTy Try.prog 25 NA.size := by rw [hNA]; exact Hk.aH32 HE.out.2
    have sE : EA.size = 32 := by rw [hEA]; simpa using HE.out.1
    have sN : NA.size = 32 := by rw [hNA]; simpa using HE.out.2
    have allE : EA.all (·.oneCell') = true := by rw [hEA]; exact u8v_all' _
    have allN : NA.all (·.oneCell') = true := by rw [hNA]; exact u8v_all' _
    have HS2 := hid (And.intro sE (And.intro sN (And.intro allE allN)))
    have h8 := H8.out
    have h9 := H9.out
    rw [← hEA] at h8
    rw [← hNA] at h9
    have HEA := hid (And.intro hEA hNA)
    clear sE sN allE allN hEA hNA
    by_cases hlt : k < N
    · have hz : (k : Int) < (N : Int) := by omega
      have hkl : k < path.length := by have := HN.out; omega
      obtain ⟨hiX, hvX⟩ := HV.out.kept HK.out
      obtain ⟨bb, o, rfl, rp⟩ := hvX.at (i := k) hkl
      have hd := drop_at hkl
      have p32 : path[k].length = 32 := hvX.1 _ (List.getElem_mem hkl)
      obtain ⟨p, hp⟩ : ∃ p, p = path[k] := ⟨_, rfl⟩
      rw [← hp] at rp hd p32
      rw [hd] at HC
      obtain ⟨CP, hCP⟩ : ∃ C : List Value, C = p.map u8v := ⟨_, rfl⟩
      obtain ⟨PA, hPA⟩ : ∃ P : Array Value, P = CP.toArray := ⟨_, rfl⟩
      have aP : AggTy Try.prog 25 CP.length := by rw [hCP]; exact Hk.aH32' p32
      have aPA : AggTy Try.prog 25 PA.size := by rw [hPA, hCP]; exact Hk.aH32 p32
      have sPA : PA.size = 32 := by rw [hPA, hCP]; simpa using p32
      have allP : PA.all (·.oneCell') = true := by rw [hPA, hCP]; exact u8v_all' _
      have ePA : PA = (p.map u8v).toArray := by rw [hPA, hCP]
      rw [← hCP] at rp
      have RP := hid rp
      have HPA := hid hPA
      have HP := hid (And.intro p32 (And.intro ePA (And.intro sPA allP)))
      have hlt8 := h8.lt
      have hlt9 := h9.lt
      obtain ⟨z5, hz5, hZ5⟩ := Blk.any (n := 32) (Blk.new wr #[.int .u8 0, .int .u8 0, .int .u8 0, .int .u8 0, .int .u8 0, .int .u8 0, .int .u8 0, .int .u8 0, .int .u8 0, .int .u8 0, .int .u8 0, .int .u8 0, .int .u8 0, .int .u8 0, .int .u8 0, .int .u8 0, .int .u8 0, .int .u8 0, .int .u8 0, .int .u8 0, .int .u8 0, .int .u8 0, .int .u8 0, .int .u8 0, .int .u8 0, .int .u8 0, .int .u8 0, .int .u8 0, .int .u8 0, .int .u8 0, .int .u8 0, .int .u8 0] 25) (by rfl)
      have E5 := hid (hz5.trans HP.out.2.2.1.symm)
      have HLT := hid (And.intro hlt8 (And.intro hlt9 HK.out.size))
      clear hiX hvX hkl hd hp hCP hPA p32 sPA allP ePA rp hz5 hlt8 hlt9
      go_upto_region 8 with (first | (refine wpList_load_at rfl _ _ rfl rfl RP.out aP ?_; rw [← HPA.out]) | (refine wpList_store_blk rfl _ _ _ rfl rfl rfl hZ5 aPA E5.out HP.out.2.2.2 ?_; intro w5 h5 k5; have k35 := k5.fresh) | fail)
      replace h8 := h8.kept k35 (fun h => h)
      replace h9 := h9.kept k35 (fun h => h)
      have HK5 := hid (HK.out.trans k35)
      clear k35 k5 hZ5 RP aP E5 HPA H8 H9 HK
      by_cases hb0 : b2 = 0
      · subst hb0
        have HX0 := hid (show X = (zero32, zero32, false) by rw [← HC.out, climbP_over])
        clear HC HAB2 HE
        go_wp2_with (first | (refine wpList_store_blk rfl _ _ _ rfl rfl rfl h8 Sp.aH HS2.out.1 Hk.zero_all32 ?_; intro w6 h6 k6; have h96 := h9.kept k6 (fun (h : w.heap.size + 2 = w.heap.size + 1) => by omega)) | (refine wpList_store_blk rfl _ _ _ rfl rfl rfl h96 Sp.aH HS2.out.2.1 Hk.zero_all32 ?_; intro w7 h7 k7; have h87 := h6.kept k7 (fun (h : w.heap.size + 1 = w.heap.size + 2) => by omega)) | fail)
        exact bodyPost_ret (v := .tuple #[.agg #[.int .u8 0, .int .u8 0, .int .u8 0, .int .u8 0, .int .u8 0, .int .u8 0, .int .u8 0, .int .u8 0, .int .u8 0, .int .u8 0, .int .u8 0, .int .u8 0, .int .u8 0, .int .u8 0, .int .u8 0, .int .u8 0, .int .u8 0, .int .u8 0, .int .u8 0, .int .u8 0, .int .u8 0, .int .u8 0, .int .u8 0, .int .u8 0, .int .u8 0, .int .u8 0, .int .u8 0, .int .u8 0, .int .u8 0, .int .u8 0, .int .u8 0, .int .u8 0], .agg #[.int .u8 0, .int .u8 0, .int .u8 0, .int .u8 0, .int .u8 0, .int .u8 0, .int .u8 0, .int .u8 0, .int .u8 0, .int .u8 0, .int .u8 0, .int .u8 0, .int .u8 0, .int .u8 0, .int .u8 0, .int .u8 0, .int .u8 0, .int .u8 0, .int .u8 0, .int .u8 0, .int .u8 0, .int .u8 0, .int .u8 0, .int .u8 0, .int .u8 0, .int .u8 0, .int .u8 0, .int .u8 0, .int .u8 0, .int .u8 0, .int .u8 0, .int .u8 0], .bool false]) (res_cells_tmp rfl _ rfl rfl rfl h87 h7 Sp.aH Sp.aH) rfl ⟨by rw [HX0.out]; rfl, (HK5.out.then k6 (fun i hi (h : i = w.heap.size + 1) => by omega)).then k7 (fun i hi (h : i = w.heap.size + 2) => by omega)⟩
      · have hb1 : ¬ (b2 : Int) = 0 := by omega
        by_cases hd : a2 % 2 = 1 ∨ a2 = b2
        · obtain ⟨el2, hel2⟩ : ∃ x, x = nodeL p el := ⟨_, rfl⟩
          obtain ⟨nw2, hnw2⟩ : ∃ x, x = nodeL p nw := ⟨_, rfl⟩
          have HB := hid (show X = climbP (path.drop (k + 1)) ((stripE a2 b2).1 / 2) ((stripE a2 b2).2 / 2) el2 nw2 by rw [← HC.out, climbP_both _ _ hb0 hd, hel2, hnw2])
          have l1 : el2.length = 32 := by rw [hel2]; exact nodeL_len _ _
          have l2 : nw2.length = 32 := by rw [hnw2]; exact nodeL_len _ _
          have HE2 := hid (And.intro l1 l2)
          obtain ⟨E2, hE2⟩ : ∃ A : Array Value, A = (el2.map u8v).toArray := ⟨_, rfl⟩
          obtain ⟨N2, hN2⟩ : ∃ A : Array Value, A = (nw2.map u8v).toArray := ⟨_, rfl⟩
          have aE2 : AggTy Try.prog 25 E2.size := by rw [hE2]; exact Hk.aH32 l1
          have aN2 : AggTy Try.prog 25 N2.size := by rw [hN2]; exact Hk.aH32 l2
          have sE2 : EA.size = E2.size := by rw [HS2.out.1, hE2]; simpa using l1.symm
          have sN2 : NA.size = N2.size := by rw [HS2.out.2.1, hN2]; simpa using l2.symm
          have allE2 : E2.all (·.oneCell') = true := by rw [hE2]; exact u8v_all' _
          have allN2 : N2.all (·.oneCell') = true := by rw [hN2]; exact u8v_all' _
          have HSZ := hid (And.intro sE2 (And.intro sN2 (And.intro allE2 allN2)))
          have HNE : Hid (∀ w, Calls Try.prog 78 #[.agg PA, .agg EA] w fun e w' => e = .returned (.agg E2) ∧ Kept None w w') := hid (by rw [HP.out.2.1, HEA.out.1, hE2, hel2]; exact fun w => Lg.node p el w (by rw [HP.out.1]) (by rw [HE.out.1]))
          have HNN : Hid (∀ w, Calls Try.prog 78 #[.agg PA, .agg NA] w fun e w' => e = .returned (.agg N2) ∧ Kept None w w') := hid (by rw [HP.out.2.1, HEA.out.2, hN2, hnw2]; exact fun w => Lg.node p nw w (by rw [HP.out.1]) (by rw [HE.out.2]))
          have HE2A := hid (And.intro hE2 hN2)
          have HND2 := hid (show [wr.heap.size, w.heap.size + 1, w.heap.size + 2].Nodup by
            have := HLT.out
            simp
            omega)
          clear HC hel2 hnw2 l1 l2 hE2 hN2 sE2 sN2 allE2 allN2 HE HEA
          rcases hd with ho | rfl
          · have q1 := and_odd a2 (by have := HAB2.out; omega) ho
            clear ho
            go_wp2_with fail
            refine wp_region_blk w5 [wr.heap.size, w.heap.size + 1, w.heap.size + 2] 25 [.val 0 (.agg PA) [10], .val 1 (.agg EA) [8], .val 2 (.agg E2) [], .val 3 (.agg PA) [10], .val 4 (.agg NA) [9], .val 5 (.agg N2) [], .blk 6 1 E2 [8] [8], .blk 7 2 N2 [9] [9], .blk 8 1 EA [] [], .blk 9 2 NA [] [], .blk 10 0 PA [] []] [8, 9, 10] (Kept.refl _ _) (by kernel_rfl) (by kernel_rfl) (by kernel_rfl) (by decide) ?_ ?_
            · intro k hk
              simp only [List.mem_cons, List.not_mem_nil, or_false] at hk
              rcases hk with rfl | rfl | rfl
              · exact Blk.drew (h8)
              · exact Blk.drew (h9)
              · exact Blk.drew (h5)
            refine wpB_load _ _ rfl (by rfl) rfl rfl aPA rfl (fun _ _ => trivial) (fun W hW hd => hd 10 (List.Mem.head _)) ?_; simp only [Act.put, List.setIfInBounds_toArray, List.set_cons_zero, List.set_cons_succ]
            refine wpB_load _ _ rfl (by rfl) rfl rfl aE rfl (fun _ _ => trivial) (fun W hW hd => hd 8 (List.Mem.head _)) ?_; simp only [Act.put, List.setIfInBounds_toArray, List.set_cons_zero, List.set_cons_succ]
            refine wpB_call (.agg E2) rfl (by rfl) rfl (fun _ _ => trivial) (fun W hW hd => ?_) ?_
            · unfold Gives
              go_simp
              refine gives_call (HNE.out W) ?_
              rintro e w3 ⟨rfl, k3⟩
              exact ⟨_, rfl, rfl, k3⟩
            simp only [Act.put, List.setIfInBounds_toArray, List.set_cons_zero, List.set_cons_succ]
            refine wpB_load _ _ rfl (by rfl) rfl rfl aPA rfl (fun _ _ => trivial) (fun W hW hd => hd 10 (List.Mem.head _)) ?_; simp only [Act.put, List.setIfInBounds_toArray, List.set_cons_zero, List.set_cons_succ]
            refine wpB_load _ _ rfl (by rfl) rfl rfl aN rfl (fun _ _ => trivial) (fun W hW hd => hd 9 (List.Mem.head _)) ?_; simp only [Act.put, List.setIfInBounds_toArray, List.set_cons_zero, List.set_cons_succ]
            refine wpB_call (.agg N2) rfl (by rfl) rfl (fun _ _ => trivial) (fun W hW hd => ?_) ?_
            · unfold Gives
              go_simp
              refine gives_call (HNN.out W) ?_
              rintro e w3 ⟨rfl, k3⟩
              exact ⟨_, rfl, rfl, k3⟩
            simp only [Act.put, List.setIfInBounds_toArray, List.set_cons_zero, List.set_cons_succ]
            refine wpB_store _ _ _ 1 (A := EA) rfl (by rfl) rfl rfl rfl rfl aE2 HSZ.out.1 HSZ.out.2.2.1 HND2.out (by simp) (by kernel_rfl) (fun _ => trivial) (fun _ => rfl) (fun W hW hd => hd 8 (List.Mem.head _)) (fun u => ?_)
            refine wpB_store _ _ _ 2 (A := NA) rfl (by rfl) rfl rfl rfl rfl aN2 HSZ.out.2.1 HSZ.out.2.2.2 HND2.out (by simp) (by kernel_rfl) (fun _ => trivial) (fun _ => rfl) (fun W hW hd => hd 9 (List.Mem.head _)) (fun u => ?_)
            refine wpPar_nil (fun W hW hG => ?_)
            have K8 := hid (HK5.out.then hW (fun i hi h => by
              have := HLT.out.2.2
              simp only [List.mem_cons, List.not_mem_nil, or_false] at h
              omega))
            have B8 : Hid (Blk W (w.heap.size + 1) (el2.map u8v).toArray 25) := hid (by rw [← HE2A.out.1]; exact hG 6)
            have B9 : Hid (Blk W (w.heap.size + 2) (nw2.map u8v).toArray 25) := hid (by rw [← HE2A.out.2]; exact hG 7)
            clear hG hW h5 h8 h9 aE aN aPA aE2 aN2
            obtain ⟨WW, hWW⟩ : ∃ x : World, x = W := ⟨_, rfl⟩
            subst hWW
            go_wp2
            clear HNE HNN HSZ HND2 HS2 HP
            go_loopg [11, 12] a2 (fun kx s11 s12 wq => ∃ c d : Nat, s11 = .int .i64 c ∧ s12 = .int .i64 d ∧ c ≤ kx ∧ Hid (c ≤ d ∧ d < 9223372036854775808) ∧ Hid (stripE c d = stripE a2 b2) ∧ WW = wq)
            case atStart => exact ⟨a2, b2, rfl, rfl, Nat.le_refl _, HAB2, hid rfl, rfl⟩
            case round =>
            obtain ⟨c, d, rfl, rfl, hck, HCD, HCE, rfl⟩ := hrel
            by_cases he : c % 2 = 0 ∧ c ≠ 0
            · have q1 := and_even c (by have := HCD.out; omega) (by omega)
              have q2 : ¬ (c : Int) = 0 := by omega
              go_wp2
              go_roundg (c / 2)
              case measure => omega
              case rel => exact ⟨c / 2, d / 2, by go_num, by go_num, Nat.le_refl _, hid (by have := HCD.out; omega), hid (by rw [← stripE_even he]; exact HCE.out), rfl⟩
            · have hse := stripE_odd he d
              rw [HCE.out] at hse
              have HR := hid (show climbP (path.drop (k + 1)) (c / 2) (d / 2) el2 nw2 = X by
                rw [HB.out, hse])
              have HCD2 := hid (show c / 2 ≤ d / 2 ∧ d / 2 < 9223372036854775808 by have := HCD.out; omega)
              by_cases hc0 : c = 0
              · subst hc0
                clear hse he hck HCE HB HCD
                go_wp2
                go_roundg (N - (k + 1))
                case measure => omega
                case rel => exact ⟨k + 1, 0, d / 2, _, el2, nw2, by go_num, by go_num, rfl, by rw [wrapK k (by have := HN.out.2; omega)], by omega, Nat.le_refl _, HCD2, HE2, HR, K8, B8, B9⟩
              · have q1 := and_odd c (by have := HCD.out; omega) (by omega)
                clear hse he hck HCE HB HCD hc0
                go_wp2
                go_roundg (N - (k + 1))
                case measure => omega
                case rel => exact ⟨k + 1, c / 2, d / 2, _, el2, nw2, by go_num, by go_num, rfl, by rw [wrapK k (by have := HN.out.2; omega)], by omega, Nat.le_refl _, HCD2, HE2, HR, K8, B8, B9⟩
          · by_cases ho : a2 % 2 = 1
            · have q1 := and_odd a2 (by have := HAB2.out; omega) ho
              clear ho
              go_wp2_with fail
              refine wp_region_blk w5 [wr.heap.size, w.heap.size + 1, w.heap.size + 2] 25 [.val 0 (.agg PA) [10], .val 1 (.agg EA) [8], .val 2 (.agg E2) [], .val 3 (.agg PA) [10], .val 4 (.agg NA) [9], .val 5 (.agg N2) [], .blk 6 1 E2 [8] [8], .blk 7 2 N2 [9] [9], .blk 8 1 EA [] [], .blk 9 2 NA [] [], .blk 10 0 PA [] []] [8, 9, 10] (Kept.refl _ _) (by kernel_rfl) (by kernel_rfl) (by kernel_rfl) (by decide) ?_ ?_
              · intro k hk
                simp only [List.mem_cons, List.not_mem_nil, or_false] at hk
                rcases hk with rfl | rfl | rfl
                · exact Blk.drew (h8)
                · exact Blk.drew (h9)
                · exact Blk.drew (h5)
              refine wpB_load _ _ rfl (by rfl) rfl rfl aPA rfl (fun _ _ => trivial) (fun W hW hd => hd 10 (List.Mem.head _)) ?_; simp only [Act.put, List.setIfInBounds_toArray, List.set_cons_zero, List.set_cons_succ]
              refine wpB_load _ _ rfl (by rfl) rfl rfl aE rfl (fun _ _ => trivial) (fun W hW hd => hd 8 (List.Mem.head _)) ?_; simp only [Act.put, List.setIfInBounds_toArray, List.set_cons_zero, List.set_cons_succ]
              refine wpB_call (.agg E2) rfl (by rfl) rfl (fun _ _ => trivial) (fun W hW hd => ?_) ?_
              · unfold Gives
                go_simp
                refine gives_call (HNE.out W) ?_
                rintro e w3 ⟨rfl, k3⟩
                exact ⟨_, rfl, rfl, k3⟩
              simp only [Act.put, List.setIfInBounds_toArray, List.set_cons_zero, List.set_cons_succ]
              refine wpB_load _ _ rfl (by rfl) rfl rfl aPA rfl (fun _ _ => trivial) (fun W hW hd => hd 10 (List.Mem.head _)) ?_; simp only [Act.put, List.setIfInBounds_toArray, List.set_cons_zero, List.set_cons_succ]
              refine wpB_load _ _ rfl (by rfl) rfl rfl aN rfl (fun _ _ => trivial) (fun W hW hd => hd 9 (List.Mem.head _)) ?_; simp only [Act.put, List.setIfInBounds_toArray, List.set_cons_zero, List.set_cons_succ]
              refine wpB_call (.agg N2) rfl (by rfl) rfl (fun _ _ => trivial) (fun W hW hd => ?_) ?_
              · unfold Gives
                go_simp
                refine gives_call (HNN.out W) ?_
                rintro e w3 ⟨rfl, k3⟩
                exact ⟨_, rfl, rfl, k3⟩
              simp only [Act.put, List.setIfInBounds_toArray, List.set_cons_zero, List.set_cons_succ]
              refine wpB_store _ _ _ 1 (A := EA) rfl (by rfl) rfl rfl rfl rfl aE2 HSZ.out.1 HSZ.out.2.2.1 HND2.out (by simp) (by kernel_rfl) (fun _ => trivial) (fun _ => rfl) (fun W hW hd => hd 8 (List.Mem.head _)) (fun u => ?_)
              refine wpB_store _ _ _ 2 (A := NA) rfl (by rfl) rfl rfl rfl rfl aN2 HSZ.out.2.1 HSZ.out.2.2.2 HND2.out (by simp) (by kernel_rfl) (fun _ => trivial) (fun _ => rfl) (fun W hW hd => hd 9 (List.Mem.head _)) (fun u => ?_)
              refine wpPar_nil (fun W hW hG => ?_)
              have K8 := hid (HK5.out.then hW (fun i hi h => by
                have := HLT.out.2.2
                simp only [List.mem_cons, List.not_mem_nil, or_false] at h
                omega))
              have B8 : Hid (Blk W (w.heap.size + 1) (el2.map u8v).toArray 25) := hid (by rw [← HE2A.out.1]; exact hG 6)
              have B9 : Hid (Blk W (w.heap.size + 2) (nw2.map u8v).toArray 25) := hid (by rw [← HE2A.out.2]; exact hG 7)
              clear hG hW h5 h8 h9 aE aN aPA aE2 aN2
              obtain ⟨WW, hWW⟩ : ∃ x : World, x = W := ⟨_, rfl⟩
              subst hWW
              go_wp2
              clear HNE HNN HSZ HND2 HS2 HP
              go_loopg [11, 12] a2 (fun kx s11 s12 wq => ∃ c d : Nat, s11 = .int .i64 c ∧ s12 = .int .i64 d ∧ c ≤ kx ∧ Hid (c ≤ d ∧ d < 9223372036854775808) ∧ Hid (stripE c d = stripE a2 a2) ∧ WW = wq)
              case atStart => exact ⟨a2, a2, rfl, rfl, Nat.le_refl _, HAB2, hid rfl, rfl⟩
              case round =>
              obtain ⟨c, d, rfl, rfl, hck, HCD, HCE, rfl⟩ := hrel
              by_cases he : c % 2 = 0 ∧ c ≠ 0
              · have q1 := and_even c (by have := HCD.out; omega) (by omega)
                have q2 : ¬ (c : Int) = 0 := by omega
                go_wp2
                go_roundg (c / 2)
                case measure => omega
                case rel => exact ⟨c / 2, d / 2, by go_num, by go_num, Nat.le_refl _, hid (by have := HCD.out; omega), hid (by rw [← stripE_even he]; exact HCE.out), rfl⟩
              · have hse := stripE_odd he d
                rw [HCE.out] at hse
                have HR := hid (show climbP (path.drop (k + 1)) (c / 2) (d / 2) el2 nw2 = X by
                  rw [HB.out, hse])
                have HCD2 := hid (show c / 2 ≤ d / 2 ∧ d / 2 < 9223372036854775808 by have := HCD.out; omega)
                by_cases hc0 : c = 0
                · subst hc0
                  clear hse he hck HCE HB HCD
                  go_wp2
                  go_roundg (N - (k + 1))
                  case measure => omega
                  case rel => exact ⟨k + 1, 0, d / 2, _, el2, nw2, by go_num, by go_num, rfl, by rw [wrapK k (by have := HN.out.2; omega)], by omega, Nat.le_refl _, HCD2, HE2, HR, K8, B8, B9⟩
                · have q1 := and_odd c (by have := HCD.out; omega) (by omega)
                  clear hse he hck HCE HB HCD hc0
                  go_wp2
                  go_roundg (N - (k + 1))
                  case measure => omega
                  case rel => exact ⟨k + 1, c / 2, d / 2, _, el2, nw2, by go_num, by go_num, rfl, by rw [wrapK k (by have := HN.out.2; omega)], by omega, Nat.le_refl _, HCD2, HE2, HR, K8, B8, B9⟩
            · have q1 := and_even a2 (by have := HAB2.out; omega) ho
              clear ho
              go_wp2_with fail
              refine wp_region_blk w5 [wr.heap.size, w.heap.size + 1, w.heap.size + 2] 25 [.val 0 (.agg PA) [10], .val 1 (.agg EA) [8], .val 2 (.agg E2) [], .val 3 (.agg PA) [10], .val 4 (.agg NA) [9], .val 5 (.agg N2) [], .blk 6 1 E2 [8] [8], .blk 7 2 N2 [9] [9], .blk 8 1 EA [] [], .blk 9 2 NA [] [], .blk 10 0 PA [] []] [8, 9, 10] (Kept.refl _ _) (by kernel_rfl) (by kernel_rfl) (by kernel_rfl) (by decide) ?_ ?_
              · intro k hk
                simp only [List.mem_cons, List.not_mem_nil, or_false] at hk
                rcases hk with rfl | rfl | rfl
                · exact Blk.drew (h8)
                · exact Blk.drew (h9)
                · exact Blk.drew (h5)
              refine wpB_load _ _ rfl (by rfl) rfl rfl aPA rfl (fun _ _ => trivial) (fun W hW hd => hd 10 (List.Mem.head _)) ?_; simp only [Act.put, List.setIfInBounds_toArray, List.set_cons_zero, List.set_cons_succ]
              refine wpB_load _ _ rfl (by rfl) rfl rfl aE rfl (fun _ _ => trivial) (fun W hW hd => hd 8 (List.Mem.head _)) ?_; simp only [Act.put, List.setIfInBounds_toArray, List.set_cons_zero, List.set_cons_succ]
              refine wpB_call (.agg E2) rfl (by rfl) rfl (fun _ _ => trivial) (fun W hW hd => ?_) ?_
              · unfold Gives
                go_simp
                refine gives_call (HNE.out W) ?_
                rintro e w3 ⟨rfl, k3⟩
                exact ⟨_, rfl, rfl, k3⟩
              simp only [Act.put, List.setIfInBounds_toArray, List.set_cons_zero, List.set_cons_succ]
              refine wpB_load _ _ rfl (by rfl) rfl rfl aPA rfl (fun _ _ => trivial) (fun W hW hd => hd 10 (List.Mem.head _)) ?_; simp only [Act.put, List.setIfInBounds_toArray, List.set_cons_zero, List.set_cons_succ]
              refine wpB_load _ _ rfl (by rfl) rfl rfl aN rfl (fun _ _ => trivial) (fun W hW hd => hd 9 (List.Mem.head _)) ?_; simp only [Act.put, List.setIfInBounds_toArray, List.set_cons_zero, List.set_cons_succ]
              refine wpB_call (.agg N2) rfl (by rfl) rfl (fun _ _ => trivial) (fun W hW hd => ?_) ?_
              · unfold Gives
                go_simp
                refine gives_call (HNN.out W) ?_
                rintro e w3 ⟨rfl, k3⟩
                exact ⟨_, rfl, rfl, k3⟩
              simp only [Act.put, List.setIfInBounds_toArray, List.set_cons_zero, List.set_cons_succ]
              refine wpB_store _ _ _ 1 (A := EA) rfl (by rfl) rfl rfl rfl rfl aE2 HSZ.out.1 HSZ.out.2.2.1 HND2.out (by simp) (by kernel_rfl) (fun _ => trivial) (fun _ => rfl) (fun W hW hd => hd 8 (List.Mem.head _)) (fun u => ?_)
              refine wpB_store _ _ _ 2 (A := NA) rfl (by rfl) rfl rfl rfl rfl aN2 HSZ.out.2.1 HSZ.out.2.2.2 HND2.out (by simp) (by kernel_rfl) (fun _ => trivial) (fun _ => rfl) (fun W hW hd => hd 9 (List.Mem.head _)) (fun u => ?_)
              refine wpPar_nil (fun W hW hG => ?_)
              have K8 := hid (HK5.out.then hW (fun i hi h => by
                have := HLT.out.2.2
                simp only [List.mem_cons, List.not_mem_nil, or_false] at h
                omega))
              have B8 : Hid (Blk W (w.heap.size + 1) (el2.map u8v).toArray 25) := hid (by rw [← HE2A.out.1]; exact hG 6)
              have B9 : Hid (Blk W (w.heap.size + 2) (nw2.map u8v).toArray 25) := hid (by rw [← HE2A.out.2]; exact hG 7)
              clear hG hW h5 h8 h9 aE aN aPA aE2 aN2
              obtain ⟨WW, hWW⟩ : ∃ x : World, x = W := ⟨_, rfl⟩
              subst hWW
              go_wp2
              clear HNE HNN HSZ HND2 HS2 HP
              go_loopg [11, 12] a2 (fun kx s11 s12 wq => ∃ c d : Nat, s11 = .int .i64 c ∧ s12 = .int .i64 d ∧ c ≤ kx ∧ Hid (c ≤ d ∧ d < 9223372036854775808) ∧ Hid (stripE c d = stripE a2 a2) ∧ WW = wq)
              case atStart => exact ⟨a2, a2, rfl, rfl, Nat.le_refl _, HAB2, hid rfl, rfl⟩
              case round =>
              obtain ⟨c, d, rfl, rfl, hck, HCD, HCE, rfl⟩ := hrel
              by_cases he : c % 2 = 0 ∧ c ≠ 0
              · have q1 := and_even c (by have := HCD.out; omega) (by omega)
                have q2 : ¬ (c : Int) = 0 := by omega
                go_wp2
                go_roundg (c / 2)
                case measure => omega
                case rel => exact ⟨c / 2, d / 2, by go_num, by go_num, Nat.le_refl _, hid (by have := HCD.out; omega), hid (by rw [← stripE_even he]; exact HCE.out), rfl⟩
              · have hse := stripE_odd he d
                rw [HCE.out] at hse
                have HR := hid (show climbP (path.drop (k + 1)) (c / 2) (d / 2) el2 nw2 = X by
                  rw [HB.out, hse])
                have HCD2 := hid (show c / 2 ≤ d / 2 ∧ d / 2 < 9223372036854775808 by have := HCD.out; omega)
                by_cases hc0 : c = 0
                · subst hc0
                  clear hse he hck HCE HB HCD
                  go_wp2
                  go_roundg (N - (k + 1))
                  case measure => omega
                  case rel => exact ⟨k + 1, 0, d / 2, _, el2, nw2, by go_num, by go_num, rfl, by rw [wrapK k (by have := HN.out.2; omega)], by omega, Nat.le_refl _, HCD2, HE2, HR, K8, B8, B9⟩
                · have q1 := and_odd c (by have := HCD.out; omega) (by omega)
                  clear hse he hck HCE HB HCD hc0
                  go_wp2
                  go_roundg (N - (k + 1))
                  case measure => omega
                  case rel => exact ⟨k + 1, c / 2, d / 2, _, el2, nw2, by go_num, by go_num, rfl, by rw [wrapK k (by have := HN.out.2; omega)], by omega, Nat.le_refl _, HCD2, HE2, HR, K8, B8, B9⟩
        · have q1 := and_even a2 (by have := HAB2.out; omega) (fun h => hd (.inl h))
          have q2 : ¬ (a2 : Int) = (b2 : Int) := fun h => hd (.inr (by omega))
          obtain ⟨nw2, hnw2⟩ : ∃ x, x = nodeL nw p := ⟨_, rfl⟩
          have HB := hid (show climbP (path.drop (k + 1)) (a2 / 2) (b2 / 2) el nw2 = X by rw [← HC.out, climbP_new _ _ hb0 hd, hnw2])
          have l2 : nw2.length = 32 := by rw [hnw2]; exact nodeL_len _ _
          have HE2 := hid (And.intro HE.out.1 l2)
          obtain ⟨N2, hN2⟩ : ∃ A : Array Value, A = (nw2.map u8v).toArray := ⟨_, rfl⟩
          have aN2 : AggTy Try.prog 25 N2.size := by rw [hN2]; exact Hk.aH32 l2
          have sN2 : NA.size = N2.size := by rw [HS2.out.2.1, hN2]; simpa using l2.symm
          have allN2 : N2.all (·.oneCell') = true := by rw [hN2]; exact u8v_all' _
          have HSZ := hid (And.intro sN2 allN2)
          have HNN : Hid (∀ w, Calls Try.prog 78 #[.agg NA, .agg PA] w fun e w' => e = .returned (.agg N2) ∧ Kept None w w') := hid (by rw [HP.out.2.1, HEA.out.2, hN2, hnw2]; exact fun w => Lg.node nw p w (by rw [HE.out.2]) (by rw [HP.out.1]))
          have HE2A := hid hN2
          have HCD2 := hid (show a2 / 2 ≤ b2 / 2 ∧ b2 / 2 < 9223372036854775808 by have := HAB2.out; omega)
          clear HC hnw2 l2 hN2 sN2 allN2 HE hd
          go_wp2_with (first | (refine wpList_load_blk rfl _ _ rfl rfl h9 aN ?_) | (refine wpList_load_blk rfl _ _ rfl rfl h5 aPA ?_) | fail)
          refine (HNN.out _).mono ?_
          rintro e w6 ⟨rfl, k6⟩
          replace h8 := h8.kept k6 (fun h => h)
          replace h9 := h9.kept k6 (fun h => h)
          have HK6 := hid (HK5.out.trans k6)
          clear k6 HK5 h5 aPA aN aE HNN
          go_upto_region 15 with (first | (refine wpList_store_blk rfl _ _ _ rfl rfl rfl h9 aN2 HSZ.out.1 HSZ.out.2 ?_; intro w7 h7 k7; have h87 := h8.kept k7 (fun (h : w.heap.size + 1 = w.heap.size + 2) => by omega)) | fail)
          have K8 := hid (HK6.out.then k7 (fun i hi (h : i = w.heap.size + 2) => by omega))
          have B8 : Hid (Blk w7 (w.heap.size + 1) (el.map u8v).toArray 25) := hid (by rw [← HEA.out.1]; exact h87)
          have B9 : Hid (Blk w7 (w.heap.size + 2) (nw2.map u8v).toArray 25) := hid (by rw [← HE2A.out]; exact h7)
          clear k7 HK6 h7 h87 h8 h9
          go_wp2
          go_roundg (N - (k + 1))
          case measure => omega
          case rel => exact ⟨k + 1, a2 / 2, b2 / 2, _, el, nw2, by go_num, by go_num, rfl, by rw [wrapK k (by have := HN.out.2; omega)], by omega, Nat.le_refl _, HCD2, HE2, HB, K8, B8, B9⟩
    · have hz : ¬ (k : Int) < (N : Int) := by omega
      obtain rfl : k = N := by omega
      obtain ⟨bE, hbE⟩ : ∃ b, b = (b2 == 0) := ⟨_, rfl⟩
      have hE : ((b2 : Int) == 0) = bE := by
        rw [hbE]
        by_cases h : b2 = 0
        · subst h; rfl
        · rw [show (b2 == 0) = false by simpa using h, beq_eq_false_iff_ne]; omega
      have HX0 := hid (show X = (el, nw, bE) by rw [← HC.out, HN.out.1, List.drop_length, climbP_none, hbE])
      have HND3 := hid (show [w.heap.size + 1, w.heap.size + 2].Nodup by simp)
      clear HC hbE HAB2 HV
      go_wp2_with fail
      refine wp_region_blk wr [w.heap.size + 1, w.heap.size + 2] 25 [.val 0 (.agg EA) [7], .val 1 (.agg NA) [8], .blk 4 0 EA [7] [7], .blk 5 1 NA [8] [8], .blk 7 0 EA [] [], .blk 8 1 NA [] []] [7, 8] (Kept.refl _ _) (by kernel_rfl) (by kernel_rfl) (by kernel_rfl) (by decide) ?_ ?_
      · intro k hk
        simp only [List.mem_cons, List.not_mem_nil, or_false] at hk
        rcases hk with rfl | rfl
        · exact Blk.drew (h8)
        · exact Blk.drew (h9)
      refine wpB_load _ _ rfl (by rfl) rfl rfl aE rfl (fun _ _ => trivial) (fun W hW hd => hd 7 (List.Mem.head _)) ?_; simp only [Act.put, List.setIfInBounds_toArray, List.set_cons_zero, List.set_cons_succ]
      refine wpB_load _ _ rfl (by rfl) rfl rfl aN rfl (fun _ _ => trivial) (fun W hW hd => hd 8 (List.Mem.head _)) ?_; simp only [Act.put, List.setIfInBounds_toArray, List.set_cons_zero, List.set_cons_succ]
      refine wpPar_pure rfl (by rfl) _ (fun W hW => by
          have q1 := hE
          go_simp
          exact rfl) ?_; simp only [Act.put, List.setIfInBounds_toArray, List.set_cons_zero, List.set_cons_succ]
      refine wpPar_pure rfl (by rfl) _ (fun W hW => by
          have q1 := hE
          go_simp
          exact rfl) ?_; simp only [Act.put, List.setIfInBounds_toArray, List.set_cons_zero, List.set_cons_succ]
      refine wpB_store _ _ _ 0 (A := EA) rfl (by rfl) rfl rfl rfl rfl aE rfl HS2.out.2.2.1 HND3.out (by simp) (by kernel_rfl) (fun _ => trivial) (fun _ => rfl) (fun W hW hd => hd 7 (List.Mem.head _)) (fun u => ?_)
      refine wpB_store _ _ _ 1 (A := NA) rfl (by rfl) rfl rfl rfl rfl aN rfl HS2.out.2.2.2 HND3.out (by simp) (by kernel_rfl) (fun _ => trivial) (fun _ => rfl) (fun W hW hd => hd 8 (List.Mem.head _)) (fun u => ?_)
      refine wpPar_pure rfl (by rfl) _ (fun W hW => by
          have q1 := hE
          go_simp
          exact rfl) ?_; simp only [Act.put, List.setIfInBounds_toArray, List.set_cons_zero, List.set_cons_succ]
      refine wpPar_nil (fun W hW hG => ?_)
      have b8 : Blk W (w.heap.size + 1) EA 25 := hG 4
      have b9 : Blk W (w.heap.size + 2) NA 25 := hG 5
      have kW : Kept None w W := HK.out.then hW (fun i hi h => by
        simp only [List.mem_cons, List.not_mem_nil, or_false] at h
        omega)
      clear hG hW h8 h9 hE
      go_wp2
      exact bodyPost_ret (v := .tuple #[.agg EA, .agg NA, .bool bE]) (res_cells_tmp rfl _ rfl rfl rfl b8 b9 aE aN) rfl ⟨by rw [HX0.out, HEA.out.1, HEA.out.2], kW⟩

end Gr
end Go.Proofs.Ytkogkcaflhjlhaa
