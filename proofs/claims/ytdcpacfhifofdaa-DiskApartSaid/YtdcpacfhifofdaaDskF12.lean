/- Package disk, a file: each function by its contract. -/
import Derived.Test.YtdcpacfhifofdaaLowByt
import Derived.Test.YtdcpacfhifofdaaDsk12
import Derived.Test.YtdcpacfhifofdaaNmA
import Derived.Deep.LoopGhost
import Derived.Deep.QuietTactic
import Derived.BigQuiet
namespace Go.Proofs.Ytdcpacfhifofdaa
open Go.RowKit Go.Pm
namespace Dk
theorem tInts : Try.prog.underlying 42 = some (.slice (Try.prog.elem 42)) := by kernel_rfl
theorem zInts : ∀ W, (sizeOf (Try.prog.elem 42)).run Try.prog W = .ok 1 W := fun _ => by kernel_rfl
theorem infoInt : (Try.prog.info? 3).map (fun i => (i.zero, i.size, i.bytes)) = some (some (.int .i64 0), 1, 8) := by kernel_rfl
theorem rtInts : RowTy Try.prog 42 3 (.int .i64 0) 8 := ⟨by kernel_rfl, info_parts infoInt, rfl⟩
/-- A file's two rows; their blocks lie in X. -/
structure FlAt (w : World) (X : Nat → Prop) (tv bv : Value) (f : Fl) : Prop where
  t : Bo 5 w 0 tv f.t
  b : Io 3 w 0 bv f.b
  tx : ∀ k, tv.ownBlock = some k → X k
  bx : ∀ k, bv.ownBlock = some k → X k
theorem FlAt.kept {S : Nat → Prop} {w w' : World} {X : Nat → Prop} {tv bv : Value} {f : Fl} (h : FlAt w X tv bv f) (hk : Kept S w w') (hs : ∀ k, X k → ¬ S k) : FlAt w' X tv bv f :=
  ⟨h.t.kept hk (fun k e => hs k (h.tx k e)), h.b.kept hk (fun k e => hs k (h.bx k e)), h.tx, h.bx⟩

theorem settle (d o : Nat) (cs : Array Value) (tv bv : Value) (w : World) (hB : Blk w d cs 47) (_ht : cs[o]? = some tv) (hb : cs[o + 1]? = some bv) :
    Calls Try.prog 21 #[.pointer (some ⟨d, o, none⟩)] w fun e w' => e = .returned (.tuple #[]) ∧ Blk w' d (cs.setIfInBounds (o + 1) (.slice none 0 0)) 47 ∧ Kept (Just d) w w' := by
  have c1 := hB.cell (o + 1)
  rw [hb] at c1
  have f1 := hB.free (o + 1)
  have b1 := hB.set (o + 1) (.slice none 0 0)
  have k1 := Kept.one w d (o + 1) (.slice none 0 0)
  go_enter Try.func21, Try.ntmps21
  go_wp2
  go_end0
  exact ⟨rfl, b1, k1⟩

theorem begin (d o i : Nat) (cs : Array Value) (tv bv : Value) (X : Nat → Prop) (f : Fl) (w : World) (hB : Blk w d cs 47) (ht : cs[o]? = some tv) (hb : cs[o + 1]? = some bv) (hF : FlAt w X tv bv f) (_hi : i < 9223372036854775808) :
    Calls Try.prog 22 #[.pointer (some ⟨d, o, none⟩), .int .i64 (i : Int)] w fun e w' => e = .returned (.int .i64 (f.beg i : Int)) ∧ w = w' := by
  have c0 := hB.cell o
  rw [ht] at c0
  have c1 := hB.cell (o + 1)
  rw [hb] at c1
  obtain ⟨at_, ct, rfl⟩ := hF.t.form
  obtain ⟨ab, cb, rfl⟩ := hF.b.form
  by_cases h : i < f.b.length
  · obtain ⟨g, rfl, hg, hc⟩ := hF.b.at (by omega)
    have hci := hc i h
    rw [← f.beg_at h] at hci
    obtain ⟨B, hBe⟩ : ∃ B, B = f.beg i := ⟨_, rfl⟩
    rw [← hBe] at hci ⊢
    have hl : decide ((i : Int) < (f.b.length : Int)) = true := by simpa using h
    clear hc hF hBe
    go_enter Try.func22, Try.ntmps22
    go_wp2
    go_ret
    exact ⟨rfl, rfl⟩
  · rw [f.beg_end (by omega)]
    have hl : decide ((i : Int) < (f.b.length : Int)) = false := by simpa using h
    clear hF
    go_enter Try.func22, Try.ntmps22
    go_wp2
    go_ret
    exact ⟨rfl, rfl⟩

theorem andU (a b : Nat) (ha : a < 18446744073709551616) (hb : b < 18446744073709551616) : bits .and .u64 (a : Int) (b : Int) = ((a &&& b : Nat) : Int) := by
  have h : bits .and .u64 (a : Int) (b : Int) = IntKind.u64.wrap ((BitVec.ofInt 64 (a : Int) &&& BitVec.ofInt 64 (b : Int)).toNat : Int) := rfl
  have hw : ∀ x : Nat, x < 18446744073709551616 → IntKind.u64.wrap (x : Int) = (x : Int) := fun x hx => by rw [IntKind.wrap_u64]; omega
  rw [h, BitVec.toNat_and, BitVec.toNat_ofInt, BitVec.toNat_ofInt]
  have e1 : ((a : Int) % ((2 : Nat) ^ 64 : Nat)).toNat = a := by omega
  have e2 : ((b : Int) % ((2 : Nat) ^ 64 : Nat)).toNat = b := by omega
  rw [e1, e2]
  exact hw _ (Nat.lt_of_le_of_lt Nat.and_le_left ha)
/-- The i-th bit, as the program asks for it. -/
theorem bit_at (m i : Nat) (hm : m < 18446744073709551616) : (bits .and .u64 ((m : Int) / 2 ^ min i 64) 1 == 1) = m.testBit i := by
  have e : ((m : Int) / 2 ^ min i 64) = ((m / 2 ^ min i 64 : Nat) : Int) := by simp
  have hlt : m / 2 ^ min i 64 < 18446744073709551616 := Nat.lt_of_le_of_lt (Nat.div_le_self _ _) hm
  rw [e, show (1 : Int) = ((1 : Nat) : Int) from rfl, andU _ _ hlt (by decide), Nat.and_one_is_mod, Nat.testBit_eq_decide_div_mod_eq]
  have key : m / 2 ^ min i 64 = m / 2 ^ i := by
    rcases Nat.le_total i 64 with h | h
    · rw [Nat.min_eq_left h]
    · rw [Nat.min_eq_right h]
      have h1 : m / 2 ^ 64 = 0 := Nat.div_eq_of_lt hm
      have h2 : m / 2 ^ i = 0 := Nat.div_eq_of_lt (Nat.lt_of_lt_of_le hm (by
        have := Nat.pow_le_pow_right (show 0 < 2 by decide) h
        omega))
      rw [h1, h2]
  rw [key]
  generalize m / 2 ^ i = x
  by_cases c : x % 2 = 1
  · simp [c]
  · have c0 : x % 2 = 0 := by omega
    simp [c0]
theorem kept (m i : Nat) (w : World) (hm : m < 18446744073709551616) (_hi : i < 9223372036854775808) :
    Calls Try.prog 25 #[.int .u64 (m : Int), .int .i64 (i : Int)] w fun e w' => e = .returned (.bool (m.testBit i)) ∧ w = w' := by
  have hb := bit_at m i hm
  go_enter Try.func25, Try.ntmps25
  go_wp2
  go_ret
  exact ⟨rfl, rfl⟩
theorem own_le {v v' : Value} {n m : Nat} (h : v'.ownBlock = v.ownBlock ∨ v'.ownBlock = some m) (hm : n ≤ m) : ∀ k, v'.ownBlock = some k → v.ownBlock = some k ∨ n ≤ k := by
  intro k hk
  rcases h with e | e
  · exact .inl (e ▸ hk)
  · rw [e] at hk
    injection hk with hk
    exact .inr (by omega)

set_option maxRecDepth 100000 in
set_option maxHeartbeats 1000000 in
/-- add. -/
theorem add (d o lo hi : Nat) (cs : Array Value) (tv bv u : Value) (x : List UInt8) (X : Nat → Prop) (f : Fl) (w : World) (hB : Blk w d cs 47) (ht : cs[o]? = some tv) (hb : cs[o + 1]? = some bv) (hF : FlAt w X tv bv f) (hu : Bs w lo hi u x)
    (hl : f.b.length ≤ 1048576) (hl2 : f.t.length + x.length ≤ 140737488355328) (hX : ∀ k, X k → k < w.heap.size) (hXd : ¬ X d) (hux : ∀ k, lo ≤ k → k < hi → ¬ X k ∧ k ≠ d) :
    Calls Try.prog 20 #[.pointer (some ⟨d, o, none⟩), u] w fun e w' => e = .returned (.tuple #[]) ∧ Kept (fun k => k = d ∨ X k) w w' ∧ ∃ tv' bv', Blk w' d ((cs.setIfInBounds (o + 1) bv').setIfInBounds o tv') 47 ∧ FlAt w' (fun k => X k ∨ (w.heap.size ≤ k ∧ k < w'.heap.size)) tv' bv' (f.add x) := by
  obtain ⟨at_, ct, rfl⟩ := hF.t.form
  obtain ⟨ab, cb, rfl⟩ := hF.b.form
  have hdb : (Value.slice ab f.b.length cb).ownBlock ≠ some d := row_blk hF.b hB (by decide)
  have hdt : (Value.slice at_ f.t.length ct).ownBlock ≠ some d := row_blk hF.t hB (by decide)
  have HC : Hid ((∀ W, Kept (Of (.slice ab f.b.length cb)) w W → W.cell? ⟨d, o, none⟩ = some (.slice at_ f.t.length ct)) ∧ ∀ W, Kept (Of (.slice ab f.b.length cb)) w W → W.cell? ⟨d, o + 1, none⟩ = some (.slice ab f.b.length cb)) :=
    hid ⟨fun W hW => by rw [(hB.kept hW hdb).cell]; exact ht, fun W hW => by rw [(hB.kept hW hdb).cell]; exact hb⟩
  have HF := hid hF
  have HU := hid hu
  have HB := hid hB
  have HL := hid hl
  have HL2 := hid hl2
  have HD := hid (And.intro hdb hdt)
  have HXX := hid (And.intro hX (And.intro hXd hux))
  have HT := hid (And.intro ht hb)
  clear hF hu hB hl hl2 hdb hdt hX hXd hux ht hb
  go_enter Try.func20, Try.ntmps20
  go_wp2_with fail
  refine wp_region_plan_tail 14 (Kept (Of (.slice ab f.b.length cb)) w) [{ k := 10, uses := [], pure := fun u => ∃ g, u = .slice (some ⟨g, 0, none⟩) 1 1, fact := fun u W => Vs W 0 W.heap.size u [i64v f.t.length] }, { k := 11, uses := [10, 100], spends := [10, 100], pure := fun u => ∃ a n c, u = .slice a n c, fact := fun u W => Io 3 W 0 u (f.b ++ [f.t.length]) ∧ ∀ k, u.ownBlock = some k → (Value.slice ab f.b.length cb).ownBlock = some k ∨ w.heap.size ≤ k }, { k := 100, uses := [], fact := fun u W => Io 3 W 0 (.slice ab f.b.length cb) f.b }] [100] (by kernel_rfl) (by kernel_rfl) (by kernel_rfl) (by rfl) ?pures ((Kept.refl _ w).drew) ?starts ?walk
  case pures =>
    intro f hf
    simp only [List.mem_cons, List.not_mem_nil, or_false] at hf
    rcases hf with rfl | rfl | rfl
    · exact ⟨_, 0, rfl⟩
    · exact ⟨_, none, 0, 0, rfl⟩
    · exact ⟨undef, trivial⟩
  case starts =>
    intro k hk
    have hk : k = 100 := by simpa using hk
    subst hk
    exact HF.out.b.kept ((Kept.refl None w).drew) (fun _ _ h => h)
  simp only [List.take_succ_cons, List.take_zero, List.drop_succ_cons, List.drop_zero]
  iterate 10 (refine wpPar_pure rfl (by rfl) _ (fun W hW => by
      have c0 := HC.out.1 W hW
      have c1 := HC.out.2 W hW
      go_simp
      exact rfl) ?_; simp only [Act.put, List.setIfInBounds_toArray, List.set_cons_zero, List.set_cons_succ])
  refine wpPar_adds rfl (by rfl) (fun W hW hd => ?_) (fun v10 hv => ?_)
  · unfold Gives
    go_simp
    have kS : Kept None W (W.alloc (.cells #[.int .i64 (f.t.length : Int)] 3)) := (Kept.refl None W).alloc _
    have hn : Vs (W.alloc (.cells #[.int .i64 (f.t.length : Int)] 3)) 0 (W.alloc (.cells #[.int .i64 (f.t.length : Int)] 3)).heap.size (.slice (some ⟨W.heap.size, 0, none⟩) 1 1) [i64v f.t.length] := (Vs.new W #[.int .i64 (f.t.length : Int)] 3 1 (by simp) (by decide)).wider (Nat.zero_le _) (by simp)
    refine ⟨hW.then kS (fun _ _ h => h.elim), ⟨_, rfl⟩, hn, keeps_of fun f' hf hs hl hne u hfu => ?_⟩
    simp only [List.mem_cons, List.not_mem_nil, or_false] at hf
    rcases hf with rfl | rfl | rfl
    · exact absurd rfl hne
    · exact ⟨hfu.1.kept kS (fun _ _ h => h), hfu.2⟩
    · exact hfu.kept kS (fun _ _ h => h)
  obtain ⟨g10, rfl⟩ : ∃ g, v10 = .slice (some ⟨g, 0, none⟩) 1 1 := hv
  simp only [Act.put, List.setIfInBounds_toArray, List.set_cons_zero, List.set_cons_succ]
  refine wpPar_adds rfl (by rfl) (fun W hW hd => ?_) (fun v11 hv => ?_)
  · have hu : Vs W 0 W.heap.size (.slice (some ⟨g10, 0, none⟩) 1 1) [i64v f.t.length] := hd 10 (List.Mem.head _)
    have hO : Io 3 W 0 (.slice ab f.b.length cb) f.b := hd 100 (List.Mem.tail _ (List.Mem.head _))
    have h1 : ∀ z ∈ [i64v f.t.length], z.oneCell' = true := fun z hz => by
      obtain rfl := List.mem_singleton.1 hz
      rfl
    obtain ⟨v', w', hr, r2, r3⟩ := run_append_vs (w := W) (ty := 42) rtInts hO hu h1 (by have := HL.out; simp; unfold maxLen; omega) (by have := HL.out; simp; omega) (Nat.zero_le _)
    have hbk := append_block rtInts hO hu h1 (by have := HL.out; simp; unfold maxLen; omega) (by have := HL.out; simp; omega) (Nat.zero_le _) hr
    have kS : Kept (Of (.slice ab f.b.length cb)) W w' := Kept.ofGrown r3
    have r2' : Io 3 w' 0 v' (f.b ++ [f.t.length]) := by
      unfold Io
      simpa using r2
    obtain ⟨a', c', rfl⟩ := r2'.form
    refine gives_append (.tmp 8) (.tmp 14) 42 rfl rfl rfl hr ?_
    refine ⟨hW.trans kS, ⟨_, _, _, rfl⟩, ⟨r2', own_le hbk hW.size⟩, keeps_of fun f' hf hs hl hne u hfu => ?_⟩
    simp only [List.mem_cons, List.not_mem_nil, or_false] at hf
    rcases hf with rfl | rfl | rfl
    · exact absurd (List.Mem.head _) hs
    · exact absurd rfl hne
    · exact absurd (List.Mem.tail _ (List.Mem.head _)) hs
  obtain ⟨a11, n11, c11, rfl⟩ : ∃ a n c, v11 = .slice a n c := hv
  simp only [Act.put, List.setIfInBounds_toArray, List.set_cons_zero, List.set_cons_succ]
  iterate 2 (refine wpPar_pure rfl (by rfl) _ (fun W hW => by
      have c0 := HC.out.1 W hW
      have c1 := HC.out.2 W hW
      go_simp
      exact rfl) ?_; simp only [Act.put, List.setIfInBounds_toArray, List.set_cons_zero, List.set_cons_succ])
  refine wpPar_nil (fun W hW hG => ?_)
  obtain ⟨hI, hIo⟩ : Io 3 W 0 (.slice a11 n11 c11) (f.b ++ [f.t.length]) ∧ ∀ k, (Value.slice a11 n11 c11).ownBlock = some k → (Value.slice ab f.b.length cb).ownBlock = some k ∨ w.heap.size ≤ k := hG 11
  have hdb := HD.out.1
  have hdt := HD.out.2
  have hB0 := HB.out.kept hW hdb
  have c1 := hB0.cell (o + 1)
  rw [HT.out.2] at c1
  have f1 := hB0.free (o + 1)
  have hb1 := hB0.set (o + 1) (.slice a11 n11 c11)
  have htb := row_apart HF.out.t HF.out.b (by decide)
  have ht0 : Bo 5 W 0 (.slice at_ f.t.length ct) f.t := HF.out.t.kept hW (fun k h h' => htb k h h')
  have hi1 : Io 3 (W.setCell ⟨d, o + 1, none⟩ (.slice a11 n11 c11)) 0 (.slice a11 n11 c11) (f.b ++ [f.t.length]) := hI.kept (Kept.one W d (o + 1) _) (fun k h h' => by obtain rfl : k = d := h'; exact row_blk hI hB0 (by decide) h)
  have ht1 : Bo 5 (W.setCell ⟨d, o + 1, none⟩ (.slice a11 n11 c11)) 0 (.slice at_ f.t.length ct) f.t := ht0.kept (Kept.one W d (o + 1) _) (fun k h h' => by obtain rfl : k = d := h'; exact hdt h)
  have hu1 : Bs (W.setCell ⟨d, o + 1, none⟩ (.slice a11 n11 c11)) lo hi u x := (HU.out.kept hW (fun k h1 h2 h => (HXX.out.2.2 k h1 h2).1 (HF.out.bx k h))).kept (Kept.one W d (o + 1) _) (fun k h1 h2 h => (HXX.out.2.2 k h1 h2).2 h)
  have c0 := hb1.cell o
  rw [Array.getElem?_setIfInBounds_ne (by omega), HT.out.1] at c0
  have kW : Kept (fun k => k = d ∨ X k) w (W.setCell ⟨d, o + 1, none⟩ (.slice a11 n11 c11)) := (hW.mono (fun k _ h => .inr (HF.out.bx k h))).setCell (fun _ => .inl rfl) _
  have hdt1 : ∀ k, (Value.slice at_ f.t.length ct).ownBlock = some k → k ≠ d := fun k h e => hdt (e ▸ h)
  have htb1 := row_apart ht1 hi1 (by decide)
  have hs1 : w.heap.size ≤ W.heap.size := hW.size
  clear hG hI ht0 hB0 hdb hdt htb hW
  go_wp2_with (first | (refine wpList_append_bk rfl _ _ 22 rfl rtBytes rfl rfl ht1 hu1 HL2.out (Nat.zero_le _) ?_; intro a5 n5 c5 w5 hB5 hK5 hO5; have hb5 := hb1.kept hK5 (fun h => hdt1 _ h rfl); have c5' := hb5.cell o; rw [Array.getElem?_setIfInBounds_ne (by omega), HT.out.1] at c5'; have f5 := hb5.free o) | fail)
  go_end0
  have hb6 := hb5.set o (.slice a5 n5 c5)
  have k6 : Kept (Just d) w5 (w5.setCell ⟨d, o, none⟩ (.slice a5 n5 c5)) := Kept.one w5 d o _
  have hB6 := hB5.kept k6 (fun k h e => by obtain rfl : k = d := e; exact row_blk hB5 hb5 (by decide) h)
  have hi5 := hi1.kept hK5 (fun k h h' => htb1 k h' h)
  have hi6 := hi5.kept k6 (fun k h e => by obtain rfl : k = d := e; exact row_blk hi5 hb5 (by decide) h)
  refine ⟨rfl, ?_, _, _, hb6, ⟨hB6, hi6, fun k h => ?_, fun k h => ?_⟩⟩
  · exact (kW.then hK5 (fun k _ h => .inr (HF.out.tx k h))).then k6 (fun k _ h => .inl h)
  · rcases hO5 k h with e | e
    · exact .inl (HF.out.tx k e)
    · exact .inr ⟨by rw [e]; simpa using hs1, (hB6.own k h).2⟩
  · rcases hIo k h with e | e
    · exact .inl (HF.out.bx k e)
    · exact .inr ⟨e, (hi6.own k h).2⟩

theorem own_len (a : Option Addr) (n c n' c' : Nat) : (Value.slice a n c).ownBlock = (Value.slice a n' c').ownBlock := by cases a <;> rfl
set_option maxRecDepth 100000 in
set_option maxHeartbeats 4000000 in
/-- cut. -/
theorem cut (d o n : Nat) (cs : Array Value) (tv bv : Value) (X : Nat → Prop) (f : Fl) (w : World) (hB : Blk w d cs 47) (ht : cs[o]? = some tv) (hb : cs[o + 1]? = some bv) (hF : FlAt w X tv bv f) (hok : f.Ok) (hn : n ≤ f.t.length) :
    Calls Try.prog 24 #[.pointer (some ⟨d, o, none⟩), .int .i64 (n : Int)] w fun e w' => e = .returned (.tuple #[]) ∧ Kept (Just d) w w' ∧ ∃ tv' bv', Blk w' d ((cs.setIfInBounds o tv').setIfInBounds (o + 1) bv') 47 ∧ FlAt w' X tv' bv' (f.cut n) := by
  obtain ⟨at_, ct, rfl⟩ := hF.t.form
  obtain ⟨ab, cb, rfl⟩ := hF.b.form
  have hsl := row_slice_to tBytes zBytes hF.t .i64 (n : Int) (by omega) (by omega)
  simp only [Int.toNat_natCast] at hsl
  have c0 := hB.cell o
  rw [ht] at c0
  have f0 := hB.free o
  have hb1 := hB.set o (.slice at_ n ct)
  have k1 := Kept.one w d o (.slice at_ n ct)
  have hdb : (Value.slice ab f.b.length cb).ownBlock ≠ some d := row_blk hF.b hB (by decide)
  have hdt : (Value.slice at_ f.t.length ct).ownBlock ≠ some d := row_blk hF.t hB (by decide)
  have hcap := row_cap hF.b
  have hlen : ∀ W, Kept (Just d) w W → Bo 5 W 0 (.slice at_ f.t.length ct) f.t ∧ Io 3 W 0 (.slice ab f.b.length cb) f.b := fun W k => ⟨hF.t.kept k (fun q h e => hdt (by rw [h, show q = d from e])), hF.b.kept k (fun q h e => hdb (by rw [h, show q = d from e]))⟩
  have HF := hid hF
  have HR := hid hlen
  have HT := hid (And.intro ht hb)
  have HN := hid (And.intro hok hn)
  have HD := hid (And.intro hdb hdt)
  have H1 := hid (And.intro hb1 k1)
  have HCP := hid hcap
  have hbo : (cs.setIfInBounds o (.slice at_ n ct))[o + 1]? = some (.slice ab f.b.length cb) := by rw [Array.getElem?_setIfInBounds_ne (by omega)]; exact hb
  have hself : (cs.setIfInBounds o (.slice at_ n ct)).setIfInBounds (o + 1) (.slice ab f.b.length cb) = cs.setIfInBounds o (.slice at_ n ct) := by
    apply Array.ext_getElem?
    intro i
    rw [Array.getElem?_setIfInBounds]
    split
    · subst_vars
      split
      · exact hbo.symm
      · rw [Array.getElem?_eq_none (by omega)]
    · rfl
  have HS := hid hself
  have HO := hid (show o + 1 < (cs.setIfInBounds o (.slice at_ n ct)).size from (Array.getElem?_eq_some_iff.1 hbo).1)
  clear hF hlen ht hb hok hn hdb hdt hB hb1 k1 hcap hself hbo
  go_enter Try.func24, Try.ntmps24
  go_wp2_with fail
  refine wp_nm ?_
  intro w1 e1
  rw [← e1] at H1
  clear e1 c0 f0 hsl
  go_loopg [13] f.b.length (fun kx s13 wr => ∃ (k : Nat) (v13 : Value), s13 = v13 ∧ k ≤ f.b.length ∧ k ≤ kx ∧ Hid (Kept (Just d) w wr) ∧ Hid (Blk wr d ((cs.setIfInBounds o (.slice at_ n ct)).setIfInBounds (o + 1) (.slice ab k cb)) 47) ∧ Hid (∀ i, k ≤ i → i < f.b.length → n ≤ f.beg i))
  case atStart => exact ⟨f.b.length, _, rfl, Nat.le_refl _, Nat.le_refl _, hid H1.out.2, hid (by rw [HS.out]; exact H1.out.1), hid (fun i h1 h2 => by omega)⟩
  case round =>
  obtain ⟨k, v13, rfl, hk, hkx, HK, HB, HI⟩ := hrel
  have c1 := HB.out.cell (o + 1)
  have f1 := HB.out.free (o + 1)
  rw [Array.getElem?_setIfInBounds_self_of_lt HO.out] at c1
  cases k with
  | zero =>
    go_wp2_with fail
    go_quiet (fail)
    go_wp2
    go_end0
    have kq : Kept (Just d) w (wr.drewN nq) := HK.out.drewN nq
    have hq := HR.out _ kq
    have e := Fl.cut_at HN.out.1 n 0 (Nat.zero_le _) HI.out (.inl rfl)
    refine ⟨rfl, kq, _, _, HB.out.drewN nq, ⟨?_, ?_, fun q h => HF.out.tx q (by rw [own_len _ _ _ n ct]; exact h), fun q h => HF.out.bx q (by rw [own_len _ _ _ 0 cb]; exact h)⟩⟩
    · have := row_take hq.1 (i := n) (by have := HN.out.2; omega)
      show Bo 5 _ 0 _ (f.t.take n)
      unfold Bo
      rw [List.length_take, Nat.min_eq_left HN.out.2, List.map_take]
      exact this
    · have := row_take hq.2 (i := 0) (Nat.zero_le _)
      show Io 3 _ 0 _ (f.b.takeWhile _)
      rw [e]
      exact this
  | succ j =>
    have hj : j < f.b.length := by omega
    obtain ⟨g, eg, hg, hc⟩ := (HR.out wr HK.out).2.at (by omega)
    subst eg
    have hcj := hc j hj
    rw [← f.beg_at hj] at hcj
    obtain ⟨B, hBe⟩ : ∃ B, B = f.beg j := ⟨_, rfl⟩
    rw [← hBe] at hcj
    have HBE := hid hBe
    clear hBe hc
    have wj : IntKind.i64.wrap (j : Int) = (j : Int) := by rw [IntKind.wrap_i64]; have := HCP.out; omega
    by_cases hge : n ≤ B
    · have hd : decide ((n : Int) ≤ (B : Int)) = true := by simpa using hge
      go_wp2_with fail
      go_quiet (fail)
      have hsl := row_slice_to tInts zInts (row_take (HR.out _ (HK.out.drewN nq)).2 hk) .i64 (j : Int) (by omega) (by omega)
      simp only [Int.toNat_natCast] at hsl
      go_wp2_with fail
      refine wp_tail 14 (by kernel_rfl) (by kernel_rfl) (fun wy ky => ?_)
      have hby := (HB.out.drewN nq).kept ky (fun h => h)
      have c1 := hby.cell (o + 1)
      have f1 := hby.free (o + 1)
      rw [Array.getElem?_setIfInBounds_self_of_lt HO.out] at c1
      have hb2 := hby.set (o + 1) (.slice (some ⟨g, 0, none⟩) j cb)
      rw [Array.setIfInBounds_setIfInBounds] at hb2
      have k2 : Kept (Just d) w (wy.setCell ⟨d, o + 1, none⟩ (.slice (some ⟨g, 0, none⟩) j cb)) := ((HK.out.drewN nq).trans (ky.mono (fun _ _ h => h.elim))).then (Kept.one wy d (o + 1) _) (fun _ _ h => h)
      have HB2 := hid hb2
      have HK2 := hid k2
      clear hb2 k2 hby
      simp only [List.take_succ_cons, List.take_zero, List.drop_succ_cons, List.drop_zero]
      repeat still_step
      refine wpStill_nil ?_
      go_wp2
      go_roundg j
      case measure => omega
      case rel =>
        refine ⟨j, _, rfl, by omega, Nat.le_refl _, HK2, HB2, hid (fun i h1 h2 => ?_)⟩
        by_cases e : i = j
        · subst e
          rw [← HBE.out]
          exact hge
        · exact HI.out i (by omega) h2
    · have hd : decide ((n : Int) ≤ (B : Int)) = false := by simpa using hge
      go_wp2_with fail
      go_quiet (fail)
      go_wp2
      go_end0
      have kq : Kept (Just d) w (wr.drewN nq) := HK.out.drewN nq
      have hq := HR.out _ kq
      have e := Fl.cut_at HN.out.1 n (j + 1) hk HI.out (.inr (by rw [Nat.add_sub_cancel, ← HBE.out]; omega))
      refine ⟨rfl, kq, _, _, HB.out.drewN nq, ⟨?_, ?_, fun q h => HF.out.tx q (by rw [own_len _ _ _ n ct]; exact h), fun q h => HF.out.bx q (by rw [own_len _ _ _ (j + 1) cb]; exact h)⟩⟩
      · have := row_take hq.1 (i := n) (by have := HN.out.2; omega)
        show Bo 5 _ 0 _ (f.t.take n)
        unfold Bo
        rw [List.length_take, Nat.min_eq_left HN.out.2, List.map_take]
        exact this
      · have := row_take hq.2 (i := j + 1) hk
        show Io 3 _ 0 _ (f.b.takeWhile _)
        rw [e]
        unfold Io
        rw [List.length_take, Nat.min_eq_left hk, List.map_take]
        exact this

theorem wrap_in (x : Int) (h0 : -9223372036854775808 ≤ x) (h1 : x ≤ 9223372036854775807) : wrap64 x = x := by unfold wrap64; omega
theorem wrap_sub {a b : Nat} (h : a ≤ b) (hb : b ≤ 9223372036854775807) : wrap64 ((b : Int) - (a : Int)) = ((b - a : Nat) : Int) := by rw [wrap_in _ (by omega) (by omega)]; omega
theorem wrap_add {a b : Nat} (h : a + b ≤ 9223372036854775807) : wrap64 ((a : Int) + (b : Int)) = ((a + b : Nat) : Int) := by rw [wrap_in _ (by omega) (by omega)]; omega
theorem wrap_upto {a b : Nat} (h : a ≤ b) (hb : b ≤ 9223372036854775807) : wrap64 ((a : Int) + ((b - a : Nat) : Int)) = (b : Int) := by rw [wrap_in _ (by omega) (by omega)]; omega
theorem Fl.beg_t (f : Fl) (t : List UInt8) (h : t.length = f.t.length) (i : Nat) : Fl.beg ⟨t, f.b⟩ i = f.beg i := by simp [Fl.beg, h]
set_option maxRecDepth 100000 in
set_option maxHeartbeats 4000000 in
/-- crash. -/
theorem crash (d o m : Nat) (torn : Int) (cs : Array Value) (tv bv : Value) (X : Nat → Prop) (f : Fl) (w : World) (hB : Blk w d cs 47) (ht : cs[o]? = some tv) (hb : cs[o + 1]? = some bv) (hF : FlAt w X tv bv f) (hok : f.Ok)
    (hm : m < 18446744073709551616) (ht0 : -9223372036854775808 ≤ torn) (ht1 : torn ≤ 9223372036854775807) :
    Calls Try.prog 23 #[.pointer (some ⟨d, o, none⟩), .int .u64 (m : Int), .int .i64 torn] w fun e w' => e = .returned (.tuple #[]) ∧ Kept (fun k => k = d ∨ X k) w w' ∧ ∃ tv' bv', Blk w' d ((cs.setIfInBounds o tv').setIfInBounds (o + 1) bv') 47 ∧ FlAt w' X tv' bv' (f.crash m torn) := by
  obtain ⟨at_, ct, rfl⟩ := hF.t.form
  obtain ⟨ab, cb, rfl⟩ := hF.b.form
  have hdt : (Value.slice at_ f.t.length ct).ownBlock ≠ some d := row_blk hF.t hB (by decide)
  have htb := row_apart hF.b hF.t (by decide)
  have hcT := row_cap hF.t
  have hcB := row_cap hF.b
  have hBd : ∀ W, Kept (Of (.slice at_ f.t.length ct)) w W → Blk W d cs 47 := fun W k => hB.kept k hdt
  have hIo : ∀ W, Kept (Of (.slice at_ f.t.length ct)) w W → Io 3 W 0 (.slice ab f.b.length cb) f.b := fun W k => hF.b.kept k (fun q h => htb q h)
  have hbeg : ∀ W (t : List UInt8) (i : Nat), Kept (Of (.slice at_ f.t.length ct)) w W → Bo 5 W 0 (.slice at_ f.t.length ct) t → t.length = f.t.length → i < 9223372036854775808 →
      Calls Try.prog 22 #[.pointer (some ⟨d, o, none⟩), .int .i64 (i : Int)] W fun e w' => e = .returned (.int .i64 (f.beg i : Int)) ∧ W = w' := fun W t i k hT hl hi => by
    have := begin d o i cs _ _ X ⟨t, f.b⟩ W (hBd W k) ht hb ⟨hT, hIo W k, hF.tx, hF.bx⟩ hi
    rwa [Fl.beg_t f t hl] at this
  have HBD := hid hBd
  have HIO := hid hIo
  have HG := hid hbeg
  have HF := hid hF
  have HT := hid (And.intro ht hb)
  have HOK := hid hok
  have HC := hid (And.intro hcT hcB)
  have HM := hid hm
  have HTN := hid (And.intro ht0 ht1)
  have HD := hid hdt
  clear hBd hIo hbeg hF ht hb hok hcT hcB hm ht0 ht1 hdt htb hB
  go_enter Try.func23, Try.ntmps23
  go_wp2_with fail
  refine (HG.out w f.t 0 (Kept.refl _ _) HF.out.t rfl (by decide)).mono ?_
  rintro e w0 ⟨rfl, rfl⟩
  go_wp2_with fail
  refine (HG.out w f.t 0 (Kept.refl _ _) HF.out.t rfl (by decide)).mono ?_
  rintro e w0 ⟨rfl, rfl⟩
  have hBw := HBD.out w (Kept.refl _ _)
  have c1 := hBw.cell (o + 1)
  rw [HT.out.2] at c1
  obtain ⟨A0, hA0⟩ : ∃ A, A = f.beg 0 := ⟨_, rfl⟩
  rw [← hA0]
  have HA0 := hid hA0
  clear hA0 hBw
  go_wp2
  clear c1
  go_loopg [6, 7, 18] f.b.length (fun kx s6 s7 s18 wr => ∃ (i a b : Nat), s6 = .int .i64 (a : Int) ∧ s7 = .int .i64 (b : Int) ∧ s18 = .int .i64 (i : Int) ∧ i ≤ f.b.length ∧ f.b.length - i ≤ kx ∧ Hid (a = (f.crashS m i).a ∧ b = (f.crashS m i).e) ∧ Hid (Kept (Of (.slice at_ f.t.length ct)) w wr) ∧ Hid (Bo 5 wr 0 (.slice at_ f.t.length ct) (f.crashS m i).t))
  case atStart => exact ⟨0, A0, A0, rfl, rfl, rfl, Nat.zero_le _, Nat.le_refl _, hid ⟨HA0.out, HA0.out⟩, hid (Kept.refl _ _), hid HF.out.t⟩
  case round =>
  obtain ⟨i, a, b, rfl, rfl, rfl, hi, hix, HAB, HK, HB⟩ := hrel
  have HS := hid (Fl.crashS_ok HOK.out m i hi)
  by_cases hlt : i < f.b.length
  · have hlt' : decide ((i : Int) < (f.b.length : Int)) = true := by simpa using hlt
    go_wp2_with fail
    refine (kept m i wr HM.out (by have := HC.out; omega)).mono ?_
    rintro e w0 ⟨rfl, rfl⟩
    by_cases hbit : m.testBit i = true
    · rw [hbit]
      have hst : f.crashS m (i + 1) = ⟨zeroAt (f.crashS m i).t (f.crashS m i).e (f.beg i), f.beg i, f.beg (i + 1)⟩ := by simp [Fl.crashS, hbit]
      have hl := HS.out.1
      have hle : b ≤ f.beg i := by rw [HAB.out.2]; exact HS.out.2.2.2.1
      have hBl : f.beg i ≤ f.t.length := HOK.out.le i
      obtain ⟨B, hBe⟩ : ∃ B, B = f.beg i := ⟨_, rfl⟩
      obtain ⟨C, hCe⟩ : ∃ C, C = f.beg (i + 1) := ⟨_, rfl⟩
      have hg1 := fun W t k hT hl => HG.out W t i k hT hl (by have := HC.out; omega)
      have hg2 := fun W t k hT hl => HG.out W t (i + 1) k hT hl (by have := HC.out; omega)
      rw [← hBe] at hst hle hBl hg1
      rw [← hCe] at hst hg2
      have HST := hid hst
      have HG1 := hid hg1
      have HG2 := hid hg2
      have hrow := HB.out
      unfold Bo at hrow
      rw [hl] at hrow
      have hsl := row_slice_mid tBytes zBytes hrow .i64 .i64 (b : Int) (B : Int) (by omega) (by omega) (by omega)
      simp only [Int.toNat_natCast] at hsl
      obtain ⟨a', ha'⟩ : ∃ a', a' = (if ct = b then at_ else at_.map (·.add b)) := ⟨_, rfl⟩
      rw [← ha'] at hsl
      have HL := hid (And.intro hl (And.intro hle hBl))
      have HA' := hid ha'
      clear hst hl hle hBl hBe hCe hg1 hg2 hrow ha'
      go_wp2_with fail
      refine wp_tail 9 (by kernel_rfl) (by kernel_rfl) (fun wy ky => ?_)
      have ky' : Kept (Of (.slice at_ f.t.length ct)) w wy := HK.out.trans (ky.mono (fun _ _ h => h.elim))
      have hBy := HB.out.kept ky (fun _ _ h => h)
      have c0 := (HBD.out wy ky').cell o
      rw [HT.out.1] at c0
      obtain ⟨w5, hcl, hB5, k5⟩ := bo_clear tBytes' (fun _ => by kernel_rfl) hBy (i := b) (j := B) HL.out.2.1 (by rw [HL.out.1]; exact HL.out.2.2)
      rw [← HA'.out] at hcl
      have HB5 := hid hB5
      have HK5 := hid (ky'.trans k5)
      clear hB5 k5
      simp only [List.take_succ_cons, List.take_zero, List.drop_succ_cons, List.drop_zero]
      repeat still_step
      still_call (Calls.same (HG1.out wy _ ky' hBy HL.out.1))
      repeat still_step
      refine wpStill_nil ?_
      clear hsl c0 ky ky' hBy
      have hlz : (zeroAt (f.crashS m i).t b B).length = f.t.length := by rw [zeroAt_length HL.out.2.1 (by rw [HL.out.1]; exact HL.out.2.2)]; exact HL.out.1
      have HLZ := hid hlz
      clear hlz
      go_wp2_with fail
      clear hcl
      refine (HG1.out w5 _ HK5.out HB5.out HLZ.out).mono ?_
      rintro e w0 ⟨rfl, rfl⟩
      have wi : wrap64 ((i : Int) + 1) = ((i + 1 : Nat) : Int) := by unfold wrap64; have := HC.out; omega
      go_wp2_with fail
      refine (HG2.out w5 _ HK5.out HB5.out HLZ.out).mono ?_
      rintro e w0 ⟨rfl, rfl⟩
      go_wp2
      go_roundg (f.b.length - (i + 1))
      case measure => omega
      case rel =>
        refine ⟨i + 1, B, C, rfl, rfl, by go_num, by omega, Nat.le_refl _, hid ?_, HK5, hid ?_⟩
        · rw [HST.out]
          exact ⟨rfl, rfl⟩
        · rw [HST.out, ← HAB.out.2]
          exact HB5.out
    · have hbit' : m.testBit i = false := by simpa using hbit
      rw [hbit']
      have hst : f.crashS m (i + 1) = f.crashS m i := by simp [Fl.crashS, hbit']
      have HST := hid hst
      have wi : wrap64 ((i : Int) + 1) = ((i + 1 : Nat) : Int) := by unfold wrap64; have := HC.out; omega
      clear hst
      go_wp2
      go_roundg (f.b.length - (i + 1))
      case measure => omega
      case rel => exact ⟨i + 1, a, b, rfl, rfl, by go_num, by omega, Nat.le_refl _, hid (by rw [HST.out]; exact HAB.out), HK, hid (by rw [HST.out]; exact HB.out)⟩
  · have hge : i = f.b.length := by omega
    have hlt' : decide ((i : Int) < (f.b.length : Int)) = false := by simpa using hlt
    have hab : a ≤ b := by have := HS.out; have := HAB.out; omega
    have hbl : b ≤ f.t.length := by have := HS.out.2.2.2.1; have := HAB.out; have := HOK.out.le i; omega
    have hbnd := HC.out.1.2
    have hbnd2 := HC.out.1.1
    have hee : i = f.b.length := hge
    subst hee
    have ha := HAB.out.1
    have hb := HAB.out.2
    by_cases htn : 0 ≤ torn
    · have htn' : decide ((0 : Int) ≤ torn) = true := by simpa using htn
      have WD := hid (wrap_sub hab (by omega))
      by_cases hcm : torn ≤ ((b - a : Nat) : Int)
      · obtain ⟨T, rfl⟩ : ∃ T : Nat, torn = (T : Int) := ⟨torn.toNat, by omega⟩
        have hmn : min (T : Int) ((b - a : Nat) : Int) = (T : Int) := by omega
        obtain ⟨E, hEq⟩ : ∃ E, E = a + T := ⟨_, rfl⟩
        have WE := hid (wrap_add (a := a) (b := T) (by omega))
        rw [← hEq] at WE
        have hE := Fl.crashE_ok HOK.out m (T : Int)
        have hEe : f.crashE m (T : Int) = E := by
          unfold Fl.crashE; rw [if_pos htn, ← ha, ← hb]; omega
        rw [hEe] at hE
        have hrow := HB.out
        unfold Bo at hrow
        rw [HS.out.1] at hrow
        have hsl := row_slice_to tBytes zBytes hrow .i64 ((E : Nat) : Int) (by omega) (by omega)
        simp only [Int.toNat_natCast] at hsl
        have hBr := HBD.out wr HK.out
        have c0 := hBr.cell o
        rw [HT.out.1] at c0
        have f0 := hBr.free o
        have hb1 := hBr.set o (.slice at_ E ct)
        have hs := fun W (h : Blk W d (cs.setIfInBounds o (.slice at_ E ct)) 47) => settle d o _ (.slice at_ E ct) (.slice ab f.b.length cb) W h (by rw [Array.getElem?_setIfInBounds_self_of_lt (Array.getElem?_eq_some_iff.1 HT.out.1).1]) (by rw [Array.getElem?_setIfInBounds_ne (by omega)]; exact HT.out.2)
        have HSE := hid hs
        have HE := hid (And.intro hE hEe)
        have hrw := hid (row_take hrow (i := E) hE.2)
        clear hEq hrow hBr hs hE hEe ha hb hab hbl hbnd hbnd2 hge hi hix hlt
        have wD := WD.out
        have wE := WE.out
        go_wp2_with fail
        clear wD wE
        refine (HSE.out _ hb1).mono ?_
        rintro e w9 ⟨rfl, hb9, k9⟩
        go_wp2
        go_end0
        have kd : Kept (Just d) wr w9 := (Kept.one wr d o (.slice at_ E ct)).trans k9
        have kA : Kept (fun k => k = d ∨ X k) w w9 := (HK.out.mono (fun q _ h => .inr (HF.out.tx q h))).then kd (fun q _ h => .inl h)
        have hlt9 : (List.take E (f.crashS m f.b.length).t).length = E := by have := HE.out.1; have := HS.out.1; simp; omega
        refine ⟨rfl, kA, _, _, hb9, ⟨?_, Io.nil _ _ _, fun q h => HF.out.tx q (by rw [own_len _ _ _ E ct]; exact h), fun q h => by cases h⟩⟩
        show Bo 5 w9 0 _ ((f.crashS m f.b.length).t.take (f.crashE m (T : Int)))
        rw [HE.out.2]
        unfold Bo
        rw [hlt9, List.map_take]
        exact row_kept hrw.out kd (fun q h e => HD.out (by rw [own_len _ _ _ E ct, h, show q = d from e]))
      · have hmn : min torn ((b - a : Nat) : Int) = ((b - a : Nat) : Int) := by omega
        have hcm' : ¬ torn < ((b - a : Nat) : Int) := by omega
        have WE := hid (wrap_upto hab (by omega))
        have hE := Fl.crashE_ok HOK.out m torn
        have hEe : f.crashE m torn = b := by
          unfold Fl.crashE; rw [if_pos htn, ← ha, ← hb]; omega
        rw [hEe] at hE
        have hrow := HB.out
        unfold Bo at hrow
        rw [HS.out.1] at hrow
        have hsl := row_slice_to tBytes zBytes hrow .i64 ((b : Nat) : Int) (by omega) (by omega)
        simp only [Int.toNat_natCast] at hsl
        have hBr := HBD.out wr HK.out
        have c0 := hBr.cell o
        rw [HT.out.1] at c0
        have f0 := hBr.free o
        have hb1 := hBr.set o (.slice at_ (b) ct)
        have hs := fun W (h : Blk W d (cs.setIfInBounds o (.slice at_ (b) ct)) 47) => settle d o _ (.slice at_ (b) ct) (.slice ab f.b.length cb) W h (by rw [Array.getElem?_setIfInBounds_self_of_lt (Array.getElem?_eq_some_iff.1 HT.out.1).1]) (by rw [Array.getElem?_setIfInBounds_ne (by omega)]; exact HT.out.2)
        have HSE := hid hs
        have HE := hid (And.intro hE hEe)
        have hrw := hid (row_take hrow (i := b) hE.2)
        clear hrow hBr hs hE hEe ha hb hab hbl hbnd hbnd2 hge hi hix hlt
        have wD := WD.out
        have wE := WE.out
        go_wp2_with fail
        clear wD wE
        refine (HSE.out _ hb1).mono ?_
        rintro e w9 ⟨rfl, hb9, k9⟩
        go_wp2
        go_end0
        have kd : Kept (Just d) wr w9 := (Kept.one wr d o (.slice at_ (b) ct)).trans k9
        have kA : Kept (fun k => k = d ∨ X k) w w9 := (HK.out.mono (fun q _ h => .inr (HF.out.tx q h))).then kd (fun q _ h => .inl h)
        have hlt9 : (List.take (b) (f.crashS m f.b.length).t).length = b := by have := HE.out.1; have := HS.out.1; simp; omega
        refine ⟨rfl, kA, _, _, hb9, ⟨?_, Io.nil _ _ _, fun q h => HF.out.tx q (by rw [own_len _ _ _ (b) ct]; exact h), fun q h => by cases h⟩⟩
        show Bo 5 w9 0 _ ((f.crashS m f.b.length).t.take (f.crashE m torn))
        rw [HE.out.2]
        unfold Bo
        rw [hlt9, List.map_take]
        exact row_kept hrw.out kd (fun q h e => HD.out (by rw [own_len _ _ _ (b) ct, h, show q = d from e]))
    · have htn' : decide ((0 : Int) ≤ torn) = false := by simpa using htn
      have hE := Fl.crashE_ok HOK.out m torn
      have hEe : f.crashE m torn = b := by
        unfold Fl.crashE; rw [if_neg htn, ← hb]
      rw [hEe] at hE
      have hrow := HB.out
      unfold Bo at hrow
      rw [HS.out.1] at hrow
      have hsl := row_slice_to tBytes zBytes hrow .i64 ((b : Nat) : Int) (by omega) (by omega)
      simp only [Int.toNat_natCast] at hsl
      have hBr := HBD.out wr HK.out
      have c0 := hBr.cell o
      rw [HT.out.1] at c0
      have f0 := hBr.free o
      have hb1 := hBr.set o (.slice at_ (b) ct)
      have hs := fun W (h : Blk W d (cs.setIfInBounds o (.slice at_ (b) ct)) 47) => settle d o _ (.slice at_ (b) ct) (.slice ab f.b.length cb) W h (by rw [Array.getElem?_setIfInBounds_self_of_lt (Array.getElem?_eq_some_iff.1 HT.out.1).1]) (by rw [Array.getElem?_setIfInBounds_ne (by omega)]; exact HT.out.2)
      have HSE := hid hs
      have HE := hid (And.intro hE hEe)
      have hrw := hid (row_take hrow (i := b) hE.2)
      clear hrow hBr hs hE hEe ha hb hab hbl hbnd hbnd2 hge hi hix hlt
      go_wp2_with fail
      refine (HSE.out _ hb1).mono ?_
      rintro e w9 ⟨rfl, hb9, k9⟩
      go_wp2
      go_end0
      have kd : Kept (Just d) wr w9 := (Kept.one wr d o (.slice at_ (b) ct)).trans k9
      have kA : Kept (fun k => k = d ∨ X k) w w9 := (HK.out.mono (fun q _ h => .inr (HF.out.tx q h))).then kd (fun q _ h => .inl h)
      have hlt9 : (List.take (b) (f.crashS m f.b.length).t).length = b := by have := HE.out.1; have := HS.out.1; simp; omega
      refine ⟨rfl, kA, _, _, hb9, ⟨?_, Io.nil _ _ _, fun q h => HF.out.tx q (by rw [own_len _ _ _ (b) ct]; exact h), fun q h => by cases h⟩⟩
      show Bo 5 w9 0 _ ((f.crashS m f.b.length).t.take (f.crashE m torn))
      rw [HE.out.2]
      unfold Bo
      rw [hlt9, List.map_take]
      exact row_kept hrw.out kd (fun q h e => HD.out (by rw [own_len _ _ _ (b) ct, h, show q = d from e]))
end Dk
end Go.Proofs.Ytdcpacfhifofdaa
