/- Rows.JournalReadsSaid: which record any bytes begin with, or why none, is the document's, the mark right again, too, whatever the bytes, the record, the place and the byte. No condition. -/
import Derived.Test.YtpbkdeljhehkdaaPk2
import Derived.Deep.LoopGhost
import Derived.Test.YtpbkdeljhehkdaaPk4
import Derived.Test.YtpbkdeljhehkdaaPk6
import Derived.Deep.CutRange
import Derived.Test.YtpbkdeljhehkdaaRows
import Derived.Test.YtpbkdeljhehkdaaPk7
namespace Go.Pm
open Go Go.RowKit
/-- A record of numbers. -/
def someR (k a : Nat) (q : Int) (u : Req) : Rec := if k % 3 = 0 then ⟨1, q, (a : Int), ((a % 34 : Nat) : Int), Req.none, 0, 0⟩ else if k % 3 = 1 then ⟨2, q, 0, 0, u, (a : Int), 0⟩ else ⟨3, q, 0, 0, Req.none, 0, (a : Int)⟩
theorem some_nums {k a c K A : Nat} (_hk : k < 256) (ha : a < 256) (hc : c = k % 3) (hK : K = c + 1) (hA : A = a % 34) :
    (k : Int) % 3 = (c : Int) ∧ (c : Int) + 1 = (K : Int) ∧ (a : Int) % 34 = (A : Int) ∧ wrap64 (c : Int) = (c : Int) ∧ wrap64 (K : Int) = (K : Int) ∧ wrap64 (a : Int) = (a : Int) ∧ wrap64 (A : Int) = (A : Int) := by
  exact ⟨by omega, by omega, by omega, by unfold wrap64; omega, by unfold wrap64; omega, by unfold wrap64; omega, by unfold wrap64; omega⟩
end Go.Pm
namespace Go.Proofs.Ytpbkdeljhehkdaa
open Go.RowKit Go.Pm
namespace K14
set_option maxRecDepth 100000 in
set_option maxHeartbeats 4000000 in
theorem some (k a : Nat) (seq q : Int) (u : Req) (w : World) (hk : k < 256) (ha : a < 256) (hq : bits .and .i64 seq 65535 = q) :
    Calls Try.prog 7 #[.int .u8 (k : Int), .int .u8 (a : Int), .int .i64 seq, updV u.n u.v u.k u.c u.r u.s] w fun e w' => e = .returned (someR k a q u).V ∧ Kept None w w' := by
  obtain ⟨n, v, kk, cl, rr, ss⟩ := u
  obtain ⟨c, hc⟩ : ∃ c, c = k % 3 := ⟨_, rfl⟩
  obtain ⟨K, hK⟩ : ∃ K, K = c + 1 := ⟨_, rfl⟩
  obtain ⟨A, hA⟩ : ∃ A, A = a % 34 := ⟨_, rfl⟩
  have hc3 : c = 0 ∨ c = 1 ∨ c = 2 := by omega
  obtain ⟨r1, r2, r3, r4, r5, r6, r7⟩ := some_nums hk ha hc hK hA
  have hS : someR k a q ⟨n, v, kk, cl, rr, ss⟩ = if c = 0 then ⟨1, q, (a : Int), (A : Int), Req.none, 0, 0⟩ else if c = 1 then ⟨2, q, 0, 0, ⟨n, v, kk, cl, rr, ss⟩, (a : Int), 0⟩ else ⟨3, q, 0, 0, Req.none, 0, (a : Int)⟩ := by unfold someR; rw [hc, hA]
  rw [hS]
  have HK := hid hK
  clear hS hc hA hk ha hK
  rcases hc3 with rfl | rfl | rfl
  · obtain rfl : K = 1 := HK.out
    go_enter Try.func7, Try.ntmps7
    go_wp2
    exact bodyPost_ret (v := .agg #[.int .i64 1, .int .i64 q, .int .i64 (a : Int), .int .i64 (A : Int), .string ⟨#[]⟩, .int .i64 0, .int .u64 0, .int .i64 0, .int .u64 0, .int .u64 0, .int .i64 0, .int .i64 0]) (results_blk rfl _ rfl ((Blk.new2 w (.cells #[.string n, .int .i64 v, .int .u64 (kk : Int), .int .i64 cl, .int .u64 (rr : Int), .int .u64 (ss : Int)] 26) #[.int .i64 1, .int .i64 q, .int .i64 (a : Int), .int .i64 (A : Int), .string ⟨#[]⟩, .int .i64 0, .int .u64 0, .int .i64 0, .int .u64 0, .int .u64 0, .int .i64 0, .int .i64 0] 28).alloc _) aRec) rfl ⟨rfl, (((Kept.refl _ _).alloc _).alloc _).alloc _⟩
  · obtain rfl : K = 2 := HK.out
    go_enter Try.func7, Try.ntmps7
    go_wp2
    exact bodyPost_ret (v := .agg #[.int .i64 2, .int .i64 q, .int .i64 0, .int .i64 0, .string n, .int .i64 v, .int .u64 (kk : Int), .int .i64 cl, .int .u64 (rr : Int), .int .u64 (ss : Int), .int .i64 (a : Int), .int .i64 0]) (results_blk rfl _ rfl ((Blk.new2 w (.cells #[.string n, .int .i64 v, .int .u64 (kk : Int), .int .i64 cl, .int .u64 (rr : Int), .int .u64 (ss : Int)] 26) #[.int .i64 2, .int .i64 q, .int .i64 0, .int .i64 0, .string n, .int .i64 v, .int .u64 (kk : Int), .int .i64 cl, .int .u64 (rr : Int), .int .u64 (ss : Int), .int .i64 (a : Int), .int .i64 0] 28).alloc _) aRec) rfl ⟨rfl, (((Kept.refl _ _).alloc _).alloc _).alloc _⟩
  · obtain rfl : K = 3 := HK.out
    go_enter Try.func7, Try.ntmps7
    go_wp2
    exact bodyPost_ret (v := .agg #[.int .i64 3, .int .i64 q, .int .i64 0, .int .i64 0, .string ⟨#[]⟩, .int .i64 0, .int .u64 0, .int .i64 0, .int .u64 0, .int .u64 0, .int .i64 0, .int .i64 (a : Int)]) (results_blk rfl _ rfl ((Blk.new2 w (.cells #[.string n, .int .i64 v, .int .u64 (kk : Int), .int .i64 cl, .int .u64 (rr : Int), .int .u64 (ss : Int)] 26) #[.int .i64 3, .int .i64 q, .int .i64 0, .int .i64 0, .string ⟨#[]⟩, .int .i64 0, .int .u64 0, .int .i64 0, .int .u64 0, .int .u64 0, .int .i64 0, .int .i64 (a : Int)] 28).alloc _) aRec) rfl ⟨rfl, (((Kept.refl _ _).alloc _).alloc _).alloc _⟩
end K14
end Go.Proofs.Ytpbkdeljhehkdaa
namespace Go.Pm
open Go Go.RowKit
def recC (r : Rec) : List Value := r.C.toList
def recsC (l : List Rec) : List (List Value) := l.map recC
theorem recsC_len (l : List Rec) : (recsC l).length = l.length := List.length_map _
theorem recsC_at (l : List Rec) (i : Nat) (h : i < l.length) : (recsC l)[i]? = some (recC l[i]) := by simp [recsC, h]
theorem recsC_app (a b : List Rec) : recsC (a ++ b) = recsC a ++ recsC b := List.map_append
theorem recsC_each (l : List Rec) : Each 12 (recsC l) := fun x hx => by
  obtain ⟨y, _, rfl⟩ := List.mem_map.1 hx
  rfl
theorem recC_one (r : Rec) : ∀ c ∈ recC r, c.oneCell' = true := by simp [recC, Rec.C, Value.oneCell']
theorem Ps.rec {w : World} {lo hi : Nat} {a : Option Addr} {n cap : Nat} {l : List Rec} (h : Ps 12 w lo hi (.slice a n cap) (recsC l)) (hn : 0 < l.length) :
    ∃ b o, a = some ⟨b, o, none⟩ ∧ b < w.heap.size ∧ ∀ i (hi : i < l.length), w.rangeAt b (o + i * 12) (recC l[i]) := by
  obtain ⟨b, o, rfl, _, _, h3, hr⟩ := h.ne (by decide) (by rw [recsC_len]; exact hn)
  exact ⟨b, o, rfl, h3, fun i hi => hr i _ (recsC_at l i hi)⟩
instance : DecidableEq Rec := fun a b => decidable_of_iff (recEq a b = true) (recEq_iff a b)
/-- Are two rows of records the same? -/
def recsEq (l m : List Rec) : Bool := decide (l = m)
theorem take_eq_step {α : Type} {l m : List α} {i : Nat} (h : l.take i = m.take i) (hl : i < l.length) (hm : i < m.length) (he : l[i] = m[i]) : l.take (i + 1) = m.take (i + 1) := by
  rw [List.take_succ_eq_append_getElem hl, List.take_succ_eq_append_getElem hm, h, he]
end Go.Pm
namespace Go.Proofs.Ytpbkdeljhehkdaa
open Go.RowKit Go.Pm
namespace Hr
theorem aRec : AggTy Try.prog 28 12 := Sg.AggTy.of (by kernel_rfl) (by kernel_rfl)
set_option maxRecDepth 100000 in
set_option maxHeartbeats 4000000 in
/-- postmarkhelp.Records. -/
theorem records (v v' : Value) (lo hi lo' hi' : Nat) (l m : List Rec) (w : World) (hv : Ps 12 w lo hi v (recsC l)) (hv' : Ps 12 w lo' hi' v' (recsC m)) (hln : l.length ≤ 1099511627776) :
    Calls Try.prog 21 #[v, v'] w fun e w' => e = .returned (.bool (recsEq l m)) ∧ Kept None w w' := by
  obtain ⟨av, nv, cv, rfl, hnv⟩ : ∃ a n c, v = .slice a n c ∧ n = l.length := by
    obtain ⟨a, c, h, _⟩ := hv.form
    rw [recsC_len] at h
    exact ⟨a, _, c, h, rfl⟩
  obtain ⟨au, nu, cu, rfl, hnu⟩ : ∃ a n c, v' = .slice a n c ∧ n = m.length := by
    obtain ⟨a, c, h, _⟩ := hv'.form
    rw [recsC_len] at h
    exact ⟨a, _, c, h, rfl⟩
  subst hnv hnu
  have HV := hid hv
  have HU := hid hv'
  have HN := hid hln
  clear hv hv' hln
  by_cases hlen : l.length = m.length
  · have d1 : ((l.length : Int) == (m.length : Int)) = true := by simp; omega
    have HL := hid hlen
    obtain ⟨n, hn⟩ : ∃ n, n = l.length := ⟨_, rfl⟩
    have hm : m.length = n := by omega
    rw [hm, ← hn]
    have HNN := hid (And.intro hn hm)
    clear hlen hn hm d1
    go_enter Try.func21, Try.ntmps21
    go_wp2_with fail
    go_loopg [5] n (fun kx s5 wr => ∃ i : Nat, s5 = .int .i64 (i : Int) ∧ i ≤ n ∧ n - i ≤ kx ∧ Hid (l.take i = m.take i) ∧ Hid (Kept None w wr))
    case atStart => exact ⟨0, rfl, Nat.zero_le _, Nat.le_refl _, hid rfl, hid (Kept.refl _ _)⟩
    case round =>
    obtain ⟨i, rfl, hi, hix, HE, HS⟩ := hrel
    by_cases hlt : i < n
    · have hlt' : decide ((i : Int) < (n : Int)) = true := by simpa using hlt
      have hlb : (i : Int) < (n : Int) := Int.ofNat_lt.mpr hlt
      have il : i < l.length := by rw [← HNN.out.1]; exact hlt
      have im : i < m.length := by rw [HNN.out.2]; exact hlt
      obtain ⟨b, o, rfl, _, h1⟩ := (HV.out.kept HS.out (fun _ _ _ h => h)).rec (by omega)
      obtain ⟨b', o', rfl, _, h2⟩ := (HU.out.kept HS.out (fun _ _ _ h => h)).rec (by omega)
      have r1 := h1 i il
      have r2 := h2 i im
      obtain ⟨x, hx⟩ : ∃ x, x = l[i] := ⟨_, rfl⟩
      obtain ⟨y, hy⟩ : ∃ y, y = m[i] := ⟨_, rfl⟩
      rw [← hx] at r1
      rw [← hy] at r2
      have HR1 := hid (fun W (hW : Kept None wr W) => rangeAt_kept r1 hW)
      have HR2 := hid (fun W (hW : Kept None wr W) => rangeAt_kept r2 hW)
      have hneq := fun W => Jq.neqRec x y W
      obtain ⟨B, hB⟩ : ∃ B, B = recEq x y := ⟨_, rfl⟩
      rw [← hB] at hneq
      have HNQ := hid (show ∀ W, (binOp .neq 28 (.agg (recC x).toArray) (.agg (recC y).toArray)).run Try.prog W = .ok (.bool (!B)) W from hneq)
      have aX : AggTy Try.prog 28 (recC x).length := aRec
      have aY : AggTy Try.prog 28 (recC y).length := aRec
      have HXY := hid (And.intro hx (And.intro hy hB))
      clear h1 h2 r1 r2 hx hy hB hneq
      go_wp2_with fail
      refine wp_region_kn wr [] Go.Pm.Steady.nil (Kept.refl _ _) (by kernel_rfl) (by kernel_rfl) (by kernel_rfl) ?_
      iterate 9 (refine wpPar_pure rfl (by rfl) _ (fun W hW => by
          have hnq := HNQ.out
          first | exact exec_load_at rfl rfl (HR1.out W hW) aX | exact exec_load_at rfl rfl (HR2.out W hW) aY | (go_simp; exact rfl)) ?_; simp only [Act.put, List.setIfInBounds_toArray, List.set_cons_zero, List.set_cons_succ])
      refine wpPar_nil (fun w2 hW hG => ?_)
      have K2 := hid (HS.out.trans hW)
      clear hG hW
      cases B with
      | true =>
        have HE2 : Hid (l.take (i + 1) = m.take (i + 1)) := hid (take_eq_step HE.out il im (by
          have h := (recEq_iff x y).1 HXY.out.2.2.symm
          rw [← HXY.out.1, ← HXY.out.2.1, h]))
        have hw : wrap64 ((i : Int) + 1) = ((i + 1 : Nat) : Int) := by have := HN.out; unfold wrap64; omega
        have HW := hid hw
        clear hw
        go_wp2
        go_roundg (n - (i + 1))
        case measure => omega
        case rel => exact ⟨i + 1, by rw [HW.out], hlt, Nat.le_refl _, HE2, K2⟩
      | false =>
        have hfin : recsEq l m = false := by
          unfold recsEq
          rw [decide_eq_false_iff_not]
          intro h
          have h1 : x = y := by
            rw [HXY.out.1, HXY.out.2.1]
            simp only [h]
          have := (recEq_iff x y).2 h1
          rw [← HXY.out.2.2] at this
          cases this
        have HF := hid hfin
        clear hfin
        go_wp2
        go_ret
        rw [HF.out]
        exact ⟨rfl, K2.out⟩
    · have hlt' : decide ((i : Int) < (n : Int)) = false := by simpa using hlt
      obtain rfl : i = n := by omega
      have hfin : recsEq l m = true := by
        have h := HE.out
        rw [List.take_of_length_le (by rw [← HNN.out.1]; exact Nat.le_refl _), List.take_of_length_le (by rw [HNN.out.2]; exact Nat.le_refl _)] at h
        unfold recsEq
        rw [h]
        simp
      have HF := hid hfin
      clear hlt hi hix hfin
      go_wp2
      go_ret
      rw [HF.out]
      exact ⟨rfl, HS.out⟩
  · have d1 : ((l.length : Int) == (m.length : Int)) = false := by simp; omega
    have hfin : recsEq l m = false := by
      unfold recsEq
      rw [decide_eq_false_iff_not]
      exact fun h => hlen (congrArg List.length h)
    have HF := hid hfin
    clear hfin
    go_enter Try.func21, Try.ntmps21
    go_wp2
    go_ret
    rw [HF.out]
    exact ⟨rfl, Kept.refl _ _⟩
end Hr
end Go.Proofs.Ytpbkdeljhehkdaa
namespace Go.Pm
open Go Go.RowKit
theorem wpList_one_w {P : Program} {ops : Array Oper} {rest : List Oper} {o : Oper} {a : Act} {w : World} {Q : Exit → Act → World → Prop} (hw : Region.wanted o (yielded ops a.tmps) = true) (t : TypeId) (y : Operand) (ho : o.op = .buildSlice t 1 #[(0, y)])
    {e : TypeId} {z : Value} {k bytes : Nat} (hT : RowTyK P t e z k bytes) (hk : k ≤ 16777216) {A : Array Value} (hy : a.eval y = .agg A) (hA : A.size = k)
    (h : wpList P ops Q rest (a.put o.dst (.slice (some ⟨w.heap.size, 0, none⟩) 1 1)) (w.alloc (.cells A e))) : wpList P ops Q (o :: rest) a w :=
  BigFrame.wpList_want hw fun K hK => by
    unfold Oper.wp
    rw [exec_one_item t y ho hT hk hy hA]
    exact hK _ _ h
theorem wrap64_nat' {n : Nat} (h : n < 65536) : wrap64 (n : Int) = (n : Int) := by unfold wrap64; omega
theorem xor_u8' (a b : Int) : 0 ≤ bits .xor .u8 a b ∧ bits .xor .u8 a b < 256 := by
  have h : bits .xor .u8 a b = IntKind.u8.wrap ((BitVec.ofInt 8 a ^^^ BitVec.ofInt 8 b).toNat : Int) := rfl
  rw [h, IntKind.wrap_u8]
  omega
theorem putFL_le (k s : Int) (b : List UInt8) : (putFL k s b).length ≤ 21 + b.length := by
  unfold putFL
  split
  · rw [putF_len]; exact Nat.le_refl _
  · exact Nat.zero_le _
/-- An own row's cells. -/
theorem Bo.opened {e : TypeId} {w : World} {base n cap : Nat} {a : Option Addr} {l : List UInt8} (h : Bo e w base (.slice a n cap) l) (hn : 0 < l.length) :
    ∃ g, a = some ⟨g, 0, none⟩ ∧ base ≤ g ∧ (∀ I, I < l.length → w.cell? ⟨g, I, none⟩ = some (.int .u8 (bAt l I))) ∧ (∀ I, w.frozen? ⟨g, I, none⟩ = false) := by
  rcases h.2 with ⟨_, hnil⟩ | ⟨g, cc, cur, hval, hbg, hg, hnc, hcm, hcs, htake⟩
  · exfalso
    rw [hnil] at hn
    exact absurd hn (Nat.not_lt_zero _)
  have hB : Blk w g cur e := hg
  refine ⟨g, by injection hval, hbg, fun I hI => ?_, fun I => hB.free I⟩
  rw [hB.cell, ← Array.getElem?_toList]
  have h1 : (l.map u8v)[I]? = some (.int .u8 (bAt l I)) := by rw [List.getElem?_map, List.getElem?_eq_getElem hI, Option.map_some, u8v_at l I hI]
  rw [← htake, List.getElem?_take, if_pos (by rw [Nat.mul_one]; exact hI)] at h1
  exact h1
/-- A slice that reads as at most 400 bytes. -/
def IsB (W : World) (v : Value) : Prop := ∃ (L : List UInt8) (a : Option Addr) (c : Nat), v = .slice a L.length c ∧ L.length ≤ 400 ∧ Bs W 0 W.heap.size (.slice a L.length c) L
theorem IsB.of {W : World} {v : Value} {L : List UInt8} {lo hi : Nat} (h : Bs W lo hi v L) (hl : L.length ≤ 400) : IsB W v := by
  obtain ⟨a, c, rfl, _⟩ := h.shape
  exact ⟨L, a, c, rfl, hl, h.all⟩
theorem IsB.kept {W W' : World} {v : Value} (h : IsB W v) (k : Kept None W W') : IsB W' v := by
  obtain ⟨L, a, c, rfl, hl, hb⟩ := h
  exact ⟨L, a, c, rfl, hl, (hb.kept k (fun _ _ _ h => h)).all⟩
theorem of_five {α : Type} {p : α → Prop} {a b c d e : α} (ha : p a) (hb : p b) (hc : p c) (hd : p d) (he : p e) (i : Nat) (h : i < 5) : ∃ x, (#[a, b, c, d, e] : Array α)[i]? = some x ∧ p x := by
  rcases i with _ | _ | _ | _ | _ | i
  · exact ⟨a, rfl, ha⟩
  · exact ⟨b, rfl, hb⟩
  · exact ⟨c, rfl, hc⟩
  · exact ⟨d, rfl, hd⟩
  · exact ⟨e, rfl, he⟩
  · exact absurd h (by omega)
end Go.Pm
namespace Go.Proofs.Ytpbkdeljhehkdaa
open Go.RowKit Go.Pm
namespace K14
open Jr
theorem req_words (n : ByteArray) (v : Int) (cl how : Nat) : (Seat.req n v cl how).r < 18446744073709551616 ∧ (Seat.req n v cl how).s < 18446744073709551616 :=
  ⟨Nat.lt_trans (sigR_lt _ _) (by decide), Nat.lt_trans (sigS_lt _ _) (by decide)⟩
theorem rtRec : RowTyK Try.prog 35 28 (.agg #[.int .i64 0, .int .i64 0, .int .i64 0, .int .i64 0, .string ⟨#[]⟩, .int .i64 0, .int .u64 0, .int .i64 0, .int .u64 0, .int .u64 0, .int .i64 0, .int .i64 0]) 12 104 := rty_of (by kernel_rfl) (by kernel_rfl) (by rfl) (by decide)
set_option maxRecDepth 100000 in
set_option maxHeartbeats 16000000 in
theorem reads (hT : RightC) (hP : PutC) (hR : ReadC) (hB : BaseC) (kind seq : Int) (k a at_ x : Nat) (v : Value) (lo hi : Nat) (raw : List UInt8) (w : World) (hk : k < 256) (ha : a < 256) (hat : at_ < 65536) (hx : x < 256) (hv : Bs w lo hi v raw) :
    Calls Try.prog 4 #[v, .int .i64 kind, .int .i64 seq, .int .u8 (k : Int), .int .u8 (a : Int), .int .u16 (at_ : Int), .int .u8 (x : Int)] w fun e w' => e = .returned (.bool true) ∧ Kept None w w' := by
  obtain ⟨av, cv, rfl, _⟩ := hv.shape
  have HK := hid (fun W => known hT hP hR hB W)
  by_cases hl : raw.length ≤ 200
  · have dl : decide ((200 : Int) < (raw.length : Int)) = false := by simp; omega
    have dl2 : decide (200 < raw.length) = false := by simp; omega
    obtain ⟨q1, hq1⟩ : ∃ q, q = bits .and .i64 kind 7 := ⟨_, rfl⟩
    obtain ⟨q2, hq2⟩ : ∃ q, q = bits .and .i64 seq 255 := ⟨_, rfl⟩
    obtain ⟨q3, hq3⟩ : ∃ q, q = bits .and .i64 seq 65535 := ⟨_, rfl⟩
    have b2 : -9223372036854775808 ≤ q2 ∧ q2 < 9223372036854775808 := by
      rw [hq2]
      show -9223372036854775808 ≤ IntKind.i64.wrap _ ∧ IntKind.i64.wrap _ < 9223372036854775808
      rw [IntKind.wrap_i64]
      omega
    have r1 := hq1.symm
    have r2 := hq2.symm
    have r3 := hq3.symm
    obtain ⟨U, hU⟩ : ∃ u, u = Seat.req (Seat.nameS a) 1 a 0 := ⟨_, rfl⟩
    obtain ⟨NM, hNM⟩ : ∃ n, n = Seat.nameS a := ⟨_, rfl⟩
    have hup := fun W => Seat.update (Seat.nameS a) 1 a 0 W (Seat.nameS_size a).2 (by decide) (by decide)
    rw [← hU, ← hNM] at hup
    have hname := fun W => Seat.name a W
    rw [← hNM] at hname
    obtain ⟨R0, hR0⟩ : ∃ r, r = someR k a q3 U := ⟨_, rfl⟩
    have hsome := fun W => some k a seq q3 U W hk ha r3
    rw [← hR0] at hsome
    have hfit : R0.u.r < 18446744073709551616 ∧ R0.u.s < 18446744073709551616 := by
      have h0 : U.r < 18446744073709551616 ∧ U.s < 18446744073709551616 := by
        rw [hU]
        exact req_words _ _ _ _
      rw [hR0]
      unfold someR
      split
      · exact ⟨by show (0 : Nat) < _; decide, by show (0 : Nat) < _; decide⟩
      · split
        · exact h0
        · exact ⟨by show (0 : Nat) < _; decide, by show (0 : Nat) < _; decide⟩
    have hput := fun W => R12.rput R0 W hfit
    have hTl := putJL_len R0
    obtain ⟨TT, hTT⟩ : ∃ t, t = putJL R0 := ⟨_, rfl⟩
    obtain ⟨E0, hE0⟩ : ∃ e, e = putJE R0 := ⟨_, rfl⟩
    rw [← hTT, ← hE0] at hput
    rw [← hTT] at hTl
    have HUP := hid hup
    have HNA := hid hname
    have HSO := hid hsome
    have HPU := hid hput
    have HTL := hid hTl
    have HL := hid hl
    have HB2 := hid b2
    have HV := hid hv.all
    have HN := hid (And.intro hk (And.intro ha (And.intro hat hx)))
    have HR := hid hR
    clear hl hq1 hq2 hq3 b2 hU hNM hup hname hR0 hsome hfit hput hTl hTT hE0 hv hk ha hat hx hT hP hR hB r3
    go_enter Try.func4, Try.ntmps4
    go_wp2_with fail
    refine (HK.out w).mono ?_
    rintro e w1 ⟨rfl, k1⟩
    have K1 := hid k1
    clear k1 HK
    go_wp2_with fail
    refine (HNA.out w1).mono ?_
    rintro e w2 ⟨rfl, k2⟩
    have K2 := hid (K1.out.trans k2)
    clear k2
    go_wp2_with fail
    refine (HUP.out w2).mono ?_
    rintro e w3 ⟨rfl, k3⟩
    have K3 := hid (K2.out.trans k3)
    clear k3
    go_wp2_with fail
    refine (HSO.out w3).mono ?_
    rintro e w4 ⟨rfl, k4⟩
    have K4 := hid (K3.out.trans k4)
    clear k4
    go_wp2_with fail
    refine (HPU.out w4).mono ?_
    rintro e w5 ⟨u5, rfl, k5, b5⟩
    obtain ⟨a5, c5, rfl⟩ := b5.form
    have K5 := hid (K4.out.trans k5)
    have B5 := hid (b5.bs (Nat.le_refl _)).all
    clear k5 b5 HNA HUP HSO HPU
    have hn : Ob w5 w5.heap.size (.slice none 0 0) [] := Bo.nil _ _ _
    have hu : Bs w5 0 w5.heap.size (.slice a5 TT.length c5) TT := B5.out
    have hln : ([] : List UInt8).length + TT.length ≤ 140737488355328 := by have := HTL.out; simp; omega
    obtain ⟨bz, hbz⟩ : ∃ b : Bool, b = decide (0 < TT.length) := ⟨_, rfl⟩
    have d00 : decide (0 < TT.length) = bz := hbz.symm
    have d0 : decide ((0 : Int) < (TT.length : Int)) = bz := by rw [hbz, Bool.eq_iff_iff, decide_eq_true_iff, decide_eq_true_iff]; omega
    have HBZ := hid hbz
    clear hbz
    go_upto_if 51 with (first | (refine wpList_append_bo rfl _ _ 29 rfl rtBytes rfl rfl hn hu hln (Nat.le_refl _) ?_; intro a6 n6 c6 w6 hB6 hK6) | fail)
    have hK56 : Kept None w5 w6 := hK6.mono (fun k _ h => by cases h)
    rw [List.nil_append] at hB6
    obtain ⟨_, _, hfm⟩ := hB6.form
    obtain rfl : n6 = TT.length := by injection hfm
    simp only [d00]
    have HB6 := hid hB6
    have K56 := hid hK56
    have HLEN := hid (Eq.refl TT.length)
    have HLE := hid (show TT.length ≤ 109 from HTL.out)
    clear hK6 hB6 hfm hK56 hn hu hln
    go_cut [17] (fun s17 wx => ∃ (ab : Option Addr) (mb cb : Nat) (D : List UInt8), s17 = .slice ab mb cb ∧ Hid (D.length ≤ 300) ∧ Hid (Kept None w5 wx) ∧ Hid (Bs wx 0 wx.heap.size (.slice ab mb cb) D))
    case first =>
      clear d0 d00
      cases bz with
      | false =>
        go_wp2_with fail
        go_meet
        exact ⟨_, _, _, TT, rfl, hid (Nat.le_trans HLE.out (by decide)), K56, hid (HB6.out.bs (Nat.le_refl _)).all⟩
      | true =>
        have h0' : 0 < TT.length := of_decide_eq_true HBZ.out.symm
        have hB6 := HB6.out
        obtain ⟨g, rfl, hbg, hca, hfr⟩ := hB6.opened (by exact h0')
        obtain ⟨J, hJ⟩ : ∃ J, J = at_ % TT.length := ⟨_, rfl⟩
        have hln0 : 0 < TT.length := by exact h0'
        have hJn : J < TT.length := by rw [hJ]; exact Nat.mod_lt _ hln0
        have r5 : (at_ : Int) % (TT.length : Int) = (J : Int) := by rw [hJ]; simp
        have hI0 : (J : Int) < (TT.length : Int) := Int.ofNat_lt.mpr hJn
        have hcell := hca J (by rw [HLEN.out]; exact hJn)
        have hfree := hfr J
        obtain ⟨y, hy⟩ : ∃ y, y = bAt TT J := ⟨_, rfl⟩
        rw [← hy] at hcell
        have hz := xor_u8' y (x : Int)
        obtain ⟨z, hzz⟩ : ∃ z, z = bits .xor .u8 y (x : Int) := ⟨_, rfl⟩
        have hzx := hzz.symm
        rw [hzx] at hz
        have HZZ := hid hz
        have HBG := hid hbg
        have hD0 : ¬ TT.length = 0 := Nat.pos_iff_ne_zero.mp hln0
        have hD1 : ((TT.length : Int) == 0) = false := by simpa using hD0
        have hD2 : ¬ (TT.length : Int) = 0 := by simpa using hD0
        have q0 := wrap64_nat' HN.out.2.2.1
        have qn : wrap64 (TT.length : Int) = (TT.length : Int) := wrap64_nat' (Nat.lt_of_le_of_lt HLE.out (by decide))
        clear hz hzz hy hJ hJn hca hfr hbg hln0
        go_wp2_with fail
        have b7 := HB6.out.set J z HZZ.out.1 HZZ.out.2
        have kE := K56.out.then (Kept.one w6 g J (.int .u8 z)) (fun k h (e : k = g) => by subst e; exact Nat.lt_irrefl _ (Nat.lt_of_lt_of_le h HBG.out))
        go_meet
        exact ⟨_, _, _, TT.set J (Go.Pm.byteOf z), rfl, hid (by rw [List.length_set]; exact Nat.le_trans HLE.out (by decide)), hid kE, hid (b7.bs (Nat.le_refl _)).all⟩
    case rest =>
      obtain ⟨ab, mb, cb, D, rfl, HDL, KC, DB⟩ := hcut
      obtain ⟨wC, rfl⟩ : ∃ wC : World, wC = wc := ⟨_, rfl⟩
      have BC := hid (B5.out.kept KC.out (fun _ _ _ h => h)).all
      have KwC := hid (K5.out.trans KC.out)
      clear HB6 K56 B5 d0 d00 HBZ
      have hp := fun v lo hi W h => R12.put q1 q2 v lo hi raw W h HB2.out.2 (by have := HL.out; omega)
      have hpl := putFL_le q1 q2 raw
      obtain ⟨PL, hPL⟩ : ∃ t, t = putFL q1 q2 raw := ⟨_, rfl⟩
      obtain ⟨PE, hPE⟩ : ∃ t, t = putFE q1 q2 raw := ⟨_, rfl⟩
      rw [← hPL, ← hPE] at hp
      rw [← hPL] at hpl
      have HP := hid hp
      have HPLL := hid (show PL.length ≤ 400 by have := HL.out; omega)
      clear hp hpl hPL hPE
      go_wp2_with fail
      refine (HP.out _ _ _ _ (HV.out.kept KwC.out (fun _ _ _ h => h))).mono ?_
      rintro e w7 ⟨u7, rfl, k7, b7⟩
      obtain ⟨a7, c7, rfl⟩ := b7.form
      have K7 := hid (KwC.out.trans k7)
      have D7 := hid (IsB.of (DB.out.kept k7 (fun _ _ _ h => h)) (Nat.le_trans HDL.out (by decide)))
      have B7 := hid (BC.out.kept k7 (fun _ _ _ h => h)).all
      have P7 := hid (IsB.of (b7.bs (Nat.le_refl _)) HPLL.out)
      clear k7 b7 DB BC KC
      obtain ⟨bq, hbq⟩ : ∃ b : Bool, b = decide (21 < TT.length) := ⟨_, rfl⟩
      have d21 : decide (21 < TT.length) = bq := hbq.symm
      have d210 : decide ((21 : Int) < (TT.length : Int)) = bq := by rw [hbq, Bool.eq_iff_iff, decide_eq_true_iff, decide_eq_true_iff]; omega
      have HBQ := hid hbq
      clear hbq
      go_upto_if 74 with fail
      clear d21 d210
      go_cut [20] (fun s20 wx => Hid (IsB wx s20) ∧ Hid (Kept None w7 wx))
      case first =>
        cases bq with
        | false =>
          go_wp2_with fail
          go_meet
          exact ⟨hid (IsB.of (Bs.nil _ 0 0) (by decide)), hid (Kept.refl _ _)⟩
        | true =>
          have h21 : 21 < TT.length := of_decide_eq_true HBQ.out.symm
          obtain ⟨P, hP⟩ : ∃ P, P = TT.length - 8 := ⟨_, rfl⟩
          have rP : (TT.length : Int) - 8 = (P : Int) := by omega
          obtain ⟨BL, hBL⟩ : ∃ b, b = P - 13 := ⟨_, rfl⟩
          have hBL0 : 0 < BL := by omega
          have hBLl : BL ≤ 109 := by have := HLE.out; omega
          obtain ⟨c3, hc3⟩ : ∃ c, c = k % 3 := ⟨_, rfl⟩
          obtain ⟨K3, hK3⟩ : ∃ c, c = c3 + 1 := ⟨_, rfl⟩
          have rk1 : (k : Int) % 3 = (c3 : Int) := by omega
          have rk2 : (c3 : Int) + 1 = (K3 : Int) := by omega
          have hc33 : c3 < 3 := by omega
          obtain ⟨x8, sl8, p8⟩ := slice_mid tBytes zBytes B7.out .i64 .i64 (13 : Int) (P : Int) (by decide) (by omega) (by omega)
          simp only [Int.toNat_natCast, show (13 : Int).toNat = 13 from rfl] at sl8 p8
          rw [← hBL] at sl8 p8
          obtain ⟨BD, hBD⟩ : ∃ b, b = (TT.take P).drop 13 := ⟨_, rfl⟩
          have hBDl : BD.length = BL := by rw [hBD, List.length_drop, List.length_take]; omega
          have hu : Bs w7 0 w7.heap.size (.slice x8 BL (c5 - 13)) BD := by unfold Bs; rw [hBD, List.map_drop, List.map_take]; exact p8
          have hn : Ob w7 w7.heap.size (.slice none 0 0) [] := Bo.nil _ _ _
          have hln : ([] : List UInt8).length + BD.length ≤ 140737488355328 := by rw [hBDl]; simp; omega
          have HP109 := hid (show P < 65536 by have := HLE.out; omega)
          have rk3 : wrap64 (c3 : Int) = (c3 : Int) := wrap64_nat' (Nat.lt_trans hc33 (by decide))
          have rk4 : wrap64 (K3 : Int) = (K3 : Int) := wrap64_nat' (by rw [hK3]; exact Nat.lt_trans (Nat.succ_lt_succ hc33) (by decide))
          have HRK := hid (And.intro rk3 rk4)
          have wP : wrap64 (P : Int) = (P : Int) := wrap64_nat' HP109.out
          clear p8 hP hBL hc3 hK3 hBD h21 hc33 rk3 rk4
          go_upto_region 13 with (first | (refine wpList_append_bo rfl _ _ 29 rfl rtBytes rfl rfl hn hu hln (Nat.le_refl _) ?_; intro a9 n9 c9 w9 hB9 hK9) | fail)
          have k9 : Kept None w7 w9 := hK9.mono (fun k _ h => by cases h)
          rw [List.nil_append] at hB9
          obtain ⟨_, _, hfm⟩ := hB9.form
          obtain rfl : n9 = BD.length := by injection hfm
          rw [hBDl] at hB9 ⊢
          clear hK9 hfm hn hu hln sl8 rP wP
          obtain ⟨g, rfl, hbg, hca, hfr⟩ := hB9.opened (by rw [hBDl]; exact hBL0)
          obtain ⟨J, hJ⟩ : ∃ J, J = at_ % BL := ⟨_, rfl⟩
          have hJn : J < BL := by rw [hJ]; exact Nat.mod_lt _ hBL0
          have r5 : (at_ : Int) % (BL : Int) = (J : Int) := by rw [hJ]; simp
          have hI0 : (J : Int) < (BL : Int) := Int.ofNat_lt.mpr hJn
          have hcell := hca J (by rw [hBDl]; exact hJn)
          have hfree := hfr J
          obtain ⟨y, hy⟩ : ∃ y, y = bAt BD J := ⟨_, rfl⟩
          rw [← hy] at hcell
          have hz := xor_u8' y (x : Int)
          obtain ⟨z, hzz⟩ : ∃ z, z = bits .xor .u8 y (x : Int) := ⟨_, rfl⟩
          have hzx := hzz.symm
          rw [hzx] at hz
          have HZZ := hid hz
          have HBG := hid hbg
          have hD0 : ¬ BL = 0 := Nat.pos_iff_ne_zero.mp hBL0
          have hD1 : ((BL : Int) == 0) = false := by simpa using hD0
          have hD2 : ¬ (BL : Int) = 0 := by simpa using hD0
          have HBDL := hid hBDl
          have HBL0 := hid (And.intro hBL0 hBLl)
          have HB9 := hid hB9
          have K9 := hid k9
          have b10 := HB9.out.set J z HZZ.out.1 HZZ.out.2
          have kE := K9.out.then (Kept.one w9 g J (.int .u8 z)) (fun k h (e : k = g) => by subst e; exact Nat.lt_irrefl _ (Nat.lt_of_lt_of_le h HBG.out))
          obtain ⟨ND, hND⟩ : ∃ nd, nd = BD.set J (Go.Pm.byteOf z) := ⟨_, rfl⟩
          rw [← hND] at b10
          have hNDl : ND.length = BL := by rw [hND, List.length_set, hBDl]
          have hBs10 := (b10.bs (Nat.le_refl _)).all
          have hp2 := fun v lo hi W h => R12.put (K3 : Int) q2 v lo hi ND W h HB2.out.2 (by rw [hNDl]; omega)
          have hpl2 := putFL_le (K3 : Int) q2 ND
          obtain ⟨PL2, hPL2⟩ : ∃ t, t = putFL (K3 : Int) q2 ND := ⟨_, rfl⟩
          obtain ⟨PE2, hPE2⟩ : ∃ t, t = putFE (K3 : Int) q2 ND := ⟨_, rfl⟩
          rw [← hPL2, ← hPE2] at hp2
          rw [← hPL2] at hpl2
          have HP2 := hid hp2
          have HPL2 := hid (show PL2.length ≤ 400 by rw [hNDl] at hpl2; omega)
          have HBS10 := hid hBs10
          have HKE := hid kE
          have hb00 : 0 < BL := HBL0.out.1
          have hb01 : (0 : Int) < (BL : Int) := Int.ofNat_lt.mpr hb00
          have q0 := wrap64_nat' HN.out.2.2.1
          have qn : wrap64 (BL : Int) = (BL : Int) := wrap64_nat' (Nat.lt_of_le_of_lt HBL0.out.2 (by decide))
          clear hz hzz hy hJ hJn hca hfr hbg hBL0 hBLl hBDl hB9 k9 b10 kE hND hNDl hBs10 hp2 hpl2 hPL2 hPE2 HB9 K9
          go_upto_region 14 with fail
          clear q0 qn r5 hI0 hcell hfree hzx hD0 hD1 hD2 hb00 hb01
          go_wp2_with fail
          obtain ⟨w10, hw10⟩ : ∃ w10, w10 = w9.setCell ⟨g, J, none⟩ (.int .u8 z) := ⟨_, rfl⟩
          have hbs := HBS10.out
          have hke := HKE.out
          rw [← hw10] at hbs hke ⊢
          have HKE2 := hid hke
          clear hw10 HBS10 HKE hke
          refine (HP2.out _ _ _ _ hbs).mono ?_
          rintro e w11 ⟨u11, rfl, k11, b11⟩
          obtain ⟨a11, c11, rfl⟩ := b11.form
          go_wp2_with fail
          go_meet
          exact ⟨hid (IsB.of (b11.bs (Nat.le_refl _)) HPL2.out), hid (HKE2.out.trans k11)⟩
      case rest =>
        obtain ⟨HE20, K20⟩ := hcut
        obtain ⟨w20, rfl⟩ : ∃ w20 : World, w20 = wc := ⟨_, rfl⟩
        obtain ⟨LE, ae, ce, rfl, hLE, hbe⟩ := HE20.out
        have HROW := hid (show IsB w20 (.slice av raw.length cv) ∧ IsB w20 (.slice a5 TT.length c5) ∧ IsB w20 (.slice ab mb cb) ∧ IsB w20 (.slice a7 PL.length c7) ∧ IsB w20 (.slice ae LE.length ce) from
          ⟨IsB.of (HV.out.kept (K7.out.trans K20.out) (fun _ _ _ h => h)) (Nat.le_trans HL.out (by decide)), IsB.of (B7.out.kept K20.out (fun _ _ _ h => h)) (Nat.le_trans HLE.out (by decide)), D7.out.kept K20.out, P7.out.kept K20.out, ⟨LE, ae, ce, rfl, hLE, hbe⟩⟩)
        have Kw := hid (K7.out.trans K20.out)
        clear HE20 hLE hbe D7 P7 B7 K20 K7 HP HBQ
        go_wp2_with fail
        go_loopg [110] 5 (fun kx s110 wr => ∃ i : Nat, s110 = .int .i64 (i : Int) ∧ i ≤ 5 ∧ 5 - i ≤ kx ∧ Hid (Kept None w20 wr) ∧ Hid (Blk wr w20.heap.size #[.slice av raw.length cv, .slice a5 TT.length c5, .slice ab mb cb, .slice a7 PL.length c7, .slice ae LE.length ce] 29))
        case atStart => exact ⟨0, rfl, by omega, by omega, hid ((Kept.refl _ _).alloc _), hid (Blk.new _ _ _)⟩
        case round =>
        obtain ⟨i, rfl, hi, hix, HS3, HA3⟩ := hrel
        by_cases hlt3 : i < 5
        · have hlz : (i : Int) < 5 := by omega
          obtain ⟨cx, hcx, LX, ax, cpx, rfl, hLX, hbx⟩ := of_five (p := IsB w20) HROW.out.1 HROW.out.2.1 HROW.out.2.2.1 HROW.out.2.2.2.1 HROW.out.2.2.2.2 i hlt3
          have hcc := HA3.out.cell i
          rw [hcx] at hcc
          have HBX := hid hbx
          have hLX2 : LX.length ≤ 1099511627000 := Nat.le_trans hLX (by decide)
          obtain ⟨wr3, rfl⟩ : ∃ wr3 : World, wr3 = wr := ⟨_, rfl⟩
          obtain ⟨RR, n6, E6, hF⟩ : ∃ r n E, readJ LX = ⟨r, n, E⟩ := ⟨_, _, _, rfl⟩
          have hf := fun (v : Value) (lo hi : Nat) (W : World) (h : Bs W lo hi v LX) => HR.out v lo hi LX W h hLX2
          have hg := fun (v : Value) (lo hi : Nat) (W : World) (h : Bs W lo hi v LX) => R12.rread v lo hi LX W h hLX2
          simp only [hF] at hf hg
          obtain ⟨CA, hCA⟩ : ∃ c : Array Value, c = RR.C := ⟨_, rfl⟩
          unfold Rec.V at hf hg
          rw [← hCA] at hf hg
          have aCA : AggTy Try.prog 28 CA.size := by rw [hCA]; exact aRec
          have sCA : CA.size = 12 := by rw [hCA]; rfl
          have oCA : CA.all (·.oneCell') = true := by rw [hCA]; exact Rec.C_one RR
          have HCA := hid (And.intro hCA (And.intro sCA oCA))
          have HF := hid hf
          have HG := hid hg
          clear hcx hLX hbx hLX2 hF hf hg hCA sCA oCA
          go_wp2_with fail
          refine (HF.out _ _ _ _ (HBX.out.kept HS3.out (fun _ _ _ h => h))).mono ?_
          rintro e w5 ⟨rfl, k5⟩
          have K5 := hid (HS3.out.trans k5)
          have A5 := hid (HA3.out.kept k5 (fun h => h))
          clear k5 hcc
          have s12 : (#[.int .i64 0, .int .i64 0, .int .i64 0, .int .i64 0, .string ⟨#[]⟩, .int .i64 0, .int .u64 0, .int .i64 0, .int .u64 0, .int .u64 0, .int .i64 0, .int .i64 0] : Array Value).size = CA.size := by rw [HCA.out.2.1]; rfl
          have o12 := HCA.out.2.2
          have HRC := hid (fun (W : World) (g1 g2 : Nat) (h1 : Blk W g1 CA 28) (h2 : Blk W g2 CA 28) => show Calls Try.prog 21 #[.slice (.some ⟨g1, 0, none⟩) 1 1, .slice (.some ⟨g2, 0, none⟩) 1 1] W fun e w' => e = .returned (.bool true) ∧ Kept None W w' from by
            have q : recsEq [RR] [RR] = true := by unfold recsEq; simp
            have h := Hr.records _ _ _ _ _ _ [RR] [RR] W (ps_one (k := 12) (x := recC RR) (by rw [HCA.out.1] at h1; exact h1) rfl) (ps_one (k := 12) (x := recC RR) (by rw [HCA.out.1] at h2; exact h2) rfl) (by show 1 ≤ 1099511627776; decide)
            rw [q] at h
            exact h)
          go_wp2_with (first | (refine wpList_store_blk rfl _ _ _ rfl rfl rfl (Blk.new _ _ _) aCA s12 o12 ?_; intro w6 h6 k6) | fail)
          have K6 := hid (K5.out.trans k6.fresh)
          have A6 := hid (A5.out.kept k6.fresh (fun h => h))
          have H6 := hid h6
          clear h6 k6
          refine (HG.out _ _ _ _ (HBX.out.kept K6.out (fun _ _ _ h => h))).mono ?_
          rintro e w7 ⟨rfl, k7⟩
          have K7 := hid (K6.out.trans k7)
          have A7 := hid (A6.out.kept k7 (fun h => h))
          have H7 := hid (H6.out.kept k7 (fun h => h))
          clear k7
          go_upto_region 20 with (first | (refine wpList_store_blk rfl _ _ _ rfl rfl rfl (Blk.new _ _ _) aCA s12 o12 ?_; intro w8 h8 k8) | fail)
          have K8 := hid (K7.out.trans k8.fresh)
          have A8 := hid (A7.out.kept k8.fresh (fun h => h))
          have h7 := H7.out.kept k8.fresh (fun h => h)
          have ka := (Kept.refl None w8).alloc (.cells CA 28)
          have h8a := h8.kept ka (fun h => h)
          have HN1 := hid (Blk.new w8 CA 28)
          have s12' := HCA.out.2.1
          go_wp2_with (first | go_skip | (refine wpList_load_bw (by kernel_rfl) rfl rfl h7 aCA ?_) | (refine wpList_load_bw (by kernel_rfl) rfl rfl h8a aCA ?_) | (refine wpList_one_w (by kernel_rfl) _ _ rfl rtRec (by decide) rfl s12' ?_) | fail)
          have bb1 : Blk ((w8.alloc (.cells CA 28)).alloc (.cells CA 28)) w8.heap.size CA 28 := HN1.out.alloc _
          have bb2 : Blk ((w8.alloc (.cells CA 28)).alloc (.cells CA 28)) (w8.heap.size + 1) CA 28 := Blk.new2 w8 _ _ _
          have kaa := ka.alloc (.cells CA 28)
          have HKAA := hid kaa
          have HAA := hid (A8.out.kept kaa (fun h => h))
          refine (HRC.out _ _ _ bb1 bb2).mono ?_
          rintro e w9 ⟨rfl, k9⟩
          have K9 := hid ((K8.out.trans HKAA.out).trans k9)
          have A9 := hid (HAA.out.kept k9 (fun h => h))
          clear bb1 bb2 kaa k9 h7 h8 h8a ka k8 s12 s12' o12
          go_wp2_with (first | go_skip | fail)
          go_roundg (5 - (i + 1))
          case measure => omega
          case rel => exact ⟨i + 1, by go_num, by omega, Nat.le_refl _, K9, A9⟩
        · obtain rfl : i = 5 := by omega
          have KE := hid (Kw.out.trans HS3.out)
          clear hlt3 hi hix
          go_wp2
          go_ret
          exact ⟨rfl, KE.out⟩
  · have dl : decide ((200 : Int) < (raw.length : Int)) = true := by simp; omega
    have dl2 : decide (200 < raw.length) = true := by simp; omega
    clear hl hv hk ha hat hx hT hP hR hB
    go_enter Try.func4, Try.ntmps4
    go_wp2_with fail
    refine (HK.out w).mono ?_
    rintro e w1 ⟨rfl, k1⟩
    go_wp2
    go_ret
    exact ⟨rfl, k1⟩
end K14
end Go.Proofs.Ytpbkdeljhehkdaa
namespace Go.Proofs.Ytpbkdeljhehkdaa
open Go.ChangeShapes Go.WideShapes Go.ChangeAt Go.RowKit Go.Pm

theorem laidOut : laidOutB Try.prog = true := by kernel_rfl
theorem ownKnobs : ownKnob Try.prog.godebug = none := by kernel_rfl
theorem rI64t : Try.prog.underlying 2 = some (.int .i64) := by kernel_rfl
theorem rBool : Try.prog.underlying 4 = some .bool := by kernel_rfl
theorem rU8 : Try.prog.underlying 5 = some (.int .u8) := by kernel_rfl
theorem rU16 : Try.prog.underlying 50 = some (.int .u16) := by kernel_rfl
theorem rI64 : Try.prog.underlying 3 = some (.int .i64) := by kernel_rfl
theorem cByte : Try.prog.cellsOf 5 = 1 := by kernel_rfl

set_option maxRecDepth 100000 in
theorem journalReads_lifted (os : Os) (started : os.Started) (H : Type) (enc : TypeId × Value → H) :
    ReturnsInHanded {} Try.checked os 4 .any (Rows.journalReadsSpec.pre6 enc Try.prog Try.f4 Rows.journalReadsRow.domain false) (Rows.journalReadsSpec.post enc Try.prog Try.f4 false true false false) := by
  refine returnsInHanded_of_change (C := Try.checked) ownKnobs started (by kernel_rfl) Try.func4
    (ChangeSpec.witness6 (enc := enc) (C := Try.checked) false ⟨#[], #[.slice none 0 0, .int .i64 0, .int .i64 0, .int .u8 0, .int .u8 0, .int .u16 0, .int .u8 0], []⟩ 8 (by kernel_rfl) (by kernel_rfl) (by kernel_rfl) (by kernel_rfl)) ?_
  intro W base args ds gs before hval0 hW _ _
  have hval : ∀ (j : Nat) t v, Try.f4.params[j]? = some t → args[j]? = some v → Value.okWide Try.prog W .any base t v := hval0
  have hlt : ∀ x ∈ before, x.block < W.heap.size := fun x hx => by simpa using hW.lt x hx
  have hW' := hW
  obtain ⟨p, q, hA0, hV, rfl, hfz, hnd⟩ := hW
  obtain ⟨rfl, rfl⟩ := trodVars_none hV
  have hA : DataW.TrodAll enc Try.prog W 0 (fun _ => true) true Try.f4.params.toList args.toList ds p := hA0
  rw [Try.params4] at hA hval
  obtain ⟨v0, v1, v2, v3, v4, v5, v6, d0, d1, d2, d3, d4, d5, d6, p0, p1, p2, p3, p4, p5, p6, rfl, rfl, rfl, h0, h1, h2, h3, h4, h5, h6⟩ := trodAll_seven hA
  obtain ⟨raw, hraw⟩ := openBs tBytes' tByte cByte (hval 0 29 v0 rfl rfl) h0 (fun x hx => hlt x (by simp [hx]))
  obtain ⟨kind, rfl, _, _, b1⟩ := open_int rI64 (hval 1 3 v1 rfl rfl) h1
  obtain ⟨seq, rfl, _, _, b2⟩ := open_int rI64t (hval 2 2 v2 rfl rfl) h2
  obtain ⟨k, rfl, b3⟩ := openNat_u8 rU8 (hval 3 5 v3 rfl rfl) h3
  obtain ⟨a, rfl, b4⟩ := openNat_u8 rU8 (hval 4 5 v4 rfl rfl) h4
  obtain ⟨at_, rfl, b5⟩ := openNat_u16 rU16 (hval 5 50 v5 rfl rfl) h5
  obtain ⟨x, rfl, b6⟩ := openNat_u8 rU8 (hval 6 5 v6 rfl rfl) h6
  refine (K14.reads Jr.rightC Jr.put Jr.read Jr.base kind seq k a at_ x v0 _ _ raw W b3 b4 b5 b6 hraw).mono fun e W' ⟨he, hk⟩ => ?_
  subst he
  exact ⟨_, rfl, law_post (P := Try.prog) (f := Try.f4) rfl rfl rBool laidOut (by kernel_rfl) hW' rfl rfl rfl (hk.below (fun _ _ h => h))⟩

theorem journalReads_holds : Rows.JournalReadsSaid :=
  OpenClaim.holds_of_wide 4 Try.f4 rfl rfl rfl rfl rfl rfl rfl ⟨rfl, rfl, rfl, rfl, rfl⟩ rfl rfl rfl rfl rfl (by kernel_rfl) Try.func4 (by kernel_rfl)
    (of_decide_eq_true (by kernel_rfl)) (by unfold Func.isWrapper; first | (rw [if_pos (by decide +kernel)]; kernel_rfl) | (rw [if_neg (by decide +kernel)]; exact ⟨rfl, rfl⟩))
    (fun os started H enc _ => journalReads_lifted os started H enc)
end Go.Proofs.Ytpbkdeljhehkdaa
