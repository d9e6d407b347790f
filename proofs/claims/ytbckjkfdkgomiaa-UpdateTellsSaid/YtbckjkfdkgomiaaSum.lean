/- sponge.Sum, Text, Tag, by their contracts. -/
import Derived.Test.YtbckjkfdkgomiaaSqueeze
import Derived.Outline
namespace Go.Proofs.Ytbckjkfdkgomiaa
open Go.RowKit Go.Pm
namespace Sp

def lenOf : Value → Nat
  | .slice _ n _ => n
  | _ => 0
theorem perm_first (w : World) : Calls Try.prog 85 #[.agg #[.int .u64 8800401358850, .int .u64 0, .int .u64 0, .int .u64 0, .int .u64 0]] w fun e w' => e = .returned (sv first) ∧ Kept None w w' :=
  perm ⟨0x0000080100cc0002, 0, 0, 0, 0⟩ w
set_option maxRecDepth 100000 in
set_option maxHeartbeats 1000000 in
theorem sum (v : Value) (lo hi : Nat) (l : List UInt8) (w : World) (hv : Bs w lo hi v l) :
    Calls Try.prog 81 #[v] w fun e w' => e = .returned (hashV (sumB l)) ∧ Kept None w w' := by
  have pf := perm_first
  have key1 := absorb_step l first
  have key2 := soaked_last l
  have e32 : ((sumB l).map u8v).toArray.size = 32 := by simp [sumB_len]
  show Calls _ _ _ w fun e w' => e = .returned (hashV (eights (soaked l) 4)) ∧ Kept None w w'
  change ((eights (soaked l) 4).map u8v).toArray.size = 32 at e32
  have sq := fun w => sqz (soaked l) w
  -- an 'obtain' keeps each under its name in the proof's term too: what stands behind the names unfolds without end
  obtain ⟨res, hres⟩ : ∃ res, res = eights (soaked l) 4 := ⟨_, rfl⟩
  obtain ⟨so, hso⟩ : ∃ so, so = soaked l := ⟨_, rfl⟩
  obtain ⟨F, hF⟩ : ∃ F, F = first := ⟨_, rfl⟩
  rw [← hres] at e32 sq ⊢
  rw [← hso] at sq key2
  rw [← hF] at pf key1 key2
  have PF := hid pf
  have SQ := hid sq
  have K1 := hid key1
  have K2 := hid key2
  have K3 := hid e32
  clear key1 key2 e32 sq pf hres hso hF
  obtain ⟨a, cap, rfl, g1, g2, g3⟩ := hv.shape
  go_enter Try.func81, Try.ntmps81
  go_wp2_with fail
  refine (PF.out _).mono ?_
  rintro e1 w1 ⟨rfl, k1⟩
  have k1' : Kept None w w1 := ((Kept.refl _ _).alloc _).trans k1
  have hR := (Blk.new w _ _).kept k1 (fun h => h)
  obtain ⟨z, hz, hR'⟩ : ∃ z : Array Value, z.size = 32 ∧ Blk w1 w.heap.size z 83 := ⟨_, rfl, hR⟩
  have hs1 : w.heap.size < w1.heap.size := hR'.lt
  clear k1 hR
  go_wp2
  have hv0 := (Vs.lt hv).kept (k1'.alloc (.cells (sc F) 98)) (fun _ _ _ h => h)
  have hhi : min hi w.heap.size ≤ w1.heap.size := by omega
  generalize min hi w.heap.size = hi' at hv0 hhi
  go_loopw [0] (fun v wr => ∃ (k n : Nat) (a : Option Addr) (c : Nat), v = .slice a n c ∧ 8 * k + n = l.length ∧ Bs wr lo hi' (.slice a n c) (l.drop (8 * k)) ∧ Kept None w wr ∧ Blk wr w1.heap.size (sc (absorb (padded l) F k)) 98 ∧ Blk wr w.heap.size z 83) (fun v _ => lenOf v)
  case atStart => exact ⟨0, l.length, a, cap, rfl, by omega, hv0, k1'.alloc _, Blk.new _ _ _, hR'.alloc _⟩
  case round =>
    clear hv0 hR' hv g3
    obtain ⟨k, n, a, c, rfl, hn, hb, hk, hS, hR⟩ := hrel
    have hnc : n ≤ c ∧ c ≤ 9223372036854775807 := by
      obtain ⟨a', c', e, h1, h2, _⟩ := hb.shape
      injection e with e1 e2 e3
      omega
    obtain ⟨hnc1, hnc2⟩ := hnc
    have hlt := hS.lt
    by_cases h8 : 8 ≤ n
    · obtain ⟨a1, s1, p1⟩ := slice_to tBytes zBytes hb .i64 8 (by omega) (by omega)
      obtain ⟨a2, s2, p2⟩ := slice_from tBytes zBytes hb .i64 8 (by omega) (by omega)
      have c0 := hS.cell 0
      have f0 := hS.free 0
      simp at c0
      go_wp2
      clear c0 f0
      refine wp_tail 7 (by kernel_rfl) (by kernel_rfl) (fun wy ky => ?_)
      have hS' := hS.kept ky (fun h => h)
      have c0 := hS'.cell 0
      have f0 := hS'.free 0
      simp at c0
      simp only [List.take_succ_cons, List.take_zero, List.drop_succ_cons, List.drop_zero]
      repeat still_step
      have hb1 : Bs wy lo hi' (.slice a1 8 c) ((l.drop (8 * k)).take 8) := by
        have := Vs.kept p1 ky (fun _ _ _ h => h)
        rw [← List.map_take] at this
        exact this
      still_call (Calls.same (word (.slice a1 8 c) lo hi' _ wy hb1 (by simp; omega)))
      repeat still_step
      refine wpStill_nil ?_
      have hx := mixed_a (absorb (padded l) F k) (leV ((l.drop (8 * k)).take 8)) (leV_ge _) (leV_lt _)
      have HST := hid (K1.out k (by omega))
      generalize hx' : leV ((l.drop (8 * k)).take 8) = x at *
      clear hx'
      generalize hst : absorb (padded l) F k = st at *
      clear hst
      simp only [hx]
      have hS2 : Blk (wy.setCell ⟨w1.heap.size, 0, none⟩ (.int .u64 (U (st.mixed (W x)).a))) w1.heap.size (sc (st.mixed (W x))) 98 := hS'.set 0 _
      have ky2 := (Kept.one wy w1.heap.size 0 (.int .u64 (U (st.mixed (W x)).a)))
      have hb2 : Bs wy lo hi' (.slice a2 (n - 8) (c - 8)) (l.drop (8 * (k + 1))) := by
        have := Vs.kept p2 ky (fun _ _ _ h => h)
        rw [← List.map_drop, List.drop_drop] at this
        exact this
      have hR2 := hR.kept ky (fun h => h)
      have hk2 := hk.then ky (fun _ _ h => h)
      clear hR hk hx p1 p2 hb1 hS hb hS' ky
      go_wp2_with (first | (refine wpList_load_blk rfl _ _ rfl rfl hS2 aS ?_) | fail)
      refine (perm _ _).mono ?_
      rintro e1 w2 ⟨rfl, k1⟩
      rw [← HST.out]
      obtain ⟨st', hst'⟩ : ∃ st', st' = absorb (padded l) F (k + 1) := ⟨_, rfl⟩
      rw [← hst']
      have HN := hid hst'
      clear hst' HST
      have hS3 := hS2.kept k1 (fun h => h)
      have hk3 : Kept None w w2 := (hk2.then ky2 (fun i hi (h : i = w1.heap.size) => by omega)).then k1 (fun _ _ h => h)
      have hb3 := (hb2.kept ky2 (fun i h1 h2 (h : i = w1.heap.size) => by omega)).kept k1 (fun _ _ _ h => h)
      have hR3 := (hR2.kept ky2 (fun (h : w.heap.size = w1.heap.size) => by omega)).kept k1 (fun h => h)
      clear hS2 hk2 hb2 hR2 ky2 k1 c0 f0
      go_wp2_with (first | (refine wpList_store_blk rfl _ _ _ rfl rfl rfl hS3 aS rfl (sc_all _) ?_; intro w3 hS4 k4))
      exact ⟨⟨k + 1, n - 8, a2, c - 8, rfl, by omega, hb3.kept k4 (fun i h1 h2 (h : i = w1.heap.size) => by omega), hk3.then k4 (fun i hi (h : i = w1.heap.size) => by omega), HN.out ▸ hS4, hR3.kept k4 (fun (h : w.heap.size = w1.heap.size) => by omega)⟩, by simp only [lenOf]; omega⟩
    · go_wp2
      refine wp_tail 11 (by kernel_rfl) (by kernel_rfl) (fun wy ky => ?_)
      have hS' := hS.kept ky (fun h => h)
      have c0 := hS'.cell 0
      have f0 := hS'.free 0
      simp at c0
      have hb' := hb.kept ky (fun _ _ _ h => h)
      simp only [List.take_succ_cons, List.take_zero, List.drop_succ_cons, List.drop_zero]
      repeat still_step
      have hlen : (l.drop (8 * k)).length ≤ 8 := by simp; omega
      have e1 : IntKind.i64.wrap (8 * (n : Int)) = 8 * (n : Int) := by rw [IntKind.wrap_i64]; omega
      have e2 : (0 : Int) ≤ 8 * (n : Int) := by omega
      have e3 : ((8 : Int) * (n : Int)).toNat = 8 * n := by omega
      still_call (Calls.same (word _ lo hi' _ wy hb' hlen))
      repeat still_step
      refine wpStill_nil ?_
      rw [last_word l k n hn (by omega)]
      have hx := mixed_a (absorb (padded l) F k) (leV ((padded l).drop (8 * k))) (leV_ge _) (leV_lt _)
      have HST := hid (K2.out k n hn (by omega))
      generalize hx' : leV ((padded l).drop (8 * k)) = x at *
      clear hx'
      generalize hst : absorb (padded l) F k = st at *
      clear hst
      simp only [hx]
      have hS2 : Blk (wy.setCell ⟨w1.heap.size, 0, none⟩ (.int .u64 (U (st.mixed (W x)).a))) w1.heap.size (sc (st.mixed (W x))) 98 := hS'.set 0 _
      have ky2 := (Kept.one wy w1.heap.size 0 (.int .u64 (U (st.mixed (W x)).a)))
      have hR2 := hR.kept ky (fun h => h)
      have hk2 := hk.then ky (fun _ _ h => h)
      clear hR hk hx hS hb hS' ky hb' hlen e1 e2 e3
      go_wp2_with (first | (refine wpList_load_blk rfl _ _ rfl rfl hS2 aS ?_) | fail)
      refine (perm _ _).mono ?_
      rintro e1 w2 ⟨rfl, k1⟩
      rw [← HST.out]
      have hS3 := hS2.kept k1 (fun h => h)
      have hk3 : Kept None w w2 := (hk2.then ky2 (fun i hi (h : i = w1.heap.size) => by omega)).then k1 (fun _ _ h => h)
      have hR3 := (hR2.kept ky2 (fun (h : w.heap.size = w1.heap.size) => by omega)).kept k1 (fun h => h)
      clear hS2 hk2 hR2 ky2 k1 c0 f0
      go_wp2_with (first | (refine wpList_store_blk rfl _ _ _ rfl rfl rfl hS3 aS rfl (sc_all _) ?_; intro w3 hS4 k4) | (refine wpList_load_blk rfl _ _ rfl rfl hS4 aS ?_) | fail)
      have hk4 := hk3.then k4 (fun i hi (h : i = w1.heap.size) => by omega)
      have hR4 := hR3.kept k4 (fun (h : w.heap.size = w1.heap.size) => by omega)
      clear hS3 hk3 hR3 k4
      refine (SQ.out _).mono ?_
      rintro e2 w5 ⟨rfl, k5⟩
      have hR5 := hR4.kept k5 (fun h => h)
      have hk5 := hk4.then k5 (fun _ _ h => h)
      have e32 : (res.map u8v).toArray.size = 32 := K3.out
      have aH' : AggTy Try.prog 83 (res.map u8v).toArray.size := by rw [e32]; exact aH
      have hz' := hz.trans e32.symm
      have E := hid (And.intro hz hz')
      clear e32 hz hz' hR4 hk4 k5 hS4
      go_wp2_with (first | (refine wpList_store_blk rfl _ _ _ rfl rfl rfl hR5 aH' E.out.2 (u8v_all _) ?_; intro w6 hR6 k6) | fail)
      exact bodyPost_ret (v := hashV res) (results_blk rfl _ rfl hR6 aH') rfl ⟨rfl, hk5.then k6 (fun i hi (h : i = w.heap.size) => by omega)⟩
end Sp
end Go.Proofs.Ytbckjkfdkgomiaa
