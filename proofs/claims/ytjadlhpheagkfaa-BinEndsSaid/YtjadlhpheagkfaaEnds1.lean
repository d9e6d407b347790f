/- postmarklaw1.BinEnds: true. -/
import Derived.Test.YtjadlhpheagkfaaKnown1
namespace Go.Proofs.Ytjadlhpheagkfaa
open Go.RowKit Go.Pm

theorem made_u8 (n : Nat) : (madeCells #[.int .u8 0] n).toList = (List.replicate n (0 : UInt8)).map u8v := by
  rw [List.map_replicate]
  exact toList_madeCells_one _ _
theorem bo_made {w w' : World} {v : Value} {n : Nat} (h : w'.ownsRow w.heap.size 5 1 v n (madeCells #[.int .u8 0] n).toList) : Ob w' w.heap.size v (List.replicate n 0) := by
  unfold Ob Bo
  rw [List.length_replicate, ← made_u8]
  exact h

/-- A lump of k + 1 bytes where at most k may be. -/
theorem lump_long (k : Nat) (hk : k < 20) : St.lump ⟨leB (k + 1 : Nat) ++ List.replicate (k + 1) 0, 0⟩ k = [] ∧ St.lumpS ⟨leB (k + 1 : Nat) ++ List.replicate (k + 1) 0, 0⟩ k = ⟨[], 22⟩ := by
  have h8 : 8 ≤ (leB ((k + 1 : Nat) : Int) ++ List.replicate (k + 1) 0).length := by simp [leB_length]
  have hn : St.num ⟨leB (k + 1 : Nat) ++ List.replicate (k + 1) 0, 0⟩ = (k + 1 : Nat) := by
    unfold St.num
    rw [if_pos ⟨rfl, h8⟩]
    exact leV_leB _ (by omega) (by omega) _
  have hS : (St.numS ⟨leB (k + 1 : Nat) ++ List.replicate (k + 1) 0, 0⟩).e = 0 := by
    unfold St.numS
    rw [if_pos rfl, if_pos h8]
  constructor
  · unfold St.lump
    rw [if_neg]
    intro h
    rw [hn] at h
    omega
  · unfold St.lumpS
    rw [if_pos hS, if_neg]
    rw [hn]
    omega

theorem ended_num : St.num ⟨[], 21⟩ = 0 ∧ St.numS ⟨[], 21⟩ = ⟨[], 21⟩ := ⟨rfl, rfl⟩
theorem ended_num' : St.num ⟨[], 22⟩ = 0 ∧ St.numS ⟨[], 22⟩ = ⟨[], 22⟩ := ⟨rfl, rfl⟩
theorem ended_raw : St.raw ⟨[], 21⟩ 1 = [] ∧ St.rawS ⟨[], 21⟩ 1 = ⟨[], 21⟩ := ⟨rfl, rfl⟩
theorem ended_lump : St.lump ⟨[], 21⟩ 9 = [] ∧ St.lumpS ⟨[], 21⟩ 9 = ⟨[], 21⟩ := ⟨rfl, rfl⟩

set_option maxHeartbeats 2000000 in
theorem binEnds (v : Value) (lo hi : Nat) (l : List UInt8) (n m : Int) (w : World) (hv : Bs w lo hi v l) (hn : 0 ≤ n) (hn' : n < 256) (hm : 0 ≤ m) (hm' : m < 256) :
    Calls Try.prog 5 #[v, .int .u8 n, .int .u8 m] w fun e w' => e = .returned (.bool true) ∧ Kept None w w' := by
  obtain ⟨a, cap, rfl, g1, g2, g3⟩ := hv.shape
  obtain ⟨i0, hi0, hz0, hz1, hz2⟩ := info_parts infoByte
  by_cases hl : 60 < l.length
  · go_enter Try.func5, Try.ntmps5
    go_wp2_with fail
    refine (known w).mono ?_
    rintro e1 w1 ⟨rfl, k1⟩
    go_wp2
    go_ret
    exact ⟨rfl, k1⟩
  · have e21 : St.rawS ⟨l, 0⟩ ((l.length : Int) + 1 + n) = ⟨[], 21⟩ := by unfold St.rawS; rw [if_pos rfl, if_neg (by simp; omega)]
    have E21 := hid e21
    clear e21
    go_enter Try.func5, Try.ntmps5
    go_wp2_with fail
    refine (known w).mono ?_
    rintro e1 w1 ⟨rfl, k1⟩
    have hv1 := hv.kept k1 (fun _ _ _ h => h)
    go_wp2_with fail
    refine (Bin.new _ _ _ _ _ hv1 (by omega)).mono ?_
    rintro e2 w2 ⟨r, rfl, k2, hr, rd2⟩
    have k02 := k1.then k2 (fun _ _ h => h)
    have s1 := k1.size
    have s2 := k02.size
    have hwr : w.heap.size ≤ r := by omega
    clear hv1 k1 k2 hv g3
    go_wp2_with fail
    refine (Bin.rraw _ _ _ _ _ _ rd2 (by omega) (by omega) (Nat.le_refl _) (by simp; omega)).mono ?_
    rintro e3 w3 ⟨v3, rfl, k3, b3, rd3⟩
    have k03 := k02.then k3 (fun i hi (h : i = r) => by omega)
    rw [E21.out] at rd3
    have hr3 := rd3.lt
    have s3 := k03.size
    clear k02 k3 b3 rd2 E21
    obtain ⟨j, hj⟩ : ∃ j : Nat, m % 20 = (j : Int) := ⟨(m % 20).toNat, by omega⟩
    have hj20 : j < 20 := by omega
    have HJ := hid hj
    clear hj
    go_wp2_with (at_make; refine wpList_make_full _ rfl _ _ 22 rfl w3.heap.size 5 i0 (.int .u8 0) 1 tBytes' hi0 hz0 hz1 .i64 .i64 (m % 20 + 1) (m % 20 + 1) (j + 1) rfl rfl ?h1 ?h2 ?h3 ?h4 ?h5 ?h6)
    case h1 => rw [HJ.out]; omega
    case h2 => rw [HJ.out]; omega
    case h3 => rw [hz2]; omega
    case h4 => unfold maxLen; omega
    case h5 => exact Nat.le_refl _
    intro w4 hown hgrow
    have k4 : Kept None w3 w4 := Kept.grown (Kept.refl _ _) hgrow (fun _ h => by cases h)
    have b4 := bo_made hown
    have k04 := k03.then k4 (fun _ _ h => h)
    have rd4 := rd3.kept k4 (fun _ _ _ h => h) (fun h => h)
    clear k03 k4 rd3 hown hgrow
    go_wp2_with fail
    refine (Bin.lump _ _ _ _ _ (b4.bs (Nat.le_refl _)) (by simp; omega)).mono ?_
    rintro e5 w5 ⟨v5, rfl, k5, b5⟩
    have k05 := k04.then k5 (fun _ _ h => h)
    have rd5 := rd4.kept k5 (fun _ _ _ h => h) (fun h => h)
    have s4 := k04.size
    clear k04 k5 rd4 b4
    go_wp2_with fail
    refine (Bin.new _ _ _ _ _ (b5.bs (Nat.le_refl _)) (by simp [leB_length]; omega)).mono ?_
    rintro e6 w6 ⟨x, rfl, k6, hx, rx6⟩
    have k06 := k05.then k6 (fun _ _ h => h)
    have rd6 := rd5.kept k6 (fun _ _ _ h => h) (fun h => h)
    have s5 := k05.size
    have h5 := rd5.lt
    have hwx : w.heap.size ≤ x := by omega
    clear k05 k6 rd5 b5
    rw [List.length_replicate] at rx6
    go_wp2_with fail
    rw [HJ.out]
    refine (Bin.rlump _ _ _ _ _ _ rx6 (by omega) (by omega) (Nat.le_refl _) (by simp [leB_length]; omega)).mono ?_
    rintro e7 w7 ⟨v7, rfl, k7, b7, rx7⟩
    rw [(lump_long j hj20).1] at b7
    rw [(lump_long j hj20).2] at rx7
    have k07 := k06.then k7 (fun i hi (h : i = x) => by omega)
    have rd7 := rd6.kept k7 (fun k _ h2 (h : k = x) => by omega) (fun h : r = x => by omega)
    have s6 := k06.size
    clear k06 k7 rd6 rx6
    obtain ⟨a7, c7, rfl⟩ := b7.form
    simp only [List.length_nil]
    clear b7 HJ
    go_wp2_with fail
    refine (Bin.rerr _ _ _ _ _ rd7).mono ?_
    rintro e8 w8 ⟨rfl, rfl⟩
    go_wp2_with fail
    refine (Bin.rnum _ _ _ _ _ rd7 (Nat.le_refl _)).mono ?_
    rintro e9 w9 ⟨rfl, k9, rd9⟩
    rw [ended_num.2] at rd9
    rw [ended_num.1]
    have k09 := k07.then k9 (fun i hi (h : i = r) => by omega)
    have rx9 := rx7.kept k9 (fun k h1 h2 (h : k = r) => by omega) (fun h : x = r => by omega)
    have s7 := k07.size
    clear k07 k9 rd7 rx7
    go_wp2_with fail
    refine (Bin.rlump _ _ _ _ 9 _ rd9 (by omega) (by omega) (Nat.le_refl _) (by decide)).mono ?_
    rintro e10 w10 ⟨v10, rfl, k10, b10, rd10⟩
    rw [ended_lump.2] at rd10
    rw [ended_lump.1] at b10
    obtain ⟨a10, c10, rfl⟩ := b10.form
    simp only [List.length_nil]
    have k010 := k09.then k10 (fun i hi (h : i = r) => by omega)
    have rx10 := rx9.kept k10 (fun k h1 h2 (h : k = r) => by omega) (fun h : x = r => by omega)
    clear k09 k10 rd9 rx9 b10
    go_wp2_with fail
    refine (Bin.rraw _ _ _ _ 1 _ rd10 (by omega) (by omega) (Nat.le_refl _) (by decide)).mono ?_
    rintro e11 w11 ⟨v11, rfl, k11, b11, rd11⟩
    rw [ended_raw.2] at rd11
    rw [ended_raw.1] at b11
    obtain ⟨a11, c11, rfl⟩ := b11.form
    simp only [List.length_nil]
    have k011 := k010.then k11 (fun i hi (h : i = r) => by omega)
    have rx11 := rx10.kept k11 (fun k h1 h2 (h : k = r) => by omega) (fun h : x = r => by omega)
    clear k010 k11 rd10 rx10 b11
    go_wp2_with fail
    refine (Bin.rleft _ _ _ _ _ rd11 (by decide)).mono ?_
    rintro e12 w12 ⟨rfl, rfl⟩
    simp only [List.length_nil]
    go_wp2_with fail
    refine (Bin.rerr _ _ _ _ _ rd11).mono ?_
    rintro e13 w13 ⟨rfl, rfl⟩
    go_wp2_with fail
    refine (Bin.rerr _ _ _ _ _ rx11).mono ?_
    rintro e14 w14 ⟨rfl, rfl⟩
    go_wp2_with fail
    refine (Bin.rleft _ _ _ _ _ rx11 (by decide)).mono ?_
    rintro e15 w15 ⟨rfl, rfl⟩
    simp only [List.length_nil]
    go_wp2_with fail
    refine (Bin.rnum _ _ _ _ _ rx11 (Nat.le_refl _)).mono ?_
    rintro e16 w16 ⟨rfl, k16, rx16⟩
    rw [ended_num'.1]
    have s11 := k011.size
    have k016 := k011.then k16 (fun i hi (h : i = x) => by omega)
    go_wp2
    go_ret
    exact ⟨rfl, k016⟩
end Go.Proofs.Ytjadlhpheagkfaa
