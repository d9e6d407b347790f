/- Texts joined: RefSgn, RUpPut, RUpSgn, LowSeat, SPend14, LowRow, RRt14, RMark13, RPut13, FrmC13. -/
import Derived.Test.YtpbkdeljhehkdaaPk3
import Derived.Test.YtpbkdeljhehkdaaPk2
import Derived.Deep.LoopGhost
import Derived.Test.YtpbkdeljhehkdaaPk1
import Derived.ProofKit
import Derived.Deep.Slices
import Derived.Laws.IdiomArrays
import Derived.Carry
namespace Go.Proofs.Ytpbkdeljhehkdaa
open Go.RowKit Go.Pm
namespace Ref
theorem box_bs (w : World) (h : List UInt8) (t : TypeId) (hl : h.length = 32) : Bs (w.alloc (.cells (h.map u8v).toArray t)) w.heap.size (w.heap.size + 1) (.slice (some ⟨w.heap.size, 0, none⟩) 8 32) (h.take 8) := by
  have h0 := Vs.new w (h.map u8v).toArray t 32 (by simp [hl]) (by decide)
  rw [show (h.map u8v).toArray.size = 32 by simp [hl]] at h0
  have h1 := h0.sliced 0 8 (by decide) (by decide)
  unfold Bs
  simpa [List.map_take, Addr.add_zero'] using h1

set_option maxRecDepth 100000 in
set_option maxHeartbeats 400000 in
theorem number (h : List UInt8) (hl : h.length = 32) (w : World) : Calls Try.prog 66 #[hashV h] w fun e w' => e = .returned (.int .u64 (numB h : Nat)) ∧ Kept None w w' := by
  have hb := box_bs w h 110 hl
  have k1 : Kept None w (w.alloc (.cells (h.map u8v).toArray 110)) := (Kept.refl _ _).alloc _
  have HE := hid (Sg.num_end h)
  have g0 := leV_ge (h.take 8)
  go_enter Try.func66, Try.ntmps66
  go_wp2_with fail
  refine (word _ _ _ (h.take 8) _ hb (by simp [hl])).mono ?_
  rintro e w1 ⟨rfl, rfl⟩
  go_wp2
  go_ret
  exact ⟨by rw [HE.out]; rfl, k1⟩

set_option maxRecDepth 100000 in
set_option maxHeartbeats 400000 in
theorem pub (x : Nat) (w : World) : Calls Try.prog 41 #[.int .u64 x] w fun e w' => e = .returned (.int .u64 (pubN x : Nat)) ∧ Kept None w w' := by
  have hp := fun w => pow 7 (x % order61) 2305843009213693951 w
  rw [show modOf 2305843009213693951 = prime61 by decide, show powm prime61 7 (x % order61) = pubN x from rfl, show ((x % order61 : Nat) : Int) = (x : Int) % 2305843009213693950 by rw [Int.natCast_emod]; rfl] at hp
  generalize pubN x = p at *
  have HP := hid hp
  clear hp
  go_enter Try.func41, Try.ntmps41
  go_wp2_with fail
  refine (HP.out _).mono ?_
  rintro e w1 ⟨rfl, k1⟩
  go_wp2
  go_ret
  exact ⟨rfl, k1⟩

set_option maxRecDepth 100000 in
set_option maxHeartbeats 1000000 in
theorem point (r y : Nat) (v : Value) (lo hi : Nat) (m : List UInt8) (w : World) (hr : r < 18446744073709551616) (hy : y < 18446744073709551616) (hv : Bs w lo hi v m) (hl : m.length ≤ 549755813888) :
    Calls Try.prog 67 #[.int .u64 r, .int .u64 y, v] w fun e w' => e = .returned (.int .u64 (chN r y m : Nat)) ∧ Kept None w w' := by
  have ht := fun v lo hi lo' hi' w hv => tag 101 v lo hi lo' hi' [leB r, leB y, m] w (by decide) (by decide) hv (by simp) (by simp [total, leB_length]; omega)
  have hn := fun w => number (sumB (textB 101 [leB r, leB y, m])) (sumB_len _) w
  rw [show numB (sumB (textB 101 [leB r, leB y, m])) = chN r y m from rfl] at hn
  obtain ⟨h, hh⟩ : ∃ h, h = sumB (textB 101 [leB r, leB y, m]) := ⟨_, rfl⟩
  obtain ⟨c, hc⟩ : ∃ c, c = chN r y m := ⟨_, rfl⟩
  rw [← hh] at ht hn
  rw [← hc] at hn ⊢
  have HT := hid ht
  have HN := hid hn
  clear ht hn hh hc
  obtain ⟨a, cap, rfl, g1, g2, g3⟩ := hv.shape
  clear g3
  go_enter Try.func67, Try.ntmps67
  go_wp2_with fail
  refine (num r _ (by omega) (by omega)).mono ?_
  rintro e w1 ⟨v1, rfl, k1, b1⟩
  have b1' := b1.bs (Nat.le_refl _)
  obtain ⟨a1, c1, rfl⟩ := b1.form
  rw [leB_length] at b1' ⊢
  clear b1
  go_wp2_with fail
  refine (num y _ (by omega) (by omega)).mono ?_
  rintro e w2 ⟨v2, rfl, k2, b2⟩
  have b2' := b2.bs (Nat.le_refl _)
  obtain ⟨a2, c2, rfl⟩ := b2.form
  rw [leB_length] at b2' ⊢
  have b1'' := b1'.kept k2 (fun _ _ _ h => h)
  have hv2 := (hv.kept k1 (fun _ _ _ h => h)).kept k2 (fun _ _ _ h => h)
  have k02 := k1.trans k2
  clear b2 hv b1' k1 k2
  go_wp2_with fail
  have hbs := Bss.new w2 #[.slice a1 8 c1, .slice a2 8 c2, .slice a m.length cap] 29 [leB r, leB y, m] 3 rfl (by decide) ⟨b1''.all, b2'.all, hv2.all, trivial⟩
  refine (HT.out _ _ _ _ _ _ hbs).mono ?_
  rintro e w3 ⟨rfl, k3⟩
  have k03 := (k02.alloc _).then k3 (fun _ _ h => h)
  clear hbs k02 k3 b1'' b2' hv2
  go_wp2_with fail
  refine (HN.out _).mono ?_
  rintro e w4 ⟨rfl, k4⟩
  have k04 := k03.then k4 (fun _ _ h => h)
  go_wp2
  go_ret
  exact ⟨rfl, k04⟩

set_option maxRecDepth 100000 in
set_option maxHeartbeats 1000000 in
theorem sign (x : Nat) (v : Value) (lo hi : Nat) (m : List UInt8) (w : World) (hv : Bs w lo hi v m) (hl : m.length ≤ 549755813888) :
    Calls Try.prog 42 #[.int .u64 x, v] w fun e w' => e = .returned (Sg.sigV (sigR x m) (sigS x m)) ∧ Kept None w w' := by
  have hx : ((x % order61 : Nat) : Int) = (x : Int) % 2305843009213693950 := by rw [Int.natCast_emod]; rfl
  have hx1 : x % order61 < 18446744073709551616 := Nat.lt_trans (Nat.mod_lt x (by decide)) (by decide)
  have hnum := fun w => num ((x % order61 : Nat) : Int) w (by omega) (by omega)
  have ht := fun v lo hi lo' hi' w hv => tag 107 v lo hi lo' hi' [leB ((x % order61 : Nat) : Int), m] w (by decide) (by decide) hv (by simp) (by simp [total, leB_length]; omega)
  have hn := fun w => number (sumB (textB 107 [leB ((x % order61 : Nat) : Int), m])) (sumB_len _) w
  rw [show numB (sumB (textB 107 [leB ((x % order61 : Nat) : Int), m])) = keyN (x % order61) m from rfl] at hn
  have h7 := fun w => pow 7 (keyN (x % order61) m) 2305843009213693951 w
  have hp := fun w => pub (x % order61) w
  have hc := fun w hv => point (sigR x m) (pubN x) v lo hi m w (Nat.lt_trans (sigR_lt x m) (by decide)) (Nat.lt_trans (pubN_lt x) (by decide)) hv hl
  have hm := fun w => mul (x % order61) (chN (sigR x m) (pubN x) m) 2305843009213693950 w
  have ha := fun w => add (keyN (x % order61) m) ((x % order61) * chN (sigR x m) (pubN x) m % order61) 2305843009213693950 w
  rw [show modOf 2305843009213693950 = order61 by decide] at hm ha
  rw [show modOf 2305843009213693951 = prime61 by decide] at h7
  rw [show (keyN (x % order61) m + (x % order61) * chN (sigR x m) (pubN x) m % order61) % order61 = sigS x m from rfl] at ha
  rw [show powm prime61 7 (keyN (x % order61) m) = sigR x m from rfl] at h7
  rw [pubN_mod] at hp
  obtain ⟨R, hR⟩ : ∃ R, R = sigR x m := ⟨_, rfl⟩
  obtain ⟨S, hS⟩ : ∃ S, S = sigS x m := ⟨_, rfl⟩
  obtain ⟨Y, hY⟩ : ∃ Y, Y = pubN x := ⟨_, rfl⟩
  rw [← hR] at h7 hc hm ha ⊢
  rw [← hS] at ha ⊢
  rw [← hY] at hp hc hm ha
  obtain ⟨K, hK⟩ : ∃ K, K = keyN (x % order61) m := ⟨_, rfl⟩
  obtain ⟨C, hC⟩ : ∃ C, C = chN R Y m := ⟨_, rfl⟩
  obtain ⟨h, hh⟩ : ∃ h, h = sumB (textB 107 [leB ((x % order61 : Nat) : Int), m]) := ⟨_, rfl⟩
  obtain ⟨B, hB⟩ : ∃ B, B = leB ((x % order61 : Nat) : Int) := ⟨_, rfl⟩
  have l8 : B.length = 8 := by rw [hB]; exact leB_length _
  rw [← hh] at ht hn
  rw [← hB] at ht hnum
  rw [← hK] at hn h7 ha
  rw [← hC] at hc hm ha
  obtain ⟨M, hM⟩ : ∃ M, M = x % order61 * C % order61 := ⟨_, rfl⟩
  rw [← hM] at hm ha
  rw [hx] at hp hm hnum
  have HU := hid hnum
  have HT := hid ht
  have HA := hid (And.intro hp (And.intro hc (And.intro hm (And.intro ha (And.intro hn h7)))))
  clear hp hc hm ha hn h7 ht hnum hR hS hY hK hC hM hh hB hx hx1
  obtain ⟨a, cap, rfl, g1, g2, g3⟩ := hv.shape
  clear g3
  go_enter Try.func42, Try.ntmps42
  go_wp2_with fail
  have hv1 := hv.kept ((Kept.refl None w).alloc (.cells #[.int .u64 0, .int .u64 0] 24)) (fun _ _ _ h => h)
  refine (HU.out _).mono ?_
  rintro e w1 ⟨v1, rfl, k1, b1⟩
  have b1' := b1.bs (Nat.le_refl _)
  obtain ⟨a1, c1, rfl⟩ := b1.form
  rw [l8] at b1' ⊢
  have hB1 : Blk w1 w.heap.size #[.int .u64 0, .int .u64 0] 24 := (Blk.new w _ _).kept k1 (fun h => h)
  have k01 : Kept None w w1 := ((Kept.refl None w).alloc _).trans k1
  have hv2 := hv1.kept k1 (fun _ _ _ h => h)
  clear hv hv1 k1 b1
  go_wp2_with fail
  have hbs := Bss.new w1 #[.slice a1 8 c1, .slice a m.length cap] 29 [B, m] 2 rfl (by decide) ⟨b1'.all, hv2.all, trivial⟩
  refine (HT.out _ _ _ _ _ _ hbs).mono ?_
  rintro e w2 ⟨rfl, k2⟩
  have kk := ((Kept.refl None w1).alloc _).trans k2
  have hB2 := hB1.kept kk (fun h => h)
  have k02 := k01.trans kk
  have hv3 := hv2.kept kk (fun _ _ _ h => h)
  clear hB1 k01 hv2 k2 kk hbs b1'
  go_wp2_with fail
  refine (HA.out.2.2.2.2.1 _).mono ?_
  rintro e w3 ⟨rfl, kk⟩
  have hB3 := hB2.kept kk (fun h => h)
  have k03 := k02.trans kk
  have hv4 := hv3.kept kk (fun _ _ _ h => h)
  clear hB2 k02 hv3 kk
  go_wp2_with fail
  refine (HA.out.2.2.2.2.2 _).mono ?_
  rintro e w4 ⟨rfl, kk⟩
  have hB4 := hB3.kept kk (fun h => h)
  have k04 := k03.trans kk
  have hv5 := hv4.kept kk (fun _ _ _ h => h)
  clear hB3 k03 hv4 kk
  go_wp2_with fail
  refine (HA.out.1 _).mono ?_
  rintro e w5 ⟨rfl, kk⟩
  have hB5 := hB4.kept kk (fun h => h)
  have k05 := k04.trans kk
  have hv6 := hv5.kept kk (fun _ _ _ h => h)
  clear hB4 k04 hv5 kk
  go_wp2_with fail
  refine (HA.out.2.1 _ hv6).mono ?_
  rintro e w6 ⟨rfl, kk⟩
  have hB6 := hB5.kept kk (fun h => h)
  have k06 := k05.trans kk
  clear hB5 k05 hv6 kk
  go_wp2_with fail
  refine (HA.out.2.2.1 _).mono ?_
  rintro e w7 ⟨rfl, kk⟩
  have hB7 := hB6.kept kk (fun h => h)
  have k07 := k06.trans kk
  clear hB6 k06 kk
  go_wp2_with fail
  refine (HA.out.2.2.2.1 _).mono ?_
  rintro e w8 ⟨rfl, kk⟩
  have hB8 := hB7.kept kk (fun h => h)
  have k08 := k07.trans kk
  clear hB7 k07 kk
  go_wp2_with (first | (refine wpList_store_blk rfl _ _ _ rfl rfl rfl hB8 Sg.aSig rfl (Sg.sig_all _ _) ?_; intro w9 hR9 k9) | fail)
  exact bodyPost_ret (v := Sg.sigV R S) (results_blk rfl _ rfl hR9 Sg.aSig) rfl ⟨rfl, k08.then k9 (fun i hi (h : i = w.heap.size) => by omega)⟩

set_option maxRecDepth 100000 in
set_option maxHeartbeats 1000000 in
theorem putSig (r s : Nat) (w : World) (hr : r < 18446744073709551616) (hs0 : s < 18446744073709551616) :
    Calls Try.prog 50 #[Sg.sigV r s] w fun e w' => ∃ v, e = .returned v ∧ Kept None w w' ∧ Ob w' w.heap.size v (Sg.sigB r s) := by
  go_enter Try.func50, Try.ntmps50
  go_wp2_with fail
  obtain ⟨w1, hw1⟩ : ∃ w1, w1 = w.alloc (.cells #[.int .u64 (r : Int), .int .u64 (s : Int)] 24) := ⟨_, rfl⟩
  have hB := Blk.new w #[.int .u64 (r : Int), .int .u64 (s : Int)] 24
  have k0 : Kept None w (w.alloc (.cells #[.int .u64 (r : Int), .int .u64 (s : Int)] 24)) := (Kept.refl _ _).alloc _
  rw [← hw1] at hB k0 ⊢
  clear hw1
  have hc0 : ∀ W, Kept None w1 W → W.cell? ⟨w.heap.size, 0, none⟩ = some (.int .u64 (r : Int)) := fun W hW => (hB.kept hW (fun h => h)).cell 0
  have hc1 : ∀ W, Kept None w1 W → W.cell? ⟨w.heap.size, 1, none⟩ = some (.int .u64 (s : Int)) := fun W hW => (hB.kept hW (fun h => h)).cell 1
  clear hB
  have hs : Steady [.own 5 2 (w1.heap.size) (leB r), .own 5 5 (w1.heap.size) (leB s), .own 5 6 (w1.heap.size) (Sg.sigB r s) [2, 5] [2, 5]] := Steady.own (Steady.own (Steady.own (Steady.nil)))
  refine wp_region_kn w1 _ hs (Kept.refl _ _) (by kernel_rfl) (by kernel_rfl) (by kernel_rfl) ?_
  iterate 2 (refine wpPar_pure rfl (by rfl) _ (fun W hW => by
      have c0 := hc0 W hW
      have c1 := hc1 W hW
      go_simp
      exact rfl) ?_; simp only [Act.put, List.setIfInBounds_toArray, List.set_cons_zero, List.set_cons_succ])
  refine wpKn_adds hs rfl (by rfl) (fun W hW hd => ?_) (fun v2 hv => ?_)
  · unfold Gives
    go_simp
    refine gives_call (Ref.num r W (by omega) (by omega)) ?_
    rintro e w3 ⟨u, rfl, k3, b3⟩
    exact ⟨_, rfl, k3, b3.form, b3.base hW.size⟩
  obtain ⟨a2, c2, rfl⟩ : ∃ a c, v2 = .slice a 8 c := hv
  simp only [Act.put, List.setIfInBounds_toArray, List.set_cons_zero, List.set_cons_succ]
  iterate 2 (refine wpPar_pure rfl (by rfl) _ (fun W hW => by
      have c0 := hc0 W hW
      have c1 := hc1 W hW
      go_simp
      exact rfl) ?_; simp only [Act.put, List.setIfInBounds_toArray, List.set_cons_zero, List.set_cons_succ])
  refine wpKn_adds hs rfl (by rfl) (fun W hW hd => ?_) (fun v5 hv => ?_)
  · unfold Gives
    go_simp
    refine gives_call (Ref.num s W (by omega) (by omega)) ?_
    rintro e w3 ⟨u, rfl, k3, b3⟩
    exact ⟨_, rfl, k3, b3.form, b3.base hW.size⟩
  obtain ⟨a5, c5, rfl⟩ : ∃ a c, v5 = .slice a 8 c := hv
  simp only [Act.put, List.setIfInBounds_toArray, List.set_cons_zero, List.set_cons_succ]
  refine wpPar_adds rfl (by rfl) (fun W hW hd => ?_) (fun v6 hv => ?_)
  · have h1 : Ob W w1.heap.size (.slice a2 8 c2) (leB r) := hd 2 (List.Mem.head _)
    have h2 : Ob W w1.heap.size (.slice a5 8 c5) (leB s) := hd 5 (List.Mem.tail _ (List.Mem.head _))
    refine gives_append_bo _ _ 29 rfl rtBytes rfl rfl h1 (h2.bs (Nat.le_refl _)) (by simp [leB_length]) hW.size ?_
    intro a' n' c' W' h3 h4 _
    refine ⟨Kept.own hW h4 (fun k hk => (h1.own k hk).1), h3.form, h3, keeps_of fun f hf hs _ hne u hfu => ?_⟩
    simp only [List.mem_cons, List.not_mem_nil, or_false] at hf
    rcases hf with rfl | rfl | rfl
    · exact absurd (List.Mem.head _) hs
    · exact absurd (List.Mem.tail _ (List.Mem.head _)) hs
    · exact absurd rfl hne
  obtain ⟨a6, c6, rfl⟩ : ∃ a c, v6 = .slice a (Sg.sigB r s).length c := hv
  simp only [Act.put, List.setIfInBounds_toArray, List.set_cons_zero, List.set_cons_succ]
  iterate 1 (refine wpPar_pure rfl (by rfl) _ (fun W hW => by
      go_simp
      exact rfl) ?_; simp only [Act.put, List.setIfInBounds_toArray, List.set_cons_zero, List.set_cons_succ])
  refine wpPar_nil (fun W hW hG => ?_)
  have hb : Ob W w1.heap.size (.slice a6 (Sg.sigB r s).length c6) (Sg.sigB r s) := hG 6
  have hb1 := hb.base k0.size
  have k01 := k0.then hW (fun _ _ h => h)
  clear hG hb hc0 hc1 hs k0 hW
  go_wp2
  go_ret
  exact ⟨_, rfl, k01, hb1⟩

end Ref
end Go.Proofs.Ytpbkdeljhehkdaa
namespace Go.Proofs.Ytpbkdeljhehkdaa
open Go.RowKit Go.Pm
namespace RUp
set_option maxHeartbeats 1000000 in
/-- postmarkref5.Entry. -/
theorem entry (n : ByteArray) (v c : Int) (k r s : Nat) (w : World) : Calls Try.prog 44 #[updV n v k c r s] w fun e w' => e = .returned (entV n v k) ∧ Kept None w w' := by
  have k0 : Kept None w ((w.alloc (.cells #[.string n, .int .i64 v, .int .u64 (k : Int), .int .i64 c, .int .u64 (r : Int), .int .u64 (s : Int)] 26)).alloc (.cells #[.string ⟨#[]⟩, .int .i64 0, .int .u64 0] 88)) := ((Kept.refl _ _).alloc _).alloc _
  have hR := Blk.new2 w (.cells #[.string n, .int .i64 v, .int .u64 (k : Int), .int .i64 c, .int .u64 (r : Int), .int .u64 (s : Int)] 26) #[.string ⟨#[]⟩, .int .i64 0, .int .u64 0] 88
  go_enter Try.func44, Try.ntmps44
  go_wp2_with (first | (refine wpList_store_blk rfl _ _ _ rfl rfl rfl hR Up.aEnt rfl (Up.ent_all _ _ _) ?_; intro w6 hR6 k6) | fail)
  exact bodyPost_ret (v := entV n v k) (results_blk rfl _ rfl hR6 Up.aEnt) rfl ⟨rfl, k0.then k6 (fun i hi (h : i = w.heap.size + 1) => by omega)⟩

set_option maxRecDepth 100000 in
set_option maxHeartbeats 1000000 in
/-- postmarkref5.Right. -/
theorem right (n : ByteArray) (v c : Int) (k r s : Nat) (w : World) : Calls Try.prog 32 #[updV n v k c r s] w fun e w' => e = .returned (.bool (rightB n.size v k c)) ∧ Kept None w w' := by
  have he := fun w => entry n v c k r s w
  have hq := fun w => entryRight n v k w
  have e1 : rightB n.size v k c = (entR n.size v k && (c == 0 || c == 1)) := by
    unfold rightB
    rfl
  rw [e1]
  have hB0 := Blk.new w #[.string n, .int .i64 v, .int .u64 (k : Int), .int .i64 c, .int .u64 (r : Int), .int .u64 (s : Int)] 26
  have k0 : Kept None w (w.alloc (.cells #[.string n, .int .i64 v, .int .u64 (k : Int), .int .i64 c, .int .u64 (r : Int), .int .u64 (s : Int)] 26)) := (Kept.refl _ _).alloc _
  cases hb : entR n.size v k with
  | false =>
    rw [hb] at hq
    have H := hid (And.intro he hq)
    clear he hq hb e1
    go_enter Try.func32, Try.ntmps32
    go_wp2_with (first | (refine wpList_load_blk rfl _ _ rfl rfl hB0 Up.aUpd ?_) | fail)
    refine (H.out.1 _).mono ?_
    rintro e w1 ⟨rfl, k1⟩
    have k01 := k0.trans k1
    go_wp2_with fail
    refine (H.out.2 _).mono ?_
    rintro e w2 ⟨rfl, k2⟩
    have k02 := k01.trans k2
    go_wp2
    go_ret
    exact ⟨rfl, k02⟩
  | true =>
    rw [hb] at hq
    have H := hid (And.intro he hq)
    clear he hq hb e1
    go_enter Try.func32, Try.ntmps32
    go_wp2_with (first | (refine wpList_load_blk rfl _ _ rfl rfl hB0 Up.aUpd ?_) | fail)
    refine (H.out.1 _).mono ?_
    rintro e w1 ⟨rfl, k1⟩
    have k01 := k0.trans k1
    have hB1 := hB0.kept k1 (fun h => h)
    go_wp2_with fail
    refine (H.out.2 _).mono ?_
    rintro e w2 ⟨rfl, k2⟩
    have k02 := k01.trans k2
    have hB2 := hB1.kept k2 (fun h => h)
    have c3 : w2.cell? ⟨w.heap.size, 3, none⟩ = some (.int .i64 c) := hB2.cell 3
    clear hB0 hB1 k0 k1 k01 k2 H
    go_wp2
    all_goals
      go_ret
      first | exact ⟨rfl, k02⟩ | exact ⟨by simp; omega, k02⟩

set_option maxRecDepth 100000 in
set_option maxHeartbeats 4000000 in
theorem put_yes (n : ByteArray) (v c : Int) (k r s : Nat) (w : World) (hb : rightB n.size v k c = true) (hn : n.size ≤ 274877906944) (hk : k < 18446744073709551616) (hr : r < 18446744073709551616) (hs : s < 18446744073709551616) :
    Calls Try.prog 28 #[updV n v k c r s] w fun e w' => ∃ u, e = .returned (.tuple #[u, .int .i64 0]) ∧ Kept None w w' ∧ Ob w' w.heap.size u (putB n v k c r s) := by
  have hq := fun w => right n v c k r s w
  rw [hb] at hq
  have HQ := hid hq
  clear hq hb
  have he := fun w => entry n v c k r s w
  have hf := fun w => fields n v k w hn hk
  have hg := fun w => Ref.putSig r s w hr hs
  have hw2 : IntKind.u64.wrap c = U6 c := by rw [IntKind.wrap_u64]
  have HV0 := And.intro (U6_ge c) (U6_lt c)
  have hT : fieldsB n v k ++ leB (U6 c) ++ (leB (r : Int) ++ leB (s : Int)) = putB n v k c r s := rfl
  have hL : (fieldsB n v k).length ≤ 274877906968 ∧ (leB (r : Int) ++ leB (s : Int)).length = 16 := ⟨by rw [fieldsB_len]; omega, rfl⟩
  obtain ⟨C, hC⟩ : ∃ C, C = U6 c := ⟨_, rfl⟩
  rw [← hC] at hw2 HV0 hT
  rw [show Sg.sigB r s = leB r ++ leB s from rfl] at hg
  obtain ⟨G, hGG⟩ : ∃ G, G = leB (r : Int) ++ leB (s : Int) := ⟨_, rfl⟩
  rw [← hGG] at hg hT hL
  obtain ⟨F, hF⟩ : ∃ F, F = fieldsB n v k := ⟨_, rfl⟩
  rw [← hF] at hf hT hL
  obtain ⟨B, hB⟩ : ∃ B, B = putB n v k c r s := ⟨_, rfl⟩
  rw [← hB] at hT ⊢
  obtain ⟨FC, hFC⟩ : ∃ FC, FC = F ++ leB C := ⟨_, rfl⟩
  rw [← hFC] at hT
  have hFl : FC.length + 16 ≤ 140737488355328 := by rw [hFC, List.length_append, leB_length]; omega
  have HFC := hid (And.intro hFC hFl)
  have H := hid (And.intro he (And.intro hf (And.intro hg hT)))
  have HV := hid HV0
  have HL := hid hL
  clear he hf hg hT hL HV0 hC hGG hF hB hn hk hr hs hFC hFl
  have hB0 := Blk.new w #[.string n, .int .i64 v, .int .u64 (k : Int), .int .i64 c, .int .u64 (r : Int), .int .u64 (s : Int)] 26
  have k0 : Kept None w (w.alloc (.cells #[.string n, .int .i64 v, .int .u64 (k : Int), .int .i64 c, .int .u64 (r : Int), .int .u64 (s : Int)] 26)) := (Kept.refl _ _).alloc _
  go_enter Try.func28, Try.ntmps28
  go_wp2_with (first | (refine wpList_load_blk rfl _ _ rfl rfl hB0 Up.aUpd ?_) | fail)
  refine (HQ.out _).mono ?_
  rintro e w1 ⟨rfl, k1⟩
  have kw := k0.trans k1
  have hBw := hB0.kept k1 (fun h => h)
  clear hB0 k0 k1 HQ
  go_wp2_with fail
  have hc0 : ∀ W, Kept None w1 W → W.cell? ⟨w.heap.size, 0, none⟩ = some (.string n) := fun W hW => (hBw.kept hW (fun h => h)).cell 0
  have hc1 : ∀ W, Kept None w1 W → W.cell? ⟨w.heap.size, 1, none⟩ = some (.int .i64 v) := fun W hW => (hBw.kept hW (fun h => h)).cell 1
  have hc2 : ∀ W, Kept None w1 W → W.cell? ⟨w.heap.size, 2, none⟩ = some (.int .u64 (k : Int)) := fun W hW => (hBw.kept hW (fun h => h)).cell 2
  have hc3 : ∀ W, Kept None w1 W → W.cell? ⟨w.heap.size, 3, none⟩ = some (.int .i64 c) := fun W hW => (hBw.kept hW (fun h => h)).cell 3
  have hc4 : ∀ W, Kept None w1 W → W.cell? ⟨w.heap.size, 4, none⟩ = some (.int .u64 (r : Int)) := fun W hW => (hBw.kept hW (fun h => h)).cell 4
  have hc5 : ∀ W, Kept None w1 W → W.cell? ⟨w.heap.size, 5, none⟩ = some (.int .u64 (s : Int)) := fun W hW => (hBw.kept hW (fun h => h)).cell 5
  have hs : Steady [.val 1 (entV n v k), .own 5 2 (w1.heap.size) (F), .own 5 6 (w1.heap.size) (leB C), .own 5 7 (w1.heap.size) (FC) [2, 6] [2, 6]] := Steady.val (Steady.own (Steady.own (Steady.own (Steady.nil))))
  refine wp_region_kn w1 _ hs (Kept.refl _ _) (by kernel_rfl) (by kernel_rfl) (by kernel_rfl) ?_
  iterate 1 (refine wpPar_pure rfl (by rfl) _ (fun W hW => by
      have c0 := hc0 W hW
      have c1 := hc1 W hW
      have c2 := hc2 W hW
      have c3 := hc3 W hW
      have c4 := hc4 W hW
      have c5 := hc5 W hW
      go_simp
      exact rfl) ?_; simp only [Act.put, List.setIfInBounds_toArray, List.set_cons_zero, List.set_cons_succ])
  refine wpKn_adds hs rfl (by rfl) (fun W hW hd => ?_) (fun v1 hv => ?_)
  · unfold Gives
    go_simp
    refine gives_call (H.out.1 W) ?_
    rintro e w3 ⟨rfl, k3⟩
    exact ⟨_, rfl, k3, rfl, trivial⟩
  obtain rfl : v1 = entV n v k := hv
  simp only [Act.put, List.setIfInBounds_toArray, List.set_cons_zero, List.set_cons_succ]
  refine wpKn_adds hs rfl (by rfl) (fun W hW hd => ?_) (fun v2 hv => ?_)
  · unfold Gives
    go_simp
    refine gives_call (H.out.2.1 W) ?_
    rintro e w3 ⟨u, rfl, k3, b3⟩
    exact ⟨_, rfl, k3, b3.form, b3.base hW.size⟩
  obtain ⟨a2, c2, rfl⟩ : ∃ a c, v2 = .slice a F.length c := hv
  simp only [Act.put, List.setIfInBounds_toArray, List.set_cons_zero, List.set_cons_succ]
  iterate 3 (refine wpPar_pure rfl (by rfl) _ (fun W hW => by
      have c0 := hc0 W hW
      have c1 := hc1 W hW
      have c2 := hc2 W hW
      have c3 := hc3 W hW
      have c4 := hc4 W hW
      have c5 := hc5 W hW
      go_simp
      exact rfl) ?_; simp only [Act.put, List.setIfInBounds_toArray, List.set_cons_zero, List.set_cons_succ])
  refine wpKn_adds hs rfl (by rfl) (fun W hW hd => ?_) (fun v6 hv => ?_)
  · unfold Gives
    go_simp
    refine gives_call (Ref.num C W HV.out.1 HV.out.2) ?_
    rintro e w3 ⟨u, rfl, k3, b3⟩
    exact ⟨_, rfl, k3, b3.form, b3.base hW.size⟩
  obtain ⟨a6, c6, rfl⟩ : ∃ a c, v6 = .slice a 8 c := hv
  simp only [Act.put, List.setIfInBounds_toArray, List.set_cons_zero, List.set_cons_succ]
  refine wpPar_adds rfl (by rfl) (fun W hW hd => ?_) (fun v7 hv => ?_)
  · have h1 : Ob W w1.heap.size (.slice a2 F.length c2) F := hd 2 (List.Mem.head _)
    have h2 : Ob W w1.heap.size (.slice a6 8 c6) (leB C) := hd 6 (List.Mem.tail _ (List.Mem.head _))
    refine gives_append_bo _ _ 29 rfl rtBytes rfl rfl h1 (h2.bs (Nat.le_refl _)) (by have := HL.out; rw [leB_length]; omega) hW.size ?_
    intro a' n' c' W' h3 h4 _
    rw [← HFC.out.1] at h3
    refine ⟨Kept.own hW h4 (fun k hk => (h1.own k hk).1), h3.form, h3, keeps_of fun f hf hs _ hne u hfu => ?_⟩
    simp only [List.mem_cons, List.not_mem_nil, or_false] at hf
    rcases hf with rfl | rfl | rfl | rfl
    · exact hfu
    · exact absurd (List.Mem.head _) hs
    · exact absurd (List.Mem.tail _ (List.Mem.head _)) hs
    · exact absurd rfl hne
  obtain ⟨a7, c7, rfl⟩ : ∃ a c, v7 = .slice a FC.length c := hv
  simp only [Act.put, List.setIfInBounds_toArray, List.set_cons_zero, List.set_cons_succ]
  iterate 1 (refine wpPar_pure rfl (by rfl) _ (fun W hW => by
      go_simp
      exact rfl) ?_; simp only [Act.put, List.setIfInBounds_toArray, List.set_cons_zero, List.set_cons_succ])
  refine wpPar_nil (fun W hW hG => ?_)
  have hb : Ob W w1.heap.size (.slice a7 FC.length c7) FC := hG 7
  have kW := kw.trans hW
  have c4 := hc4 W hW
  have c5 := hc5 W hW
  have hbw : w.heap.size + 1 ≤ w1.heap.size := hBw.lt
  have hb1 := hb.base hbw
  have hBW := hBw.kept hW (fun h => h)
  clear hG hc0 hc1 hc2 hc3 hc4 hc5 hs hW hb hBw kw
  go_wp2_with fail
  refine (H.out.2.2.1 _).mono ?_
  rintro e w5 ⟨u5, rfl, k5, b5⟩
  have d5 := b5.bs (Nat.le_refl _)
  obtain ⟨a5, c5', rfl⟩ := b5.form
  have hb2 := hb1.kept k5 (fun _ _ h => h)
  have kW5 := kW.trans k5
  have hsW : w.heap.size + 1 ≤ w5.heap.size := (hBW.kept k5 (fun h => h)).lt
  clear b5 hb1 k5 kW hBW c4 c5
  go_wp2_with (first | (at_builtin; (refine wpList_append_bo (l := FC) (m := G) (base := w.heap.size + 1) rfl _ _ 29 rfl rtBytes rfl rfl hb2 d5 (by have := HL.out; have := HFC.out; omega) hsW ?k9)) | fail)
  case k9 =>
    intro a9 n9 c9 w9 b9 k9
    have k09 := Kept.own kW5 k9 (fun k hk => Nat.le_of_succ_le (hb2.own k hk).1)
    rw [H.out.2.2.2] at b9
    have b10 := b9.base (Nat.le_succ w.heap.size)
    clear hb2 kW5 k9 d5 b9
    go_wp2
    go_ret2
    exact ⟨_, rfl, k09, b10⟩

set_option maxRecDepth 100000 in
set_option maxHeartbeats 4000000 in
/-- postmarkref5.Put. -/
theorem put (n : ByteArray) (v c : Int) (k r s : Nat) (w : World) (hr : r < 18446744073709551616) (hs : s < 18446744073709551616) :
    Calls Try.prog 28 #[updV n v k c r s] w fun e w' => ∃ u, e = .returned (.tuple #[u, .int .i64 (putE n.size v k c)]) ∧ Kept None w w' ∧ Ob w' w.heap.size u (putL n v k c r s) := by
  cases hb : rightB n.size v k c with
  | true =>
    have hh := (rightB_iff _ _ _ _).1 hb
    have e1 : putE n.size v k c = 0 := by unfold putE; rw [hb]; rfl
    have e2 : putL n v k c r s = putB n v k c r s := by unfold putL; rw [hb]; rfl
    rw [e1, e2]
    exact put_yes n v c k r s w hb (by omega) (Nat.lt_trans hh.1.2.2.2.2.2 (by decide)) hr hs
  | false =>
    have hq := fun w => right n v c k r s w
    have hB0 := Blk.new w #[.string n, .int .i64 v, .int .u64 (k : Int), .int .i64 c, .int .u64 (r : Int), .int .u64 (s : Int)] 26
    have k0 : Kept None w (w.alloc (.cells #[.string n, .int .i64 v, .int .u64 (k : Int), .int .i64 c, .int .u64 (r : Int), .int .u64 (s : Int)] 26)) := (Kept.refl _ _).alloc _
    rw [hb] at hq
    have e1 : putE n.size v k c = 23 := by unfold putE; rw [hb]; rfl
    have e2 : putL n v k c r s = [] := by unfold putL; rw [hb]; rfl
    rw [e1, e2]
    have H := hid hq
    clear hq hb e1 e2
    go_enter Try.func28, Try.ntmps28
    go_wp2_with (first | (refine wpList_load_blk rfl _ _ rfl rfl hB0 Up.aUpd ?_) | fail)
    refine (H.out _).mono ?_
    rintro e w1 ⟨rfl, k1⟩
    have k01 := k0.trans k1
    go_wp2
    go_ret2
    exact ⟨_, rfl, k01, Bo.nil _ _ _⟩
end RUp
end Go.Proofs.Ytpbkdeljhehkdaa
namespace Go.Proofs.Ytpbkdeljhehkdaa
open Go.RowKit Go.Pm
namespace RUp
set_option maxRecDepth 100000 in
set_option maxHeartbeats 4000000 in
/-- postmarkref5.Message. -/
theorem message (n : ByteArray) (v : Int) (k : Nat) (w : World) (hn : n.size ≤ 274877906944) (hk : k < 18446744073709551616) : Calls Try.prog 43 #[entV n v k] w fun e w' => ∃ u, e = .returned u ∧ Kept None w w' ∧ Ob w' w.heap.size u (msgB n v k) := by
  have hf := fun w => fields n v k w hn hk
  have hl := fieldsB_len n v k
  have he : 85 :: fieldsB n v k = msgB n v k := rfl
  obtain ⟨F, hF⟩ : ∃ F, F = fieldsB n v k := ⟨_, rfl⟩
  obtain ⟨M, hM⟩ : ∃ M, M = msgB n v k := ⟨_, rfl⟩
  rw [← hF] at hf hl he
  rw [← hM] at he ⊢
  have H := hid (And.intro hf (And.intro hl (And.intro hn he)))
  clear hf hl he hF hM hn hk
  have hB0 : Blk ((w.alloc (.cells #[.string n, .int .i64 v, .int .u64 (k : Int)] 88)).alloc (.cells #[.int .u8 85] 5)) w.heap.size #[.string n, .int .i64 v, .int .u64 (k : Int)] 88 := (Blk.new w _ _).alloc _
  have k0 : Kept None w ((w.alloc (.cells #[.string n, .int .i64 v, .int .u64 (k : Int)] 88)).alloc (.cells #[.int .u8 85] 5)) := ((Kept.refl _ _).alloc _).alloc _
  have b0 : Ob ((w.alloc (.cells #[.string n, .int .i64 v, .int .u64 (k : Int)] 88)).alloc (.cells #[.int .u8 85] 5)) (w.heap.size + 1) (.slice (some ⟨w.heap.size + 1, 0, none⟩) 1 1) [85] := by
    have h := Bo.new (w.alloc (.cells #[.string n, .int .i64 v, .int .u64 (k : Int)] 88)) 5 [85] #[.int .u8 85] (by rfl) 1 rfl (by decide)
    simpa using h
  go_enter Try.func43, Try.ntmps43
  go_wp2_with (first | (refine wpList_load_blk rfl _ _ rfl rfl hB0 Up.aEnt ?_) | fail)
  refine (H.out.1 _).mono ?_
  rintro e w1 ⟨u, rfl, k1, b1⟩
  have k01 := k0.trans k1
  have b01 := b0.kept k1 (fun _ _ h => h)
  have d1 := b1.bs (Nat.le_refl _)
  have hs1 : w.heap.size + 1 ≤ w1.heap.size := (hB0.kept k1 (fun h => h)).lt
  obtain ⟨a1, c1, rfl⟩ := b1.form
  clear hB0 k0 b0 k1 b1
  go_wp2_with (first | (at_builtin; refine wpList_append_bo (l := [85]) (m := F) (base := w.heap.size + 1) rfl _ _ 29 rfl rtBytes rfl rfl b01 d1 (by have := H.out; simp; omega) hs1 ?k5) | fail)
  case k5 =>
    intro a5 n5 c5 w5 b5 k5
    have k05 := Kept.own k01 k5 (fun k hk => Nat.le_of_succ_le (b01.own k hk).1)
    rw [H.out.2.2.2] at b5
    have b6 := b5.base (Nat.le_succ w.heap.size)
    clear b01 k01 k5 d1 b5
    go_wp2
    go_ret
    exact ⟨_, rfl, k05, b6⟩

set_option maxRecDepth 100000 in
set_option maxHeartbeats 4000000 in
/-- postmarkref5.Sign. -/
theorem sign (x : Nat) (n : ByteArray) (v c : Int) (k r s : Nat) (w : World) (hn : n.size ≤ 274877906944) (hk : k < 18446744073709551616) :
    Calls Try.prog 24 #[.int .u64 x, updV n v k c r s] w fun e w' => e = .returned (updV n v k c (sigR x (msgB n v k)) (sigS x (msgB n v k))) ∧ Kept None w w' := by
  have hs := fun v' lo hi w h => Ref.sign x v' lo hi (msgB n v k) w h (by rw [msgB_len]; omega)
  have hm := fun w => message n v k w hn hk
  have he := fun w => entry n v c k r s w
  obtain ⟨R, hR⟩ : ∃ R, R = sigR x (msgB n v k) := ⟨_, rfl⟩
  obtain ⟨S, hS⟩ : ∃ S, S = sigS x (msgB n v k) := ⟨_, rfl⟩
  obtain ⟨M, hM⟩ : ∃ M, M = msgB n v k := ⟨_, rfl⟩
  rw [← hR, ← hS] at hs ⊢
  rw [← hM] at hs hm
  have H := hid (And.intro hs (And.intro hm he))
  clear hs hm he hR hS hM hn hk
  go_enter Try.func24, Try.ntmps24
  have hB0 : Blk ((w.alloc (.cells #[.string n, .int .i64 v, .int .u64 (k : Int), .int .i64 c, .int .u64 (r : Int), .int .u64 (s : Int)] 26)).alloc (.cells #[.string ⟨#[]⟩, .int .i64 0, .int .u64 0, .int .i64 0, .int .u64 0, .int .u64 0] 26)) w.heap.size #[.string n, .int .i64 v, .int .u64 (k : Int), .int .i64 c, .int .u64 (r : Int), .int .u64 (s : Int)] 26 := (Blk.new w _ _).alloc _
  have hR0 := Blk.new2 w (.cells #[.string n, .int .i64 v, .int .u64 (k : Int), .int .i64 c, .int .u64 (r : Int), .int .u64 (s : Int)] 26) #[.string ⟨#[]⟩, .int .i64 0, .int .u64 0, .int .i64 0, .int .u64 0, .int .u64 0] 26
  have k0 : Kept None w ((w.alloc (.cells #[.string n, .int .i64 v, .int .u64 (k : Int), .int .i64 c, .int .u64 (r : Int), .int .u64 (s : Int)] 26)).alloc (.cells #[.string ⟨#[]⟩, .int .i64 0, .int .u64 0, .int .i64 0, .int .u64 0, .int .u64 0] 26)) := ((Kept.refl _ _).alloc _).alloc _
  go_wp2_with (first | (refine wpList_load_blk rfl _ _ rfl rfl hB0 Up.aUpd ?_) | fail)
  refine (H.out.2.2 _).mono ?_
  rintro e w1 ⟨rfl, k1⟩
  have hB1 := hB0.kept k1 (fun h => h)
  have hR1 := hR0.kept k1 (fun h => h)
  have k01 := k0.trans k1
  clear hB0 hR0 k0 k1
  go_wp2_with fail
  refine (H.out.2.1 _).mono ?_
  rintro e w2 ⟨u, rfl, k2, b2⟩
  have hB2 := hB1.kept k2 (fun h => h)
  have hR2 := hR1.kept k2 (fun h => h)
  have k02 := k01.trans k2
  have b2' := b2.bs (Nat.le_refl _)
  clear hB1 hR1 k01 k2 b2
  obtain ⟨a2, c2, rfl, g1, g2, g3⟩ := b2'.shape
  clear g3
  go_wp2_with fail
  refine (H.out.1 _ _ _ _ b2').mono ?_
  rintro e w3 ⟨rfl, k3⟩
  have hB3 := hB2.kept k3 (fun h => h)
  have hR3 := hR2.kept k3 (fun h => h)
  have k03 := k02.trans k3
  clear hB2 hR2 k02 k3 b2' H
  have c4 : w3.cell? ⟨w.heap.size, 4, none⟩ = some (.int .u64 (r : Int)) := hB3.cell 4
  have c5 : w3.cell? ⟨w.heap.size, 5, none⟩ = some (.int .u64 (s : Int)) := hB3.cell 5
  have f4 := hB3.free 4
  have f5 := hB3.free 5
  have hB4 : Blk ((w3.setCell ⟨w.heap.size, 4, none⟩ (.int .u64 (R : Int))).setCell ⟨w.heap.size, 5, none⟩ (.int .u64 (S : Int))) w.heap.size #[.string n, .int .i64 v, .int .u64 (k : Int), .int .i64 c, .int .u64 (R : Int), .int .u64 (S : Int)] 26 := (hB3.set 4 _).set 5 _
  have hR4 := (hR3.setOther (a := ⟨w.heap.size, 4, none⟩) (by show w.heap.size + 1 ≠ w.heap.size; omega) (.int .u64 (R : Int))).setOther (a := ⟨w.heap.size, 5, none⟩) (by show w.heap.size + 1 ≠ w.heap.size; omega) (.int .u64 (S : Int))
  have k04 := (k03.setNew (Nat.le_refl _) 4 (.int .u64 (R : Int))).setNew (Nat.le_refl _) 5 (.int .u64 (S : Int))
  clear hB3 hR3 k03
  go_wp2_with (first | (refine wpList_load_blk rfl _ _ rfl rfl hB4 Up.aUpd ?_) | (refine wpList_store_blk rfl _ _ _ rfl rfl rfl hR4 Up.aUpd rfl (Up.upd_all _ _ _ _ _ _) ?_; intro w6 hR6 k6) | fail)
  exact bodyPost_ret (v := updV n v k c R S) (results_blk rfl _ rfl hR6 Up.aUpd) rfl ⟨rfl, k04.then k6 (fun i hi (h : i = w.heap.size + 1) => by omega)⟩

end RUp
end Go.Proofs.Ytpbkdeljhehkdaa
/- Package postmarkseat: names, secrets, keys, requests of few numbers; by contract. -/
namespace Go.Proofs.Ytpbkdeljhehkdaa
open Go.RowKit Go.Pm
namespace Seat

def names : List ByteArray := [⟨#[97]⟩, ⟨#[98]⟩, ⟨#[97, 110, 110]⟩, ⟨#[98, 111, 98]⟩, ⟨#[195, 169]⟩, ⟨#[48, 49, 50, 51, 52, 53, 54, 55, 56, 57, 48, 49, 50, 51, 52, 53, 54, 55, 56, 57, 48, 49, 50, 51, 52, 53, 54, 55, 56, 57, 48, 122]⟩]
/-- Name. -/
def nameS (k : Nat) : ByteArray := names.getD (k % 6) ⟨#[]⟩
theorem nameS_size (k : Nat) : 1 ≤ (nameS k).size ∧ (nameS k).size ≤ 32 := by
  have h : ∀ j, j < 6 → 1 ≤ (names.getD j ⟨#[]⟩).size ∧ (names.getD j ⟨#[]⟩).size ≤ 32 := by decide
  exact h _ (Nat.mod_lt _ (by decide))

set_option maxRecDepth 100000 in
set_option maxHeartbeats 1000000 in
theorem name (k : Nat) (w : World) : Calls Try.prog 9 #[.int .u8 k] w fun e w' => e = .returned (.string (nameS k)) ∧ Kept None w w' := by
  have hk := Nat.mod_lt k (show 0 < 6 by decide)
  have hc : k % 6 = 0 ∨ k % 6 = 1 ∨ k % 6 = 2 ∨ k % 6 = 3 ∨ k % 6 = 4 ∨ k % 6 = 5 := by omega
  have hn : ∀ j, k % 6 = j → nameS k = names.getD j ⟨#[]⟩ := fun j h => by unfold nameS; rw [h]
  rcases hc with h | h | h | h | h | h
  all_goals
    rw [hn _ h]
    have hi : (k : Int) % 6 = ((k % 6 : Nat) : Int) := by omega
    rw [h] at hi
    clear hn hk h
    go_enter Try.func9, Try.ntmps9
    go_wp2
    go_ret
    exact ⟨rfl, (Kept.refl _ _).alloc _⟩

/-- A name's number, byte by byte. -/
def nameI : List UInt8 → Int → Int
  | [], a => a
  | b :: l, a => nameI l (IntKind.u64.wrap (IntKind.u64.wrap (a * 31) + (b.toNat : Int)))
theorem nameI_snoc (l : List UInt8) (b : UInt8) (a : Int) : nameI (l ++ [b]) a = IntKind.u64.wrap (IntKind.u64.wrap (nameI l a * 31) + (b.toNat : Int)) := by
  induction l generalizing a with
  | nil => rfl
  | cons c l ih => exact ih _

theorem name_step (n : ByteArray) (k : Nat) (h : k < n.size) (a : Int) : nameI ((strB n).take (k + 1)) a = IntKind.u64.wrap (IntKind.u64.wrap (nameI ((strB n).take k) a * 31) + IntKind.u64.wrap (n[k].toNat : Int)) := by
  have hk : k < (strB n).length := by rw [strB_len]; exact h
  rw [List.take_succ_eq_append_getElem hk, nameI_snoc]
  have he : (strB n)[k] = n[k] := by simp [strB]; rfl
  rw [he]
  congr 2
  rw [IntKind.wrap_u64]
  have := n[k].toNat_lt
  omega

/-- Secret. -/
def secI (n : ByteArray) (v : Int) (alt : Bool) : Int :=
  let b := IntKind.u64.wrap (IntKind.u64.wrap ((nameI (strB n) (IntKind.u64.wrap ((n.size : Int) * 1000003))).tmod 1000000007 + IntKind.u64.wrap (IntKind.u64.wrap v * 7919)) + 11)
  if alt then IntKind.u64.wrap (b + 500) else b
def secN (n : ByteArray) (v : Int) (alt : Bool) : Nat := (secI n v alt).toNat
theorem secI_ge (n : ByteArray) (v : Int) (alt : Bool) : 0 ≤ secI n v alt := by
  unfold secI
  simp only [IntKind.wrap_u64]
  split <;> omega
theorem secI_lt (n : ByteArray) (v : Int) (alt : Bool) : secI n v alt < 18446744073709551616 := by
  unfold secI
  simp only [IntKind.wrap_u64]
  split <;> omega
theorem secN_eq (n : ByteArray) (v : Int) (alt : Bool) : ((secN n v alt : Nat) : Int) = secI n v alt := Int.toNat_of_nonneg (secI_ge n v alt)
theorem secN_lt (n : ByteArray) (v : Int) (alt : Bool) : secN n v alt < 18446744073709551616 := by
  have := secN_eq n v alt
  have := secI_lt n v alt
  omega

set_option maxRecDepth 100000 in
set_option maxHeartbeats 1000000 in
theorem secret (n : ByteArray) (v : Int) (alt : Bool) (w : World) (hn : n.size ≤ 9223372036854775807) : Calls Try.prog 23 #[.string n, .int .i64 v, .bool alt] w fun e w' => e = .returned (.int .u64 (secN n v alt : Nat)) ∧ w = w' := by
  rw [secN_eq]
  unfold secI
  obtain ⟨A0, hA0⟩ : ∃ A0, A0 = IntKind.u64.wrap ((n.size : Int) * 1000003) := ⟨_, rfl⟩
  have hA1 := hA0.symm
  rw [hA1]
  clear hA0
  obtain ⟨X, hX⟩ : ∃ X, X = nameI (strB n) A0 := ⟨_, rfl⟩
  rw [← hX]
  have HX := hid hX
  clear hX
  go_enter Try.func23, Try.ntmps23
  go_wp2
  go_loop [7, 8] (fun x i => ∃ k : Nat, k ≤ n.size ∧ i = .int .i64 k ∧ x = .int .u64 (nameI ((strB n).take k) A0)) (fun _ i => n.size - (intOf i).toNat)
  case atStart => exact ⟨0, Nat.zero_le _, rfl, rfl⟩
  case round =>
    obtain ⟨k, hk, rfl, rfl⟩ := hrel
    by_cases hlt : k < n.size
    · have hst := name_step n k hlt A0
      go_wp2
      go_round
      case rel => exact ⟨k + 1, by omega, by go_num, by rw [hst]⟩
      case measure => simp [intOf]; omega
    · obtain rfl : k = n.size := by omega
      have hall : (strB n).take n.size = strB n := List.take_of_length_le (by rw [strB_len]; exact Nat.le_refl _)
      rw [hall, ← HX.out]
      clear hall
      cases alt with
      | true =>
        go_wp2
        go_ret
        exact ⟨rfl, rfl⟩
      | false =>
        go_wp2
        go_ret
        exact ⟨rfl, rfl⟩

/-- Key. -/
def keyN (n : ByteArray) (v : Int) (alt : Bool) : Nat := pubN (secN n v alt)
theorem keyN_lt (n : ByteArray) (v : Int) (alt : Bool) : keyN n v alt < 18446744073709551616 := Nat.lt_trans (pubN_lt _) (by decide)
set_option maxHeartbeats 1000000 in
theorem key (n : ByteArray) (v : Int) (alt : Bool) (w : World) (hn : n.size ≤ 9223372036854775807) : Calls Try.prog 22 #[.string n, .int .i64 v, .bool alt] w fun e w' => e = .returned (.int .u64 (keyN n v alt : Nat)) ∧ Kept None w w' := by
  have h1 := fun w => secret n v alt w hn
  have h2 := fun w => Ref.pub (secN n v alt) w
  rw [show pubN (secN n v alt) = keyN n v alt from rfl] at h2
  obtain ⟨S, hS⟩ : ∃ S, S = secN n v alt := ⟨_, rfl⟩
  obtain ⟨K, hK⟩ : ∃ K, K = keyN n v alt := ⟨_, rfl⟩
  rw [← hS] at h1 h2
  rw [← hK] at h2 ⊢
  have H := hid (And.intro h1 h2)
  clear h1 h2 hS hK
  go_enter Try.func22, Try.ntmps22
  go_wp2_with fail
  refine (H.out.1 _).mono ?_
  rintro e w1 ⟨rfl, rfl⟩
  go_wp2_with fail
  refine (H.out.2 _).mono ?_
  rintro e w2 ⟨rfl, k2⟩
  go_wp2
  go_ret
  exact ⟨rfl, k2⟩

/-- Who signs. -/
def byN (n : ByteArray) (v : Int) (b5 b6 : Bool) : Nat := if b5 then (secN n (max (v - 1) 1) (b6 && v == 1) + 3) % 18446744073709551616 else secN n (max (v - 1) 1) (b6 && v == 1)
/-- Update. -/
def reqB (n : ByteArray) (v : Int) (cl : Nat) (b5 b6 b7 : Bool) : Req :=
  let k := keyN n v b6
  ⟨n, v, k, if b7 then 5 else (cl % 2 : Nat), sigR (byN n v b5 b6) (msgB n v k), sigS (byN n v b5 b6) (msgB n v k)⟩
def req (n : ByteArray) (v : Int) (cl how : Nat) : Req := reqB n v cl (how % 8 == 5) (how % 8 == 6) (how % 8 == 7)
end Seat
end Go.Proofs.Ytpbkdeljhehkdaa

/- postmarkseat.Update, where it is right. -/
namespace Go.Proofs.Ytpbkdeljhehkdaa
open Go.RowKit Go.Pm
namespace Seat

set_option maxRecDepth 100000 in
set_option maxHeartbeats 4000000 in
theorem upd_o1 (n : ByteArray) (cl how : Nat) (w : World) (hn : n.size ≤ 32) (e5 : ((how : Int) % 8 == 5) = false) (e6 : ((how : Int) % 8 == 6) = false) (e7 : ((how : Int) % 8 == 7) = false) :
    Calls Try.prog 8 #[.string n, .int .i64 1, .int .u8 cl, .int .u8 how] w fun e w' => e = .returned (reqB n 1 cl false false false).V ∧ Kept None w w' := by
  have j0 := fun w => key n 1 false w (by omega)
  have j1 := fun w => secret n 1 false w (by omega)
  have hby : byN n 1 false false = secN n 1 false := by
    have e1 : max ((1 : Int) - 1) 1 = 1 := by decide
    have e2 : ((1 : Int) == 1) = true := by decide
    unfold byN
    rw [e1, e2]
    rfl
  have hkl := keyN_lt n 1 false
  have j2 := fun w => RUp.sign (byN n 1 false false) n 1 ((cl % 2 : Nat) : Int) (keyN n 1 false) 0 0 w (by omega) hkl
  have hq : (reqB n 1 cl false false false).V = updV n 1 (keyN n 1 false) ((cl % 2 : Nat) : Int) (sigR (byN n 1 false false) (msgB n 1 (keyN n 1 false))) (sigS (byN n 1 false false) (msgB n 1 (keyN n 1 false))) := rfl
  rw [hq]
  have hC : (cl : Int) % 2 = ((cl % 2 : Nat) : Int) := by omega
  have hsl := secN_lt n 1 false
  rw [hby] at j2 ⊢
  clear hq hby
  obtain ⟨C, hCC⟩ : ∃ C : Int, C = ((cl % 2 : Nat) : Int) := ⟨_, rfl⟩
  rw [← hCC] at hC j2 ⊢
  obtain ⟨K, hK⟩ : ∃ K, K = keyN n 1 false := ⟨_, rfl⟩
  rw [← hK] at j0 j2 ⊢
  obtain ⟨B, hB⟩ : ∃ B, B = secN n 1 false := ⟨_, rfl⟩
  rw [← hB] at j1 j2 hsl ⊢
  
  
  
  obtain ⟨R, hR⟩ : ∃ R, R = sigR B (msgB n 1 K) := ⟨_, rfl⟩
  obtain ⟨S, hS⟩ : ∃ S, S = sigS B (msgB n 1 K) := ⟨_, rfl⟩
  rw [← hR, ← hS] at j2 ⊢
  have J := hid (And.intro j0 (And.intro j1 j2))
  clear j0 j1 j2 hCC hK hB hR hS hkl hsl hn
  have k0 : Kept None w ((w.alloc (.cells #[.string ⟨#[]⟩, .int .i64 0, .int .u64 0, .int .i64 0, .int .u64 0, .int .u64 0] 26)).alloc (.cells #[.string n, .int .i64 1, .int .u64 0, .int .i64 C, .int .u64 0, .int .u64 0] 26)) := ((Kept.refl _ _).alloc _).alloc _
  have v0 : Blk ((w.alloc (.cells #[.string ⟨#[]⟩, .int .i64 0, .int .u64 0, .int .i64 0, .int .u64 0, .int .u64 0] 26)).alloc (.cells #[.string n, .int .i64 1, .int .u64 0, .int .i64 C, .int .u64 0, .int .u64 0] 26)) w.heap.size #[.string ⟨#[]⟩, .int .i64 0, .int .u64 0, .int .i64 0, .int .u64 0, .int .u64 0] 26 := (Blk.new w _ _).alloc _
  have u0 := Blk.new2 w (.cells #[.string ⟨#[]⟩, .int .i64 0, .int .u64 0, .int .i64 0, .int .u64 0, .int .u64 0] 26) #[.string n, .int .i64 1, .int .u64 0, .int .i64 C, .int .u64 0, .int .u64 0] 26
  go_enter Try.func8, Try.ntmps8
  go_wp2_with fail
  refine (J.out.1 _).mono ?_
  rintro e w1 ⟨rfl, k1⟩
  have k01 := k0.trans k1
  have v1 := v0.kept k1 (fun h => h)
  have u1 := u0.kept k1 (fun h => h)
  have d2 : w1.cell? ⟨w.heap.size + 1, 2, none⟩ = some (.int .u64 0) := u1.cell 2
  have f2 := u1.free 2
  have u1' : Blk (w1.setCell ⟨w.heap.size + 1, 2, none⟩ (.int .u64 (K : Int))) (w.heap.size + 1) #[.string n, .int .i64 1, .int .u64 (K : Int), .int .i64 C, .int .u64 0, .int .u64 0] 26 := u1.set 2 _
  have v1' := v1.setOther (a := ⟨w.heap.size + 1, 2, none⟩) (by show w.heap.size ≠ w.heap.size + 1; omega) (.int .u64 (K : Int))
  have k01' := k01.setNew (b := w.heap.size + 1) (by omega) 2 (.int .u64 (K : Int))
  clear k0 v0 u0 k1 k01 v1 u1
  go_wp2_with fail
  refine (J.out.2.1 _).mono ?_
  rintro e w2 ⟨rfl, rfl⟩
  go_wp2_with (first | (refine wpList_load_blk rfl _ _ rfl rfl u1' Up.aUpd ?_) | fail)
  refine (J.out.2.2 _).mono ?_
  rintro e w3 ⟨rfl, k3⟩
  have k03 := k01'.trans k3
  have v3 := v1'.kept k3 (fun h => h)
  have u3 := u1'.kept k3 (fun h => h)
  clear k01' v1' u1' k3 d2 f2 J
  go_wp2_with (first | (refine wpList_store_blk rfl _ _ _ rfl rfl rfl u3 Up.aUpd rfl (Up.upd_all _ _ _ _ _ _) ?k4) | fail)
  case k4 =>
    intro w4 u4 k4
    have k04 := k03.then k4 (fun i hi (h : i = w.heap.size + 1) => by omega)
    have v4 := v3.kept k4 (fun (h : w.heap.size = w.heap.size + 1) => by omega)
    clear k03 v3 u3 k4
    go_wp2_with (first | (refine wpList_load_blk rfl _ _ rfl rfl u4 Up.aUpd ?_) | (refine wpList_store_blk rfl _ _ _ rfl rfl rfl v4 Up.aUpd rfl (Up.upd_all _ _ _ _ _ _) ?_; intro w7 hR7 k7) | fail)
    exact bodyPost_ret (v := updV n 1 K C R S) (results_blk rfl _ rfl hR7 Up.aUpd) rfl ⟨rfl, k04.then k7 (fun i hi (h : i = w.heap.size) => by omega)⟩

set_option maxRecDepth 100000 in
set_option maxHeartbeats 4000000 in
theorem upd_o0 (n : ByteArray) (v : Int) (cl how : Nat) (w : World) (hn : n.size ≤ 32) (h1 : 2 ≤ v) (h2 : v ≤ 1000) (e5 : ((how : Int) % 8 == 5) = false) (e6 : ((how : Int) % 8 == 6) = false) (e7 : ((how : Int) % 8 == 7) = false) :
    Calls Try.prog 8 #[.string n, .int .i64 v, .int .u8 cl, .int .u8 how] w fun e w' => e = .returned (reqB n v cl false false false).V ∧ Kept None w w' := by
  have j0 := fun w => key n v false w (by omega)
  have j1 := fun w => secret n (v - 1) false w (by omega)
  have hby : byN n v false false = secN n (v - 1) false := by
    unfold byN
    have e1 : max (v - 1) 1 = v - 1 := by omega
    have e2 : (v == 1) = false := by rw [beq_eq_false_iff_ne]; omega
    rw [e1]; rfl
  have hkl := keyN_lt n v false
  have j2 := fun w => RUp.sign (byN n v false false) n v ((cl % 2 : Nat) : Int) (keyN n v false) 0 0 w (by omega) hkl
  have hq : (reqB n v cl false false false).V = updV n v (keyN n v false) ((cl % 2 : Nat) : Int) (sigR (byN n v false false) (msgB n v (keyN n v false))) (sigS (byN n v false false) (msgB n v (keyN n v false))) := rfl
  rw [hq]
  have hC : (cl : Int) % 2 = ((cl % 2 : Nat) : Int) := by omega
  have hsl := secN_lt n (v - 1) false
  rw [hby] at j2 ⊢
  clear hq hby
  obtain ⟨C, hCC⟩ : ∃ C : Int, C = ((cl % 2 : Nat) : Int) := ⟨_, rfl⟩
  rw [← hCC] at hC j2 ⊢
  obtain ⟨K, hK⟩ : ∃ K, K = keyN n v false := ⟨_, rfl⟩
  rw [← hK] at j0 j2 ⊢
  obtain ⟨B, hB⟩ : ∃ B, B = secN n (v - 1) false := ⟨_, rfl⟩
  rw [← hB] at j1 j2 hsl ⊢
  
  
  
  obtain ⟨R, hR⟩ : ∃ R, R = sigR B (msgB n v K) := ⟨_, rfl⟩
  obtain ⟨S, hS⟩ : ∃ S, S = sigS B (msgB n v K) := ⟨_, rfl⟩
  rw [← hR, ← hS] at j2 ⊢
  have J := hid (And.intro j0 (And.intro j1 j2))
  clear j0 j1 j2 hCC hK hB hR hS hkl hsl hn
  have k0 : Kept None w ((w.alloc (.cells #[.string ⟨#[]⟩, .int .i64 0, .int .u64 0, .int .i64 0, .int .u64 0, .int .u64 0] 26)).alloc (.cells #[.string n, .int .i64 v, .int .u64 0, .int .i64 C, .int .u64 0, .int .u64 0] 26)) := ((Kept.refl _ _).alloc _).alloc _
  have v0 : Blk ((w.alloc (.cells #[.string ⟨#[]⟩, .int .i64 0, .int .u64 0, .int .i64 0, .int .u64 0, .int .u64 0] 26)).alloc (.cells #[.string n, .int .i64 v, .int .u64 0, .int .i64 C, .int .u64 0, .int .u64 0] 26)) w.heap.size #[.string ⟨#[]⟩, .int .i64 0, .int .u64 0, .int .i64 0, .int .u64 0, .int .u64 0] 26 := (Blk.new w _ _).alloc _
  have u0 := Blk.new2 w (.cells #[.string ⟨#[]⟩, .int .i64 0, .int .u64 0, .int .i64 0, .int .u64 0, .int .u64 0] 26) #[.string n, .int .i64 v, .int .u64 0, .int .i64 C, .int .u64 0, .int .u64 0] 26
  go_enter Try.func8, Try.ntmps8
  go_wp2_with fail
  refine (J.out.1 _).mono ?_
  rintro e w1 ⟨rfl, k1⟩
  have k01 := k0.trans k1
  have v1 := v0.kept k1 (fun h => h)
  have u1 := u0.kept k1 (fun h => h)
  have d2 : w1.cell? ⟨w.heap.size + 1, 2, none⟩ = some (.int .u64 0) := u1.cell 2
  have f2 := u1.free 2
  have u1' : Blk (w1.setCell ⟨w.heap.size + 1, 2, none⟩ (.int .u64 (K : Int))) (w.heap.size + 1) #[.string n, .int .i64 v, .int .u64 (K : Int), .int .i64 C, .int .u64 0, .int .u64 0] 26 := u1.set 2 _
  have v1' := v1.setOther (a := ⟨w.heap.size + 1, 2, none⟩) (by show w.heap.size ≠ w.heap.size + 1; omega) (.int .u64 (K : Int))
  have k01' := k01.setNew (b := w.heap.size + 1) (by omega) 2 (.int .u64 (K : Int))
  clear k0 v0 u0 k1 k01 v1 u1
  go_wp2_with fail
  refine (J.out.2.1 _).mono ?_
  rintro e w2 ⟨rfl, rfl⟩
  go_wp2_with (first | (refine wpList_load_blk rfl _ _ rfl rfl u1' Up.aUpd ?_) | fail)
  refine (J.out.2.2 _).mono ?_
  rintro e w3 ⟨rfl, k3⟩
  have k03 := k01'.trans k3
  have v3 := v1'.kept k3 (fun h => h)
  have u3 := u1'.kept k3 (fun h => h)
  clear k01' v1' u1' k3 d2 f2 J
  go_wp2_with (first | (refine wpList_store_blk rfl _ _ _ rfl rfl rfl u3 Up.aUpd rfl (Up.upd_all _ _ _ _ _ _) ?k4) | fail)
  case k4 =>
    intro w4 u4 k4
    have k04 := k03.then k4 (fun i hi (h : i = w.heap.size + 1) => by omega)
    have v4 := v3.kept k4 (fun (h : w.heap.size = w.heap.size + 1) => by omega)
    clear k03 v3 u3 k4
    go_wp2_with (first | (refine wpList_load_blk rfl _ _ rfl rfl u4 Up.aUpd ?_) | (refine wpList_store_blk rfl _ _ _ rfl rfl rfl v4 Up.aUpd rfl (Up.upd_all _ _ _ _ _ _) ?_; intro w7 hR7 k7) | fail)
    exact bodyPost_ret (v := updV n v K C R S) (results_blk rfl _ rfl hR7 Up.aUpd) rfl ⟨rfl, k04.then k7 (fun i hi (h : i = w.heap.size) => by omega)⟩
end Seat
end Go.Proofs.Ytpbkdeljhehkdaa

/- postmarkseat.Update, where another one signs. -/
namespace Go.Proofs.Ytpbkdeljhehkdaa
open Go.RowKit Go.Pm
namespace Seat

set_option maxRecDepth 100000 in
set_option maxHeartbeats 4000000 in
theorem upd_a1 (n : ByteArray) (cl how : Nat) (w : World) (hn : n.size ≤ 32) (e5 : ((how : Int) % 8 == 5) = true) (e6 : ((how : Int) % 8 == 6) = false) (e7 : ((how : Int) % 8 == 7) = false) :
    Calls Try.prog 8 #[.string n, .int .i64 1, .int .u8 cl, .int .u8 how] w fun e w' => e = .returned (reqB n 1 cl true false false).V ∧ Kept None w w' := by
  have j0 := fun w => key n 1 false w (by omega)
  have j1 := fun w => secret n 1 false w (by omega)
  have hby : byN n 1 true false = (secN n 1 false + 3) % 18446744073709551616 := by
    have e1 : max ((1 : Int) - 1) 1 = 1 := by decide
    have e2 : ((1 : Int) == 1) = true := by decide
    unfold byN
    rw [e1, e2]
    rfl
  have hkl := keyN_lt n 1 false
  have j2 := fun w => RUp.sign (byN n 1 true false) n 1 ((cl % 2 : Nat) : Int) (keyN n 1 false) 0 0 w (by omega) hkl
  have hq : (reqB n 1 cl true false false).V = updV n 1 (keyN n 1 false) ((cl % 2 : Nat) : Int) (sigR (byN n 1 true false) (msgB n 1 (keyN n 1 false))) (sigS (byN n 1 true false) (msgB n 1 (keyN n 1 false))) := rfl
  rw [hq]
  have hC : (cl : Int) % 2 = ((cl % 2 : Nat) : Int) := by omega
  have hsl := secN_lt n 1 false
  rw [hby] at j2 ⊢
  clear hq hby
  obtain ⟨C, hCC⟩ : ∃ C : Int, C = ((cl % 2 : Nat) : Int) := ⟨_, rfl⟩
  rw [← hCC] at hC j2 ⊢
  obtain ⟨K, hK⟩ : ∃ K, K = keyN n 1 false := ⟨_, rfl⟩
  rw [← hK] at j0 j2 ⊢
  obtain ⟨B, hB⟩ : ∃ B, B = secN n 1 false := ⟨_, rfl⟩
  rw [← hB] at j1 j2 hsl ⊢
  have hb3 : IntKind.u64.wrap ((B : Int) + 3) = (((B + 3) % 18446744073709551616 : Nat) : Int) := by rw [IntKind.wrap_u64]; omega
  obtain ⟨B3, hB3⟩ : ∃ B3, B3 = (B + 3) % 18446744073709551616 := ⟨_, rfl⟩
  rw [← hB3] at hb3 j2 ⊢
  obtain ⟨R, hR⟩ : ∃ R, R = sigR B3 (msgB n 1 K) := ⟨_, rfl⟩
  obtain ⟨S, hS⟩ : ∃ S, S = sigS B3 (msgB n 1 K) := ⟨_, rfl⟩
  rw [← hR, ← hS] at j2 ⊢
  have J := hid (And.intro j0 (And.intro j1 j2))
  clear j0 j1 j2 hCC hK hB hR hS hkl hsl hn hB3
  have k0 : Kept None w ((w.alloc (.cells #[.string ⟨#[]⟩, .int .i64 0, .int .u64 0, .int .i64 0, .int .u64 0, .int .u64 0] 26)).alloc (.cells #[.string n, .int .i64 1, .int .u64 0, .int .i64 C, .int .u64 0, .int .u64 0] 26)) := ((Kept.refl _ _).alloc _).alloc _
  have v0 : Blk ((w.alloc (.cells #[.string ⟨#[]⟩, .int .i64 0, .int .u64 0, .int .i64 0, .int .u64 0, .int .u64 0] 26)).alloc (.cells #[.string n, .int .i64 1, .int .u64 0, .int .i64 C, .int .u64 0, .int .u64 0] 26)) w.heap.size #[.string ⟨#[]⟩, .int .i64 0, .int .u64 0, .int .i64 0, .int .u64 0, .int .u64 0] 26 := (Blk.new w _ _).alloc _
  have u0 := Blk.new2 w (.cells #[.string ⟨#[]⟩, .int .i64 0, .int .u64 0, .int .i64 0, .int .u64 0, .int .u64 0] 26) #[.string n, .int .i64 1, .int .u64 0, .int .i64 C, .int .u64 0, .int .u64 0] 26
  go_enter Try.func8, Try.ntmps8
  go_wp2_with fail
  refine (J.out.1 _).mono ?_
  rintro e w1 ⟨rfl, k1⟩
  have k01 := k0.trans k1
  have v1 := v0.kept k1 (fun h => h)
  have u1 := u0.kept k1 (fun h => h)
  have d2 : w1.cell? ⟨w.heap.size + 1, 2, none⟩ = some (.int .u64 0) := u1.cell 2
  have f2 := u1.free 2
  have u1' : Blk (w1.setCell ⟨w.heap.size + 1, 2, none⟩ (.int .u64 (K : Int))) (w.heap.size + 1) #[.string n, .int .i64 1, .int .u64 (K : Int), .int .i64 C, .int .u64 0, .int .u64 0] 26 := u1.set 2 _
  have v1' := v1.setOther (a := ⟨w.heap.size + 1, 2, none⟩) (by show w.heap.size ≠ w.heap.size + 1; omega) (.int .u64 (K : Int))
  have k01' := k01.setNew (b := w.heap.size + 1) (by omega) 2 (.int .u64 (K : Int))
  clear k0 v0 u0 k1 k01 v1 u1
  go_wp2_with fail
  refine (J.out.2.1 _).mono ?_
  rintro e w2 ⟨rfl, rfl⟩
  go_wp2_with (first | (refine wpList_load_blk rfl _ _ rfl rfl u1' Up.aUpd ?_) | fail)
  refine (J.out.2.2 _).mono ?_
  rintro e w3 ⟨rfl, k3⟩
  have k03 := k01'.trans k3
  have v3 := v1'.kept k3 (fun h => h)
  have u3 := u1'.kept k3 (fun h => h)
  clear k01' v1' u1' k3 d2 f2 J
  go_wp2_with (first | (refine wpList_store_blk rfl _ _ _ rfl rfl rfl u3 Up.aUpd rfl (Up.upd_all _ _ _ _ _ _) ?k4) | fail)
  case k4 =>
    intro w4 u4 k4
    have k04 := k03.then k4 (fun i hi (h : i = w.heap.size + 1) => by omega)
    have v4 := v3.kept k4 (fun (h : w.heap.size = w.heap.size + 1) => by omega)
    clear k03 v3 u3 k4
    go_wp2_with (first | (refine wpList_load_blk rfl _ _ rfl rfl u4 Up.aUpd ?_) | (refine wpList_store_blk rfl _ _ _ rfl rfl rfl v4 Up.aUpd rfl (Up.upd_all _ _ _ _ _ _) ?_; intro w7 hR7 k7) | fail)
    exact bodyPost_ret (v := updV n 1 K C R S) (results_blk rfl _ rfl hR7 Up.aUpd) rfl ⟨rfl, k04.then k7 (fun i hi (h : i = w.heap.size) => by omega)⟩

set_option maxRecDepth 100000 in
set_option maxHeartbeats 4000000 in
theorem upd_a0 (n : ByteArray) (v : Int) (cl how : Nat) (w : World) (hn : n.size ≤ 32) (h1 : 2 ≤ v) (h2 : v ≤ 1000) (e5 : ((how : Int) % 8 == 5) = true) (e6 : ((how : Int) % 8 == 6) = false) (e7 : ((how : Int) % 8 == 7) = false) :
    Calls Try.prog 8 #[.string n, .int .i64 v, .int .u8 cl, .int .u8 how] w fun e w' => e = .returned (reqB n v cl true false false).V ∧ Kept None w w' := by
  have j0 := fun w => key n v false w (by omega)
  have j1 := fun w => secret n (v - 1) false w (by omega)
  have hby : byN n v true false = (secN n (v - 1) false + 3) % 18446744073709551616 := by
    unfold byN
    have e1 : max (v - 1) 1 = v - 1 := by omega
    have e2 : (v == 1) = false := by rw [beq_eq_false_iff_ne]; omega
    rw [e1]; rfl
  have hkl := keyN_lt n v false
  have j2 := fun w => RUp.sign (byN n v true false) n v ((cl % 2 : Nat) : Int) (keyN n v false) 0 0 w (by omega) hkl
  have hq : (reqB n v cl true false false).V = updV n v (keyN n v false) ((cl % 2 : Nat) : Int) (sigR (byN n v true false) (msgB n v (keyN n v false))) (sigS (byN n v true false) (msgB n v (keyN n v false))) := rfl
  rw [hq]
  have hC : (cl : Int) % 2 = ((cl % 2 : Nat) : Int) := by omega
  have hsl := secN_lt n (v - 1) false
  rw [hby] at j2 ⊢
  clear hq hby
  obtain ⟨C, hCC⟩ : ∃ C : Int, C = ((cl % 2 : Nat) : Int) := ⟨_, rfl⟩
  rw [← hCC] at hC j2 ⊢
  obtain ⟨K, hK⟩ : ∃ K, K = keyN n v false := ⟨_, rfl⟩
  rw [← hK] at j0 j2 ⊢
  obtain ⟨B, hB⟩ : ∃ B, B = secN n (v - 1) false := ⟨_, rfl⟩
  rw [← hB] at j1 j2 hsl ⊢
  have hb3 : IntKind.u64.wrap ((B : Int) + 3) = (((B + 3) % 18446744073709551616 : Nat) : Int) := by rw [IntKind.wrap_u64]; omega
  obtain ⟨B3, hB3⟩ : ∃ B3, B3 = (B + 3) % 18446744073709551616 := ⟨_, rfl⟩
  rw [← hB3] at hb3 j2 ⊢
  obtain ⟨R, hR⟩ : ∃ R, R = sigR B3 (msgB n v K) := ⟨_, rfl⟩
  obtain ⟨S, hS⟩ : ∃ S, S = sigS B3 (msgB n v K) := ⟨_, rfl⟩
  rw [← hR, ← hS] at j2 ⊢
  have J := hid (And.intro j0 (And.intro j1 j2))
  clear j0 j1 j2 hCC hK hB hR hS hkl hsl hn hB3
  have k0 : Kept None w ((w.alloc (.cells #[.string ⟨#[]⟩, .int .i64 0, .int .u64 0, .int .i64 0, .int .u64 0, .int .u64 0] 26)).alloc (.cells #[.string n, .int .i64 v, .int .u64 0, .int .i64 C, .int .u64 0, .int .u64 0] 26)) := ((Kept.refl _ _).alloc _).alloc _
  have v0 : Blk ((w.alloc (.cells #[.string ⟨#[]⟩, .int .i64 0, .int .u64 0, .int .i64 0, .int .u64 0, .int .u64 0] 26)).alloc (.cells #[.string n, .int .i64 v, .int .u64 0, .int .i64 C, .int .u64 0, .int .u64 0] 26)) w.heap.size #[.string ⟨#[]⟩, .int .i64 0, .int .u64 0, .int .i64 0, .int .u64 0, .int .u64 0] 26 := (Blk.new w _ _).alloc _
  have u0 := Blk.new2 w (.cells #[.string ⟨#[]⟩, .int .i64 0, .int .u64 0, .int .i64 0, .int .u64 0, .int .u64 0] 26) #[.string n, .int .i64 v, .int .u64 0, .int .i64 C, .int .u64 0, .int .u64 0] 26
  go_enter Try.func8, Try.ntmps8
  go_wp2_with fail
  refine (J.out.1 _).mono ?_
  rintro e w1 ⟨rfl, k1⟩
  have k01 := k0.trans k1
  have v1 := v0.kept k1 (fun h => h)
  have u1 := u0.kept k1 (fun h => h)
  have d2 : w1.cell? ⟨w.heap.size + 1, 2, none⟩ = some (.int .u64 0) := u1.cell 2
  have f2 := u1.free 2
  have u1' : Blk (w1.setCell ⟨w.heap.size + 1, 2, none⟩ (.int .u64 (K : Int))) (w.heap.size + 1) #[.string n, .int .i64 v, .int .u64 (K : Int), .int .i64 C, .int .u64 0, .int .u64 0] 26 := u1.set 2 _
  have v1' := v1.setOther (a := ⟨w.heap.size + 1, 2, none⟩) (by show w.heap.size ≠ w.heap.size + 1; omega) (.int .u64 (K : Int))
  have k01' := k01.setNew (b := w.heap.size + 1) (by omega) 2 (.int .u64 (K : Int))
  clear k0 v0 u0 k1 k01 v1 u1
  go_wp2_with fail
  refine (J.out.2.1 _).mono ?_
  rintro e w2 ⟨rfl, rfl⟩
  go_wp2_with (first | (refine wpList_load_blk rfl _ _ rfl rfl u1' Up.aUpd ?_) | fail)
  refine (J.out.2.2 _).mono ?_
  rintro e w3 ⟨rfl, k3⟩
  have k03 := k01'.trans k3
  have v3 := v1'.kept k3 (fun h => h)
  have u3 := u1'.kept k3 (fun h => h)
  clear k01' v1' u1' k3 d2 f2 J
  go_wp2_with (first | (refine wpList_store_blk rfl _ _ _ rfl rfl rfl u3 Up.aUpd rfl (Up.upd_all _ _ _ _ _ _) ?k4) | fail)
  case k4 =>
    intro w4 u4 k4
    have k04 := k03.then k4 (fun i hi (h : i = w.heap.size + 1) => by omega)
    have v4 := v3.kept k4 (fun (h : w.heap.size = w.heap.size + 1) => by omega)
    clear k03 v3 u3 k4
    go_wp2_with (first | (refine wpList_load_blk rfl _ _ rfl rfl u4 Up.aUpd ?_) | (refine wpList_store_blk rfl _ _ _ rfl rfl rfl v4 Up.aUpd rfl (Up.upd_all _ _ _ _ _ _) ?_; intro w7 hR7 k7) | fail)
    exact bodyPost_ret (v := updV n v K C R S) (results_blk rfl _ rfl hR7 Up.aUpd) rfl ⟨rfl, k04.then k7 (fun i hi (h : i = w.heap.size) => by omega)⟩
end Seat
end Go.Proofs.Ytpbkdeljhehkdaa

/- postmarkseat.Update, where it has another key. -/
namespace Go.Proofs.Ytpbkdeljhehkdaa
open Go.RowKit Go.Pm
namespace Seat

set_option maxRecDepth 100000 in
set_option maxHeartbeats 4000000 in
theorem upd_b1 (n : ByteArray) (cl how : Nat) (w : World) (hn : n.size ≤ 32) (e5 : ((how : Int) % 8 == 5) = false) (e6 : ((how : Int) % 8 == 6) = true) (e7 : ((how : Int) % 8 == 7) = false) :
    Calls Try.prog 8 #[.string n, .int .i64 1, .int .u8 cl, .int .u8 how] w fun e w' => e = .returned (reqB n 1 cl false true false).V ∧ Kept None w w' := by
  have j0 := fun w => key n 1 true w (by omega)
  have j1 := fun w => secret n 1 true w (by omega)
  have hby : byN n 1 false true = secN n 1 true := by
    have e1 : max ((1 : Int) - 1) 1 = 1 := by decide
    have e2 : ((1 : Int) == 1) = true := by decide
    unfold byN
    rw [e1, e2]
    rfl
  have hkl := keyN_lt n 1 true
  have j2 := fun w => RUp.sign (byN n 1 false true) n 1 ((cl % 2 : Nat) : Int) (keyN n 1 true) 0 0 w (by omega) hkl
  have hq : (reqB n 1 cl false true false).V = updV n 1 (keyN n 1 true) ((cl % 2 : Nat) : Int) (sigR (byN n 1 false true) (msgB n 1 (keyN n 1 true))) (sigS (byN n 1 false true) (msgB n 1 (keyN n 1 true))) := rfl
  rw [hq]
  have hC : (cl : Int) % 2 = ((cl % 2 : Nat) : Int) := by omega
  have hsl := secN_lt n 1 true
  rw [hby] at j2 ⊢
  clear hq hby
  obtain ⟨C, hCC⟩ : ∃ C : Int, C = ((cl % 2 : Nat) : Int) := ⟨_, rfl⟩
  rw [← hCC] at hC j2 ⊢
  obtain ⟨K, hK⟩ : ∃ K, K = keyN n 1 true := ⟨_, rfl⟩
  rw [← hK] at j0 j2 ⊢
  obtain ⟨B, hB⟩ : ∃ B, B = secN n 1 true := ⟨_, rfl⟩
  rw [← hB] at j1 j2 hsl ⊢
  
  
  
  obtain ⟨R, hR⟩ : ∃ R, R = sigR B (msgB n 1 K) := ⟨_, rfl⟩
  obtain ⟨S, hS⟩ : ∃ S, S = sigS B (msgB n 1 K) := ⟨_, rfl⟩
  rw [← hR, ← hS] at j2 ⊢
  have J := hid (And.intro j0 (And.intro j1 j2))
  clear j0 j1 j2 hCC hK hB hR hS hkl hsl hn
  have k0 : Kept None w ((w.alloc (.cells #[.string ⟨#[]⟩, .int .i64 0, .int .u64 0, .int .i64 0, .int .u64 0, .int .u64 0] 26)).alloc (.cells #[.string n, .int .i64 1, .int .u64 0, .int .i64 C, .int .u64 0, .int .u64 0] 26)) := ((Kept.refl _ _).alloc _).alloc _
  have v0 : Blk ((w.alloc (.cells #[.string ⟨#[]⟩, .int .i64 0, .int .u64 0, .int .i64 0, .int .u64 0, .int .u64 0] 26)).alloc (.cells #[.string n, .int .i64 1, .int .u64 0, .int .i64 C, .int .u64 0, .int .u64 0] 26)) w.heap.size #[.string ⟨#[]⟩, .int .i64 0, .int .u64 0, .int .i64 0, .int .u64 0, .int .u64 0] 26 := (Blk.new w _ _).alloc _
  have u0 := Blk.new2 w (.cells #[.string ⟨#[]⟩, .int .i64 0, .int .u64 0, .int .i64 0, .int .u64 0, .int .u64 0] 26) #[.string n, .int .i64 1, .int .u64 0, .int .i64 C, .int .u64 0, .int .u64 0] 26
  go_enter Try.func8, Try.ntmps8
  go_wp2_with fail
  refine (J.out.1 _).mono ?_
  rintro e w1 ⟨rfl, k1⟩
  have k01 := k0.trans k1
  have v1 := v0.kept k1 (fun h => h)
  have u1 := u0.kept k1 (fun h => h)
  have d2 : w1.cell? ⟨w.heap.size + 1, 2, none⟩ = some (.int .u64 0) := u1.cell 2
  have f2 := u1.free 2
  have u1' : Blk (w1.setCell ⟨w.heap.size + 1, 2, none⟩ (.int .u64 (K : Int))) (w.heap.size + 1) #[.string n, .int .i64 1, .int .u64 (K : Int), .int .i64 C, .int .u64 0, .int .u64 0] 26 := u1.set 2 _
  have v1' := v1.setOther (a := ⟨w.heap.size + 1, 2, none⟩) (by show w.heap.size ≠ w.heap.size + 1; omega) (.int .u64 (K : Int))
  have k01' := k01.setNew (b := w.heap.size + 1) (by omega) 2 (.int .u64 (K : Int))
  clear k0 v0 u0 k1 k01 v1 u1
  go_wp2_with fail
  refine (J.out.2.1 _).mono ?_
  rintro e w2 ⟨rfl, rfl⟩
  go_wp2_with (first | (refine wpList_load_blk rfl _ _ rfl rfl u1' Up.aUpd ?_) | fail)
  refine (J.out.2.2 _).mono ?_
  rintro e w3 ⟨rfl, k3⟩
  have k03 := k01'.trans k3
  have v3 := v1'.kept k3 (fun h => h)
  have u3 := u1'.kept k3 (fun h => h)
  clear k01' v1' u1' k3 d2 f2 J
  go_wp2_with (first | (refine wpList_store_blk rfl _ _ _ rfl rfl rfl u3 Up.aUpd rfl (Up.upd_all _ _ _ _ _ _) ?k4) | fail)
  case k4 =>
    intro w4 u4 k4
    have k04 := k03.then k4 (fun i hi (h : i = w.heap.size + 1) => by omega)
    have v4 := v3.kept k4 (fun (h : w.heap.size = w.heap.size + 1) => by omega)
    clear k03 v3 u3 k4
    go_wp2_with (first | (refine wpList_load_blk rfl _ _ rfl rfl u4 Up.aUpd ?_) | (refine wpList_store_blk rfl _ _ _ rfl rfl rfl v4 Up.aUpd rfl (Up.upd_all _ _ _ _ _ _) ?_; intro w7 hR7 k7) | fail)
    exact bodyPost_ret (v := updV n 1 K C R S) (results_blk rfl _ rfl hR7 Up.aUpd) rfl ⟨rfl, k04.then k7 (fun i hi (h : i = w.heap.size) => by omega)⟩

set_option maxRecDepth 100000 in
set_option maxHeartbeats 4000000 in
theorem upd_b0 (n : ByteArray) (v : Int) (cl how : Nat) (w : World) (hn : n.size ≤ 32) (h1 : 2 ≤ v) (h2 : v ≤ 1000) (e5 : ((how : Int) % 8 == 5) = false) (e6 : ((how : Int) % 8 == 6) = true) (e7 : ((how : Int) % 8 == 7) = false) :
    Calls Try.prog 8 #[.string n, .int .i64 v, .int .u8 cl, .int .u8 how] w fun e w' => e = .returned (reqB n v cl false true false).V ∧ Kept None w w' := by
  have j0 := fun w => key n v true w (by omega)
  have ev : (v == 1) = false := by rw [beq_eq_false_iff_ne]; omega
  have j1 := fun w => secret n (v - 1) false w (by omega)
  have hby : byN n v false true = secN n (v - 1) false := by
    unfold byN
    have e1 : max (v - 1) 1 = v - 1 := by omega
    have e2 : (v == 1) = false := by rw [beq_eq_false_iff_ne]; omega
    rw [e1, e2]; rfl
  have hkl := keyN_lt n v true
  have j2 := fun w => RUp.sign (byN n v false true) n v ((cl % 2 : Nat) : Int) (keyN n v true) 0 0 w (by omega) hkl
  have hq : (reqB n v cl false true false).V = updV n v (keyN n v true) ((cl % 2 : Nat) : Int) (sigR (byN n v false true) (msgB n v (keyN n v true))) (sigS (byN n v false true) (msgB n v (keyN n v true))) := rfl
  rw [hq]
  have hC : (cl : Int) % 2 = ((cl % 2 : Nat) : Int) := by omega
  have hsl := secN_lt n (v - 1) false
  rw [hby] at j2 ⊢
  clear hq hby
  obtain ⟨C, hCC⟩ : ∃ C : Int, C = ((cl % 2 : Nat) : Int) := ⟨_, rfl⟩
  rw [← hCC] at hC j2 ⊢
  obtain ⟨K, hK⟩ : ∃ K, K = keyN n v true := ⟨_, rfl⟩
  rw [← hK] at j0 j2 ⊢
  obtain ⟨B, hB⟩ : ∃ B, B = secN n (v - 1) false := ⟨_, rfl⟩
  rw [← hB] at j1 j2 hsl ⊢
  
  
  
  obtain ⟨R, hR⟩ : ∃ R, R = sigR B (msgB n v K) := ⟨_, rfl⟩
  obtain ⟨S, hS⟩ : ∃ S, S = sigS B (msgB n v K) := ⟨_, rfl⟩
  rw [← hR, ← hS] at j2 ⊢
  have J := hid (And.intro j0 (And.intro j1 j2))
  clear j0 j1 j2 hCC hK hB hR hS hkl hsl hn
  have k0 : Kept None w ((w.alloc (.cells #[.string ⟨#[]⟩, .int .i64 0, .int .u64 0, .int .i64 0, .int .u64 0, .int .u64 0] 26)).alloc (.cells #[.string n, .int .i64 v, .int .u64 0, .int .i64 C, .int .u64 0, .int .u64 0] 26)) := ((Kept.refl _ _).alloc _).alloc _
  have v0 : Blk ((w.alloc (.cells #[.string ⟨#[]⟩, .int .i64 0, .int .u64 0, .int .i64 0, .int .u64 0, .int .u64 0] 26)).alloc (.cells #[.string n, .int .i64 v, .int .u64 0, .int .i64 C, .int .u64 0, .int .u64 0] 26)) w.heap.size #[.string ⟨#[]⟩, .int .i64 0, .int .u64 0, .int .i64 0, .int .u64 0, .int .u64 0] 26 := (Blk.new w _ _).alloc _
  have u0 := Blk.new2 w (.cells #[.string ⟨#[]⟩, .int .i64 0, .int .u64 0, .int .i64 0, .int .u64 0, .int .u64 0] 26) #[.string n, .int .i64 v, .int .u64 0, .int .i64 C, .int .u64 0, .int .u64 0] 26
  go_enter Try.func8, Try.ntmps8
  go_wp2_with fail
  refine (J.out.1 _).mono ?_
  rintro e w1 ⟨rfl, k1⟩
  have k01 := k0.trans k1
  have v1 := v0.kept k1 (fun h => h)
  have u1 := u0.kept k1 (fun h => h)
  have d2 : w1.cell? ⟨w.heap.size + 1, 2, none⟩ = some (.int .u64 0) := u1.cell 2
  have f2 := u1.free 2
  have u1' : Blk (w1.setCell ⟨w.heap.size + 1, 2, none⟩ (.int .u64 (K : Int))) (w.heap.size + 1) #[.string n, .int .i64 v, .int .u64 (K : Int), .int .i64 C, .int .u64 0, .int .u64 0] 26 := u1.set 2 _
  have v1' := v1.setOther (a := ⟨w.heap.size + 1, 2, none⟩) (by show w.heap.size ≠ w.heap.size + 1; omega) (.int .u64 (K : Int))
  have k01' := k01.setNew (b := w.heap.size + 1) (by omega) 2 (.int .u64 (K : Int))
  clear k0 v0 u0 k1 k01 v1 u1
  go_wp2_with fail
  refine (J.out.2.1 _).mono ?_
  rintro e w2 ⟨rfl, rfl⟩
  go_wp2_with (first | (refine wpList_load_blk rfl _ _ rfl rfl u1' Up.aUpd ?_) | fail)
  refine (J.out.2.2 _).mono ?_
  rintro e w3 ⟨rfl, k3⟩
  have k03 := k01'.trans k3
  have v3 := v1'.kept k3 (fun h => h)
  have u3 := u1'.kept k3 (fun h => h)
  clear k01' v1' u1' k3 d2 f2 J
  go_wp2_with (first | (refine wpList_store_blk rfl _ _ _ rfl rfl rfl u3 Up.aUpd rfl (Up.upd_all _ _ _ _ _ _) ?k4) | fail)
  case k4 =>
    intro w4 u4 k4
    have k04 := k03.then k4 (fun i hi (h : i = w.heap.size + 1) => by omega)
    have v4 := v3.kept k4 (fun (h : w.heap.size = w.heap.size + 1) => by omega)
    clear k03 v3 u3 k4
    go_wp2_with (first | (refine wpList_load_blk rfl _ _ rfl rfl u4 Up.aUpd ?_) | (refine wpList_store_blk rfl _ _ _ rfl rfl rfl v4 Up.aUpd rfl (Up.upd_all _ _ _ _ _ _) ?_; intro w7 hR7 k7) | fail)
    exact bodyPost_ret (v := updV n v K C R S) (results_blk rfl _ rfl hR7 Up.aUpd) rfl ⟨rfl, k04.then k7 (fun i hi (h : i = w.heap.size) => by omega)⟩
end Seat
end Go.Proofs.Ytpbkdeljhehkdaa

/- postmarkseat.Update, where it has no class. -/
namespace Go.Proofs.Ytpbkdeljhehkdaa
open Go.RowKit Go.Pm
namespace Seat

set_option maxRecDepth 100000 in
set_option maxHeartbeats 4000000 in
theorem upd_c1 (n : ByteArray) (cl how : Nat) (w : World) (hn : n.size ≤ 32) (e5 : ((how : Int) % 8 == 5) = false) (e6 : ((how : Int) % 8 == 6) = false) (e7 : ((how : Int) % 8 == 7) = true) :
    Calls Try.prog 8 #[.string n, .int .i64 1, .int .u8 cl, .int .u8 how] w fun e w' => e = .returned (reqB n 1 cl false false true).V ∧ Kept None w w' := by
  have j0 := fun w => key n 1 false w (by omega)
  have j1 := fun w => secret n 1 false w (by omega)
  have hby : byN n 1 false false = secN n 1 false := by
    have e1 : max ((1 : Int) - 1) 1 = 1 := by decide
    have e2 : ((1 : Int) == 1) = true := by decide
    unfold byN
    rw [e1, e2]
    rfl
  have hkl := keyN_lt n 1 false
  have j2 := fun w => RUp.sign (byN n 1 false false) n 1 ((cl % 2 : Nat) : Int) (keyN n 1 false) 0 0 w (by omega) hkl
  have hq : (reqB n 1 cl false false true).V = updV n 1 (keyN n 1 false) 5 (sigR (byN n 1 false false) (msgB n 1 (keyN n 1 false))) (sigS (byN n 1 false false) (msgB n 1 (keyN n 1 false))) := rfl
  rw [hq]
  have hC : (cl : Int) % 2 = ((cl % 2 : Nat) : Int) := by omega
  have hsl := secN_lt n 1 false
  rw [hby] at j2 ⊢
  clear hq hby
  obtain ⟨C, hCC⟩ : ∃ C : Int, C = ((cl % 2 : Nat) : Int) := ⟨_, rfl⟩
  rw [← hCC] at hC j2
  obtain ⟨K, hK⟩ : ∃ K, K = keyN n 1 false := ⟨_, rfl⟩
  rw [← hK] at j0 j2 ⊢
  obtain ⟨B, hB⟩ : ∃ B, B = secN n 1 false := ⟨_, rfl⟩
  rw [← hB] at j1 j2 hsl ⊢
  
  
  
  obtain ⟨R, hR⟩ : ∃ R, R = sigR B (msgB n 1 K) := ⟨_, rfl⟩
  obtain ⟨S, hS⟩ : ∃ S, S = sigS B (msgB n 1 K) := ⟨_, rfl⟩
  rw [← hR, ← hS] at j2 ⊢
  have J := hid (And.intro j0 (And.intro j1 j2))
  clear j0 j1 j2 hCC hK hB hR hS hkl hsl hn
  have k0 : Kept None w ((w.alloc (.cells #[.string ⟨#[]⟩, .int .i64 0, .int .u64 0, .int .i64 0, .int .u64 0, .int .u64 0] 26)).alloc (.cells #[.string n, .int .i64 1, .int .u64 0, .int .i64 C, .int .u64 0, .int .u64 0] 26)) := ((Kept.refl _ _).alloc _).alloc _
  have v0 : Blk ((w.alloc (.cells #[.string ⟨#[]⟩, .int .i64 0, .int .u64 0, .int .i64 0, .int .u64 0, .int .u64 0] 26)).alloc (.cells #[.string n, .int .i64 1, .int .u64 0, .int .i64 C, .int .u64 0, .int .u64 0] 26)) w.heap.size #[.string ⟨#[]⟩, .int .i64 0, .int .u64 0, .int .i64 0, .int .u64 0, .int .u64 0] 26 := (Blk.new w _ _).alloc _
  have u0 := Blk.new2 w (.cells #[.string ⟨#[]⟩, .int .i64 0, .int .u64 0, .int .i64 0, .int .u64 0, .int .u64 0] 26) #[.string n, .int .i64 1, .int .u64 0, .int .i64 C, .int .u64 0, .int .u64 0] 26
  go_enter Try.func8, Try.ntmps8
  go_wp2_with fail
  refine (J.out.1 _).mono ?_
  rintro e w1 ⟨rfl, k1⟩
  have k01 := k0.trans k1
  have v1 := v0.kept k1 (fun h => h)
  have u1 := u0.kept k1 (fun h => h)
  have d2 : w1.cell? ⟨w.heap.size + 1, 2, none⟩ = some (.int .u64 0) := u1.cell 2
  have f2 := u1.free 2
  have u1' : Blk (w1.setCell ⟨w.heap.size + 1, 2, none⟩ (.int .u64 (K : Int))) (w.heap.size + 1) #[.string n, .int .i64 1, .int .u64 (K : Int), .int .i64 C, .int .u64 0, .int .u64 0] 26 := u1.set 2 _
  have v1' := v1.setOther (a := ⟨w.heap.size + 1, 2, none⟩) (by show w.heap.size ≠ w.heap.size + 1; omega) (.int .u64 (K : Int))
  have k01' := k01.setNew (b := w.heap.size + 1) (by omega) 2 (.int .u64 (K : Int))
  clear k0 v0 u0 k1 k01 v1 u1
  go_wp2_with fail
  refine (J.out.2.1 _).mono ?_
  rintro e w2 ⟨rfl, rfl⟩
  go_wp2_with (first | (refine wpList_load_blk rfl _ _ rfl rfl u1' Up.aUpd ?_) | fail)
  refine (J.out.2.2 _).mono ?_
  rintro e w3 ⟨rfl, k3⟩
  have k03 := k01'.trans k3
  have v3 := v1'.kept k3 (fun h => h)
  have u3 := u1'.kept k3 (fun h => h)
  clear k01' v1' u1' k3 d2 f2 J
  go_wp2_with (first | (refine wpList_store_blk rfl _ _ _ rfl rfl rfl u3 Up.aUpd rfl (Up.upd_all _ _ _ _ _ _) ?k4) | fail)
  case k4 =>
    intro w4 u4 k4
    have k04 := k03.then k4 (fun i hi (h : i = w.heap.size + 1) => by omega)
    have v4 := v3.kept k4 (fun (h : w.heap.size = w.heap.size + 1) => by omega)
    have d3 : w4.cell? ⟨w.heap.size + 1, 3, none⟩ = some (.int .i64 C) := u4.cell 3
    have f3 := u4.free 3
    have u4' : Blk (w4.setCell ⟨w.heap.size + 1, 3, none⟩ (.int .i64 5)) (w.heap.size + 1) #[.string n, .int .i64 1, .int .u64 (K : Int), .int .i64 5, .int .u64 (R : Int), .int .u64 (S : Int)] 26 := u4.set 3 _
    have v4' := v4.setOther (a := ⟨w.heap.size + 1, 3, none⟩) (by show w.heap.size ≠ w.heap.size + 1; omega) (.int .i64 5)
    have k04' := k04.setNew (b := w.heap.size + 1) (by omega) 3 (.int .i64 5)
    clear k03 v3 u3 k4 u4 v4 k04
    go_wp2_with (first | (refine wpList_load_blk rfl _ _ rfl rfl u4' Up.aUpd ?_) | (refine wpList_store_blk rfl _ _ _ rfl rfl rfl v4' Up.aUpd rfl (Up.upd_all _ _ _ _ _ _) ?_; intro w7 hR7 k7) | fail)
    exact bodyPost_ret (v := updV n 1 K 5 R S) (results_blk rfl _ rfl hR7 Up.aUpd) rfl ⟨rfl, k04'.then k7 (fun i hi (h : i = w.heap.size) => by omega)⟩

set_option maxRecDepth 100000 in
set_option maxHeartbeats 4000000 in
theorem upd_c0 (n : ByteArray) (v : Int) (cl how : Nat) (w : World) (hn : n.size ≤ 32) (h1 : 2 ≤ v) (h2 : v ≤ 1000) (e5 : ((how : Int) % 8 == 5) = false) (e6 : ((how : Int) % 8 == 6) = false) (e7 : ((how : Int) % 8 == 7) = true) :
    Calls Try.prog 8 #[.string n, .int .i64 v, .int .u8 cl, .int .u8 how] w fun e w' => e = .returned (reqB n v cl false false true).V ∧ Kept None w w' := by
  have j0 := fun w => key n v false w (by omega)
  have j1 := fun w => secret n (v - 1) false w (by omega)
  have hby : byN n v false false = secN n (v - 1) false := by
    unfold byN
    have e1 : max (v - 1) 1 = v - 1 := by omega
    have e2 : (v == 1) = false := by rw [beq_eq_false_iff_ne]; omega
    rw [e1]; rfl
  have hkl := keyN_lt n v false
  have j2 := fun w => RUp.sign (byN n v false false) n v ((cl % 2 : Nat) : Int) (keyN n v false) 0 0 w (by omega) hkl
  have hq : (reqB n v cl false false true).V = updV n v (keyN n v false) 5 (sigR (byN n v false false) (msgB n v (keyN n v false))) (sigS (byN n v false false) (msgB n v (keyN n v false))) := rfl
  rw [hq]
  have hC : (cl : Int) % 2 = ((cl % 2 : Nat) : Int) := by omega
  have hsl := secN_lt n (v - 1) false
  rw [hby] at j2 ⊢
  clear hq hby
  obtain ⟨C, hCC⟩ : ∃ C : Int, C = ((cl % 2 : Nat) : Int) := ⟨_, rfl⟩
  rw [← hCC] at hC j2
  obtain ⟨K, hK⟩ : ∃ K, K = keyN n v false := ⟨_, rfl⟩
  rw [← hK] at j0 j2 ⊢
  obtain ⟨B, hB⟩ : ∃ B, B = secN n (v - 1) false := ⟨_, rfl⟩
  rw [← hB] at j1 j2 hsl ⊢
  
  
  
  obtain ⟨R, hR⟩ : ∃ R, R = sigR B (msgB n v K) := ⟨_, rfl⟩
  obtain ⟨S, hS⟩ : ∃ S, S = sigS B (msgB n v K) := ⟨_, rfl⟩
  rw [← hR, ← hS] at j2 ⊢
  have J := hid (And.intro j0 (And.intro j1 j2))
  clear j0 j1 j2 hCC hK hB hR hS hkl hsl hn
  have k0 : Kept None w ((w.alloc (.cells #[.string ⟨#[]⟩, .int .i64 0, .int .u64 0, .int .i64 0, .int .u64 0, .int .u64 0] 26)).alloc (.cells #[.string n, .int .i64 v, .int .u64 0, .int .i64 C, .int .u64 0, .int .u64 0] 26)) := ((Kept.refl _ _).alloc _).alloc _
  have v0 : Blk ((w.alloc (.cells #[.string ⟨#[]⟩, .int .i64 0, .int .u64 0, .int .i64 0, .int .u64 0, .int .u64 0] 26)).alloc (.cells #[.string n, .int .i64 v, .int .u64 0, .int .i64 C, .int .u64 0, .int .u64 0] 26)) w.heap.size #[.string ⟨#[]⟩, .int .i64 0, .int .u64 0, .int .i64 0, .int .u64 0, .int .u64 0] 26 := (Blk.new w _ _).alloc _
  have u0 := Blk.new2 w (.cells #[.string ⟨#[]⟩, .int .i64 0, .int .u64 0, .int .i64 0, .int .u64 0, .int .u64 0] 26) #[.string n, .int .i64 v, .int .u64 0, .int .i64 C, .int .u64 0, .int .u64 0] 26
  go_enter Try.func8, Try.ntmps8
  go_wp2_with fail
  refine (J.out.1 _).mono ?_
  rintro e w1 ⟨rfl, k1⟩
  have k01 := k0.trans k1
  have v1 := v0.kept k1 (fun h => h)
  have u1 := u0.kept k1 (fun h => h)
  have d2 : w1.cell? ⟨w.heap.size + 1, 2, none⟩ = some (.int .u64 0) := u1.cell 2
  have f2 := u1.free 2
  have u1' : Blk (w1.setCell ⟨w.heap.size + 1, 2, none⟩ (.int .u64 (K : Int))) (w.heap.size + 1) #[.string n, .int .i64 v, .int .u64 (K : Int), .int .i64 C, .int .u64 0, .int .u64 0] 26 := u1.set 2 _
  have v1' := v1.setOther (a := ⟨w.heap.size + 1, 2, none⟩) (by show w.heap.size ≠ w.heap.size + 1; omega) (.int .u64 (K : Int))
  have k01' := k01.setNew (b := w.heap.size + 1) (by omega) 2 (.int .u64 (K : Int))
  clear k0 v0 u0 k1 k01 v1 u1
  go_wp2_with fail
  refine (J.out.2.1 _).mono ?_
  rintro e w2 ⟨rfl, rfl⟩
  go_wp2_with (first | (refine wpList_load_blk rfl _ _ rfl rfl u1' Up.aUpd ?_) | fail)
  refine (J.out.2.2 _).mono ?_
  rintro e w3 ⟨rfl, k3⟩
  have k03 := k01'.trans k3
  have v3 := v1'.kept k3 (fun h => h)
  have u3 := u1'.kept k3 (fun h => h)
  clear k01' v1' u1' k3 d2 f2 J
  go_wp2_with (first | (refine wpList_store_blk rfl _ _ _ rfl rfl rfl u3 Up.aUpd rfl (Up.upd_all _ _ _ _ _ _) ?k4) | fail)
  case k4 =>
    intro w4 u4 k4
    have k04 := k03.then k4 (fun i hi (h : i = w.heap.size + 1) => by omega)
    have v4 := v3.kept k4 (fun (h : w.heap.size = w.heap.size + 1) => by omega)
    have d3 : w4.cell? ⟨w.heap.size + 1, 3, none⟩ = some (.int .i64 C) := u4.cell 3
    have f3 := u4.free 3
    have u4' : Blk (w4.setCell ⟨w.heap.size + 1, 3, none⟩ (.int .i64 5)) (w.heap.size + 1) #[.string n, .int .i64 v, .int .u64 (K : Int), .int .i64 5, .int .u64 (R : Int), .int .u64 (S : Int)] 26 := u4.set 3 _
    have v4' := v4.setOther (a := ⟨w.heap.size + 1, 3, none⟩) (by show w.heap.size ≠ w.heap.size + 1; omega) (.int .i64 5)
    have k04' := k04.setNew (b := w.heap.size + 1) (by omega) 3 (.int .i64 5)
    clear k03 v3 u3 k4 u4 v4 k04
    go_wp2_with (first | (refine wpList_load_blk rfl _ _ rfl rfl u4' Up.aUpd ?_) | (refine wpList_store_blk rfl _ _ _ rfl rfl rfl v4' Up.aUpd rfl (Up.upd_all _ _ _ _ _ _) ?_; intro w7 hR7 k7) | fail)
    exact bodyPost_ret (v := updV n v K 5 R S) (results_blk rfl _ rfl hR7 Up.aUpd) rfl ⟨rfl, k04'.then k7 (fun i hi (h : i = w.heap.size) => by omega)⟩
end Seat
end Go.Proofs.Ytpbkdeljhehkdaa

/- postmarkseat.Update, by contract. -/
namespace Go.Proofs.Ytpbkdeljhehkdaa
open Go.RowKit Go.Pm
namespace Seat

theorem update (n : ByteArray) (v : Int) (cl how : Nat) (w : World) (hn : n.size ≤ 32) (hv0 : 1 ≤ v) (hv1 : v ≤ 1000) :
    Calls Try.prog 8 #[.string n, .int .i64 v, .int .u8 cl, .int .u8 how] w fun e w' => e = .returned (req n v cl how).V ∧ Kept None w w' := by
  have hb : ∀ j : Nat, ((how : Int) % 8 == (j : Int)) = (how % 8 == j) := fun j => by
    rw [Bool.eq_iff_iff, beq_iff_eq, beq_iff_eq]
    omega
  have h5 : ((how : Int) % 8 == 5) = (how % 8 == 5) := hb 5
  have h6 : ((how : Int) % 8 == 6) = (how % 8 == 6) := hb 6
  have h7 : ((how : Int) % 8 == 7) = (how % 8 == 7) := hb 7
  have hc : how % 8 = 5 ∨ how % 8 = 6 ∨ how % 8 = 7 ∨ (how % 8 ≠ 5 ∧ how % 8 ≠ 6 ∧ how % 8 ≠ 7) := by omega
  unfold req
  rcases hc with h | h | h | ⟨ha, hb', hc⟩
  · rw [h] at h5 h6 h7 ⊢
    by_cases h1 : v = 1
    · subst h1; exact upd_a1 n cl how w hn h5 h6 h7
    · exact upd_a0 n v cl how w hn (by omega) hv1 h5 h6 h7
  · rw [h] at h5 h6 h7 ⊢
    by_cases h1 : v = 1
    · subst h1; exact upd_b1 n cl how w hn h5 h6 h7
    · exact upd_b0 n v cl how w hn (by omega) hv1 h5 h6 h7
  · rw [h] at h5 h6 h7 ⊢
    by_cases h1 : v = 1
    · subst h1; exact upd_c1 n cl how w hn h5 h6 h7
    · exact upd_c0 n v cl how w hn (by omega) hv1 h5 h6 h7
  · have g5 : (how % 8 == 5) = false := by simpa using ha
    have g6 : (how % 8 == 6) = false := by simpa using hb'
    have g7 : (how % 8 == 7) = false := by simpa using hc
    rw [g5] at h5 ⊢
    rw [g6] at h6 ⊢
    rw [g7] at h7 ⊢
    by_cases h1 : v = 1
    · subst h1; exact upd_o1 n cl how w hn h5 h6 h7
    · exact upd_o0 n v cl how w hn (by omega) hv1 h5 h6 h7
end Seat
end Go.Proofs.Ytpbkdeljhehkdaa
namespace Go.Pm
open Go Go.RowKit
theorem wraps14 {x i X1 A6 C6 A12 D4 TK I1 : Nat} (hx : x < 256) (hi : i ≤ 1000) (h1 : X1 = x + 1) (h2 : A6 = x / 6) (h3 : C6 = A6 % 2) (h4 : A12 = x / 12) (h5 : D4 = A12 % 4) (h6 : TK = i + D4) (h7 : I1 = i + 1) :
    IntKind.u64.wrap (x : Int) = (x : Int) ∧ IntKind.u64.wrap ((x : Int) + 1) = (X1 : Int) ∧ IntKind.u8.wrap ((x : Int) / 6) = (A6 : Int) ∧ (A6 : Int).tmod 2 = (C6 : Int) ∧ IntKind.i64.wrap (C6 : Int) = (C6 : Int) ∧ IntKind.u8.wrap ((x : Int) / 12) = (A12 : Int) ∧ (A12 : Int).tmod 4 = (D4 : Int) ∧ IntKind.i64.wrap (D4 : Int) = (D4 : Int) ∧ IntKind.i64.wrap ((i : Int) + (D4 : Int)) = (TK : Int) ∧ IntKind.i64.wrap ((i : Int) + 1) = (I1 : Int) := by
  rw [IntKind.wrap_u64, IntKind.wrap_u64, IntKind.wrap_u8, IntKind.wrap_i64, IntKind.wrap_u8, IntKind.wrap_i64, IntKind.wrap_i64, IntKind.wrap_i64, Int.tmod_eq_emod_of_nonneg (by omega), Int.tmod_eq_emod_of_nonneg (by omega)]
  omega
theorem rty_of {P : Program} {t e : TypeId} {z : Value} {k bytes : Nat} (h1 : P.underlying t = some (.slice e)) (h2 : (P.info? e).map (fun i => (i.zero, i.size, i.bytes)) = some (some z, k, bytes)) (h3 : z.cells.size = k) (h4 : 0 < k) : RowTyK P t e z k bytes := by
  refine ⟨h1, ?_, h3, h4⟩
  cases hi : P.info? e with
  | none => rw [hi] at h2; cases h2
  | some i =>
    rw [hi] at h2
    simp only [Option.map_some, Option.some.injEq, Prod.mk.injEq] at h2
    exact ⟨i, rfl, h2⟩
theorem ps_one {k : Nat} {w : World} {g : Nat} {t : TypeId} {x : List Value} (h : Blk w g x.toArray t) (hx : x.length = k) : Ps k w 0 w.heap.size (.slice (some ⟨g, 0, none⟩) 1 1) [x] := by
  refine ⟨Each.one hx, by simp [hx], some ⟨g, 0, none⟩, 1, rfl, Nat.le_refl _, by unfold maxLen; omega, (fun h => by cases h), ?_⟩
  intro ad had i c hc
  simp only [Option.some.injEq] at had
  subst had
  refine ⟨Nat.zero_le _, h.lt, ?_⟩
  rw [Addr.add_lit, Nat.zero_add, h.cell]
  simpa using hc
end Go.Pm
namespace Go.Proofs.Ytpbkdeljhehkdaa
open Go.RowKit Go.Pm
namespace Seat
/-- The next that waits. -/
def pnX (ps : List Pn) (i x : Nat) : Pn := ⟨⟨nameS x, wrap64 ((nxF (0, 0) ps (nameS x)).1 + 1), x + 1, ((x / 6 % 2 : Nat) : Int), 0, 0⟩, ((i + x / 12 % 4 : Nat) : Int), ((i + 1 : Nat) : Int), true⟩
def pendN (l : List UInt8) : Nat → List Pn
  | 0 => []
  | i + 1 => pendN l i ++ [pnX (pendN l i) i (l.getD i 0).toNat]
def pendF (l : List UInt8) : List Pn := pendN l l.length
theorem pendN_len (l : List UInt8) : ∀ i, (pendN l i).length = i
  | 0 => rfl
  | i + 1 => by rw [pendN, List.length_append, pendN_len l i]; rfl
theorem nxF_in (nm : ByteArray) (m : Int) (hm : 0 ≤ m) : ∀ (l : List Pn) (s : Int × Nat), (0 ≤ s.1 ∧ s.1 ≤ m) → (∀ x ∈ l, 0 ≤ x.u.v ∧ x.u.v ≤ m) → 0 ≤ (nxF s l nm).1 ∧ (nxF s l nm).1 ≤ m
  | [], _, hs, _ => hs
  | x :: l, s, hs, hl => by
    have e : nxF s (x :: l) nm = nxF (nxS nm s x) l nm := rfl
    rw [e]
    refine nxF_in nm m hm l _ ?_ (fun y hy => hl y (List.mem_cons_of_mem _ hy))
    unfold nxS
    split
    · exact hl x (List.mem_cons_self ..)
    · exact hs
theorem pendN_in (l : List UInt8) : ∀ i, i ≤ 1000 → ∀ x ∈ pendN l i, (1 ≤ x.u.v ∧ x.u.v ≤ (i : Int)) ∧ x.u.right = true ∧ (0 ≤ x.tick ∧ x.tick ≤ 1003) ∧ x.u.r = 0 ∧ x.u.s = 0
  | 0, _, x, hx => by cases hx
  | i + 1, hi, x, hx => by
    rw [pendN] at hx
    have ih := pendN_in l i (by omega)
    rcases List.mem_append.1 hx with h | h
    · have := ih x h
      refine ⟨⟨this.1.1, by have := this.1.2; omega⟩, this.2⟩
    · rw [List.mem_singleton.1 h]
      obtain ⟨y, hy⟩ : ∃ y, y = (l.getD i 0).toNat := ⟨_, rfl⟩
      have hy2 : y < 256 := by rw [hy]; exact (l.getD i 0).toNat_lt
      rw [← hy]
      have hn := nxF_in (nameS y) (i : Int) (by omega) (pendN l i) (0, 0) ⟨Int.le_refl _, by simp⟩ (fun z hz => ⟨by have := (ih z hz).1.1; omega, (ih z hz).1.2⟩)
      obtain ⟨m, hm⟩ : ∃ m, m = (nxF (0, 0) (pendN l i) (nameS y)).1 := ⟨_, rfl⟩
      have e : (pnX (pendN l i) i y).u = ⟨nameS y, wrap64 (m + 1), y + 1, ((y / 6 % 2 : Nat) : Int), 0, 0⟩ := by rw [hm]; rfl
      have e2 : (pnX (pendN l i) i y).tick = ((i + y / 12 % 4 : Nat) : Int) := rfl
      rw [e, e2]
      rw [← hm] at hn
      have hw : wrap64 (m + 1) = m + 1 := by unfold wrap64; omega
      have hs := nameS_size y
      refine ⟨⟨by simp only; omega, by simp only; omega⟩, ?_, ⟨by omega, by omega⟩, rfl, rfl⟩
      refine (rightB_iff _ _ _ _).2 ⟨⟨hs.1, hs.2, by simp only; omega, by simp only; omega, by simp only; omega, ?_⟩, by simp only; omega⟩
      show y + 1 < prime61
      have : (257 : Nat) < prime61 := by decide
      omega
theorem rtPen : RowTyK Try.prog 44 47 (.agg #[.string ⟨#[]⟩, .int .i64 0, .int .u64 0, .int .i64 0, .int .u64 0, .int .u64 0, .int .i64 0, .int .i64 0, .bool false]) 9 80 := rty_of (by kernel_rfl) (by kernel_rfl) (by rfl) (by decide)
set_option maxRecDepth 100000 in
set_option maxHeartbeats 8000000 in
theorem pending (v : Value) (lo hi : Nat) (l : List UInt8) (w : World) (hv : Bs w lo hi v l) (hl : l.length ≤ 1000) :
    Calls Try.prog 16 #[v] w fun en w' => ∃ u, en = .returned u ∧ Kept None w w' ∧ Po 9 47 w' w.heap.size u (pensC (pendF l)) := by
  obtain ⟨av, cv, rfl, _⟩ := hv.shape
  have HV := hid hv.all
  have HL := hid hl
  clear hv hl
  go_enter Try.func16, Try.ntmps16
  go_wp2_with fail
  go_loopg [3, 4] l.length (fun kx s3 s4 wr => ∃ (i : Nat) (ao : Option Addr) (no co : Nat), s3 = .slice ao no co ∧ s4 = .int .i64 (i : Int) ∧ i ≤ l.length ∧ l.length - i ≤ kx ∧ Hid (Kept None w wr) ∧ Hid (Po 9 47 wr w.heap.size (.slice ao no co) (pensC (pendN l i))))
  case atStart => exact ⟨0, none, 0, 0, rfl, rfl, Nat.zero_le _, Nat.le_refl _, hid (Kept.refl _ _), hid (Po.nil _ _ _ _)⟩
  case round =>
  obtain ⟨i, ao, no, co, rfl, rfl, hi, hix, HS, HO⟩ := hrel
  by_cases hlt : i < l.length
  · have hlt' : decide ((i : Int) < (l.length : Int)) = true := by simpa using hlt
    have hlb : (i : Int) < (l.length : Int) := Int.ofNat_lt.mpr hlt
    obtain ⟨b1, o1, rfl, _, hb0, hb1, hcell⟩ := (HV.out.kept HS.out (fun _ _ _ h => h)).ne (by omega)
    have hc := hcell i hlt
    obtain ⟨x, hx⟩ : ∃ x : Nat, x = (l.getD i 0).toNat := ⟨_, rfl⟩
    have hx2 : x < 256 := by rw [hx]; exact (l.getD i 0).toNat_lt
    rw [show bAt l i = (x : Int) by rw [hx]; rfl] at hc
    have HC := hid (fun W (hW : Kept None wr W) => show W.cell? ⟨b1, o1 + i, none⟩ = some (.int .u8 (x : Int)) from (hW.cell (p := ⟨b1, o1 + i, none⟩) hb1 (fun h => h)).trans hc)
    have HX := hid (And.intro hx hx2)
    have HB0 := hid hb0
    have HC0 := hid hc
    have HB1 := hid hb1
    obtain ⟨NM, hNM⟩ : ∃ n, n = nameS x := ⟨_, rfl⟩
    obtain ⟨ps, hps⟩ : ∃ p, p = pendN l i := ⟨_, rfl⟩
    have hpl : ps.length = i := by rw [hps]; exact pendN_len l i
    rw [← hps] at HO
    have hno : no = ps.length := by
      obtain ⟨a, c, h, _⟩ := (HO.out.ps (Nat.le_refl _)).form
      rw [pensC_len] at h
      injection h
    subst hno
    have hc0 := HC.out wr (Kept.refl _ _)
    have HNM := hid hNM
    have HPS := hid (And.intro hps hpl)
    obtain ⟨VV, hVV⟩ : ∃ v, v = wrap64 ((nxF (0, 0) ps NM).1 + 1) := ⟨_, rfl⟩
    obtain ⟨YY, hYY⟩ : ∃ y, y = (nxF (0, 0) ps NM).2 := ⟨_, rfl⟩
    have HNX := hid (fun (W : World) (hW : Kept None wr W) => show Calls Try.prog 36 #[.slice none 0 0, .slice ao ps.length co, .string NM] W fun en w' => en = .returned (.tuple #[.int .i64 VV, .int .u64 (YY : Int)]) ∧ Kept None W w' from by
      have h := R16.next (.slice none 0 0) (.slice ao ps.length co) 0 0 0 W.heap.size [] ps NM W (Ps.nil _ _ _ _) (((HO.out.kept hW (fun _ _ h => h)).ps (Nat.le_refl _)).wider (Nat.zero_le _) (Nat.le_refl _)) (by decide) (by have := HL.out; omega)
      rw [hVV, hYY]
      exact h)
    have HVV := hid hVV
    clear hcell hc hb0 hb1 hx hx2 hNM hps hpl hVV hYY
    go_wp2_with fail
    refine (Seat.name x wr).mono ?_
    rintro e1 w2 ⟨rfl, k2⟩
    rw [← HNM.out]
    have K2 := hid k2
    clear k2 hc0
    go_wp2_with fail
    refine (HNX.out w2 K2.out).mono ?_
    rintro e1 w3 ⟨rfl, k3⟩
    have K3 := hid (K2.out.trans k3)
    clear k3 K2
    obtain ⟨X1, hX1⟩ : ∃ a : Nat, a = x + 1 := ⟨_, rfl⟩
    obtain ⟨A6, hA6⟩ : ∃ a : Nat, a = x / 6 := ⟨_, rfl⟩
    obtain ⟨C6, hC6⟩ : ∃ a : Nat, a = A6 % 2 := ⟨_, rfl⟩
    obtain ⟨A12, hA12⟩ : ∃ a : Nat, a = x / 12 := ⟨_, rfl⟩
    obtain ⟨D4, hD4⟩ : ∃ a : Nat, a = A12 % 4 := ⟨_, rfl⟩
    obtain ⟨TK, hTK⟩ : ∃ a : Nat, a = i + D4 := ⟨_, rfl⟩
    obtain ⟨I1, hI1⟩ : ∃ a : Nat, a = i + 1 := ⟨_, rfl⟩
    have HAR := hid (wraps14 HX.out.2 (Nat.le_trans (Nat.le_of_lt hlt) HL.out) hX1 hA6 hC6 hA12 hD4 hTK hI1)
    have HPX : Hid (pnX ps i x = ⟨⟨NM, VV, X1, (C6 : Int), 0, 0⟩, (TK : Int), (I1 : Int), true⟩) := hid (by rw [hX1, hC6, hA6, hTK, hD4, hA12, hI1, HVV.out, HNM.out]; rfl)
    clear hX1 hA6 hC6 hA12 hD4 hTK hI1
    have K3x := hid (HS.out.trans K3.out)
    have HC3 := hid (fun W (hW : Kept None w3 W) => HC.out W (K3.out.trans hW))
    go_wp2_with fail
    have hs : Steady [.val 4 (.string NM), .room 20 w3.heap.size 6 26] := Go.Pm.Steady.val (Go.Pm.Steady.room Go.Pm.Steady.nil)
    refine wp_region_kn_tail 21 w3 _ hs (Kept.refl _ _) (by kernel_rfl) (by kernel_rfl) (by kernel_rfl) ?_
    simp only [List.take_succ_cons, List.take_zero, List.drop_succ_cons, List.drop_zero]
    iterate 4 (refine wpPar_pure rfl (by rfl) _ (fun W hW => by
        have c1 := HC3.out W hW
        obtain ⟨q1, q2, q3, q4, q5, q6, q7, q8, q9, q10⟩ := HAR.out
        go_simp
        exact rfl) ?_; simp only [Act.put, List.setIfInBounds_toArray, List.set_cons_zero, List.set_cons_succ])
    refine wpKn_adds hs rfl (by rfl) (fun W hW hd => ?_) (fun v4 hv => ?_)
    · unfold Gives
      go_simp
      refine gives_call (Seat.name x W) ?_
      rintro e w5 ⟨rfl, kN⟩
      rw [← HNM.out]
      exact ⟨_, rfl, kN, rfl, trivial⟩
    obtain rfl : v4 = .string NM := hv
    simp only [Act.put, List.setIfInBounds_toArray, List.set_cons_zero, List.set_cons_succ]
    iterate 15 (refine wpPar_pure rfl (by rfl) _ (fun W hW => by
        have c1 := HC3.out W hW
        obtain ⟨q1, q2, q3, q4, q5, q6, q7, q8, q9, q10⟩ := HAR.out
        go_simp
        exact rfl) ?_; simp only [Act.put, List.setIfInBounds_toArray, List.set_cons_zero, List.set_cons_succ])
    refine wpKn_adds hs rfl (by rfl) (fun W hW hd => ?_) (fun v20 hv => ?_)
    · unfold Gives
      go_simp
      exact ⟨(Kept.refl None W).alloc _, ⟨_, rfl⟩, _, _, rfl, hW.size, by rfl, Blk.new W #[.string ⟨#[]⟩, .int .i64 0, .int .u64 0, .int .i64 0, .int .u64 0, .int .u64 0] 26⟩
    obtain ⟨g, rfl⟩ : ∃ g, v20 = .pointer (some ⟨g, 0, none⟩) := hv
    simp only [Act.put, List.setIfInBounds_toArray, List.set_cons_zero, List.set_cons_succ]
    refine wpPar_nil (fun w6 hW hG => ?_)
    obtain ⟨g', z, hgg, hlo, hz6, hR⟩ : ∃ (g' : Nat) (z : Array Value), Value.pointer (some ⟨g, 0, none⟩) = .pointer (some ⟨g', 0, none⟩) ∧ w3.heap.size ≤ g' ∧ z.size = 6 ∧ Blk w6 g' z 26 := hG 20
    obtain rfl : g = g' := by injection hgg with e; injection e with e; injection e
    have K6 := hid (K3x.out.trans hW)
    have KR6 := hid (K3.out.trans hW)
    have HGR := hid (Nat.le_trans K3.out.size hlo)
    have HG6 := hid (Nat.le_trans K3x.out.size hlo)
    clear hG hs hW hgg hlo
    go_upto_region 7 with (first | (refine wpList_store_blk rfl _ _ _ rfl rfl rfl hR Up.aUpd hz6 (Up.upd_all _ _ _ _ _ _) ?_; intro w7 b7 k7) | fail)
    have HG7a := hid b7
    have K7 := hid (K6.out.then k7 (fun i hi (h : i = g) => by have := HG6.out; omega))
    have own := (HO.out.own)
    have HOW := hid (show ∀ q, (Value.slice ao ps.length co).ownBlock = some q → w.heap.size ≤ q ∧ q < wr.heap.size from HO.out.own)
    have kr7 := hid (KR6.out.then k7 (fun i hi (h : i = g) => by have := HGR.out; omega))
    have HO7 := hid (HO.out.kept kr7.out (fun _ _ h => h))
    have HC7 := hid (fun W (hW : Kept (fun q => (Value.slice ao ps.length co).ownBlock = some q) w7 W) => show W.cell? ⟨b1, o1 + i, none⟩ = some (.int .u8 (x : Int)) from (hW.cell (p := ⟨b1, o1 + i, none⟩) (Nat.lt_of_lt_of_le HB1.out kr7.out.size) (fun h => by have := (HOW.out _ h).1; have h2 : b1 < w.heap.size := HB0.out; exact absurd this (by simp only; omega))).trans (HC.out w7 kr7.out))
    have HG7 := hid (fun W (hW : Kept (fun q => (Value.slice ao ps.length co).ownBlock = some q) w7 W) => HG7a.out.kept hW (fun h => by have := (HOW.out _ h).2; have := HGR.out; omega))
    clear b7 k7 hR hz6 own
    refine wp_region_plan (Kept (fun q => (Value.slice ao ps.length co).ownBlock = some q) w7) [{ k := 14, uses := [], pure := fun u => ∃ g, u = .slice (some ⟨g, 0, none⟩) 1 1, fact := fun u W => ∃ g, u = .slice (some ⟨g, 0, none⟩) 1 1 ∧ Blk W g (penC (⟨⟨NM, VV, X1, (C6 : Int), 0, 0⟩, (TK : Int), (I1 : Int), true⟩ : Pn)).toArray 47 }, { k := 15, uses := [14, 100], spends := [14, 100], pure := fun u => ∃ a n c, u = .slice a n c, fact := fun u W => Po 9 47 W w.heap.size u (pensC (ps ++ [(⟨⟨NM, VV, X1, (C6 : Int), 0, 0⟩, (TK : Int), (I1 : Int), true⟩ : Pn)])) }, { k := 100, uses := [], fact := fun u W => Po 9 47 W w.heap.size (.slice ao ps.length co) (pensC ps) }] [100] (by kernel_rfl) (by kernel_rfl) (by kernel_rfl) (by rfl) ?pures ((Kept.refl _ w7).drew) ?starts ?walk
    case pures =>
      intro f hf
      simp only [List.mem_cons, List.not_mem_nil, or_false] at hf
      rcases hf with rfl | rfl | rfl
      · exact ⟨_, 0, rfl⟩
      · exact ⟨_, none, 0, 0, rfl⟩
      · exact ⟨undef, trivial⟩
    case starts =>
      intro k hk
      have hk : k = 100 := by simpa using hk
      subst hk
      exact HO7.out.kept ((Kept.refl None w7).drew) (fun _ _ h => h)
    iterate 1 (refine wpPar_pure rfl (by rfl) _ (fun W hW => by
        have c1 := HC7.out W hW
        obtain ⟨q1, q2, q3, q4, q5, q6, q7, q8, q9, q10⟩ := HAR.out
        go_simp
        exact rfl) ?_; simp only [Act.put, List.setIfInBounds_toArray, List.set_cons_zero, List.set_cons_succ])
    refine wpPar_pure rfl (by rfl) _ (fun W hW => by first | exact exec_load_blk _ _ rfl rfl (HG7.out W hW) Up.aUpd | (have c1 := HC7.out W hW; obtain ⟨q1, q2, q3, q4, q5, q6, q7, q8, q9, q10⟩ := HAR.out; go_simp; exact rfl)) ?_; simp only [Act.put, List.setIfInBounds_toArray, List.set_cons_zero, List.set_cons_succ]
    iterate 4 (refine wpPar_pure rfl (by rfl) _ (fun W hW => by
        have c1 := HC7.out W hW
        obtain ⟨q1, q2, q3, q4, q5, q6, q7, q8, q9, q10⟩ := HAR.out
        go_simp
        exact rfl) ?_; simp only [Act.put, List.setIfInBounds_toArray, List.set_cons_zero, List.set_cons_succ])
    refine wpPar_pure rfl (by rfl) _ (fun W hW => by first | exact exec_load_blk _ _ rfl rfl (HG7.out W hW) Up.aUpd | (have c1 := HC7.out W hW; obtain ⟨q1, q2, q3, q4, q5, q6, q7, q8, q9, q10⟩ := HAR.out; go_simp; exact rfl)) ?_; simp only [Act.put, List.setIfInBounds_toArray, List.set_cons_zero, List.set_cons_succ]
    iterate 7 (refine wpPar_pure rfl (by rfl) _ (fun W hW => by
        have c1 := HC7.out W hW
        obtain ⟨q1, q2, q3, q4, q5, q6, q7, q8, q9, q10⟩ := HAR.out
        go_simp
        exact rfl) ?_; simp only [Act.put, List.setIfInBounds_toArray, List.set_cons_zero, List.set_cons_succ])
    refine wpPar_adds rfl (by rfl) (fun W hW hd => ?_) (fun v14 hv => ?_)
    · unfold Gives
      rw [exec_one_item 44 (.tmp 57) rfl rtPen (by decide) (A := #[.string NM, .int .i64 VV, .int .u64 (X1 : Int), .int .i64 (C6 : Int), .int .u64 0, .int .u64 0, .int .i64 (TK : Int), .int .i64 (I1 : Int), .bool true]) rfl rfl]
      have kN : Kept None W (W.alloc (.cells #[.string NM, .int .i64 VV, .int .u64 (X1 : Int), .int .i64 (C6 : Int), .int .u64 0, .int .u64 0, .int .i64 (TK : Int), .int .i64 (I1 : Int), .bool true] 47)) := (Kept.refl None W).alloc _
      refine ⟨hW.then kN (fun _ _ h => h.elim), ⟨_, rfl⟩, ⟨_, rfl, Blk.new _ _ _⟩, keeps_of fun f hf hs hl hne u hfu => ?_⟩
      simp only [List.mem_cons, List.not_mem_nil, or_false] at hf
      rcases hf with rfl | rfl | rfl
      · exact absurd rfl hne
      · exact hfu.kept kN (fun _ _ h => h)
      · exact Po.kept hfu kN (fun _ _ h => h)
    obtain ⟨g14, rfl⟩ : ∃ g, v14 = .slice (some ⟨g, 0, none⟩) 1 1 := hv
    simp only [Act.put, List.setIfInBounds_toArray, List.set_cons_zero, List.set_cons_succ]
    refine wpPar_adds rfl (by rfl) (fun W hW hd => ?_) (fun v15 hv => ?_)
    · have hO : Po 9 47 W w.heap.size (.slice ao ps.length co) (pensC ps) := hd 100 (List.Mem.tail _ (List.Mem.head _))
      obtain ⟨g2, hgg, hg3⟩ : ∃ g, Value.slice (some ⟨g14, 0, none⟩) 1 1 = .slice (some ⟨g, 0, none⟩) 1 1 ∧ Blk W g (penC (⟨⟨NM, VV, X1, (C6 : Int), 0, 0⟩, (TK : Int), (I1 : Int), true⟩ : Pn)).toArray 47 := hd 14 (List.Mem.head _)
      obtain rfl : g14 = g2 := by simpa using hgg
      have hu : Ps 9 W 0 W.heap.size (.slice (some ⟨g14, 0, none⟩) 1 1) (pensC [(⟨⟨NM, VV, X1, (C6 : Int), 0, 0⟩, (TK : Int), (I1 : Int), true⟩ : Pn)]) := ps_one (x := penC (⟨⟨NM, VV, X1, (C6 : Int), 0, 0⟩, (TK : Int), (I1 : Int), true⟩ : Pn)) hg3 rfl
      refine gives_append_po _ _ 44 rfl rtPen (by decide) rfl rfl hO hu (pensC_one _) (by rw [pensC_len, pensC_len]; have := HPS.out.2; have := HL.out; simp; omega) (Nat.le_trans (show w.heap.size ≤ w7.heap.size from K7.out.size) hW.size) ?_
      intro a' n' c' W' hP kS o9
      have kN : True := trivial
      rw [← pensC_app] at hP
      refine ⟨hW.then kS (fun i hi h => h), ⟨_, _, _, rfl⟩, hP, keeps_of fun f hf hs hl hne u hfu => ?_⟩
      simp only [List.mem_cons, List.not_mem_nil, or_false] at hf
      rcases hf with rfl | rfl | rfl
      · exact absurd (List.Mem.head _) hs
      · exact absurd rfl hne
      · exact absurd (List.Mem.tail _ (List.Mem.head _)) hs
    obtain ⟨a15, n15, c15, rfl⟩ : ∃ a n c, v15 = .slice a n c := hv
    simp only [Act.put, List.setIfInBounds_toArray, List.set_cons_zero, List.set_cons_succ]
    iterate 1 (refine wpPar_pure rfl (by rfl) _ (fun W hW => by
        have c1 := HC7.out W hW
        obtain ⟨q1, q2, q3, q4, q5, q6, q7, q8, q9, q10⟩ := HAR.out
        go_simp
        exact rfl) ?_; simp only [Act.put, List.setIfInBounds_toArray, List.set_cons_zero, List.set_cons_succ])
    refine wpPar_nil (fun w8 hW hG => ?_)
    have h8 : Po 9 47 w8 w.heap.size (.slice a15 n15 c15) (pensC (ps ++ [(⟨⟨NM, VV, X1, (C6 : Int), 0, 0⟩, (TK : Int), (I1 : Int), true⟩ : Pn)])) := hG 15
    have K8 := hid (K7.out.then hW (fun q hq h => by have := (HOW.out q h).1; omega))
    have HO8 : Hid (Po 9 47 w8 w.heap.size (.slice a15 n15 c15) (pensC (pendN l (i + 1)))) := hid (by
      rw [pendN, ← HPS.out.1, ← HX.out.1, HPX.out]
      exact h8)
    have hwi : wrap64 ((i : Int) + 1) = ((i + 1 : Nat) : Int) := by have := HL.out; unfold wrap64; omega
    clear hG hW h8
    go_wp2
    go_roundg (l.length - (i + 1))
    case measure => omega
    case rel => exact ⟨i + 1, a15, n15, c15, rfl, by go_num, hlt, Nat.le_refl _, K8, HO8⟩
  · have hlt' : decide ((i : Int) < (l.length : Int)) = false := by simpa using hlt
    obtain rfl : i = l.length := by omega
    have HO2 : Hid (Po 9 47 wr w.heap.size (.slice ao no co) (pensC (pendF l))) := HO
    clear hlt hi hix HO
    go_wp2
    go_ret
    exact ⟨_, rfl, HS.out, HO2.out⟩
end Seat
end Go.Proofs.Ytpbkdeljhehkdaa
/- From a walk to a statement: arguments opened, and shut again behind a call that has only made new memory. -/
namespace Go.Pm
open Go Go.RowKit Go.ChangeShapes Go.WideShapes Go.ChangeAt

section
variable {H : Type} {enc : TypeId × Value → H} {P : Program}

/-- Types whose values can be read, each in the table. -/
def readable (P : Program) (ts : List TypeId) : Bool := ts.all fun t => P.readableRec t && decide (t < P.types.size)

theorem trodAll_stays (hl : laidOutB P = true) {W W' : World} (hb : Below W.heap.size W W') : ∀ {ts : List TypeId} {vs : List Value} {ds : List (DataW H)} {ps : List MemPlace}, readable P ts = true →
    DataW.TrodAll enc P W 0 (fun _ => true) true ts vs ds ps → (∀ x ∈ ps, x.block < W.heap.size) → DataW.TrodAll enc P W' 0 (fun b => decide (b < W.heap.size)) true ts vs ds ps
  | [], vs, ds, ps, _, h, _ => by
    obtain ⟨rfl, rfl, rfl⟩ := trodAll_nil h
    exact trodAll_mk0
  | t :: ts, vs, ds, ps, hr, h, hlt => by
    obtain ⟨v, vs', d, ds', p, q, rfl, rfl, rfl, h1, h2⟩ := trodAll_cons h
    simp only [readable, List.all_cons, Bool.and_eq_true, decide_eq_true_eq] at hr
    exact ⟨p, q, Below.trod hl hr.1.1 hr.1.2 h1 hb (fun x hx => hlt x (List.mem_append.2 (.inl hx))), trodAll_stays hl hb hr.2 h2 (fun x hx => hlt x (List.mem_append.2 (.inr hx))), rfl⟩

/-- A law's 'post': true; the arguments read as they did; only new memory. -/
theorem law_post {s : ChangeSpec} {f : Func} {W W' : World} {args : Array Value} {ds : List (DataW H)} {before : List MemPlace} {tb : TypeId} (hvars : s.vars = []) (hres : f.resultTypes = #[tb]) (hb : P.underlying tb = some .bool)
    (hl : laidOutB P = true) (hread : readable P f.params.toList = true) (hW : DataW.Whole enc P f.params.toList s.vars false W args.toList ds [] before)
    (hr1 : (s.fn H (ds ++ [])).results = [.lit (.bool true)]) (hr2 : (s.fn H (ds ++ [])).args = ds) (hr3 : (s.fn H (ds ++ [])).vars = []) (hbel : Below W.heap.size W W') :
    s.post enc P f false true false false W args (.bool true) W' := by
  have hlt : ∀ x ∈ before, x.block < W.heap.size := fun x hx => by simpa using hW.lt x hx
  have hW' := hW
  obtain ⟨p, q, hA, hV, rfl, _, _⟩ := hW
  rw [hvars] at hV
  obtain ⟨_, rfl⟩ := trodVars_none hV
  rw [List.append_nil] at hW' hlt
  refine ⟨ds, [], _, [], p, [], hW', ?_, ?_, ?_, hbel.frame _, fun h => by cases h⟩
  · rw [hr1, hres]
    exact trodAll_mk1 (shut_bool hb true)
  · rw [hr2]
    exact trodAll_stays hl hbel hread hA hlt
  · rw [hr3, hvars]
    rfl

/-- A []byte argument. -/
theorem openBs {W : World} {t e : TypeId} {v : Value} {d : DataW H} {p : List MemPlace} {base : Nat} (ht : P.underlying t = some (.slice e)) (he : P.underlying e = some (.int .u8)) (hc : P.cellsOf e = 1)
    (hok : Value.okWide P W .any base t v) (h : DataW.Trod enc P W 0 (fun _ => true) true t v d p) (hlt : ∀ x ∈ p, x.block < W.heap.size) : ∃ l, Bs W 0 W.heap.size v l := by
  obtain ⟨a0, len, cap, rfl⟩ := okWide_slice ht hok
  obtain ⟨fuel, hf⟩ := h
  rcases open_ints ht he hc hf with ⟨hcs, hx⟩ | ⟨a, len', cap', zs, hcs, _, hl, hm, hz, hx, hcell, hwz⟩
  · simp [Value.cells] at hcs
    obtain ⟨rfl, rfl, rfl⟩ := hcs
    exact ⟨[], Bs.nil _ _ _⟩
  · simp [Value.cells] at hcs
    obtain ⟨rfl, rfl, rfl⟩ := hcs
    simp only [Prod.mk.injEq] at hx
    obtain ⟨_, rfl⟩ := hx
    simp only [if_true] at hz
    refine ⟨(zs.take len).map byteOf, some a, cap, ?_, ?_, hm, (fun h => by cases h), ?_⟩
    · simp; omega
    · simp; omega
    · intro ad had i x hx
      obtain rfl := Option.some.inj had
      rw [List.map_map] at hx
      have hi : i < len ∧ x = .int .u8 (zs.getD i 0) := by
        rw [List.getElem?_map, List.getElem?_take] at hx
        split at hx
        · rename_i hi
          have hiz : i < zs.length := by omega
          rw [List.getElem?_eq_getElem hiz] at hx
          simp only [Option.map_some, Option.some.injEq, Function.comp] at hx
          have hw := hwz zs[i] (List.getElem_mem hiz)
          simp [Lit.wf, IntKind.min, IntKind.max, IntKind.signed, IntKind.bits] at hw
          refine ⟨hi, ?_⟩
          rw [← hx, u8v_byteOf' (by omega) (by omega)]
          simp [List.getD, List.getElem?_eq_getElem hiz]
        · simp at hx
      have hb := hlt (.cell (a.add i).block (a.add i).off) (MemPlace.mem_row.2 ⟨i, by omega, by simp [Addr.add]; split <;> simp_all⟩)
      refine ⟨Nat.zero_le _, ?_, ?_⟩
      · rw [← add_block a i]; exact hb
      · rw [hi.2]
        exact hcell i (by omega)

/-- A byte argument. -/
theorem openU8 {W : World} {t : TypeId} {v : Value} {d : DataW H} {p : List MemPlace} {base : Nat} (ht : P.underlying t = some (.int .u8))
    (hok : Value.okWide P W .any base t v) (h : DataW.Trod enc P W 0 (fun _ => true) true t v d p) : ∃ n, v = .int .u8 n ∧ 0 ≤ n ∧ n < 256 := by
  obtain ⟨n, rfl, _, _, w0⟩ := open_int ht hok h
  simp [Lit.wf, IntKind.min, IntKind.max, IntKind.signed, IntKind.bits] at w0
  exact ⟨n, rfl, by omega, by omega⟩
/-- A uint64 argument. -/
theorem openU64 {W : World} {t : TypeId} {v : Value} {d : DataW H} {p : List MemPlace} {base : Nat} (ht : P.underlying t = some (.int .u64))
    (hok : Value.okWide P W .any base t v) (h : DataW.Trod enc P W 0 (fun _ => true) true t v d p) : ∃ n, v = .int .u64 n ∧ 0 ≤ n ∧ n < 18446744073709551616 := by
  obtain ⟨n, rfl, _, _, w0⟩ := open_int ht hok h
  simp [Lit.wf, IntKind.min, IntKind.max, IntKind.signed, IntKind.bits] at w0
  exact ⟨n, rfl, by omega, by omega⟩

/-- A list out of what is so at each index. -/
theorem list_of {α : Type} {Q : Nat → α → Prop} : ∀ (n : Nat), (∀ i, i < n → ∃ x, Q i x) → ∃ xs : List α, xs.length = n ∧ ∀ i x, xs[i]? = some x → Q i x
  | 0, _ => ⟨[], rfl, fun i x h => by simp at h⟩
  | n + 1, h => by
    obtain ⟨xs, hl, hx⟩ := list_of n (fun i hi => h i (by omega))
    obtain ⟨x, hq⟩ := h n (by omega)
    refine ⟨xs ++ [x], by simp [hl], fun i y hy => ?_⟩
    by_cases hi : i < xs.length
    · rw [List.getElem?_append_left hi] at hy; exact hx i y hy
    · have hlt := (List.getElem?_eq_some_iff.1 hy).1
      simp at hlt
      have : i = xs.length := by omega
      subst this
      rw [List.getElem?_append_right (Nat.le_refl _)] at hy
      simp at hy
      subst hy
      rw [hl]
      exact hq

/-- Bytes, out of a reading. -/
theorem bs_of_trod {W : World} {t e : TypeId} {v : Value} {fuel : Nat} {x : DataW H × List MemPlace} (ht : P.underlying t = some (.slice e)) (he : P.underlying e = some (.int .u8)) (hc : P.cellsOf e = 1)
    (hf : DataW.trod enc P W 0 (fun _ => true) true fuel t [v] = some x) (hlt : ∀ y ∈ x.2, y.block < W.heap.size) : ∃ l, Bs W 0 W.heap.size v l := by
  rcases open_ints ht he hc hf with ⟨hcs, hx⟩ | ⟨a, len', cap', zs, hcs, _, hl, hm, hz, hx, hcell, hwz⟩
  · simp only [List.cons.injEq, and_true] at hcs
    subst hcs
    exact ⟨[], Bs.nil _ _ _⟩
  · simp only [List.cons.injEq, and_true] at hcs
    subst hcs
    subst hx
    simp only [if_true] at hz
    refine ⟨(zs.take len').map byteOf, some a, cap', ?_, ?_, hm, (fun h => by cases h), ?_⟩
    · simp; omega
    · simp; omega
    · intro ad had i x hx
      obtain rfl := Option.some.inj had
      rw [List.map_map] at hx
      have hi : i < len' ∧ x = .int .u8 (zs.getD i 0) := by
        rw [List.getElem?_map, List.getElem?_take] at hx
        split at hx
        · rename_i hi
          have hiz : i < zs.length := by omega
          rw [List.getElem?_eq_getElem hiz] at hx
          simp only [Option.map_some, Option.some.injEq, Function.comp] at hx
          have hw := hwz zs[i] (List.getElem_mem hiz)
          simp [Lit.wf, IntKind.min, IntKind.max, IntKind.signed, IntKind.bits] at hw
          refine ⟨hi, ?_⟩
          rw [← hx, u8v_byteOf' (by omega) (by omega)]
          simp [List.getD, List.getElem?_eq_getElem hiz]
        · simp at hx
      have hb := hlt (.cell (a.add i).block (a.add i).off) (MemPlace.mem_row.2 ⟨i, by omega, by simp [Addr.add]; split <;> simp_all⟩)
      refine ⟨Nat.zero_le _, ?_, ?_⟩
      · rw [← add_block a i]; exact hb
      · rw [hi.2]
        exact hcell i (by omega)

/-- A [][]byte argument. -/
theorem openBss {W : World} {t t' e : TypeId} {v : Value} {d : DataW H} {p : List MemPlace} {base : Nat} (ht : P.underlying t = some (.slice t')) (ht' : P.underlying t' = some (.slice e)) (he : P.underlying e = some (.int .u8)) (hc : P.cellsOf e = 1) (hc' : P.cellsOf t' = 1)
    (hok : Value.okWide P W .any base t v) (h : DataW.Trod enc P W 0 (fun _ => true) true t v d p) (hlt : ∀ x ∈ p, x.block < W.heap.size) : ∃ ls, Bss W 0 W.heap.size 0 W.heap.size v ls := by
  obtain ⟨a0, len, cap, rfl⟩ := okWide_slice ht hok
  obtain ⟨fuel, hf⟩ := h
  rcases Deep.open_slice1 ht hc' hf with ⟨hcs, hx⟩ | ⟨a, len', cap', m, n, V, D, Pl, hcs, _, hl, hm, hmm, hx, hcell⟩
  · simp [Value.cells] at hcs
    obtain ⟨rfl, rfl, rfl⟩ := hcs
    exact ⟨[], [], Vs.nil _ _ _, rfl, fun i x l h => by simp at h⟩
  · simp [Value.cells] at hcs
    obtain ⟨rfl, rfl, rfl⟩ := hcs
    simp only [Prod.mk.injEq] at hx
    obtain ⟨_, rfl⟩ := hx
    simp only [if_true] at hmm
    subst hmm
    obtain ⟨ls, hll, hls⟩ := list_of (Q := fun i l => Bs W 0 W.heap.size (V i) l) len (fun i hi => bs_of_trod ht' he hc (hcell i (by omega)).2 (fun y hy => hlt y (by
      refine List.mem_append.2 (.inr (List.mem_flatMap.2 ⟨i, by simp; omega, hy⟩)))))
    refine ⟨ls, (List.range len).map V, ⟨some a, m, by simp, by simpa using hl, hm, (fun h => by cases h), ?_⟩, by simp [hll], ?_⟩
    · intro ad had i x hx
      obtain rfl := Option.some.inj had
      have hi : i < len ∧ x = V i := by
        rw [List.getElem?_map] at hx
        by_cases hi : i < len
        · rw [List.getElem?_range hi] at hx; simp at hx; exact ⟨hi, hx.symm⟩
        · rw [List.getElem?_eq_none (by simp; omega)] at hx; cases hx
      have hb := hlt (.cell (a.add i).block (a.add i).off) (List.mem_append.2 (.inl (MemPlace.mem_row.2 ⟨i, by omega, by simp [Addr.add]; split <;> simp_all⟩)))
      refine ⟨Nat.zero_le _, ?_, ?_⟩
      · rw [← add_block a i]; exact hb
      · rw [hi.2]; exact (hcell i (by omega)).1
    · intro i x l hx hl'
      have hi : i < len ∧ x = V i := by
        rw [List.getElem?_map] at hx
        by_cases hi : i < len
        · rw [List.getElem?_range hi] at hx; simp at hx; exact ⟨hi, hx.symm⟩
        · rw [List.getElem?_eq_none (by simp; omega)] at hx; cases hx
      rw [hi.2]
      exact hls i l hl'

/-- A []uint64 argument. -/
theorem openNs {W : World} {t e : TypeId} {v : Value} {d : DataW H} {p : List MemPlace} {base : Nat} (ht : P.underlying t = some (.slice e)) (he : P.underlying e = some (.int .u64)) (hc : P.cellsOf e = 1)
    (hok : Value.okWide P W .any base t v) (h : DataW.Trod enc P W 0 (fun _ => true) true t v d p) (hlt : ∀ x ∈ p, x.block < W.heap.size) : ∃ ns, Ns W 0 W.heap.size v ns := by
  obtain ⟨a0, len, cap, rfl⟩ := okWide_slice ht hok
  obtain ⟨fuel, hf⟩ := h
  rcases open_ints ht he hc hf with ⟨hcs, hx⟩ | ⟨a, len', cap', zs, hcs, _, hl, hm, hz, hx, hcell, hwz⟩
  · simp [Value.cells] at hcs
    obtain ⟨rfl, rfl, rfl⟩ := hcs
    exact ⟨[], Vs.nil _ _ _, fun n hn => by simp at hn⟩
  · simp [Value.cells] at hcs
    obtain ⟨rfl, rfl, rfl⟩ := hcs
    simp only [Prod.mk.injEq] at hx
    obtain ⟨_, rfl⟩ := hx
    simp only [if_true] at hz
    refine ⟨zs.take len, ⟨some a, cap, ?_, ?_, hm, (fun h => by cases h), ?_⟩, ?_⟩
    · simp; omega
    · simp; omega
    · intro ad had i x hx
      obtain rfl := Option.some.inj had
      have hi : i < len ∧ x = .int .u64 (zs.getD i 0) := by
        rw [List.getElem?_map, List.getElem?_take] at hx
        split at hx
        · rename_i hi
          have hiz : i < zs.length := by omega
          rw [List.getElem?_eq_getElem hiz] at hx
          simp only [Option.map_some, Option.some.injEq] at hx
          refine ⟨hi, ?_⟩
          rw [← hx]
          simp [u64v, List.getD, List.getElem?_eq_getElem hiz]
        · simp at hx
      have hb := hlt (.cell (a.add i).block (a.add i).off) (MemPlace.mem_row.2 ⟨i, by omega, by simp [Addr.add]; split <;> simp_all⟩)
      refine ⟨Nat.zero_le _, ?_, ?_⟩
      · rw [← add_block a i]; exact hb
      · rw [hi.2]
        exact hcell i (by omega)
    · intro n hn
      have hw := hwz n (List.mem_of_mem_take hn)
      simp [Lit.wf, IntKind.min, IntKind.max, IntKind.signed, IntKind.bits] at hw
      exact ⟨by omega, by omega⟩
end
end Go.Pm

/- Arguments that are arrays of integers, opened. Program-independent. -/
namespace Go.Pm
open Go Go.RowKit Go.ChangeShapes Go.WideShapes Go.ChangeAt

theorem mapM_each {α β : Type} {f : α → Option β} : ∀ {l : List α} {ys : List β}, l.mapM f = some ys → ∀ i ∈ l, ∃ y, f i = some y
  | [], ys, _, i, hi => by simp at hi
  | a :: l, ys, h, i, hi => by
    rw [List.mapM_cons] at h
    simp only [bind, Option.bind_eq_some_iff, pure, Option.some.injEq] at h
    obtain ⟨y, hy, ys', hys, rfl⟩ := h
    rcases List.mem_cons.1 hi with rfl | hi
    · exact ⟨y, hy⟩
    · exact mapM_each hys i hi

section
variable {H : Type} {enc : TypeId × Value → H} {P : Program}
/-- An argument that is an array of integers. -/
theorem openInts {W : World} {t e : TypeId} {kd : IntKind} {n : Nat} {v : Value} {d : DataW H} {p : List MemPlace} {base : Nat} (ht : P.underlying t = some (.array n e)) (he : P.underlying e = some (.int kd)) (hc : P.cellsOf e = 1) (hC : P.cellsOf t = n)
    (hok : Value.okWide P W .any base t v) (h : DataW.Trod enc P W 0 (fun _ => true) true t v d p) : ∃ ns : List Int, v = .agg (ns.map (Value.int kd)).toArray ∧ ns.length = n ∧ ∀ z ∈ ns, Lit.wf (.int kd z) = true := by
  simp only [Value.okWide, ht] at hok
  obtain ⟨cs, rfl, h2, _⟩ := hok
  rw [hC] at h2
  obtain ⟨fuel, hf⟩ := h
  cases fuel with
  | zero => simp [DataW.trod] at hf
  | succ m =>
    unfold DataW.trod at hf
    simp only [ht, Value.cells] at hf
    split at hf
    · simp only [Option.map_eq_some_iff] at hf
      obtain ⟨ys, hy, _⟩ := hf
      have each := mapM_each hy
      have get : ∀ i, i < n → ∃ z, cs.toList[i]? = some (.int kd z) ∧ Lit.wf (.int kd z) = true := fun i hi => by
        obtain ⟨y, hy⟩ := each i (List.mem_range.2 hi)
        rw [hc, Nat.mul_one] at hy
        have hlt : i < cs.toList.length := by simpa [h2] using hi
        rw [List.drop_eq_getElem_cons hlt, List.take_succ_cons, List.take_zero] at hy
        obtain ⟨z, ez, _, wz⟩ := DataW.trod_int he hy
        exact ⟨z, by rw [List.getElem?_eq_getElem hlt]; exact congrArg some (List.cons.inj ez).1, wz⟩
      obtain ⟨ns, hl, hns⟩ := list_of (Q := fun i z => cs.toList[i]? = some (.int kd z) ∧ Lit.wf (.int kd z) = true) n get
      refine ⟨ns, ?_, hl, fun z hz => ?_⟩
      · congr 1
        apply Array.ext'
        apply List.ext_getElem?
        intro i
        simp only [List.getElem?_map]
        by_cases hi : i < ns.length
        · rw [List.getElem?_eq_getElem hi, Option.map_some]
          exact (hns i _ (List.getElem?_eq_getElem hi)).1
        · rw [List.getElem?_eq_none (by simp [h2]; omega), List.getElem?_eq_none (by omega)]
          rfl
      · obtain ⟨i, hi, rfl⟩ := List.getElem_of_mem hz
        exact (hns i _ (List.getElem?_eq_getElem hi)).2
    · cases hf
/-- A state. -/
theorem openState {w : World} {t e : TypeId} {v : Value} {d : DataW H} {p : List MemPlace} {base : Nat} (ht : P.underlying t = some (.array 5 e)) (he : P.underlying e = some (.int .u64)) (hc : P.cellsOf e = 1) (hC : P.cellsOf t = 5)
    (hok : Value.okWide P w .any base t v) (h : DataW.Trod enc P w 0 (fun _ => true) true t v d p) : ∃ s : S5, v = .agg #[.int .u64 (U s.a), .int .u64 (U s.b), .int .u64 (U s.c), .int .u64 (U s.d), .int .u64 (U s.e)] := by
  obtain ⟨ns, rfl, hl, hw⟩ := openInts ht he hc hC hok h
  have word : ∀ z, Lit.wf (.int .u64 z) = true → U (W z) = z := fun z hz => by
    simp [Lit.wf, IntKind.min, IntKind.max, IntKind.signed, IntKind.bits] at hz
    exact U_W z (by omega) (by omega)
  match ns, hl, hw with
  | [a, b, c, d, e], _, hw =>
    refine ⟨⟨W a, W b, W c, W d, W e⟩, ?_⟩
    rw [word a (hw a (by simp)), word b (hw b (by simp)), word c (hw c (by simp)), word d (hw d (by simp)), word e (hw e (by simp))]
    rfl
end
end Go.Pm

/- Arguments that are numbers, opened as natural numbers; laws of five and six arguments. Program-independent. -/
namespace Go.Pm
open Go Go.RowKit Go.ChangeShapes Go.WideShapes Go.ChangeAt

section
variable {H : Type} {enc : TypeId × Value → H} {P : Program}
theorem openNat_u64 {W : World} {t : TypeId} {v : Value} {d : DataW H} {p : List MemPlace} {base : Nat} (ht : P.underlying t = some (.int .u64)) (hok : Value.okWide P W .any base t v) (h : DataW.Trod enc P W 0 (fun _ => true) true t v d p) :
    ∃ n : Nat, v = .int .u64 (n : Int) ∧ n < 18446744073709551616 := by
  obtain ⟨n, rfl, n0, n1⟩ := openU64 ht hok h
  exact ⟨n.toNat, by rw [Int.toNat_of_nonneg n0], by omega⟩
theorem openNat_u8 {W : World} {t : TypeId} {v : Value} {d : DataW H} {p : List MemPlace} {base : Nat} (ht : P.underlying t = some (.int .u8)) (hok : Value.okWide P W .any base t v) (h : DataW.Trod enc P W 0 (fun _ => true) true t v d p) :
    ∃ n : Nat, v = .int .u8 (n : Int) ∧ n < 256 := by
  obtain ⟨n, rfl, n0, n1⟩ := openU8 ht hok h
  exact ⟨n.toNat, by rw [Int.toNat_of_nonneg n0], by omega⟩
theorem openNat_u32 {W : World} {t : TypeId} {v : Value} {d : DataW H} {p : List MemPlace} {base : Nat} (ht : P.underlying t = some (.int .u32)) (hok : Value.okWide P W .any base t v) (h : DataW.Trod enc P W 0 (fun _ => true) true t v d p) :
    ∃ n : Nat, v = .int .u32 (n : Int) ∧ n < 4294967296 := by
  obtain ⟨n, rfl, _, _, w0⟩ := open_int ht hok h
  simp [Lit.wf, IntKind.min, IntKind.max, IntKind.signed, IntKind.bits] at w0
  exact ⟨n.toNat, by rw [Int.toNat_of_nonneg (by omega)], by omega⟩
theorem trodAll_five {w : World} {base : Nat} {spare : Nat → Bool} {held : Bool} {t0 t1 t2 t3 t4 : TypeId} {args : Array Value} {ds : List (DataW H)} {ps : List MemPlace} (h : DataW.TrodAll enc P w base spare held [t0, t1, t2, t3, t4] args.toList ds ps) :
    ∃ v0 v1 v2 v3 v4 d0 d1 d2 d3 d4 p0 p1 p2 p3 p4, args = #[v0, v1, v2, v3, v4] ∧ ds = [d0, d1, d2, d3, d4] ∧ ps = p0 ++ (p1 ++ (p2 ++ (p3 ++ p4))) ∧ DataW.Trod enc P w base spare held t0 v0 d0 p0 ∧ DataW.Trod enc P w base spare held t1 v1 d1 p1 ∧
      DataW.Trod enc P w base spare held t2 v2 d2 p2 ∧ DataW.Trod enc P w base spare held t3 v3 d3 p3 ∧ DataW.Trod enc P w base spare held t4 v4 d4 p4 := by
  obtain ⟨v0, l0, d0, e0, p0, q0, ha, rfl, rfl, h0, h⟩ := trodAll_cons h
  obtain ⟨v1, v2, v3, v4, d1, d2, d3, d4, p1, p2, p3, p4, hb, rfl, rfl, h1, h2, h3, h4⟩ := trodAll_four (args := l0.toArray) (by simpa using h)
  refine ⟨v0, v1, v2, v3, v4, d0, d1, d2, d3, d4, p0, p1, p2, p3, p4, ?_, rfl, by simp, h0, h1, h2, h3, h4⟩
  apply Array.ext'
  rw [ha]
  have := congrArg Array.toList hb
  simpa using this
theorem trodAll_six {w : World} {base : Nat} {spare : Nat → Bool} {held : Bool} {t0 t1 t2 t3 t4 t5 : TypeId} {args : Array Value} {ds : List (DataW H)} {ps : List MemPlace} (h : DataW.TrodAll enc P w base spare held [t0, t1, t2, t3, t4, t5] args.toList ds ps) :
    ∃ v0 v1 v2 v3 v4 v5 d0 d1 d2 d3 d4 d5 p0 p1 p2 p3 p4 p5, args = #[v0, v1, v2, v3, v4, v5] ∧ ds = [d0, d1, d2, d3, d4, d5] ∧ ps = p0 ++ (p1 ++ (p2 ++ (p3 ++ (p4 ++ p5)))) ∧ DataW.Trod enc P w base spare held t0 v0 d0 p0 ∧ DataW.Trod enc P w base spare held t1 v1 d1 p1 ∧
      DataW.Trod enc P w base spare held t2 v2 d2 p2 ∧ DataW.Trod enc P w base spare held t3 v3 d3 p3 ∧ DataW.Trod enc P w base spare held t4 v4 d4 p4 ∧ DataW.Trod enc P w base spare held t5 v5 d5 p5 := by
  obtain ⟨v0, l0, d0, e0, p0, q0, ha, rfl, rfl, h0, h⟩ := trodAll_cons h
  obtain ⟨v1, v2, v3, v4, v5, d1, d2, d3, d4, d5, p1, p2, p3, p4, p5, hb, rfl, rfl, h1, h2, h3, h4, h5⟩ := trodAll_five (args := l0.toArray) (by simpa using h)
  refine ⟨v0, v1, v2, v3, v4, v5, d0, d1, d2, d3, d4, d5, p0, p1, p2, p3, p4, p5, ?_, rfl, rfl, h0, h1, h2, h3, h4, h5⟩
  apply Array.ext'
  rw [ha]
  have := congrArg Array.toList hb
  simpa using this
end
end Go.Pm

/- Arguments that are structs of two numbers, opened. Program-independent. -/
namespace Go.Pm
open Go Go.RowKit Go.ChangeShapes Go.WideShapes Go.ChangeAt

theorem openPair {H : Type} {enc : TypeId × Value → H} {P : Program} {W : World} {t : TypeId} {f0 f1 : Field} {v : Value} {d : DataW H} {p : List MemPlace} {base : Nat} (ht : P.underlying t = some (.struct #[f0, f1])) (hC : P.cellsOf t = 2)
    (h0 : f0.offset = 0) (h1 : f1.offset = 1) (hu0 : P.underlying f0.type = some (.int .u64)) (hu1 : P.underlying f1.type = some (.int .u64)) (hc0 : P.cellsOf f0.type = 1) (hc1 : P.cellsOf f1.type = 1)
    (hok : Value.okWide P W .any base t v) (h : DataW.Trod enc P W 0 (fun _ => true) true t v d p) : ∃ a b : Nat, v = .agg #[.int .u64 (a : Int), .int .u64 (b : Int)] ∧ a < 18446744073709551616 ∧ b < 18446744073709551616 := by
  simp only [Value.okWide, ht] at hok
  obtain ⟨cs, rfl, h2, _⟩ := hok
  rw [hC] at h2
  obtain ⟨fuel, hf⟩ := h
  obtain ⟨y0, y1, n', _, _, g0, g1⟩ := trod_struct2 ht hf
  rw [h0, hc0] at g0
  rw [h1, hc1] at g1
  obtain ⟨k0, e0, _, w0⟩ := DataW.trod_int hu0 g0
  obtain ⟨k1, e1, _, w1⟩ := DataW.trod_int hu1 g1
  simp [Lit.wf, IntKind.min, IntKind.max, IntKind.signed, IntKind.bits] at w0 w1
  obtain ⟨l⟩ := cs
  match l, h2 with
  | [c0, c1], _ =>
    simp [Value.cells] at e0 e1
    subst e0 e1
    exact ⟨k0.toNat, k1.toNat, by rw [Int.toNat_of_nonneg (by omega), Int.toNat_of_nonneg (by omega)], by omega, by omega⟩
end Go.Pm

/- Arguments that are strings, uint16s, requests, opened; laws of up to ten arguments. Program-independent. -/
namespace Go.Pm
open Go Go.RowKit Go.ChangeShapes Go.WideShapes Go.ChangeAt

section
variable {H : Type} {enc : TypeId × Value → H} {P : Program}
theorem openStr {W : World} {t : TypeId} {v : Value} {d : DataW H} {p : List MemPlace} {base : Nat} (ht : P.underlying t = some .string) (hok : Value.okWide P W .any base t v) (h : DataW.Trod enc P W 0 (fun _ => true) true t v d p) :
    ∃ s : ByteArray, v = .string s ∧ s.size ≤ 9223372036854775807 := by
  obtain ⟨s, rfl⟩ := okWide_string ht hok
  obtain ⟨fuel, hf⟩ := h
  obtain ⟨s', h, hx, hs⟩ := DataW.trod_string ht hf
  simp [Value.cells] at h
  subst h
  unfold maxLen at hs
  exact ⟨s, rfl, by omega⟩
theorem openNat_u16 {W : World} {t : TypeId} {v : Value} {d : DataW H} {p : List MemPlace} {base : Nat} (ht : P.underlying t = some (.int .u16)) (hok : Value.okWide P W .any base t v) (h : DataW.Trod enc P W 0 (fun _ => true) true t v d p) :
    ∃ n : Nat, v = .int .u16 (n : Int) ∧ n < 65536 := by
  obtain ⟨n, rfl, _, _, w0⟩ := open_int ht hok h
  simp [Lit.wf, IntKind.min, IntKind.max, IntKind.signed, IntKind.bits] at w0
  exact ⟨n.toNat, by rw [Int.toNat_of_nonneg (by omega)], by omega⟩

/-- A request (a struct of a string, an int, a number, an int, a struct of two numbers). -/
theorem openUpd {W : World} {t : TypeId} {f0 f1 f2 f3 f4 g0 g1 : Field} {v : Value} {d : DataW H} {p : List MemPlace} {base : Nat} (ht : P.underlying t = some (.struct #[f0, f1, f2, f3, f4])) (hC : P.cellsOf t = 6)
    (o0 : f0.offset = 0) (o1 : f1.offset = 1) (o2 : f2.offset = 2) (o3 : f3.offset = 3) (o4 : f4.offset = 4) (hu0 : P.underlying f0.type = some .string) (hu1 : P.underlying f1.type = some (.int .i64)) (hu2 : P.underlying f2.type = some (.int .u64)) (hu3 : P.underlying f3.type = some (.int .i64))
    (hu4 : P.underlying f4.type = some (.struct #[g0, g1])) (q0 : g0.offset = 0) (q1 : g1.offset = 1) (hg0 : P.underlying g0.type = some (.int .u64)) (hg1 : P.underlying g1.type = some (.int .u64))
    (hc0 : P.cellsOf f0.type = 1) (hc1 : P.cellsOf f1.type = 1) (hc2 : P.cellsOf f2.type = 1) (hc3 : P.cellsOf f3.type = 1) (hc4 : P.cellsOf f4.type = 2) (hd0 : P.cellsOf g0.type = 1) (hd1 : P.cellsOf g1.type = 1)
    (hok : Value.okWide P W .any base t v) (h : DataW.Trod enc P W 0 (fun _ => true) true t v d p) :
    ∃ (n : ByteArray) (a c : Int) (k r s : Nat), v = .agg #[.string n, .int .i64 a, .int .u64 (k : Int), .int .i64 c, .int .u64 (r : Int), .int .u64 (s : Int)] ∧ k < 18446744073709551616 ∧ r < 18446744073709551616 ∧ s < 18446744073709551616 := by
  simp only [Value.okWide, ht] at hok
  obtain ⟨cs, rfl, h2, _⟩ := hok
  rw [hC] at h2
  obtain ⟨fuel, hf⟩ := h
  obtain ⟨xs, n', _, _, _, hlen, hx⟩ := DataW.trod_struct ht hf
  obtain ⟨l⟩ := cs
  match l, h2 with
  | [c0, c1, c2, c3, c4, c5], _ =>
    match xs, hlen with
    | [y0, y1, y2, y3, y4], _ =>
      have e0 := hx 0 f0 rfl
      have e1 := hx 1 f1 rfl
      have e2 := hx 2 f2 rfl
      have e3 := hx 3 f3 rfl
      have e4 := hx 4 f4 rfl
      rw [o0, hc0] at e0
      rw [o1, hc1] at e1
      rw [o2, hc2] at e2
      rw [o3, hc3] at e3
      rw [o4, hc4] at e4
      obtain ⟨s0, r0, _, _⟩ := DataW.trod_string hu0 e0
      obtain ⟨k1, r1, _, _⟩ := DataW.trod_int hu1 e1
      obtain ⟨k2, r2, _, w2⟩ := DataW.trod_int hu2 e2
      obtain ⟨k3, r3, _, _⟩ := DataW.trod_int hu3 e3
      obtain ⟨z0, z1, n4, _, _, m0, m1⟩ := trod_struct2 hu4 e4
      rw [q0, hd0] at m0
      rw [q1, hd1] at m1
      obtain ⟨k4, r4, _, w4⟩ := DataW.trod_int hg0 m0
      obtain ⟨k5, r5, _, w5⟩ := DataW.trod_int hg1 m1
      simp [Value.cells] at r0 r1 r2 r3 r4 r5
      simp [Lit.wf, IntKind.min, IntKind.max, IntKind.signed, IntKind.bits] at w2 w4 w5
      subst r0 r1 r2 r3 r4 r5
      exact ⟨s0, k1, k3, k2.toNat, k4.toNat, k5.toNat, by rw [Int.toNat_of_nonneg (by omega), Int.toNat_of_nonneg (by omega), Int.toNat_of_nonneg (by omega)], by omega, by omega, by omega⟩

theorem trodAll_seven {w : World} {base : Nat} {spare : Nat → Bool} {held : Bool} {t0 t1 t2 t3 t4 t5 t6 : TypeId} {args : Array Value} {ds : List (DataW H)} {ps : List MemPlace} (h : DataW.TrodAll enc P w base spare held [t0, t1, t2, t3, t4, t5, t6] args.toList ds ps) :
    ∃ v0 v1 v2 v3 v4 v5 v6 d0 d1 d2 d3 d4 d5 d6 p0 p1 p2 p3 p4 p5 p6, args = #[v0, v1, v2, v3, v4, v5, v6] ∧ ds = [d0, d1, d2, d3, d4, d5, d6] ∧ ps = p0 ++ (p1 ++ (p2 ++ (p3 ++ (p4 ++ (p5 ++ p6))))) ∧ DataW.Trod enc P w base spare held t0 v0 d0 p0 ∧ DataW.Trod enc P w base spare held t1 v1 d1 p1 ∧
      DataW.Trod enc P w base spare held t2 v2 d2 p2 ∧ DataW.Trod enc P w base spare held t3 v3 d3 p3 ∧ DataW.Trod enc P w base spare held t4 v4 d4 p4 ∧ DataW.Trod enc P w base spare held t5 v5 d5 p5 ∧ DataW.Trod enc P w base spare held t6 v6 d6 p6 := by
  obtain ⟨v0, l0, d0, e0, p0, q0, ha, rfl, rfl, h0, h⟩ := trodAll_cons h
  obtain ⟨v1, v2, v3, v4, v5, v6, d1, d2, d3, d4, d5, d6, p1, p2, p3, p4, p5, p6, hb, rfl, rfl, h1, h2, h3, h4, h5, h6⟩ := trodAll_six (args := l0.toArray) (by simpa using h)
  refine ⟨v0, v1, v2, v3, v4, v5, v6, d0, d1, d2, d3, d4, d5, d6, p0, p1, p2, p3, p4, p5, p6, ?_, rfl, by simp, h0, h1, h2, h3, h4, h5, h6⟩
  apply Array.ext'
  rw [ha]
  have := congrArg Array.toList hb
  simpa using this
theorem trodAll_ten {w : World} {base : Nat} {spare : Nat → Bool} {held : Bool} {t0 t1 t2 t3 t4 t5 t6 t7 t8 t9 : TypeId} {args : Array Value} {ds : List (DataW H)} {ps : List MemPlace} (h : DataW.TrodAll enc P w base spare held [t0, t1, t2, t3, t4, t5, t6, t7, t8, t9] args.toList ds ps) :
    ∃ v0 v1 v2 v3 v4 v5 v6 v7 v8 v9 d0 d1 d2 d3 d4 d5 d6 d7 d8 d9 p0 p1 p2 p3 p4 p5 p6 p7 p8 p9, args = #[v0, v1, v2, v3, v4, v5, v6, v7, v8, v9] ∧ ds = [d0, d1, d2, d3, d4, d5, d6, d7, d8, d9] ∧ ps = p0 ++ (p1 ++ (p2 ++ (p3 ++ (p4 ++ (p5 ++ (p6 ++ (p7 ++ (p8 ++ p9)))))))) ∧
      DataW.Trod enc P w base spare held t0 v0 d0 p0 ∧ DataW.Trod enc P w base spare held t1 v1 d1 p1 ∧ DataW.Trod enc P w base spare held t2 v2 d2 p2 ∧ DataW.Trod enc P w base spare held t3 v3 d3 p3 ∧ DataW.Trod enc P w base spare held t4 v4 d4 p4 ∧
      DataW.Trod enc P w base spare held t5 v5 d5 p5 ∧ DataW.Trod enc P w base spare held t6 v6 d6 p6 ∧ DataW.Trod enc P w base spare held t7 v7 d7 p7 ∧ DataW.Trod enc P w base spare held t8 v8 d8 p8 ∧ DataW.Trod enc P w base spare held t9 v9 d9 p9 := by
  obtain ⟨v0, l0, d0, e0, p0, q0, ha, rfl, rfl, h0, h⟩ := trodAll_cons h
  obtain ⟨v1, l1, d1, e1, p1, q1, rfl, rfl, rfl, h1, h⟩ := trodAll_cons h
  obtain ⟨v2, l2, d2, e2, p2, q2, rfl, rfl, rfl, h2, h⟩ := trodAll_cons h
  obtain ⟨v3, v4, v5, v6, v7, v8, v9, d3, d4, d5, d6, d7, d8, d9, p3, p4, p5, p6, p7, p8, p9, hb, rfl, rfl, h3, h4, h5, h6, h7, h8, h9⟩ := trodAll_seven (args := l2.toArray) (by simpa using h)
  refine ⟨v0, v1, v2, v3, v4, v5, v6, v7, v8, v9, d0, d1, d2, d3, d4, d5, d6, d7, d8, d9, p0, p1, p2, p3, p4, p5, p6, p7, p8, p9, ?_, rfl, by simp, h0, h1, h2, h3, h4, h5, h6, h7, h8, h9⟩
  apply Array.ext'
  rw [ha]
  have := congrArg Array.toList hb
  simp at this
  simp [this]
end
end Go.Pm
namespace Go.Proofs.Ytpbkdeljhehkdaa
open Go.RowKit Go.Pm
namespace R12
theorem right1_is (s g c : Int) (n : ByteArray) (v cl t e : Int) (k rr ss : Nat) (hs : 0 ≤ s ∧ s ≤ 1152921504606846976) : rightJ (⟨1, s, g, c, ⟨n, v, k, cl, rr, ss⟩, t, e⟩ : Rec) = (recEq (⟨1, s, g, c, ⟨n, v, k, cl, rr, ss⟩, t, e⟩ : Rec) ⟨1, s, g, c, Req.none, 0, 0⟩ && (decide (0 ≤ g) && (decide (g ≤ 1152921504606846976) && (decide (0 ≤ c) && decide (c ≤ 32))))) := by
  rw [Bool.eq_iff_iff, rightJ_iff]
  simp only [Bool.and_eq_true, decide_eq_true_eq, recEq_iff, Req.right]
  constructor
  · rintro ⟨_, h | h | h⟩
    · exact h
    · exact absurd (congrArg Rec.kind h.1) (by simp)
    · exact absurd (congrArg Rec.kind h.1) (by simp)
  · intro h
    exact ⟨hs, .inl h⟩
set_option maxRecDepth 100000 in
set_option maxHeartbeats 4000000 in
theorem right1 (s g c : Int) (n : ByteArray) (v cl t e : Int) (k rr ss : Nat) (w : World) (hs : 0 ≤ s ∧ s ≤ 1152921504606846976) :
    Calls Try.prog 14 #[(⟨1, s, g, c, ⟨n, v, k, cl, rr, ss⟩, t, e⟩ : Rec).V] w fun e' w' => e' = .returned (.bool (rightJ (⟨1, s, g, c, ⟨n, v, k, cl, rr, ss⟩, t, e⟩ : Rec))) ∧ Kept None w w' := by
  rw [right1_is s g c n v cl t e k rr ss hs]
  have d1 : decide (s < 0) = false := by simp; omega
  have d2 : decide (1152921504606846976 < s) = false := by simp; omega
  have heq := fun W => Jq.eqRec (⟨1, s, g, c, ⟨n, v, k, cl, rr, ss⟩, t, e⟩ : Rec) ⟨1, s, g, c, Req.none, 0, 0⟩ W
  obtain ⟨X, hX⟩ : ∃ X, X = recEq (⟨1, s, g, c, ⟨n, v, k, cl, rr, ss⟩, t, e⟩ : Rec) ⟨1, s, g, c, Req.none, 0, 0⟩ := ⟨_, rfl⟩
  rw [← hX]
  have hq : ∀ W, (binOp .eql 28 (.agg #[.int .i64 1, .int .i64 s, .int .i64 g, .int .i64 c, .string n, .int .i64 v, .int .u64 (k : Int), .int .i64 cl, .int .u64 (rr : Int), .int .u64 (ss : Int), .int .i64 t, .int .i64 e]) (.agg #[.int .i64 1, .int .i64 s, .int .i64 g, .int .i64 c, .string ⟨#[]⟩, .int .i64 0, .int .u64 0, .int .i64 0, .int .u64 0, .int .u64 0, .int .i64 0, .int .i64 0])).run Try.prog W = .ok (.bool X) W := fun W => by
    rw [hX]
    exact heq W
  skip
  clear hs heq hX
  unfold Rec.V Rec.C
  go_enter Try.func14, Try.ntmps14
  go_upto_region 6 with fail
  go_region
  cases X with
  | false =>
    go_wp2
    go_ret
    exact ⟨by simp, (((Kept.refl _ _).alloc _).alloc _).drew⟩
  | true =>
    rcases Bool.eq_false_or_eq_true (decide (0 ≤ g)) with f0 | f0
    rotate_left
    · go_wp2
      go_ret
      exact ⟨by simp [f0], (((Kept.refl _ _).alloc _).alloc _).drew⟩
    rcases Bool.eq_false_or_eq_true (decide (g ≤ 1152921504606846976)) with f1 | f1
    rotate_left
    · go_wp2
      go_ret
      exact ⟨by simp [f0, f1], (((Kept.refl _ _).alloc _).alloc _).drew⟩
    rcases Bool.eq_false_or_eq_true (decide (0 ≤ c)) with f2 | f2
    rotate_left
    · go_wp2
      go_ret
      exact ⟨by simp [f0, f1, f2], (((Kept.refl _ _).alloc _).alloc _).drew⟩
    rcases Bool.eq_false_or_eq_true (decide (c ≤ 32)) with f3 | f3
    rotate_left
    · go_wp2
      go_ret
      exact ⟨by simp [f0, f1, f2, f3], (((Kept.refl _ _).alloc _).alloc _).drew⟩
    go_wp2
    go_ret
    exact ⟨by simp [f0, f1, f2, f3], (((Kept.refl _ _).alloc _).alloc _).drew⟩
theorem right2_is (s g c : Int) (n : ByteArray) (v cl t e : Int) (k rr ss : Nat) (hs : 0 ≤ s ∧ s ≤ 1152921504606846976) : rightJ (⟨2, s, g, c, ⟨n, v, k, cl, rr, ss⟩, t, e⟩ : Rec) = (recEq (⟨2, s, g, c, ⟨n, v, k, cl, rr, ss⟩, t, e⟩ : Rec) ⟨2, s, 0, 0, ⟨n, v, k, cl, rr, ss⟩, t, 0⟩ && (rightB n.size v k cl && (decide (0 ≤ t) && decide (t ≤ 1152921504606846976)))) := by
  rw [Bool.eq_iff_iff, rightJ_iff]
  simp only [Bool.and_eq_true, decide_eq_true_eq, recEq_iff, Req.right]
  constructor
  · rintro ⟨_, h | h | h⟩
    · exact absurd (congrArg Rec.kind h.1) (by simp)
    · exact h
    · exact absurd (congrArg Rec.kind h.1) (by simp)
  · intro h
    exact ⟨hs, .inr (.inl h)⟩
set_option maxRecDepth 100000 in
set_option maxHeartbeats 4000000 in
theorem right2 (s g c : Int) (n : ByteArray) (v cl t e : Int) (k rr ss : Nat) (w : World) (hs : 0 ≤ s ∧ s ≤ 1152921504606846976) :
    Calls Try.prog 14 #[(⟨2, s, g, c, ⟨n, v, k, cl, rr, ss⟩, t, e⟩ : Rec).V] w fun e' w' => e' = .returned (.bool (rightJ (⟨2, s, g, c, ⟨n, v, k, cl, rr, ss⟩, t, e⟩ : Rec))) ∧ Kept None w w' := by
  rw [right2_is s g c n v cl t e k rr ss hs]
  have d1 : decide (s < 0) = false := by simp; omega
  have d2 : decide (1152921504606846976 < s) = false := by simp; omega
  have heq := fun W => Jq.eqRec (⟨2, s, g, c, ⟨n, v, k, cl, rr, ss⟩, t, e⟩ : Rec) ⟨2, s, 0, 0, ⟨n, v, k, cl, rr, ss⟩, t, 0⟩ W
  obtain ⟨X, hX⟩ : ∃ X, X = recEq (⟨2, s, g, c, ⟨n, v, k, cl, rr, ss⟩, t, e⟩ : Rec) ⟨2, s, 0, 0, ⟨n, v, k, cl, rr, ss⟩, t, 0⟩ := ⟨_, rfl⟩
  rw [← hX]
  have hq : ∀ W, (binOp .eql 28 (.agg #[.int .i64 2, .int .i64 s, .int .i64 g, .int .i64 c, .string n, .int .i64 v, .int .u64 (k : Int), .int .i64 cl, .int .u64 (rr : Int), .int .u64 (ss : Int), .int .i64 t, .int .i64 e]) (.agg #[.int .i64 2, .int .i64 s, .int .i64 0, .int .i64 0, .string n, .int .i64 v, .int .u64 (k : Int), .int .i64 cl, .int .u64 (rr : Int), .int .u64 (ss : Int), .int .i64 t, .int .i64 0])).run Try.prog W = .ok (.bool X) W := fun W => by
    rw [hX]
    exact heq W
  have HR := hid (fun W => RUp.right n v cl k rr ss W)
  clear hs heq hX
  unfold Rec.V Rec.C
  go_enter Try.func14, Try.ntmps14
  go_upto_region 9 with fail
  go_region
  cases X with
  | false =>
    go_wp2
    go_ret
    exact ⟨by simp, (((Kept.refl _ _).alloc _).alloc _).drew⟩
  | true =>
    go_wp2_with fail
    refine (HR.out _).mono ?_
    rintro e1 w1 ⟨rfl, k1⟩
    have kk := ((((Kept.refl _ _).alloc _).alloc _).drew).trans k1
    have hc : w1.cell? ⟨w.heap.size, 10, none⟩ = some (.int .i64 t) := ((((Blk.new w #[.int .i64 2, .int .i64 s, .int .i64 g, .int .i64 c, .string n, .int .i64 v, .int .u64 (k : Int), .int .i64 cl, .int .u64 (rr : Int), .int .u64 (ss : Int), .int .i64 t, .int .i64 e] 28).alloc _).drew).kept k1 (fun h => h)).cell 10
    clear k1
    rcases Bool.eq_false_or_eq_true (rightB n.size v k cl) with f0 | f0
    rotate_left
    · go_wp2
      go_ret
      exact ⟨by simp [f0], kk⟩
    rcases Bool.eq_false_or_eq_true (decide (0 ≤ t)) with f1 | f1
    rotate_left
    · go_wp2
      go_ret
      exact ⟨by simp [f0, f1], kk⟩
    rcases Bool.eq_false_or_eq_true (decide (t ≤ 1152921504606846976)) with f2 | f2
    rotate_left
    · go_wp2
      go_ret
      exact ⟨by simp [f0, f1, f2], kk⟩
    go_wp2
    go_ret
    exact ⟨by simp [f0, f1, f2], kk⟩
theorem right3_is (s g c : Int) (n : ByteArray) (v cl t e : Int) (k rr ss : Nat) (hs : 0 ≤ s ∧ s ≤ 1152921504606846976) : rightJ (⟨3, s, g, c, ⟨n, v, k, cl, rr, ss⟩, t, e⟩ : Rec) = (recEq (⟨3, s, g, c, ⟨n, v, k, cl, rr, ss⟩, t, e⟩ : Rec) ⟨3, s, 0, 0, Req.none, 0, e⟩ && (decide (1 ≤ e) && decide (e ≤ 1073741824))) := by
  rw [Bool.eq_iff_iff, rightJ_iff]
  simp only [Bool.and_eq_true, decide_eq_true_eq, recEq_iff, Req.right]
  constructor
  · rintro ⟨_, h | h | h⟩
    · exact absurd (congrArg Rec.kind h.1) (by simp)
    · exact absurd (congrArg Rec.kind h.1) (by simp)
    · exact h
  · intro h
    exact ⟨hs, .inr (.inr h)⟩
set_option maxRecDepth 100000 in
set_option maxHeartbeats 4000000 in
theorem right3 (s g c : Int) (n : ByteArray) (v cl t e : Int) (k rr ss : Nat) (w : World) (hs : 0 ≤ s ∧ s ≤ 1152921504606846976) :
    Calls Try.prog 14 #[(⟨3, s, g, c, ⟨n, v, k, cl, rr, ss⟩, t, e⟩ : Rec).V] w fun e' w' => e' = .returned (.bool (rightJ (⟨3, s, g, c, ⟨n, v, k, cl, rr, ss⟩, t, e⟩ : Rec))) ∧ Kept None w w' := by
  rw [right3_is s g c n v cl t e k rr ss hs]
  have d1 : decide (s < 0) = false := by simp; omega
  have d2 : decide (1152921504606846976 < s) = false := by simp; omega
  have heq := fun W => Jq.eqRec (⟨3, s, g, c, ⟨n, v, k, cl, rr, ss⟩, t, e⟩ : Rec) ⟨3, s, 0, 0, Req.none, 0, e⟩ W
  obtain ⟨X, hX⟩ : ∃ X, X = recEq (⟨3, s, g, c, ⟨n, v, k, cl, rr, ss⟩, t, e⟩ : Rec) ⟨3, s, 0, 0, Req.none, 0, e⟩ := ⟨_, rfl⟩
  rw [← hX]
  have hq : ∀ W, (binOp .eql 28 (.agg #[.int .i64 3, .int .i64 s, .int .i64 g, .int .i64 c, .string n, .int .i64 v, .int .u64 (k : Int), .int .i64 cl, .int .u64 (rr : Int), .int .u64 (ss : Int), .int .i64 t, .int .i64 e]) (.agg #[.int .i64 3, .int .i64 s, .int .i64 0, .int .i64 0, .string ⟨#[]⟩, .int .i64 0, .int .u64 0, .int .i64 0, .int .u64 0, .int .u64 0, .int .i64 0, .int .i64 e])).run Try.prog W = .ok (.bool X) W := fun W => by
    rw [hX]
    exact heq W
  skip
  clear hs heq hX
  unfold Rec.V Rec.C
  go_enter Try.func14, Try.ntmps14
  cases X with
  | false =>
    go_wp2
    go_ret
    exact ⟨by simp, ((Kept.refl _ _).alloc _).alloc _⟩
  | true =>
    rcases Bool.eq_false_or_eq_true (decide (1 ≤ e)) with f0 | f0
    rotate_left
    · go_wp2
      go_ret
      exact ⟨by simp [f0], ((Kept.refl _ _).alloc _).alloc _⟩
    rcases Bool.eq_false_or_eq_true (decide (e ≤ 1073741824)) with f1 | f1
    rotate_left
    · go_wp2
      go_ret
      exact ⟨by simp [f0, f1], ((Kept.refl _ _).alloc _).alloc _⟩
    go_wp2
    go_ret
    exact ⟨by simp [f0, f1], ((Kept.refl _ _).alloc _).alloc _⟩
set_option maxRecDepth 100000 in
set_option maxHeartbeats 4000000 in
theorem right (r : Rec) (w : World) : Calls Try.prog 14 #[r.V] w fun e' w' => e' = .returned (.bool (rightJ r)) ∧ Kept None w w' := by
  obtain ⟨kd, s, g, c, ⟨n, v, k, cl, rr, ss⟩, t, e⟩ := r
  by_cases hs : 0 ≤ s ∧ s ≤ 1152921504606846976
  · by_cases h1 : kd = 1
    · subst h1; exact right1 s g c n v cl t e k rr ss w hs
    by_cases h2 : kd = 2
    · subst h2; exact right2 s g c n v cl t e k rr ss w hs
    by_cases h3 : kd = 3
    · subst h3; exact right3 s g c n v cl t e k rr ss w hs
    have hR : rightJ ⟨kd, s, g, c, ⟨n, v, k, cl, rr, ss⟩, t, e⟩ = false := by
      rw [← Bool.not_eq_true, rightJ_iff]
      rintro ⟨_, h | h | h⟩
      · exact h1 (congrArg Rec.kind h.1)
      · exact h2 (congrArg Rec.kind h.1)
      · exact h3 (congrArg Rec.kind h.1)
    rw [hR]
    have d1 : decide (s < 0) = false := by simp; omega
    have d2 : decide (1152921504606846976 < s) = false := by simp; omega
    have e1 : (kd == 1) = false := by simpa using h1
    have e2 : (kd == 2) = false := by simpa using h2
    have e3 : (kd == 3) = false := by simpa using h3
    clear hs h1 h2 h3 hR
    unfold Rec.V Rec.C
    go_enter Try.func14, Try.ntmps14
    go_wp2
    go_ret
    exact ⟨rfl, ((Kept.refl _ _).alloc _).alloc _⟩
  · have hR : rightJ ⟨kd, s, g, c, ⟨n, v, k, cl, rr, ss⟩, t, e⟩ = false := by
      rw [← Bool.not_eq_true, rightJ_iff]
      exact fun h => hs h.1
    rw [hR]
    by_cases h1 : s < 0
    · have d1 : decide (s < 0) = true := by simpa using h1
      clear hs h1 hR
      unfold Rec.V Rec.C
      go_enter Try.func14, Try.ntmps14
      go_wp2
      go_ret
      exact ⟨rfl, (Kept.refl _ _).alloc _⟩
    · have d1 : decide (s < 0) = false := by simpa using h1
      have d2 : decide (1152921504606846976 < s) = true := by simp; omega
      clear hs h1 hR
      unfold Rec.V Rec.C
      go_enter Try.func14, Try.ntmps14
      go_wp2
      go_ret
      exact ⟨rfl, (Kept.refl _ _).alloc _⟩
end R12
end Go.Proofs.Ytpbkdeljhehkdaa
namespace Go.Proofs.Ytpbkdeljhehkdaa
open Go.RowKit Go.Pm
namespace R12
set_option maxRecDepth 100000 in
set_option maxHeartbeats 2000000 in
theorem mark (k s : Int) (v : Value) (lo hi : Nat) (b : List UInt8) (w : World) (hv : Bs w lo hi v b) (k0 : 0 ≤ k) (k1 : k < 256) (s0 : 0 ≤ s) (s1 : s < 9223372036854775808) (hl : b.length ≤ 1099511627000) :
    Calls Try.prog 37 #[.int .i64 k, .int .i64 s, v] w fun e w' => ∃ a c, e = .returned (.slice a 8 c) ∧ Kept None w w' ∧ Bs w' w.heap.size w'.heap.size (.slice a 8 c) (markF k s b) := by
  have wk : IntKind.u8.wrap k = k := by rw [IntKind.wrap_u8]; omega
  have ws : IntKind.u64.wrap s = s := by rw [IntKind.wrap_u64]; omega
  obtain ⟨av, cv, rfl, _⟩ := hv.shape
  have hn := fun W => Ref.num s W s0 (by omega)
  have ht := fun W lo hi lo' hi' u h => Ref.tag 102 u lo hi lo' hi' [[Go.Pm.byteOf k], leB s, b] W (by decide) (by decide) h (by simp) (by simp [total, leB_length]; omega)
  have HN := hid hn
  have HT := hid ht
  have HV := hid hv.all
  have HK := hid (And.intro k0 k1)
  obtain ⟨H, hH⟩ : ∃ H, H = sumB (textB 102 [[Go.Pm.byteOf k], leB s, b]) := ⟨_, rfl⟩
  have h32 : H.length = 32 := by rw [hH]; exact sumB_len _
  have hM : markF k s b = H.take 8 := by rw [hH]; rfl
  obtain ⟨HA, hHA⟩ : ∃ A : Array Value, A = (H.map u8v).toArray := ⟨_, rfl⟩
  have aH : AggTy Try.prog 110 HA.size := by rw [hHA, show (H.map u8v).toArray.size = 32 by simpa using h32]; exact Sp.aH
  have HH := hid (And.intro hH (And.intro h32 (And.intro hM hHA)))
  clear hn ht hv k0 k1 s0 s1 hl hH h32 hM hHA
  go_enter Try.func37, Try.ntmps37
  go_wp2_with fail
  refine (HN.out _).mono ?_
  rintro e w2 ⟨v2, rfl, k2, b2⟩
  obtain ⟨a2, c2, rfl⟩ := b2.form
  have kx : Kept None w w2 := ((Kept.refl None w).alloc (.cells #[.int .u8 k] 5)).trans k2
  have hk1 : Bs w2 0 w2.heap.size (.slice (some ⟨w.heap.size, 0, none⟩) 1 1) [Go.Pm.byteOf k] := by
    have h0 : Bs (w.alloc (.cells #[.int .u8 k] 5)) w.heap.size (w.heap.size + 1) (.slice (some ⟨w.heap.size, 0, none⟩) 1 1) [Go.Pm.byteOf k] :=
      Bs.newMark w #[.int .u8 k] 5 (0, 0) 1 rfl (by decide) [Go.Pm.byteOf k] (by simp [u8v_byteOf' HK.out.1 HK.out.2])
    exact (h0.kept k2 (fun _ _ _ h => h)).all
  have hbs := Bss.new w2 #[.slice (some ⟨w.heap.size, 0, none⟩) 1 1, .slice a2 (leB s).length c2, .slice av b.length cv] 29 [[Go.Pm.byteOf k], leB s, b] 3 rfl (by decide) ⟨hk1, (b2.bs (Nat.le_refl _)).all, (HV.out.kept kx (fun _ _ _ h => h)).all, trivial⟩
  have HB := hid hbs
  have k3 : Kept None w (w2.alloc (.cells #[.slice (some ⟨w.heap.size, 0, none⟩) 1 1, .slice a2 (leB s).length c2, .slice av b.length cv] 29)) := kx.alloc _
  have K3 := hid k3
  clear hbs hk1 kx k2 b2 k3
  go_wp2_with fail
  refine (HT.out _ _ _ _ _ _ HB.out).mono ?_
  rintro e w4 ⟨rfl, k4⟩
  have K4 := hid (K3.out.trans k4)
  rw [← HH.out.1]
  show _
  unfold hashV
  rw [← HH.out.2.2.2]
  have z1 : Blk (w4.alloc (.cells #[.int .u8 0, .int .u8 0, .int .u8 0, .int .u8 0, .int .u8 0, .int .u8 0, .int .u8 0, .int .u8 0, .int .u8 0, .int .u8 0, .int .u8 0, .int .u8 0, .int .u8 0, .int .u8 0, .int .u8 0, .int .u8 0, .int .u8 0, .int .u8 0, .int .u8 0, .int .u8 0, .int .u8 0, .int .u8 0, .int .u8 0, .int .u8 0, .int .u8 0, .int .u8 0, .int .u8 0, .int .u8 0, .int .u8 0, .int .u8 0, .int .u8 0, .int .u8 0] 110)) w4.heap.size #[.int .u8 0, .int .u8 0, .int .u8 0, .int .u8 0, .int .u8 0, .int .u8 0, .int .u8 0, .int .u8 0, .int .u8 0, .int .u8 0, .int .u8 0, .int .u8 0, .int .u8 0, .int .u8 0, .int .u8 0, .int .u8 0, .int .u8 0, .int .u8 0, .int .u8 0, .int .u8 0, .int .u8 0, .int .u8 0, .int .u8 0, .int .u8 0, .int .u8 0, .int .u8 0, .int .u8 0, .int .u8 0, .int .u8 0, .int .u8 0, .int .u8 0, .int .u8 0] 110 := Blk.new _ _ _
  obtain ⟨z, hz, hZ⟩ := Blk.any (n := 32) z1 (by rfl)
  have hsz : HA.size = 32 := by rw [HH.out.2.2.2]; simpa using HH.out.2.1
  have hal : HA.all (·.oneCell') = true := by rw [HH.out.2.2.2]; exact u8v_all' _
  have E := hid (And.intro (hz.trans hsz.symm) hal)
  have kz : Kept None w (w4.alloc (.cells #[.int .u8 0, .int .u8 0, .int .u8 0, .int .u8 0, .int .u8 0, .int .u8 0, .int .u8 0, .int .u8 0, .int .u8 0, .int .u8 0, .int .u8 0, .int .u8 0, .int .u8 0, .int .u8 0, .int .u8 0, .int .u8 0, .int .u8 0, .int .u8 0, .int .u8 0, .int .u8 0, .int .u8 0, .int .u8 0, .int .u8 0, .int .u8 0, .int .u8 0, .int .u8 0, .int .u8 0, .int .u8 0, .int .u8 0, .int .u8 0, .int .u8 0, .int .u8 0] 110)) := K4.out.alloc _
  have KZ := hid kz
  have h4 := K4.out.size
  have H4 := hid h4
  clear k4 z1 hz hsz hal kz h4
  go_wp2_with (first | (refine wpList_store_blk rfl _ _ _ rfl rfl rfl hZ aH E.out.1 E.out.2 ?_; intro w9 hR9 k9) | fail)
  go_ret
  refine ⟨_, _, rfl, KZ.out.then k9 (fun i hi e => by have e : i = w4.heap.size := e; have := H4.out; omega), ?_⟩
  rw [HH.out.2.2.1]
  have hlt := hR9.lt
  refine ⟨some ⟨w4.heap.size, 0, none⟩, 32, by simp [HH.out.2.1], by simp [HH.out.2.1], by decide, (fun h => by cases h), fun ad had i x hx => ?_⟩
  obtain rfl := Option.some.inj had
  have hi : i < 8 := by
    have := (List.getElem?_eq_some_iff.1 hx).1
    simp [HH.out.2.1] at this
    omega
  refine ⟨H4.out, hlt, ?_⟩
  have ea : (⟨w4.heap.size, 0, none⟩ : Addr).add i = ⟨w4.heap.size, i, none⟩ := by unfold Addr.add; split <;> simp_all
  rw [ea, hR9.cell, HH.out.2.2.2]
  rw [List.map_take, List.getElem?_take_of_lt hi] at hx
  simpa using hx
end R12
end Go.Proofs.Ytpbkdeljhehkdaa
namespace Go.Proofs.Ytpbkdeljhehkdaa
open Go.RowKit Go.Pm
namespace R12
set_option maxRecDepth 100000 in
set_option maxHeartbeats 4000000 in
theorem put (k s : Int) (v : Value) (lo hi : Nat) (b : List UInt8) (w : World) (hv : Bs w lo hi v b) (s1 : s < 9223372036854775808) (hl : b.length ≤ 1099511627000) :
    Calls Try.prog 19 #[.int .i64 k, .int .i64 s, v] w fun e w' => ∃ u, e = .returned (.tuple #[u, .int .i64 (putFE k s b)]) ∧ Kept None w w' ∧ Ob w' w.heap.size u (putFL k s b) := by
  obtain ⟨av, cv, rfl, _⟩ := hv.shape
  have bad : ∀ E : Int, putFE k s b = E → E ≠ 0 → putFL k s b = [] := fun E h1 h2 => by unfold putFL; rw [if_neg (by rw [h1]; exact h2)]
  by_cases hk1 : k < 1
  · have e : putFE k s b = 23 := by unfold putFE; rw [if_pos (.inl hk1)]
    rw [e, bad 23 e (by decide)]
    have d1 : decide (k < 1) = true := by simpa using hk1
    clear bad e hk1 hv
    go_enter Try.func19, Try.ntmps19
    go_wp2
    go_ret2
    exact ⟨_, rfl, Kept.refl _ _, Bo.nil _ _ _⟩
  · by_cases hk2 : 255 < k
    · have e : putFE k s b = 23 := by unfold putFE; rw [if_pos (.inr (.inl hk2))]
      rw [e, bad 23 e (by decide)]
      have d1 : decide (k < 1) = false := by simpa using hk1
      have d2 : decide (255 < k) = true := by simpa using hk2
      clear bad e hk1 hk2 hv
      go_enter Try.func19, Try.ntmps19
      go_wp2
      go_ret2
      exact ⟨_, rfl, Kept.refl _ _, Bo.nil _ _ _⟩
    · by_cases hs0 : s < 0
      · have e : putFE k s b = 23 := by unfold putFE; rw [if_pos (.inr (.inr hs0))]
        rw [e, bad 23 e (by decide)]
        have d1 : decide (k < 1) = false := by simpa using hk1
        have d2 : decide (255 < k) = false := by simpa using hk2
        have d3 : decide (s < 0) = true := by simpa using hs0
        clear bad e hk1 hk2 hs0 hv
        go_enter Try.func19, Try.ntmps19
        go_wp2
        go_ret2
        exact ⟨_, rfl, Kept.refl _ _, Bo.nil _ _ _⟩
      · have d1 : decide (k < 1) = false := by simpa using hk1
        have d2 : decide (255 < k) = false := by simpa using hk2
        have d3 : decide (s < 0) = false := by simpa using hs0
        have hc : ¬ (k < 1 ∨ 255 < k ∨ s < 0) := by omega
        by_cases hlen : 4096 < b.length
        · have e : putFE k s b = 22 := by unfold putFE; rw [if_neg hc, if_pos hlen]
          rw [e, bad 22 e (by decide)]
          have d4 : decide ((4096 : Int) < (b.length : Int)) = true := by simp; omega
          have d5 : decide (4096 < b.length) = true := by simpa using hlen
          clear bad e hk1 hk2 hs0 hc hlen hv
          go_enter Try.func19, Try.ntmps19
          go_wp2
          go_ret2
          exact ⟨_, rfl, Kept.refl _ _, Bo.nil _ _ _⟩
        · have e : putFE k s b = 0 := by unfold putFE; rw [if_neg hc, if_neg hlen]
          have eL : putFL k s b = putF k s b := by unfold putFL; rw [if_pos e]
          rw [e, eL]
          have d4 : decide ((4096 : Int) < (b.length : Int)) = false := by simp; omega
          have d5 : decide (4096 < b.length) = false := by simpa using hlen
          obtain ⟨n, hn⟩ : ∃ n, n = b.length := ⟨_, rfl⟩
          have HN := hid (fun W => Ref.num s W (by omega) (by omega))
          have HM := hid (fun W lo hi v (h : Bs W lo hi v b) => mark k s v lo hi b W h (by omega) (by omega) (by omega) s1 (by omega))
          have HV := hid hv.all
          have HL := hid (show b.length ≤ 4096 by omega)
          have ws : IntKind.u64.wrap s = s := by rw [IntKind.wrap_u64]; omega
          have wk : IntKind.u8.wrap k = k := by rw [IntKind.wrap_u8]; omega
          have HK := hid (show 0 ≤ k ∧ k < 256 by omega)
          clear bad e eL hc hv hlen
          go_enter Try.func19, Try.ntmps19
          go_wp2_with fail
          have hb0 : Ob (w.alloc (.cells #[.int .u8 ((b.length : Int) % 256), .int .u8 ((b.length : Int) / 256 % 256), .int .u8 ((b.length : Int) / 65536 % 256), .int .u8 ((b.length : Int) / 16777216 % 256), .int .u8 k] 5)) w.heap.size (.slice (some ⟨w.heap.size, 0, none⟩) 5 5) (le4 b.length ++ [Go.Pm.byteOf k]) :=
            Bo.new w 5 (le4 b.length ++ [Go.Pm.byteOf k]) #[.int .u8 ((b.length : Int) % 256), .int .u8 ((b.length : Int) / 256 % 256), .int .u8 ((b.length : Int) / 65536 % 256), .int .u8 ((b.length : Int) / 16777216 % 256), .int .u8 k] (by simp [le4, u8v_byteOf, u8v_byteOf' HK.out.1 HK.out.2]) 5 rfl (by decide)
          have k0 : Kept None w (w.alloc (.cells #[.int .u8 ((b.length : Int) % 256), .int .u8 ((b.length : Int) / 256 % 256), .int .u8 ((b.length : Int) / 65536 % 256), .int .u8 ((b.length : Int) / 16777216 % 256), .int .u8 k] 5)) := (Kept.refl _ _).alloc _
          refine (HN.out _).mono ?_
          rintro e w2 ⟨v2, rfl, k2, b2⟩
          obtain ⟨a2, c2, rfl⟩ := b2.form
          have hb2 := hb0.kept k2 (fun _ _ h => h)
          have hu2 : Bs w2 0 w2.heap.size (.slice a2 (leB s).length c2) (leB s) := (b2.bs (Nat.le_refl _)).all
          have kk2 := k0.trans k2
          have hl2 : (le4 b.length ++ [Go.Pm.byteOf k]).length + (leB s).length ≤ 140737488355328 := by simp [le4, leB_length]
          have hz2 := kk2.size
          clear hb0 k0 k2 b2
          go_wp2_with (first | (refine wpList_append_bo rfl _ _ 29 rfl rtBytes rfl rfl hb2 hu2 hl2 hz2 ?_; intro a3 n3 c3 w3 hb3 hk3; have kk3 := Kept.own kk2 hk3 (fun g hg => (hb2.own g hg).1); have hu3 := HV.out.kept kk3 (fun _ _ _ h => h); have hl3 : ((le4 b.length ++ [Go.Pm.byteOf k]) ++ leB s).length + b.length ≤ 140737488355328 := (by have := HL.out; simp [le4, leB_length]; omega); have hz3 := kk3.size; clear hk3 hb2 hu2 hl2 hz2 kk2) | (refine wpList_append_bo rfl _ _ 29 rfl rtBytes rfl rfl hb3 hu3 hl3 hz3 ?_; intro a4 n4 c4 w4 hb4 hk4; have kk4 := Kept.own kk3 hk4 (fun g hg => (hb3.own g hg).1); have hu4 := HV.out.kept kk4 (fun _ _ _ h => h); clear hk4 hb3 hu3 hl3 hz3 kk3) | fail)
          refine (HM.out _ _ _ _ hu4).mono ?_
          rintro e w5 ⟨a5, c5, rfl, k5, b5⟩
          have hb5 := hb4.kept k5 (fun _ _ h => h)
          have kk5 := kk4.trans k5
          have hm8 : (markF k s b).length = 8 := by simp [markF, sumB_len]
          have hl5 : (((le4 b.length ++ [Go.Pm.byteOf k]) ++ leB s) ++ b).length + (markF k s b).length ≤ 140737488355328 := by have := HL.out; rw [hm8]; simp [le4, leB_length]; omega
          have hz5 := kk5.size
          clear hb4 kk4 k5 hu4 hm8
          go_wp2_with (first | (refine wpList_append_bo rfl _ _ 29 rfl rtBytes rfl rfl hb5 b5 hl5 hz5 ?_; intro a6 n6 c6 w6 hb6 hk6; have kk6 := Kept.own kk5 hk6 (fun g hg => (hb5.own g hg).1)) | fail)
          go_ret2
          exact ⟨_, rfl, kk6, hb6⟩
end R12
end Go.Proofs.Ytpbkdeljhehkdaa
namespace Go.Proofs.Ytpbkdeljhehkdaa
open Go.RowKit Go.Pm
namespace Fm
def PutC : Prop := ∀ (k s : Int) (v : Value) (lo hi : Nat) (b : List UInt8) (w : World), Bs w lo hi v b → -9223372036854775808 ≤ k → k < 9223372036854775808 → -9223372036854775808 ≤ s → s < 9223372036854775808 → b.length ≤ 1099511627000 →
    Calls Try.prog 25 #[.int .i64 k, .int .i64 s, v] w fun e w' => ∃ u, e = .returned (.tuple #[u, .int .i64 (putFE k s b)]) ∧ Kept None w w' ∧ Ob w' w.heap.size u (putFL k s b)
def ReadC : Prop := ∀ (v : Value) (lo hi : Nat) (b : List UInt8) (w : World), Bs w lo hi v b → b.length ≤ 1099511627000 →
    Calls Try.prog 33 #[v] w fun e w' => ∃ u, e = .returned (.tuple #[.int .i64 (readF b).kind, .int .i64 (readF b).seq, u, .int .i64 (readF b).n, .int .i64 (readF b).e]) ∧ Kept None w w' ∧ Bs w' 0 w'.heap.size u (readF b).body
theorem putFL_ok {k s : Int} {b : List UInt8} (k0 : 1 ≤ k) (k1 : k ≤ 255) (s0 : 0 ≤ s) (hb : b.length ≤ 4096) : putFE k s b = 0 ∧ putFL k s b = putF k s b := by
  have e : putFE k s b = 0 := by unfold putFE; rw [if_neg (by omega), if_neg (by omega)]
  exact ⟨e, by unfold putFL; rw [if_pos e]⟩
end Fm
end Go.Proofs.Ytpbkdeljhehkdaa
