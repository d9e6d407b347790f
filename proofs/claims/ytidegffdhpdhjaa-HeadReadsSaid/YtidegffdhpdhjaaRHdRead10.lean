/- postmarkref8.HeadRead: by contract. -/
import Derived.Test.YtidegffdhpdhjaaHdB10
import Derived.Test.YtidegffdhpdhjaaRInt10
namespace Go.Pm
open Go Go.RowKit
/-- A hash, stored into the midst of a block. -/
theorem wpList_store_cut {P : Program} {ops : Array Oper} {rest : List Oper} {o : Oper} {a : Act} {w : World} {Q : Exit → Act → World → Prop} (hgd : o.guard = none) (ty : TypeId) (x y : Operand) (ho : o.op = .store ty x y)
    {g off : Nat} {cur : List Value} {t : TypeId} {h : List UInt8} (hx : a.eval x = .pointer (some ⟨g, off, none⟩)) (hy : a.eval y = hashV h) (hb : Blk w g cur.toArray t) (h32 : h.length = 32) (hT : (P.info? ty).map (·.size) = some 32)
    (hoff : off + 32 ≤ cur.length)
    (hk : ∀ w', Blk w' g (cur.take off ++ h.map u8v ++ cur.drop (off + 32)).toArray t → Kept (Just g) w w' → wpList P ops Q rest (a.put o.dst undef) w') : wpList P ops Q (o :: rest) a w := by
  refine wpList_store_mid hgd ty x y ho g off (h.map u8v).toArray hx hy (fun j hj => ?_) (by simpa [h32] using hT) (u8v_all' h) ?_
  · simp only [List.size_toArray, List.length_map, h32] at hj
    refine ⟨?_, hb.free _⟩
    rw [hb.cell]
    simp [show off + j < cur.length by omega]
  · refine hk _ ?_ (kept_setCells (S := Just g) (fun _ => rfl) _ _ _ (Kept.refl _ _))
    have hs := Blk.setCells (h.map u8v) off w cur.toArray hb (by simp [h32]; omega)
    simpa [h32] using hs
end Go.Pm
namespace Go.Proofs.Ytidegffdhpdhjaa
open Go.RowKit Go.Pm
namespace RHp
open Hp (aHd aHd')
set_option maxRecDepth 100000 in
set_option maxHeartbeats 4000000 in
theorem read_long (v : Value) (lo hi : Nat) (l : List UInt8) (w : World) (hv : Bs w lo hi v l) (h : 512 < l.length) :
    Calls Try.prog 24 #[v] w fun e w' => e = .returned (.tuple #[hdV (readHd l), .int .i64 (readHdE l)]) ∧ Kept None w w' := by
  have hE : readHdE l = 22 := by unfold readHdE; rw [if_pos h]
  have hR : readHd l = zeroHd := by unfold readHd; rw [hE]; rfl
  rw [hE, hR]
  have k1 : Kept None w (w.alloc (.cells Try.zeroCells28 28)) := (Kept.refl _ _).alloc _
  obtain ⟨Z, hZ, z1⟩ := Blk.any (n := 69) (Blk.new w Try.zeroCells28 28) (by rfl)
  have hall := hdC_one zeroHd
  obtain ⟨a, cap, rfl, g1, g2, g3⟩ := hv.shape
  clear g3 hE hR
  go_enter Try.func24, Try.ntmps24
  go_wp2_with (first | go_skip | (refine wpList_store_blk rfl _ _ _ rfl rfl rfl z1 aHd hZ hall ?_; intro wz hz kz) | fail)
  exact bodyPost_ret (v := .tuple #[hdV zeroHd, .int .i64 22]) (res_cell_tmp rfl _ rfl rfl hz aHd) rfl ⟨rfl, k1.then kz (fun i hi (h : i = w.heap.size) => by omega)⟩
set_option maxRecDepth 100000 in
set_option maxHeartbeats 4000000 in
theorem read_short (v : Value) (lo hi : Nat) (l : List UInt8) (w : World) (hv : Bs w lo hi v l) (h : l.length < 105) :
    Calls Try.prog 24 #[v] w fun e w' => e = .returned (.tuple #[hdV (readHd l), .int .i64 (readHdE l)]) ∧ Kept None w w' := by
  have hE : readHdE l = 21 := by unfold readHdE; rw [if_neg (by omega), if_pos h]
  have hR : readHd l = zeroHd := by unfold readHd; rw [hE]; rfl
  rw [hE, hR]
  have k1 : Kept None w (w.alloc (.cells Try.zeroCells28 28)) := (Kept.refl _ _).alloc _
  obtain ⟨Z, hZ, z1⟩ := Blk.any (n := 69) (Blk.new w Try.zeroCells28 28) (by rfl)
  have hall := hdC_one zeroHd
  obtain ⟨a, cap, rfl, g1, g2, g3⟩ := hv.shape
  clear g3 hE hR
  go_enter Try.func24, Try.ntmps24
  go_wp2_with (first | go_skip | (refine wpList_store_blk rfl _ _ _ rfl rfl rfl z1 aHd hZ hall ?_; intro wz hz kz) | fail)
  exact bodyPost_ret (v := .tuple #[hdV zeroHd, .int .i64 21]) (res_cell_tmp rfl _ rfl rfl hz aHd) rfl ⟨rfl, k1.then kz (fun i hi (h : i = w.heap.size) => by omega)⟩
set_option maxRecDepth 100000 in
set_option maxHeartbeats 4000000 in
theorem read_more (v : Value) (lo hi : Nat) (l : List UInt8) (w : World) (hv : Bs w lo hi v l) (h : 105 < l.length) (h2 : ¬ 512 < l.length) :
    Calls Try.prog 24 #[v] w fun e w' => e = .returned (.tuple #[hdV (readHd l), .int .i64 (readHdE l)]) ∧ Kept None w w' := by
  have hE : readHdE l = 20 := by unfold readHdE; rw [if_neg h2, if_neg (by omega), if_pos (.inl h)]
  have hR : readHd l = zeroHd := by unfold readHd; rw [hE]; rfl
  rw [hE, hR]
  have k1 : Kept None w (w.alloc (.cells Try.zeroCells28 28)) := (Kept.refl _ _).alloc _
  obtain ⟨Z, hZ, z1⟩ := Blk.any (n := 69) (Blk.new w Try.zeroCells28 28) (by rfl)
  have hall := hdC_one zeroHd
  obtain ⟨a, cap, rfl, g1, g2, g3⟩ := hv.shape
  clear g3 hE hR
  go_enter Try.func24, Try.ntmps24
  go_wp2_with (first | go_skip | (refine wpList_store_blk rfl _ _ _ rfl rfl rfl z1 aHd hZ hall ?_; intro wz hz kz) | fail)
  exact bodyPost_ret (v := .tuple #[hdV zeroHd, .int .i64 20]) (res_cell_tmp rfl _ rfl rfl hz aHd) rfl ⟨rfl, k1.then kz (fun i hi (h : i = w.heap.size) => by omega)⟩
set_option maxRecDepth 100000 in
set_option maxHeartbeats 4000000 in
theorem read_mark (v : Value) (lo hi : Nat) (l : List UInt8) (w : World) (hv : Bs w lo hi v l) (h : l.length = 105) (h2 : bAt l 0 ≠ 72) :
    Calls Try.prog 24 #[v] w fun e w' => e = .returned (.tuple #[hdV (readHd l), .int .i64 (readHdE l)]) ∧ Kept None w w' := by
  have hE : readHdE l = 20 := by unfold readHdE; rw [if_neg (by omega), if_neg (by omega), if_pos (.inr h2)]
  have hR : readHd l = zeroHd := by unfold readHd; rw [hE]; rfl
  rw [hE, hR]
  have k1 : Kept None w (w.alloc (.cells Try.zeroCells28 28)) := (Kept.refl _ _).alloc _
  obtain ⟨Z, hZ, z1⟩ := Blk.any (n := 69) (Blk.new w Try.zeroCells28 28) (by rfl)
  have hall := hdC_one zeroHd
  obtain ⟨a, cap, rfl, g1, g2, g3⟩ := hv.shape
  obtain ⟨b, o, rfl, q1, q2, q3, hc⟩ := hv.ne (by omega)
  have c0 := hc 0 (by omega)
  rw [Nat.add_zero] at c0
  have hne : (bAt l 0 != 72) = true := by simpa using h2
  rw [h] at g1 ⊢
  obtain ⟨x, hx⟩ : ∃ x, x = bAt l 0 := ⟨_, rfl⟩
  rw [← hx] at c0 hne
  clear h2 hx hc h hv
  clear g3 hE hR
  go_enter Try.func24, Try.ntmps24
  go_wp2_with (first | go_skip | (refine wpList_store_blk rfl _ _ _ rfl rfl rfl z1 aHd hZ hall ?_; intro wz hz kz) | fail)
  exact bodyPost_ret (v := .tuple #[hdV zeroHd, .int .i64 20]) (res_cell_tmp rfl _ rfl rfl hz aHd) rfl ⟨rfl, k1.then kz (fun i hi (h : i = w.heap.size) => by omega)⟩
set_option maxRecDepth 100000 in
set_option maxHeartbeats 4000000 in
theorem read_body (v : Value) (lo hi : Nat) (l : List UInt8) (w : World) (hv : Bs w lo hi v l) (h : l.length = 105) (h2 : bAt l 0 = 72) :
    Calls Try.prog 24 #[v] w fun e w' => e = .returned (.tuple #[hdV (readHd l), .int .i64 (readHdE l)]) ∧ Kept None w w' := by
  have hE : readHdE l = if rightHd (headOf intI (l.drop 1)) then 0 else 23 := by unfold readHdE; rw [right_cut, if_neg (by omega), if_neg (by omega), if_neg (by omega)]
  have hR : readHd l = if rightHd (headOf intI (l.drop 1)) then headOf intI (l.drop 1) else zeroHd := by
    unfold readHd
    rw [hE, right_cut]
    cases hq : rightHd (headOf wholeI (l.drop 1))
    · rfl
    · rw [same_cut _ hq]; rfl
  rw [hE, hR]
  have hv := hv.all
  obtain ⟨a, cap, rfl, g1, g2, g3⟩ := hv.shape
  obtain ⟨b, o, rfl, q1, q2, q3, hc⟩ := hv.ne (by omega)
  have c0 := hc 0 (by omega)
  rw [h2, Nat.add_zero] at c0
  have hcap : ¬ cap = 1 := by omega
  have hcut : Bs w 0 w.heap.size (.slice (some ⟨b, o + 1, none⟩) 104 (cap - 1)) (l.drop 1) := by
    have h3 := Vs.sliced hv 1 105 (by decide) (by omega)
    rw [if_neg hcap, List.take_of_length_le (by rw [List.length_map]; omega), ← List.map_drop] at h3
    exact h3
  rw [h] at g1 ⊢
  have hLl : (l.drop 1).length = 104 := by rw [List.length_drop]; omega
  obtain ⟨L, hL⟩ : ∃ L, L = l.drop 1 := ⟨_, rfl⟩
  rw [← hL] at hcut hLl ⊢
  clear hE hR hc g3 hv h h2 hL q1
  obtain ⟨rr, hrr⟩ : ∃ r, r = w.heap.size + 1 := ⟨_, rfl⟩
  obtain ⟨gg, hgg⟩ : ∃ g, g = w.heap.size + 1 + 1 := ⟨_, rfl⟩
  have hlo : w.heap.size ≤ rr := by omega
  have n0 := fun W h => Ref.rint rr 0 w.heap.size (stAt L 0) W h hlo
  rw [stAt_num] at n0
  have n8 := fun W h => Ref.rint rr 0 w.heap.size (stAt L 8) W h hlo
  rw [stAt_num] at n8
  have n16 := fun W h => Ref.rint rr 0 w.heap.size (stAt L 16) W h hlo
  rw [stAt_num] at n16
  have n88 := fun W h => Ref.rnum rr 0 w.heap.size (stAt L 88) W h hlo
  rw [stAt_num, ← St.nat_eq] at n88
  have n96 := fun W h => Ref.rnum rr 0 w.heap.size (stAt L 96) W h hlo
  rw [stAt_num, ← St.nat_eq] at n96
  have n24 := fun W h hW => Ref.rhash rr 0 w.heap.size (stAt L 24) W h hlo hW
  rw [show (stAt L 24).rawS 32 = stAt L (24 + 32) from stAt_raw L 24 32] at n24
  have n56 := fun W h hW => Ref.rhash rr 0 w.heap.size (stAt L 56) W h hlo hW
  rw [show (stAt L 56).rawS 32 = stAt L (56 + 32) from stAt_raw L 56 32] at n56
  rw [show 0 + 8 = 8 from rfl] at n0
  rw [show 8 + 8 = 16 from rfl] at n8
  rw [show 16 + 8 = 24 from rfl] at n16
  rw [show 24 + 32 = 56 from rfl] at n24
  rw [show 56 + 32 = 88 from rfl] at n56
  rw [show 88 + 8 = 96 from rfl] at n88
  rw [show 96 + 8 = 104 from rfl] at n96
  have hfin : headOf intI L = ⟨intI (stAt L 0).num, intI (stAt L 8).num, intI (stAt L 16).num, hashO (stAt L 24), hashO (stAt L 56), (stAt L 88).nat, (stAt L 96).nat⟩ := rfl
  obtain ⟨v0, hx0⟩ : ∃ x, x = intI (stAt L 0).num := ⟨_, rfl⟩
  rw [← hx0] at n0 hfin
  obtain ⟨v8, hx8⟩ : ∃ x, x = intI (stAt L 8).num := ⟨_, rfl⟩
  rw [← hx8] at n8 hfin
  obtain ⟨v16, hx16⟩ : ∃ x, x = intI (stAt L 16).num := ⟨_, rfl⟩
  rw [← hx16] at n16 hfin
  obtain ⟨x24, hx24⟩ : ∃ x, x = hashO (stAt L 24) := ⟨_, rfl⟩
  have k24 : x24.length = 32 := by rw [hx24]; exact hashO_len _
  rw [← hx24] at n24 hfin
  obtain ⟨x56, hx56⟩ : ∃ x, x = hashO (stAt L 56) := ⟨_, rfl⟩
  have k56 : x56.length = 32 := by rw [hx56]; exact hashO_len _
  rw [← hx56] at n56 hfin
  obtain ⟨x88, hx88⟩ : ∃ x, x = (stAt L 88).nat := ⟨_, rfl⟩
  have k88 : x88 < 18446744073709551616 := by rw [hx88]; exact St.nat_lt _
  rw [← hx88] at n88 hfin
  obtain ⟨x96, hx96⟩ : ∃ x, x = (stAt L 96).nat := ⟨_, rfl⟩
  have k96 : x96 < 18446744073709551616 := by rw [hx96]; exact St.nat_lt _
  rw [← hx96] at n96 hfin
  have rd0 : ∀ W v, Blk W rr #[v, .int .i64 0] 106 → Bs W 0 w.heap.size v L → Ref.Rd W 0 w.heap.size rr (stAt L 0) := fun W v h1 h2 => by
    rw [stAt_zero]
    exact ⟨fun h => absurd rfl h, v, h1, h2⟩
  obtain ⟨S0, hS0⟩ : ∃ S, S = stAt L 0 := ⟨_, rfl⟩
  rw [← hS0] at n0 rd0
  obtain ⟨S8, hS8⟩ : ∃ S, S = stAt L 8 := ⟨_, rfl⟩
  rw [← hS8] at n8 n0
  obtain ⟨S16, hS16⟩ : ∃ S, S = stAt L 16 := ⟨_, rfl⟩
  rw [← hS16] at n16 n8
  obtain ⟨S24, hS24⟩ : ∃ S, S = stAt L 24 := ⟨_, rfl⟩
  rw [← hS24] at n24 n16
  obtain ⟨S56, hS56⟩ : ∃ S, S = stAt L 56 := ⟨_, rfl⟩
  rw [← hS56] at n56 n24
  obtain ⟨S88, hS88⟩ : ∃ S, S = stAt L 88 := ⟨_, rfl⟩
  rw [← hS88] at n88 n56
  obtain ⟨S96, hS96⟩ : ∃ S, S = stAt L 96 := ⟨_, rfl⟩
  rw [← hS96] at n96 n88
  obtain ⟨S104, hS104⟩ : ∃ S, S = stAt L 104 := ⟨_, rfl⟩
  rw [← hS104] at n96
  obtain ⟨H0, hH0⟩ : ∃ h : Hd, h = zeroHd := ⟨_, rfl⟩
  obtain ⟨H1, hH1⟩ : ∃ h : Hd, h = { zeroHd with e := v0 } := ⟨_, rfl⟩
  obtain ⟨H2, hH2⟩ : ∃ h : Hd, h = { zeroHd with e := v0, t := v8 } := ⟨_, rfl⟩
  obtain ⟨H3, hH3⟩ : ∃ h : Hd, h = { zeroHd with e := v0, t := v8, c := v16 } := ⟨_, rfl⟩
  obtain ⟨H4, hH4⟩ : ∃ h : Hd, h = { zeroHd with e := v0, t := v8, c := v16, root := x24 } := ⟨_, rfl⟩
  obtain ⟨H5, hH5⟩ : ∃ h : Hd, h = { zeroHd with e := v0, t := v8, c := v16, root := x24, log := x56 } := ⟨_, rfl⟩
  obtain ⟨H6, hH6⟩ : ∃ h : Hd, h = { zeroHd with e := v0, t := v8, c := v16, root := x24, log := x56, r := x88 } := ⟨_, rfl⟩
  obtain ⟨H7, hH7⟩ : ∃ h : Hd, h = headOf intI L := ⟨_, rfl⟩
  rw [← hH7] at hfin ⊢
  have o3 : H3.Ok := by rw [hH3]; exact zeroHd_ok
  have o4 : H4.Ok := by rw [hH4]; exact ⟨k24, rfl, zeroHd_ok.2.2⟩
  have o5 : H5.Ok := by rw [hH5]; exact ⟨k24, k56, zeroHd_ok.2.2⟩
  have o6 : H6.Ok := by rw [hH6]; exact ⟨k24, k56, k88, zeroHd_ok.2.2.2⟩
  have o7 : H7.Ok := by rw [hfin]; exact ⟨k24, k56, k88, k96⟩
  have e1 : (hdC H0).toArray.setIfInBounds 0 (.int .i64 v0) = (hdC H1).toArray := by rw [hH0, hH1]; exact hd_set_e _ _
  have e2 : (hdC H1).toArray.setIfInBounds 1 (.int .i64 v8) = (hdC H2).toArray := by rw [hH1, hH2]; exact hd_set_t _ _
  have e3 : (hdC H2).toArray.setIfInBounds 2 (.int .i64 v16) = (hdC H3).toArray := by rw [hH2, hH3]; exact hd_set_c _ _
  have e4 : (hdC H3).take 3 ++ x24.map u8v ++ (hdC H3).drop (3 + 32) = hdC H4 := by rw [hd_cut_root o3, hH3, hH4]
  have e5 : (hdC H4).take 35 ++ x56.map u8v ++ (hdC H4).drop (35 + 32) = hdC H5 := by rw [hd_cut_log o4, hH4, hH5]
  have e6 : (hdC H5).toArray.setIfInBounds 67 (.int .u64 (x88 : Int)) = (hdC H6).toArray := by rw [hd_set_r o5, hH5, hH6]
  have e7 : (hdC H6).toArray.setIfInBounds 68 (.int .u64 (x96 : Int)) = (hdC H7).toArray := by rw [hd_set_s o6, hH6, hfin]
  have hRi := fun W => right H7 W
  obtain ⟨R, hRR⟩ : ∃ R, R = rightHd H7 := ⟨_, rfl⟩
  rw [← hRR] at hRi ⊢
  have aF : AggTy Try.prog 28 (hdC H7).toArray.size := aHd' o7
  have sF : 69 = (hdC H7).toArray.size := (hdC_size o7).symm
  have HE := hid (And.intro e1 (And.intro e2 (And.intro e3 (And.intro e4 (And.intro e5 (And.intro e6 e7))))))
  have HO := hid (And.intro o5 (And.intro o6 (And.intro o3 (And.intro o4 (And.intro k24 k56)))))
  have HN := hid (And.intro n0 (And.intro n8 (And.intro n16 (And.intro n24 (And.intro n56 (And.intro n88 n96))))))
  have HR := hid (And.intro hRi rd0)
  have HW := hid (And.intro hrr hgg)
  have HC := hid (And.intro hcut hLl)
  have k0 : Kept None w (w.alloc (.cells Try.zeroCells28 28)) := (Kept.refl _ _).alloc _
  obtain ⟨Z, hZ, z0⟩ := Blk.any (n := 69) (Blk.new w Try.zeroCells28 28) (by rfl)
  have SZ := hid (And.intro hZ (hZ.trans sF))
  have HH0 := hid hH0
  clear hlo hcut hLl n0 n8 n16 n24 n56 n88 n96 rd0 hRi hRR hrr hgg hfin hx0 hx8 hx16 hx24 hx56 hx88 hx96 hS0 hS8 hS16 hS24 hS56 hS88 hS96 hS104 hH0 hH1 hH2 hH3 hH4 hH5 hH6 hH7 k24 k56 k88 k96 o3 o4 o5 o6 e1 e2 e3 e4 e5 e6 e7 hZ sF
  have x0 : Blk (((w.alloc (.cells Try.zeroCells28 28)).alloc (.cells #[.slice (some ⟨b, o + 1, none⟩) 104 (cap - 1), .int .i64 0] 106)).alloc (.cells Try.zeroCells28 28)) rr #[.slice (some ⟨b, o + 1, none⟩) 104 (cap - 1), .int .i64 0] 106 := by
    rw [HW.out.1]
    exact (Blk.new2 w _ _ _).alloc _
  have b1 : Blk (((w.alloc (.cells Try.zeroCells28 28)).alloc (.cells #[.slice (some ⟨b, o + 1, none⟩) 104 (cap - 1), .int .i64 0] 106)).alloc (.cells Try.zeroCells28 28)) gg (hdC H0).toArray 28 := by
    rw [HW.out.2, HH0.out]
    exact Blk.new3 w _ _ _ _
  have z1 : Blk (((w.alloc (.cells Try.zeroCells28 28)).alloc (.cells #[.slice (some ⟨b, o + 1, none⟩) 104 (cap - 1), .int .i64 0] 106)).alloc (.cells Try.zeroCells28 28)) w.heap.size Z 28 := (z0.alloc _).alloc _
  have k1 : Kept None w (((w.alloc (.cells Try.zeroCells28 28)).alloc (.cells #[.slice (some ⟨b, o + 1, none⟩) 104 (cap - 1), .int .i64 0] 106)).alloc (.cells Try.zeroCells28 28)) := (k0.alloc _).alloc _
  have r1 := HR.out.2 _ _ x0 (HC.out.1.kept k1 (fun _ _ _ h => h))
  clear k0 z0 x0
  go_enter Try.func24, Try.ntmps24
  go_wp2_with fail
  refine Calls.nm ?_
  intro w1 ew
  rw [← ew] at k1 b1 z1 r1
  clear ew
  rw [show (Value.pointer (some ⟨w.heap.size + 1, 0, none⟩)) = .pointer (some ⟨rr, 0, none⟩) by rw [HW.out.1]]
  refine (HN.out.1 w1 r1).mono ?_
  rintro e w2 ⟨rfl, kn, r2⟩
  have k2 : Kept None w w2 := k1.then kn (fun i hi h => by have h : i = rr := h; have := HW.out; omega)
  have b2 := b1.kept kn (fun h => by have h : gg = rr := h; have := HW.out; omega)
  have z2 := z1.kept kn (fun h => by have h : w.heap.size = rr := h; have := HW.out; omega)
  clear k1 b1 z1 r1 kn
  have c2 : w2.cell? ⟨w.heap.size + 1 + 1, 0, none⟩ = some (.int .i64 H0.e) := by
    have h := hd_c0 b2
    rwa [HW.out.2] at h
  have f2 : w2.frozen? ⟨w.heap.size + 1 + 1, 0, none⟩ = false := by
    have h := b2.free 0
    rwa [HW.out.2] at h
  have b3 : Blk (w2.setCell ⟨w.heap.size + 1 + 1, 0, none⟩ (.int .i64 v0)) gg (hdC H1).toArray 28 := by
    have h := HE.out.1 ▸ b2.set 0 (.int .i64 v0)
    rwa [show (⟨gg, 0, none⟩ : Addr) = ⟨w.heap.size + 1 + 1, 0, none⟩ by rw [HW.out.2]] at h
  have z3 : Blk (w2.setCell ⟨w.heap.size + 1 + 1, 0, none⟩ (.int .i64 v0)) w.heap.size Z 28 := z2.setOther (by show w.heap.size ≠ w.heap.size + 1 + 1; omega) _
  have k3 : Kept None w (w2.setCell ⟨w.heap.size + 1 + 1, 0, none⟩ (.int .i64 v0)) := k2.setNew (by omega) 0 _
  have r3 : Ref.Rd (w2.setCell ⟨w.heap.size + 1 + 1, 0, none⟩ (.int .i64 v0)) 0 w.heap.size rr S8 := r2.kept (Kept.one w2 (w.heap.size + 1 + 1) 0 _) (fun k _ h1 h => by have h : k = w.heap.size + 1 + 1 := h; omega) (fun h => by have h : rr = w.heap.size + 1 + 1 := h; have := HW.out; omega)
  clear k2 b2 z2 r2
  go_wp2_with fail
  refine Calls.nm ?_
  intro w3 ew
  rw [← ew] at k3 b3 z3 r3
  clear ew
  refine (HN.out.2.1 w3 r3).mono ?_
  rintro e w4 ⟨rfl, kn, r4⟩
  have k4 : Kept None w w4 := k3.then kn (fun i hi h => by have h : i = rr := h; have := HW.out; omega)
  have b4 := b3.kept kn (fun h => by have h : gg = rr := h; have := HW.out; omega)
  have z4 := z3.kept kn (fun h => by have h : w.heap.size = rr := h; have := HW.out; omega)
  clear k3 b3 z3 r3 kn f2 c2
  have c4 : w4.cell? ⟨w.heap.size + 1 + 1, 1, none⟩ = some (.int .i64 H1.t) := by
    have h := hd_c1 b4
    rwa [HW.out.2] at h
  have f4 : w4.frozen? ⟨w.heap.size + 1 + 1, 1, none⟩ = false := by
    have h := b4.free 1
    rwa [HW.out.2] at h
  have b5 : Blk (w4.setCell ⟨w.heap.size + 1 + 1, 1, none⟩ (.int .i64 v8)) gg (hdC H2).toArray 28 := by
    have h := HE.out.2.1 ▸ b4.set 1 (.int .i64 v8)
    rwa [show (⟨gg, 1, none⟩ : Addr) = ⟨w.heap.size + 1 + 1, 1, none⟩ by rw [HW.out.2]] at h
  have z5 : Blk (w4.setCell ⟨w.heap.size + 1 + 1, 1, none⟩ (.int .i64 v8)) w.heap.size Z 28 := z4.setOther (by show w.heap.size ≠ w.heap.size + 1 + 1; omega) _
  have k5 : Kept None w (w4.setCell ⟨w.heap.size + 1 + 1, 1, none⟩ (.int .i64 v8)) := k4.setNew (by omega) 1 _
  have r5 : Ref.Rd (w4.setCell ⟨w.heap.size + 1 + 1, 1, none⟩ (.int .i64 v8)) 0 w.heap.size rr S16 := r4.kept (Kept.one w4 (w.heap.size + 1 + 1) 1 _) (fun k _ h1 h => by have h : k = w.heap.size + 1 + 1 := h; omega) (fun h => by have h : rr = w.heap.size + 1 + 1 := h; have := HW.out; omega)
  clear k4 b4 z4 r4
  go_wp2_with fail
  refine Calls.nm ?_
  intro w5 ew
  rw [← ew] at k5 b5 z5 r5
  clear ew
  refine (HN.out.2.2.1 w5 r5).mono ?_
  rintro e w6 ⟨rfl, kn, r6⟩
  have k6 : Kept None w w6 := k5.then kn (fun i hi h => by have h : i = rr := h; have := HW.out; omega)
  have b6 := b5.kept kn (fun h => by have h : gg = rr := h; have := HW.out; omega)
  have z6 := z5.kept kn (fun h => by have h : w.heap.size = rr := h; have := HW.out; omega)
  clear k5 b5 z5 r5 kn f4 c4
  have c6 : w6.cell? ⟨w.heap.size + 1 + 1, 2, none⟩ = some (.int .i64 H2.c) := by
    have h := hd_c2 b6
    rwa [HW.out.2] at h
  have f6 : w6.frozen? ⟨w.heap.size + 1 + 1, 2, none⟩ = false := by
    have h := b6.free 2
    rwa [HW.out.2] at h
  have b7 : Blk (w6.setCell ⟨w.heap.size + 1 + 1, 2, none⟩ (.int .i64 v16)) gg (hdC H3).toArray 28 := by
    have h := HE.out.2.2.1 ▸ b6.set 2 (.int .i64 v16)
    rwa [show (⟨gg, 2, none⟩ : Addr) = ⟨w.heap.size + 1 + 1, 2, none⟩ by rw [HW.out.2]] at h
  have z7 : Blk (w6.setCell ⟨w.heap.size + 1 + 1, 2, none⟩ (.int .i64 v16)) w.heap.size Z 28 := z6.setOther (by show w.heap.size ≠ w.heap.size + 1 + 1; omega) _
  have k7 : Kept None w (w6.setCell ⟨w.heap.size + 1 + 1, 2, none⟩ (.int .i64 v16)) := k6.setNew (by omega) 2 _
  have r7 : Ref.Rd (w6.setCell ⟨w.heap.size + 1 + 1, 2, none⟩ (.int .i64 v16)) 0 w.heap.size rr S24 := r6.kept (Kept.one w6 (w.heap.size + 1 + 1) 2 _) (fun k _ h1 h => by have h : k = w.heap.size + 1 + 1 := h; omega) (fun h => by have h : rr = w.heap.size + 1 + 1 := h; have := HW.out; omega)
  clear k6 b6 z6 r6
  go_wp2_with fail
  refine Calls.nm ?_
  intro w7 ew
  rw [← ew] at k7 b7 z7 r7
  clear ew
  have sw7 : w.heap.size ≤ w7.heap.size := Nat.le_of_lt z7.lt
  refine (HN.out.2.2.2.1 w7 r7 sw7).mono ?_
  rintro e w8 ⟨rfl, kn, r8⟩
  have k8 : Kept None w w8 := k7.then kn (fun i hi h => by have h : i = rr := h; have := HW.out; omega)
  have b8 := b7.kept kn (fun h => by have h : gg = rr := h; have := HW.out; omega)
  have z8 := z7.kept kn (fun h => by have h : w.heap.size = rr := h; have := HW.out; omega)
  clear k7 b7 z7 r7 kn f6 c6 sw7
  have l8 : 3 + 32 ≤ (hdC H3).length := by rw [hdC_len HO.out.2.2.1]; decide
  have h8 := HO.out.2.2.2.2.1
  have e8 : Hid ((Value.pointer (some ⟨w.heap.size + 1 + 1, 3, none⟩)) = .pointer (some ⟨gg, 3, none⟩)) := hid (by rw [HW.out.2])
  go_wp2_with (first | (refine wpList_store_cut rfl _ _ _ rfl e8.out rfl b8 h8 (by kernel_rfl) l8 ?_; intro w9 b9 kn) | fail)
  rw [HE.out.2.2.2.1] at b9
  have z9 := z8.kept kn (fun h => by have h : w.heap.size = gg := h; have := HW.out; omega)
  have r9 := r8.kept kn (fun k _ h1 h => by have h : k = gg := h; have := HW.out; omega) (fun h => by have h : rr = gg := h; have := HW.out; omega)
  have k9 : Kept None w w9 := k8.then kn (fun i hi h => by have h : i = gg := h; have := HW.out; omega)
  clear k8 b8 z8 r8 kn l8 h8 e8
  go_wp2_with fail
  have sw9 : w.heap.size ≤ w9.heap.size := Nat.le_of_lt z9.lt
  refine (HN.out.2.2.2.2.1 w9 r9 sw9).mono ?_
  rintro e w10 ⟨rfl, kn, r10⟩
  have k10 : Kept None w w10 := k9.then kn (fun i hi h => by have h : i = rr := h; have := HW.out; omega)
  have b10 := b9.kept kn (fun h => by have h : gg = rr := h; have := HW.out; omega)
  have z10 := z9.kept kn (fun h => by have h : w.heap.size = rr := h; have := HW.out; omega)
  clear k9 b9 z9 r9 kn sw9
  have l10 : 35 + 32 ≤ (hdC H4).length := by rw [hdC_len HO.out.2.2.2.1]; decide
  have h10 := HO.out.2.2.2.2.2
  have e10 : Hid ((Value.pointer (some ⟨w.heap.size + 1 + 1, 35, none⟩)) = .pointer (some ⟨gg, 35, none⟩)) := hid (by rw [HW.out.2])
  go_wp2_with (first | (refine wpList_store_cut rfl _ _ _ rfl e10.out rfl b10 h10 (by kernel_rfl) l10 ?_; intro w11 b11 kn) | fail)
  rw [HE.out.2.2.2.2.1] at b11
  have z11 := z10.kept kn (fun h => by have h : w.heap.size = gg := h; have := HW.out; omega)
  have r11 := r10.kept kn (fun k _ h1 h => by have h : k = gg := h; have := HW.out; omega) (fun h => by have h : rr = gg := h; have := HW.out; omega)
  have k11 : Kept None w w11 := k10.then kn (fun i hi h => by have h : i = gg := h; have := HW.out; omega)
  clear k10 b10 z10 r10 kn l10 h10 e10
  go_wp2_with fail
  refine (HN.out.2.2.2.2.2.1 w11 r11).mono ?_
  rintro e w12 ⟨rfl, kn, r12⟩
  have k12 : Kept None w w12 := k11.then kn (fun i hi h => by have h : i = rr := h; have := HW.out; omega)
  have b12 := b11.kept kn (fun h => by have h : gg = rr := h; have := HW.out; omega)
  have z12 := z11.kept kn (fun h => by have h : w.heap.size = rr := h; have := HW.out; omega)
  clear k11 b11 z11 r11 kn
  have c12 : w12.cell? ⟨w.heap.size + 1 + 1, 67, none⟩ = some (.int .u64 (H5.r : Int)) := by
    have h := hd_c67 b12 HO.out.1
    rwa [HW.out.2] at h
  have f12 : w12.frozen? ⟨w.heap.size + 1 + 1, 67, none⟩ = false := by
    have h := b12.free 67
    rwa [HW.out.2] at h
  have b13 : Blk (w12.setCell ⟨w.heap.size + 1 + 1, 67, none⟩ (.int .u64 (x88 : Int))) gg (hdC H6).toArray 28 := by
    have h := HE.out.2.2.2.2.2.1 ▸ b12.set 67 (.int .u64 (x88 : Int))
    rwa [show (⟨gg, 67, none⟩ : Addr) = ⟨w.heap.size + 1 + 1, 67, none⟩ by rw [HW.out.2]] at h
  have z13 : Blk (w12.setCell ⟨w.heap.size + 1 + 1, 67, none⟩ (.int .u64 (x88 : Int))) w.heap.size Z 28 := z12.setOther (by show w.heap.size ≠ w.heap.size + 1 + 1; omega) _
  have k13 : Kept None w (w12.setCell ⟨w.heap.size + 1 + 1, 67, none⟩ (.int .u64 (x88 : Int))) := k12.setNew (by omega) 67 _
  have r13 : Ref.Rd (w12.setCell ⟨w.heap.size + 1 + 1, 67, none⟩ (.int .u64 (x88 : Int))) 0 w.heap.size rr S96 := r12.kept (Kept.one w12 (w.heap.size + 1 + 1) 67 _) (fun k _ h1 h => by have h : k = w.heap.size + 1 + 1 := h; omega) (fun h => by have h : rr = w.heap.size + 1 + 1 := h; have := HW.out; omega)
  clear k12 b12 z12 r12
  go_wp2_with fail
  refine Calls.nm ?_
  intro w13 ew
  rw [← ew] at k13 b13 z13 r13
  clear ew
  refine (HN.out.2.2.2.2.2.2 w13 r13).mono ?_
  rintro e w14 ⟨rfl, kn, r14⟩
  have k14 : Kept None w w14 := k13.then kn (fun i hi h => by have h : i = rr := h; have := HW.out; omega)
  have b14 := b13.kept kn (fun h => by have h : gg = rr := h; have := HW.out; omega)
  have z14 := z13.kept kn (fun h => by have h : w.heap.size = rr := h; have := HW.out; omega)
  clear k13 b13 z13 r13 kn f12 c12
  have c14 : w14.cell? ⟨w.heap.size + 1 + 1, 68, none⟩ = some (.int .u64 (H6.s : Int)) := by
    have h := hd_c68 b14 HO.out.2.1
    rwa [HW.out.2] at h
  have f14 : w14.frozen? ⟨w.heap.size + 1 + 1, 68, none⟩ = false := by
    have h := b14.free 68
    rwa [HW.out.2] at h
  have b15 : Blk (w14.setCell ⟨w.heap.size + 1 + 1, 68, none⟩ (.int .u64 (x96 : Int))) gg (hdC H7).toArray 28 := by
    have h := HE.out.2.2.2.2.2.2 ▸ b14.set 68 (.int .u64 (x96 : Int))
    rwa [show (⟨gg, 68, none⟩ : Addr) = ⟨w.heap.size + 1 + 1, 68, none⟩ by rw [HW.out.2]] at h
  have z15 : Blk (w14.setCell ⟨w.heap.size + 1 + 1, 68, none⟩ (.int .u64 (x96 : Int))) w.heap.size Z 28 := z14.setOther (by show w.heap.size ≠ w.heap.size + 1 + 1; omega) _
  have k15 : Kept None w (w14.setCell ⟨w.heap.size + 1 + 1, 68, none⟩ (.int .u64 (x96 : Int))) := k14.setNew (by omega) 68 _
  have r15 : Ref.Rd (w14.setCell ⟨w.heap.size + 1 + 1, 68, none⟩ (.int .u64 (x96 : Int))) 0 w.heap.size rr S104 := r14.kept (Kept.one w14 (w.heap.size + 1 + 1) 68 _) (fun k _ h1 h => by have h : k = w.heap.size + 1 + 1 := h; omega) (fun h => by have h : rr = w.heap.size + 1 + 1 := h; have := HW.out; omega)
  clear k14 b14 z14 r14
  have hall := hdC_one zeroHd
  have hall7 := hdC_one H7
  have eg : Hid ((Value.pointer (some ⟨w.heap.size + 1 + 1, 0, none⟩)) = .pointer (some ⟨gg, 0, none⟩)) := hid (by rw [HW.out.2])
  go_wp2_with (first | (refine wpList_load_blk rfl _ _ rfl eg.out b15 aF ?_) | fail)
  refine (HR.out.1 _).mono ?_
  rintro e w16 ⟨rfl, kn⟩
  have k16 := k15.trans kn
  have z16 := z15.kept kn (fun h => h)
  have b16 := b15.kept kn (fun h => h)
  have hz0 := SZ.out.1
  clear k15 z15 b15 kn
  cases R with
  | false =>
    go_wp2_with (first | (refine wpList_store_blk rfl _ _ _ rfl rfl rfl z16 aHd hz0 hall ?_; intro wz hz kz) | fail)
    exact bodyPost_ret (v := .tuple #[hdV zeroHd, .int .i64 23]) (res_cell_tmp rfl _ rfl rfl hz aHd) rfl ⟨rfl, k16.then kz (fun i hi (h : i = w.heap.size) => by omega)⟩
  | true =>
    go_wp2_with (first | (refine wpList_load_blk rfl _ _ rfl eg.out b16 aF ?_) | (refine wpList_store_blk rfl _ _ _ rfl rfl rfl z16 aF SZ.out.2 hall7 ?_; intro wz hz kz) | fail)
    exact bodyPost_ret (v := .tuple #[hdV H7, .int .i64 0]) (res_cell_tmp rfl _ rfl rfl hz aF) rfl ⟨rfl, k16.then kz (fun i hi (h : i = w.heap.size) => by omega)⟩
/-- HeadRead. -/
theorem read (v : Value) (lo hi : Nat) (l : List UInt8) (w : World) (hv : Bs w lo hi v l) :
    Calls Try.prog 24 #[v] w fun e w' => e = .returned (.tuple #[hdV (readHd l), .int .i64 (readHdE l)]) ∧ Kept None w w' := by
  by_cases h : 512 < l.length
  · exact read_long v lo hi l w hv h
  by_cases h2 : l.length < 105
  · exact read_short v lo hi l w hv h2
  by_cases h3 : 105 < l.length
  · exact read_more v lo hi l w hv h3 h
  by_cases h4 : bAt l 0 = 72
  · exact read_body v lo hi l w hv (by omega) h4
  · exact read_mark v lo hi l w hv (by omega) h4
end RHp
end Go.Proofs.Ytidegffdhpdhjaa
