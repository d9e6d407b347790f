/- postmarkref8.PromiseRead: by contract. -/
import Derived.Test.YtibkijloibnkfaaRPmA11
import Derived.Test.YtibkijloibnkfaaRUpOf
namespace Go.Proofs.Ytibkijloibnkfaa
open Go.RowKit Go.Pm
namespace RPp
open Pp (aPr zero_all res_ct)
theorem gives_store_blk {P : Program} {o : Oper} {a : Act} {w : World} {X : Value → World → Prop} (ty : TypeId) (x y : Operand) (ho : o.op = .store ty x y) {g : Nat} (hx : a.eval x = .pointer (some ⟨g, 0, none⟩)) {cs' : Array Value} (hy : a.eval y = .agg cs')
    {t : TypeId} {cs : Array Value} (hb : Blk w g cs t) (hT : AggTy P ty cs'.size) (hs : cs.size = cs'.size) (h1 : cs'.all (·.oneCell') = true) (h : ∀ w', Blk w' g cs' t → Kept (Just g) w w' → X undef w') : Gives P o a w X := by
  have hr := run_store_blk (P := P) (ty := ty) hb hT hs h1
  unfold Gives
  simp only [execOp, ho, hx, hy, Sem.run_bind, hr, Result.andThen_ok, Sem.run_pure]
  exact h _ (hb.setRow _) (Kept.row _ _ _)
theorem rd_cells {w : World} {lo hi r : Nat} {s : St} (h : Ref.Rd w lo hi r s) : w.cell? ⟨r, 1, none⟩ = some (.int .i64 s.e) ∧ ∃ a c, w.cell? ⟨r, 0, none⟩ = some (.slice a s.l.length c) ∧ s.l.length ≤ c ∧ c ≤ 9223372036854775807 := by
  obtain ⟨_, v, hb, hv⟩ := h
  obtain ⟨a, c, rfl, g1, g2, _⟩ := hv.shape
  exact ⟨hb.cell 1, a, c, hb.cell 0, g1, g2⟩
set_option maxRecDepth 100000 in
set_option maxHeartbeats 4000000 in
theorem read_long (v : Value) (lo hi : Nat) (l : List UInt8) (w : World) (hv : Bs w lo hi v l) (h : 512 < l.length) :
    Calls Try.prog 26 #[v] w fun e w' => e = .returned (.tuple #[(readPr l).V, .int .i64 (readPrE l)]) ∧ Kept None w w' := by
  rw [readPr_none (readPrE_long h) (by decide), readPrE_long h]
  obtain ⟨a, cap, rfl, g1, g2, g3⟩ := hv.shape
  have k0 : Kept None w (w.alloc (.cells #[.string ⟨#[]⟩, .int .i64 0, .int .u64 0, .int .i64 0, .int .i64 0, .int .u64 0, .int .u64 0] 55)) := (Kept.refl _ _).alloc _
  have z0 := Blk.new w #[.string ⟨#[]⟩, .int .i64 0, .int .u64 0, .int .i64 0, .int .i64 0, .int .u64 0, .int .u64 0] 55
  clear g3 hv
  go_enter Try.func26, Try.ntmps26
  go_wp2_with (first | (refine wpList_store_blk rfl _ _ _ rfl rfl rfl z0 aPr rfl zero_all ?_; intro wz hz kz) | fail)
  exact bodyPost_ret (v := .tuple #[.agg #[.string ⟨#[]⟩, .int .i64 0, .int .u64 0, .int .i64 0, .int .i64 0, .int .u64 0, .int .u64 0], .int .i64 22]) (res_ct rfl _ rfl rfl hz aPr) rfl ⟨rfl, k0.then kz (fun i hi (h : i = w.heap.size) => by omega)⟩
set_option maxRecDepth 100000 in
set_option maxHeartbeats 4000000 in
theorem read_short (v : Value) (lo hi : Nat) (l : List UInt8) (w : World) (hv : Bs w lo hi v l) (h : l.length = 0) :
    Calls Try.prog 26 #[v] w fun e w' => e = .returned (.tuple #[(readPr l).V, .int .i64 (readPrE l)]) ∧ Kept None w w' := by
  rw [readPr_none (readPrE_short h) (by decide), readPrE_short h]
  obtain ⟨a, cap, rfl, g1, g2, g3⟩ := hv.shape
  have k0 : Kept None w (w.alloc (.cells #[.string ⟨#[]⟩, .int .i64 0, .int .u64 0, .int .i64 0, .int .i64 0, .int .u64 0, .int .u64 0] 55)) := (Kept.refl _ _).alloc _
  have z0 := Blk.new w #[.string ⟨#[]⟩, .int .i64 0, .int .u64 0, .int .i64 0, .int .i64 0, .int .u64 0, .int .u64 0] 55
  rw [h]
  clear g3 hv
  go_enter Try.func26, Try.ntmps26
  go_wp2_with (first | (refine wpList_store_blk rfl _ _ _ rfl rfl rfl z0 aPr rfl zero_all ?_; intro wz hz kz) | fail)
  exact bodyPost_ret (v := .tuple #[.agg #[.string ⟨#[]⟩, .int .i64 0, .int .u64 0, .int .i64 0, .int .i64 0, .int .u64 0, .int .u64 0], .int .i64 21]) (res_ct rfl _ rfl rfl hz aPr) rfl ⟨rfl, k0.then kz (fun i hi (h : i = w.heap.size) => by omega)⟩
set_option maxRecDepth 100000 in
set_option maxHeartbeats 4000000 in
theorem read_mark (v : Value) (lo hi : Nat) (l : List UInt8) (w : World) (hv : Bs w lo hi v l) (h : ¬ 512 < l.length) (h1 : ¬ l.length = 0) (h2 : bAt l 0 ≠ 80) :
    Calls Try.prog 26 #[v] w fun e w' => e = .returned (.tuple #[(readPr l).V, .int .i64 (readPrE l)]) ∧ Kept None w w' := by
  rw [readPr_none (readPrE_mark h h1 h2) (by decide), readPrE_mark h h1 h2]
  obtain ⟨a, cap, rfl, g1, g2, g3⟩ := hv.shape
  have k0 : Kept None w (w.alloc (.cells #[.string ⟨#[]⟩, .int .i64 0, .int .u64 0, .int .i64 0, .int .i64 0, .int .u64 0, .int .u64 0] 55)) := (Kept.refl _ _).alloc _
  have z0 := Blk.new w #[.string ⟨#[]⟩, .int .i64 0, .int .u64 0, .int .i64 0, .int .i64 0, .int .u64 0, .int .u64 0] 55
  obtain ⟨b, o, rfl, q1, q2, q3, hc⟩ := hv.ne (by omega)
  have c0 := hc 0 (by omega)
  rw [Nat.add_zero] at c0
  have hne : (bAt l 0 != 80) = true := by simpa using h2
  obtain ⟨m, hm⟩ : ∃ m, m = l.length := ⟨_, rfl⟩
  rw [← hm] at g1 h h1 ⊢
  obtain ⟨x, hx⟩ : ∃ x, x = bAt l 0 := ⟨_, rfl⟩
  rw [← hx] at c0 hne
  clear h2 hx hc hv hm g3
  go_enter Try.func26, Try.ntmps26
  go_wp2_with (first | (refine wpList_store_blk rfl _ _ _ rfl rfl rfl z0 aPr rfl zero_all ?_; intro wz hz kz) | fail)
  exact bodyPost_ret (v := .tuple #[.agg #[.string ⟨#[]⟩, .int .i64 0, .int .u64 0, .int .i64 0, .int .i64 0, .int .u64 0, .int .u64 0], .int .i64 20]) (res_ct rfl _ rfl rfl hz aPr) rfl ⟨rfl, k0.then kz (fun i hi (h : i = w.heap.size) => by omega)⟩
set_option maxRecDepth 100000 in
set_option maxHeartbeats 16000000 in
theorem read_body (v : Value) (lo hi : Nat) (l : List UInt8) (w : World) (hv : Bs w lo hi v l) (h : ¬ 512 < l.length) (h1 : ¬ l.length = 0) (h2 : bAt l 0 = 80) :
    Calls Try.prog 26 #[v] w fun e w' => e = .returned (.tuple #[(readPr l).V, .int .i64 (readPrE l)]) ∧ Kept None w w' := by
  have a1 : (rd7 (l.drop 1)).e ≠ 0 → readPrE l = (rd7 (l.drop 1)).e ∧ readPr l = zeroPr := fun h3 => ⟨readPrE_err h h1 h2 h3, readPr_none (readPrE_err h h1 h2 h3) h3⟩
  have a2 : (rd7 (l.drop 1)).e = 0 → 0 < (rd7 (l.drop 1)).l.length → readPrE l = 20 ∧ readPr l = zeroPr := fun h3 h4 => ⟨readPrE_more h h1 h2 (by omega) h4, readPr_none (readPrE_more h h1 h2 (by omega) h4) (by decide)⟩
  have a3 : (rd7 (l.drop 1)).e = 0 → (rd7 (l.drop 1)).l.length = 0 → (prmOf intI (l.drop 1)).right = false → readPrE l = 23 ∧ readPr l = zeroPr := fun h3 h4 h5 => ⟨readPrE_form h h1 h2 (by omega) (by omega) (prm_cut _ ▸ h5), readPr_none (readPrE_form h h1 h2 (by omega) (by omega) (prm_cut _ ▸ h5)) (by decide)⟩
  have a4 : (rd7 (l.drop 1)).e = 0 → (rd7 (l.drop 1)).l.length = 0 → (prmOf intI (l.drop 1)).right = true → readPrE l = 0 ∧ readPr l = prmOf intI (l.drop 1) := fun h3 h4 h5 => ⟨readPrE_ok h h1 h2 (by omega) (by omega) (prm_cut _ ▸ h5), (readPr_ok (readPrE_ok h h1 h2 (by omega) (by omega) (prm_cut _ ▸ h5))).trans (prm_same _ (prm_cut _ ▸ h5)).symm⟩
  obtain ⟨Q, hQ⟩ : ∃ Q, Q = readPr l := ⟨_, rfl⟩
  obtain ⟨E, hE⟩ : ∃ E, E = readPrE l := ⟨_, rfl⟩
  rw [← hQ, ← hE] at a1 a2 a3 a4
  rw [← hQ, ← hE]
  obtain ⟨m, hm⟩ : ∃ m, m = l.length := ⟨_, rfl⟩
  rw [← hm] at h h1
  obtain ⟨a, cap, rfl, g1, g2, g3⟩ := hv.shape
  obtain ⟨b, o, rfl, q1, q2, q3, hc⟩ := hv.ne (by omega)
  have c0 := hc 0 (by omega)
  rw [h2, Nat.add_zero] at c0
  have hv' := Vs.lt hv
  have hhi : min hi w.heap.size ≤ w.heap.size := Nat.min_le_right _ _
  generalize min hi w.heap.size = hi' at hv' hhi
  have hcut : Bs w lo hi' (.slice (if cap = 1 then some ⟨b, o, none⟩ else some ⟨b, o + 1, none⟩) (m - 1) (cap - 1)) (l.drop 1) := by
    have h3 := Vs.sliced hv' 1 l.length (by omega) (by omega)
    rw [List.take_of_length_le (by rw [List.length_map]; omega), ← List.map_drop, ← hm] at h3
    exact h3
  rw [← hm] at g1 ⊢
  obtain ⟨L, hL⟩ : ∃ L, L = l.drop 1 := ⟨_, rfl⟩
  rw [← hL] at hcut a1 a2 a3 a4
  clear hc g3 hv hv' h2 hm hL hQ hE
  have j0 := fun rr lo hi w hr hlo => RUp.of rr lo hi L w hr hlo
  have j1 := fun rr lo hi w hr hlo => Ref.rint rr lo hi (rd3 L) w hr hlo
  have j2 := fun rr lo hi w hr hlo => Ref.rint rr lo hi (rd4 L) w hr hlo
  have j3 := fun rr lo hi w hr hlo => Ref.rnum rr lo hi (rd5 L) w hr hlo
  have j4 := fun rr lo hi w hr hlo => Ref.rnum rr lo hi (rd6 L) w hr hlo
  rw [← St.nat_eq] at j3 j4
  rw [show (rd3 L).numS = rd4 L from rfl] at j1
  rw [show (rd4 L).numS = rd5 L from rfl] at j2
  rw [show (rd5 L).numS = rd6 L from rfl] at j3
  rw [show (rd6 L).numS = rd7 L from rfl] at j4
  have hRt := fun W => right ⟨(rdN L).toArray⟩ (intI (rd1 L).num) (rd2 L).nat (intI (rd3 L).num) (intI (rd4 L).num) (rd5 L).nat (rd6 L).nat W
  rw [prmOf_right] at a3 a4
  rw [← size_of (rdN L)] at a3 a4
  have hqv : (prmOf intI L).V = prV ⟨(rdN L).toArray⟩ (intI (rd1 L).num) (rd2 L).nat (intI (rd3 L).num) (intI (rd4 L).num) (rd5 L).nat (rd6 L).nat := rfl
  obtain ⟨P, hP⟩ : ∃ P, P = prmOf intI L := ⟨_, rfl⟩
  rw [← hP] at hqv a4
  obtain ⟨N, hN⟩ : ∃ N, N = rdN L := ⟨_, rfl⟩
  obtain ⟨V, hV⟩ : ∃ V, V = intI (rd1 L).num := ⟨_, rfl⟩
  obtain ⟨K, hK⟩ : ∃ K, K = (rd2 L).nat := ⟨_, rfl⟩
  obtain ⟨T, hT⟩ : ∃ T, T = intI (rd3 L).num := ⟨_, rfl⟩
  obtain ⟨D, hD⟩ : ∃ D, D = intI (rd4 L).num := ⟨_, rfl⟩
  obtain ⟨R, hR⟩ : ∃ R, R = (rd5 L).nat := ⟨_, rfl⟩
  obtain ⟨S, hS⟩ : ∃ S, S = (rd6 L).nat := ⟨_, rfl⟩
  rw [← hN, ← hV, ← hK] at j0
  rw [← hT] at j1
  rw [← hD] at j2
  rw [← hR] at j3
  rw [← hS] at j4
  rw [← hN, ← hV, ← hK, ← hT, ← hD, ← hR, ← hS] at hRt hqv
  rw [← hN, ← hV, ← hK, ← hT, ← hD] at a3 a4
  obtain ⟨S0, hS0⟩ : ∃ S0, S0 = (⟨L, 0⟩ : St) := ⟨_, rfl⟩
  obtain ⟨S3, hS3⟩ : ∃ S, S = rd3 L := ⟨_, rfl⟩
  obtain ⟨S4, hS4⟩ : ∃ S, S = rd4 L := ⟨_, rfl⟩
  obtain ⟨S5, hS5⟩ : ∃ S, S = rd5 L := ⟨_, rfl⟩
  obtain ⟨S6, hS6⟩ : ∃ S, S = rd6 L := ⟨_, rfl⟩
  obtain ⟨S7, hS7⟩ : ∃ S, S = rd7 L := ⟨_, rfl⟩
  rw [← hS0, ← hS3] at j0
  rw [← hS3, ← hS4] at j1
  rw [← hS4, ← hS5] at j2
  rw [← hS5, ← hS6] at j3
  rw [← hS6, ← hS7] at j4
  rw [← hS7] at a1 a2 a3 a4
  have hrdc : ∀ W rr, Ref.Rd W lo hi' rr S7 → _ := fun W rr h => rd_cells h
  obtain ⟨E7, hE7⟩ : ∃ E7, E7 = S7.e := ⟨_, rfl⟩
  rw [← hE7] at a1 a2 a3 a4 hrdc
  obtain ⟨L7, hL7⟩ : ∃ L7, L7 = S7.l.length := ⟨_, rfl⟩
  rw [← hL7] at a2 a3 a4 hrdc
  obtain ⟨Z, hZ⟩ : ∃ Z, Z = rightPr (⟨N.toArray⟩ : ByteArray).size V K T D := ⟨_, rfl⟩
  rw [← hZ] at hRt a3 a4
  have J := hid (And.intro j0 (And.intro j1 (And.intro j2 (And.intro j3 (And.intro j4 (And.intro hRt hrdc))))))
  have A := hid (And.intro a1 (And.intro a2 (And.intro a3 a4)))
  have HQ := hid hqv
  have HS0 := hid hS0
  clear j0 j1 j2 j3 j4 hRt hrdc a1 a2 a3 a4 hqv hP hN hV hK hT hD hR hS hS0 hS3 hS4 hS5 hS6 hS7 hE7 hL7 hZ
  by_cases hcap : cap = 1
  · subst hcap
    obtain rfl : m = 1 := by omega
    rw [if_pos rfl, Nat.sub_self] at hcut
    have r0 : Ref.Rd ((w.alloc (.cells #[.string ⟨#[]⟩, .int .i64 0, .int .u64 0, .int .i64 0, .int .i64 0, .int .u64 0, .int .u64 0] 55)).alloc (.cells #[.slice (some ⟨b, o, none⟩) 0 0, .int .i64 0] 96)) lo hi' (w.heap.size + 1) S0 := by
      rw [HS0.out]
      exact ⟨fun h => absurd rfl h, _, Blk.new2 w _ _ _, (hcut.kept ((Kept.refl None w).alloc (.cells #[.string ⟨#[]⟩, .int .i64 0, .int .u64 0, .int .i64 0, .int .i64 0, .int .u64 0, .int .u64 0] 55)) (fun _ _ _ h => h)).kept ((Kept.refl None _).alloc (.cells #[.slice (some ⟨b, o, none⟩) 0 0, .int .i64 0] 96)) (fun _ _ _ h => h)⟩
    have k0 : Kept None w ((w.alloc (.cells #[.string ⟨#[]⟩, .int .i64 0, .int .u64 0, .int .i64 0, .int .i64 0, .int .u64 0, .int .u64 0] 55)).alloc (.cells #[.slice (some ⟨b, o, none⟩) 0 0, .int .i64 0] 96)) := ((Kept.refl _ _).alloc _).alloc _
    have z0 : Blk ((w.alloc (.cells #[.string ⟨#[]⟩, .int .i64 0, .int .u64 0, .int .i64 0, .int .i64 0, .int .u64 0, .int .u64 0] 55)).alloc (.cells #[.slice (some ⟨b, o, none⟩) 0 0, .int .i64 0] 96)) w.heap.size #[.string ⟨#[]⟩, .int .i64 0, .int .u64 0, .int .i64 0, .int .i64 0, .int .u64 0, .int .u64 0] 55 := (Blk.new w _ _).alloc _
    clear hcut HS0
    go_enter Try.func26, Try.ntmps26
    go_wp2_with fail
    refine (J.out.1 _ _ _ _ r0 (by omega)).mono ?_
    rintro e w1 ⟨rfl, kn, rn⟩
    have kn1 := k0.then kn (fun i hi (h : i = w.heap.size + 1) => by omega)
    have zn1 := z0.kept kn (fun (h : w.heap.size = w.heap.size + 1) => by omega)
    have sr := rn.lt
    have k1 : Kept None w (w1.alloc (.cells #[.string ⟨N.toArray⟩, .int .i64 V, .int .u64 (K : Int), .int .i64 0, .int .i64 0, .int .u64 0, .int .u64 0] 55)) := kn1.alloc _
    have z1 : Blk (w1.alloc (.cells #[.string ⟨N.toArray⟩, .int .i64 V, .int .u64 (K : Int), .int .i64 0, .int .i64 0, .int .u64 0, .int .u64 0] 55)) w.heap.size #[.string ⟨#[]⟩, .int .i64 0, .int .u64 0, .int .i64 0, .int .i64 0, .int .u64 0, .int .u64 0] 55 := zn1.alloc _
    have p1 : Blk (w1.alloc (.cells #[.string ⟨N.toArray⟩, .int .i64 V, .int .u64 (K : Int), .int .i64 0, .int .i64 0, .int .u64 0, .int .u64 0] 55)) w1.heap.size #[.string ⟨N.toArray⟩, .int .i64 V, .int .u64 (K : Int), .int .i64 0, .int .i64 0, .int .u64 0, .int .u64 0] 55 := Blk.new _ _ _
    have r1 := rn.kept ((Kept.refl None w1).alloc (.cells #[.string ⟨N.toArray⟩, .int .i64 V, .int .u64 (K : Int), .int .i64 0, .int .i64 0, .int .u64 0, .int .u64 0] 55)) (fun _ _ _ h => h) (fun h => h)
    obtain ⟨pb, hpb⟩ : ∃ pb, pb = w1.heap.size := ⟨_, rfl⟩
    have HPB := hid hpb
    have NE : ∀ k, lo ≤ k → k < hi' → ¬ Just pb k := fun k _ h e => by unfold Just at e; omega
    have NR : ¬ Just pb (w.heap.size + 1) := fun e => by unfold Just at e; omega
    have NU : ¬ Just (w.heap.size + 1) pb := fun e => by unfold Just at e; omega
    have NV : ¬ Just (w.heap.size + 1) w.heap.size := fun e => by unfold Just at e; omega
    have NW : w.heap.size ≠ pb := by omega
    have NX : w.heap.size ≤ pb := by omega
    have NY : pb ≠ w.heap.size + 1 := by omega
    have NN := hid (And.intro NE (And.intro NR (And.intro NU (And.intro NV (And.intro NW (And.intro NX NY))))))
    clear NE NR NU NV NW NX NY r0 k0 z0 kn rn kn1 zn1 c0
    go_wp2_with fail
    rw [← hpb] at p1
    rw [← hpb]
    refine Calls.nm ?_
    intro w2 e2
    rw [← e2] at k1 z1 p1 r1
    clear e2 hpb
    refine (J.out.2.1 _ _ _ _ r1 (by omega)).mono ?_
    rintro e v1 ⟨rfl, kn, rn⟩
    have kq := (k1.then kn (fun i hi (h : i = w.heap.size + 1) => by omega))
    have zq := z1.kept kn NN.out.2.2.2.1
    have pq := p1.kept kn NN.out.2.2.1
    have cc : v1.cell? ⟨pb, 3, none⟩ = some (.int .i64 0) := pq.cell 3
    have ff := pq.free 3
    have r1s := rn.kept (Kept.one v1 pb 3 (.int .i64 T)) NN.out.1 NN.out.2.1
    have p1s : Blk (v1.setCell ⟨pb, 3, none⟩ (.int .i64 T)) pb #[.string ⟨N.toArray⟩, .int .i64 V, .int .u64 (K : Int), .int .i64 T, .int .i64 0, .int .u64 0, .int .u64 0] 55 := pq.set 3 _
    have z1s := zq.setOther (a := ⟨pb, 3, none⟩) NN.out.2.2.2.2.1 (.int .i64 T)
    have k1s := kq.setNew (b := pb) NN.out.2.2.2.2.2.1 3 (.int .i64 T)
    clear kn rn kq zq pq k1 z1 p1 r1
    go_wp2_with fail
    clear cc ff
    refine (J.out.2.2.1 _ _ _ _ r1s (by omega)).mono ?_
    rintro e v2 ⟨rfl, kn, rn⟩
    have kq := (k1s.then kn (fun i hi (h : i = w.heap.size + 1) => by omega))
    have zq := z1s.kept kn NN.out.2.2.2.1
    have pq := p1s.kept kn NN.out.2.2.1
    have cc : v2.cell? ⟨pb, 4, none⟩ = some (.int .i64 0) := pq.cell 4
    have ff := pq.free 4
    have r2s := rn.kept (Kept.one v2 pb 4 (.int .i64 D)) NN.out.1 NN.out.2.1
    have p2s : Blk (v2.setCell ⟨pb, 4, none⟩ (.int .i64 D)) pb #[.string ⟨N.toArray⟩, .int .i64 V, .int .u64 (K : Int), .int .i64 T, .int .i64 D, .int .u64 0, .int .u64 0] 55 := pq.set 4 _
    have z2s := zq.setOther (a := ⟨pb, 4, none⟩) NN.out.2.2.2.2.1 (.int .i64 D)
    have k2s := kq.setNew (b := pb) NN.out.2.2.2.2.2.1 4 (.int .i64 D)
    clear kn rn kq zq pq k1s z1s p1s r1s
    go_wp2_with fail
    clear cc ff
    refine (J.out.2.2.2.1 _ _ _ _ r2s (by omega)).mono ?_
    rintro e v3 ⟨rfl, kn, rn⟩
    have kq := (k2s.then kn (fun i hi (h : i = w.heap.size + 1) => by omega))
    have zq := z2s.kept kn NN.out.2.2.2.1
    have pq := p2s.kept kn NN.out.2.2.1
    have cc : v3.cell? ⟨pb, 5, none⟩ = some (.int .u64 0) := pq.cell 5
    have ff := pq.free 5
    have r3s := rn.kept (Kept.one v3 pb 5 (.int .u64 (R : Int))) NN.out.1 NN.out.2.1
    have p3s : Blk (v3.setCell ⟨pb, 5, none⟩ (.int .u64 (R : Int))) pb #[.string ⟨N.toArray⟩, .int .i64 V, .int .u64 (K : Int), .int .i64 T, .int .i64 D, .int .u64 (R : Int), .int .u64 0] 55 := pq.set 5 _
    have z3s := zq.setOther (a := ⟨pb, 5, none⟩) NN.out.2.2.2.2.1 (.int .u64 (R : Int))
    have k3s := kq.setNew (b := pb) NN.out.2.2.2.2.2.1 5 (.int .u64 (R : Int))
    clear kn rn kq zq pq k2s z2s p2s r2s
    go_wp2_with fail
    clear cc ff
    refine (J.out.2.2.2.2.1 _ _ _ _ r3s (by omega)).mono ?_
    rintro e v4 ⟨rfl, kn, rn⟩
    have kq := (k3s.then kn (fun i hi (h : i = w.heap.size + 1) => by omega))
    have zq := z3s.kept kn NN.out.2.2.2.1
    have pq := p3s.kept kn NN.out.2.2.1
    have cc : v4.cell? ⟨pb, 6, none⟩ = some (.int .u64 0) := pq.cell 6
    have ff := pq.free 6
    have r4s := rn.kept (Kept.one v4 pb 6 (.int .u64 (S : Int))) NN.out.1 NN.out.2.1
    have p4s : Blk (v4.setCell ⟨pb, 6, none⟩ (.int .u64 (S : Int))) pb #[.string ⟨N.toArray⟩, .int .i64 V, .int .u64 (K : Int), .int .i64 T, .int .i64 D, .int .u64 (R : Int), .int .u64 (S : Int)] 55 := pq.set 6 _
    have z4s := zq.setOther (a := ⟨pb, 6, none⟩) NN.out.2.2.2.2.1 (.int .u64 (S : Int))
    have k4s := kq.setNew (b := pb) NN.out.2.2.2.2.2.1 6 (.int .u64 (S : Int))
    have RD := J.out.2.2.2.2.2.2 _ _ rn
    clear kn rn kq zq pq k3s z3s p3s r3s
    obtain ⟨d1, a7, c7, d0, g7, g8⟩ := RD
    have hne1 := NN.out.2.2.2.2.2.2
    have hne2 : w.heap.size + 1 ≠ pb := Ne.symm hne1
    by_cases he : E7 = 0
    · subst he
      by_cases hl : 0 < L7
      · obtain ⟨t1, t2⟩ := A.out.2.1 (by trivial) hl
        have P1 := hid t1
        have P2 := hid t2
        clear t1 t2
        go_wp2_with (first | (refine wpList_store_blk rfl _ _ _ rfl rfl rfl z4s aPr rfl zero_all ?_; intro wz hz kz) | fail)
        exact bodyPost_ret (v := .tuple #[.agg #[.string ⟨#[]⟩, .int .i64 0, .int .u64 0, .int .i64 0, .int .i64 0, .int .u64 0, .int .u64 0], .int .i64 20]) (res_ct rfl _ rfl rfl hz aPr) rfl ⟨by rw [P1.out, P2.out]; rfl, k4s.then kz (fun i hi (h : i = w.heap.size) => by omega)⟩
      · obtain rfl : L7 = 0 := by omega
        go_wp2_with (first | (refine wpList_load_blk rfl _ _ rfl rfl p4s aPr ?_) | fail)
        refine (J.out.2.2.2.2.2.1 _).mono ?_
        rintro e w5 ⟨rfl, kn⟩
        have k5 := k4s.trans kn
        have z5 := z4s.kept kn (fun h => h)
        have u5 := p4s.kept kn (fun h => h)
        clear k4s z4s p4s r4s kn J d0 d1
        cases Z with
        | false =>
          obtain ⟨t1, t2⟩ := A.out.2.2.1 (by trivial) (by trivial) (by trivial)
          have P1 := hid t1
          have P2 := hid t2
          clear t1 t2
          go_wp2_with (first | (refine wpList_store_blk rfl _ _ _ rfl rfl rfl z5 aPr rfl zero_all ?_; intro wz hz kz) | fail)
          exact bodyPost_ret (v := .tuple #[.agg #[.string ⟨#[]⟩, .int .i64 0, .int .u64 0, .int .i64 0, .int .i64 0, .int .u64 0, .int .u64 0], .int .i64 23]) (res_ct rfl _ rfl rfl hz aPr) rfl ⟨by rw [P1.out, P2.out]; rfl, k5.then kz (fun i hi (h : i = w.heap.size) => by omega)⟩
        | true =>
          obtain ⟨t1, t2⟩ := A.out.2.2.2 (by trivial) (by trivial) (by trivial)
          have P1 := hid t1
          have P2 := hid t2
          clear t1 t2
          go_wp2_with (first | (refine wpList_load_blk rfl _ _ rfl rfl u5 aPr ?_) | (refine wpList_store_blk rfl _ _ _ rfl rfl rfl z5 aPr rfl (pr_all ⟨N.toArray⟩ V K T D R S) ?_; intro wz hz kz) | fail)
          exact bodyPost_ret (v := .tuple #[prV ⟨N.toArray⟩ V K T D R S, .int .i64 0]) (res_ct rfl _ rfl rfl hz aPr) rfl ⟨by rw [P1.out, P2.out, HQ.out], k5.then kz (fun i hi (h : i = w.heap.size) => by omega)⟩
    · obtain ⟨t1, t2⟩ := A.out.1 he
      have P1 := hid t1
      have P2 := hid t2
      have h2b : (E7 != 0) = true := by simpa using he
      have h2c : (E7 == 0) = false := by simpa using he
      clear t1 t2 he
      go_wp2_with fail
      obtain ⟨w9, hw9⟩ : ∃ w9, w9 = v4.setCell ⟨pb, 6, none⟩ (.int .u64 (S : Int)) := ⟨_, rfl⟩
      rw [← hw9] at k4s z4s p4s r4s ⊢
      clear hw9
      have hdX : ∀ W, Kept (Just w.heap.size) w9 W → W.cell? ⟨w.heap.size + 1, 1, none⟩ = some (.int .i64 E7) := fun W hW => (J.out.2.2.2.2.2.2 _ _ (r4s.kept hW (fun k _ h (e : k = w.heap.size) => by omega) (fun (e : w.heap.size + 1 = w.heap.size) => by omega))).1
      refine wp_region_plan (Kept (Just w.heap.size) w9) [{ k := 5, uses := [100], spends := [100], fact := fun _ W => Blk W w.heap.size #[.string ⟨#[]⟩, .int .i64 0, .int .u64 0, .int .i64 0, .int .i64 0, .int .u64 0, .int .u64 0] 55 }, { k := 100, uses := [], fact := fun _ W => Blk W w.heap.size #[.string ⟨#[]⟩, .int .i64 0, .int .u64 0, .int .i64 0, .int .i64 0, .int .u64 0, .int .u64 0] 55 }] [100] (by kernel_rfl) (by kernel_rfl) (by kernel_rfl) (by rfl) ?pures2 ((Kept.refl _ w9).drew) ?starts2 ?walk2
      case pures2 =>
        intro f hf
        exact ⟨undef, by simp only [List.mem_cons, List.not_mem_nil, or_false] at hf; rcases hf with rfl | rfl <;> trivial⟩
      case starts2 =>
        intro k hk
        obtain rfl : k = 100 := by simpa using hk
        exact z4s.drew
      iterate 5 (refine wpPar_pure rfl (by rfl) _ (fun W hW => by
          have d1 := hdX W hW
          go_simp
          exact rfl) ?_; simp only [Act.put, List.setIfInBounds_toArray, List.set_cons_zero, List.set_cons_succ])
      refine wpPar_adds rfl (by rfl) (fun W hW hd => ?_) (fun v5 hv => ?_)
      · have vW : Blk W w.heap.size #[.string ⟨#[]⟩, .int .i64 0, .int .u64 0, .int .i64 0, .int .i64 0, .int .u64 0, .int .u64 0] 55 := hd 100 (List.Mem.head _)
        refine gives_store_blk _ _ _ rfl rfl rfl vW aPr rfl zero_all fun W' b' k' => ?_
        refine ⟨hW.trans k', trivial, b', keeps_of fun f hf hs _ hne u hfu => ?_⟩
        simp only [List.mem_cons, List.not_mem_nil, or_false] at hf
        rcases hf with rfl | rfl
        · exact absurd rfl hne
        · exact absurd (List.Mem.head _) hs
      simp only [Act.put]
      iterate 1 (refine wpPar_pure rfl (by rfl) _ (fun W hW => by
          go_simp
          exact rfl) ?_; simp only [Act.put, List.setIfInBounds_toArray, List.set_cons_zero, List.set_cons_succ])
      refine wpPar_nil (fun W hW hG => ?_)
      have hR7 : Blk W w.heap.size #[.string ⟨#[]⟩, .int .i64 0, .int .u64 0, .int .i64 0, .int .i64 0, .int .u64 0, .int .u64 0] 55 := hG 5
      have k7 := k4s.then hW (fun i hi (h : i = w.heap.size) => by omega)
      clear hG hdX z4s p4s r4s k4s hW J d0 d1
      go_wp2
      exact bodyPost_ret (v := .tuple #[.agg #[.string ⟨#[]⟩, .int .i64 0, .int .u64 0, .int .i64 0, .int .i64 0, .int .u64 0, .int .u64 0], .int .i64 E7]) (res_ct rfl _ rfl rfl hR7 aPr) rfl ⟨by rw [P1.out, P2.out]; rfl, k7⟩
  · rw [if_neg hcap] at hcut
    have r0 : Ref.Rd ((w.alloc (.cells #[.string ⟨#[]⟩, .int .i64 0, .int .u64 0, .int .i64 0, .int .i64 0, .int .u64 0, .int .u64 0] 55)).alloc (.cells #[.slice (some ⟨b, o + 1, none⟩) (m - 1) (cap - 1), .int .i64 0] 96)) lo hi' (w.heap.size + 1) S0 := by
      rw [HS0.out]
      exact ⟨fun h => absurd rfl h, _, Blk.new2 w _ _ _, (hcut.kept ((Kept.refl None w).alloc (.cells #[.string ⟨#[]⟩, .int .i64 0, .int .u64 0, .int .i64 0, .int .i64 0, .int .u64 0, .int .u64 0] 55)) (fun _ _ _ h => h)).kept ((Kept.refl None _).alloc (.cells #[.slice (some ⟨b, o + 1, none⟩) (m - 1) (cap - 1), .int .i64 0] 96)) (fun _ _ _ h => h)⟩
    have k0 : Kept None w ((w.alloc (.cells #[.string ⟨#[]⟩, .int .i64 0, .int .u64 0, .int .i64 0, .int .i64 0, .int .u64 0, .int .u64 0] 55)).alloc (.cells #[.slice (some ⟨b, o + 1, none⟩) (m - 1) (cap - 1), .int .i64 0] 96)) := ((Kept.refl _ _).alloc _).alloc _
    have z0 : Blk ((w.alloc (.cells #[.string ⟨#[]⟩, .int .i64 0, .int .u64 0, .int .i64 0, .int .i64 0, .int .u64 0, .int .u64 0] 55)).alloc (.cells #[.slice (some ⟨b, o + 1, none⟩) (m - 1) (cap - 1), .int .i64 0] 96)) w.heap.size #[.string ⟨#[]⟩, .int .i64 0, .int .u64 0, .int .i64 0, .int .i64 0, .int .u64 0, .int .u64 0] 55 := (Blk.new w _ _).alloc _
    clear hcut HS0
    go_enter Try.func26, Try.ntmps26
    go_wp2_with fail
    refine (J.out.1 _ _ _ _ r0 (by omega)).mono ?_
    rintro e w1 ⟨rfl, kn, rn⟩
    have kn1 := k0.then kn (fun i hi (h : i = w.heap.size + 1) => by omega)
    have zn1 := z0.kept kn (fun (h : w.heap.size = w.heap.size + 1) => by omega)
    have sr := rn.lt
    have k1 : Kept None w (w1.alloc (.cells #[.string ⟨N.toArray⟩, .int .i64 V, .int .u64 (K : Int), .int .i64 0, .int .i64 0, .int .u64 0, .int .u64 0] 55)) := kn1.alloc _
    have z1 : Blk (w1.alloc (.cells #[.string ⟨N.toArray⟩, .int .i64 V, .int .u64 (K : Int), .int .i64 0, .int .i64 0, .int .u64 0, .int .u64 0] 55)) w.heap.size #[.string ⟨#[]⟩, .int .i64 0, .int .u64 0, .int .i64 0, .int .i64 0, .int .u64 0, .int .u64 0] 55 := zn1.alloc _
    have p1 : Blk (w1.alloc (.cells #[.string ⟨N.toArray⟩, .int .i64 V, .int .u64 (K : Int), .int .i64 0, .int .i64 0, .int .u64 0, .int .u64 0] 55)) w1.heap.size #[.string ⟨N.toArray⟩, .int .i64 V, .int .u64 (K : Int), .int .i64 0, .int .i64 0, .int .u64 0, .int .u64 0] 55 := Blk.new _ _ _
    have r1 := rn.kept ((Kept.refl None w1).alloc (.cells #[.string ⟨N.toArray⟩, .int .i64 V, .int .u64 (K : Int), .int .i64 0, .int .i64 0, .int .u64 0, .int .u64 0] 55)) (fun _ _ _ h => h) (fun h => h)
    obtain ⟨pb, hpb⟩ : ∃ pb, pb = w1.heap.size := ⟨_, rfl⟩
    have HPB := hid hpb
    have NE : ∀ k, lo ≤ k → k < hi' → ¬ Just pb k := fun k _ h e => by unfold Just at e; omega
    have NR : ¬ Just pb (w.heap.size + 1) := fun e => by unfold Just at e; omega
    have NU : ¬ Just (w.heap.size + 1) pb := fun e => by unfold Just at e; omega
    have NV : ¬ Just (w.heap.size + 1) w.heap.size := fun e => by unfold Just at e; omega
    have NW : w.heap.size ≠ pb := by omega
    have NX : w.heap.size ≤ pb := by omega
    have NY : pb ≠ w.heap.size + 1 := by omega
    have NN := hid (And.intro NE (And.intro NR (And.intro NU (And.intro NV (And.intro NW (And.intro NX NY))))))
    clear NE NR NU NV NW NX NY r0 k0 z0 kn rn kn1 zn1 c0
    go_wp2_with fail
    rw [← hpb] at p1
    rw [← hpb]
    refine Calls.nm ?_
    intro w2 e2
    rw [← e2] at k1 z1 p1 r1
    clear e2 hpb
    refine (J.out.2.1 _ _ _ _ r1 (by omega)).mono ?_
    rintro e v1 ⟨rfl, kn, rn⟩
    have kq := (k1.then kn (fun i hi (h : i = w.heap.size + 1) => by omega))
    have zq := z1.kept kn NN.out.2.2.2.1
    have pq := p1.kept kn NN.out.2.2.1
    have cc : v1.cell? ⟨pb, 3, none⟩ = some (.int .i64 0) := pq.cell 3
    have ff := pq.free 3
    have r1s := rn.kept (Kept.one v1 pb 3 (.int .i64 T)) NN.out.1 NN.out.2.1
    have p1s : Blk (v1.setCell ⟨pb, 3, none⟩ (.int .i64 T)) pb #[.string ⟨N.toArray⟩, .int .i64 V, .int .u64 (K : Int), .int .i64 T, .int .i64 0, .int .u64 0, .int .u64 0] 55 := pq.set 3 _
    have z1s := zq.setOther (a := ⟨pb, 3, none⟩) NN.out.2.2.2.2.1 (.int .i64 T)
    have k1s := kq.setNew (b := pb) NN.out.2.2.2.2.2.1 3 (.int .i64 T)
    clear kn rn kq zq pq k1 z1 p1 r1
    go_wp2_with fail
    clear cc ff
    refine (J.out.2.2.1 _ _ _ _ r1s (by omega)).mono ?_
    rintro e v2 ⟨rfl, kn, rn⟩
    have kq := (k1s.then kn (fun i hi (h : i = w.heap.size + 1) => by omega))
    have zq := z1s.kept kn NN.out.2.2.2.1
    have pq := p1s.kept kn NN.out.2.2.1
    have cc : v2.cell? ⟨pb, 4, none⟩ = some (.int .i64 0) := pq.cell 4
    have ff := pq.free 4
    have r2s := rn.kept (Kept.one v2 pb 4 (.int .i64 D)) NN.out.1 NN.out.2.1
    have p2s : Blk (v2.setCell ⟨pb, 4, none⟩ (.int .i64 D)) pb #[.string ⟨N.toArray⟩, .int .i64 V, .int .u64 (K : Int), .int .i64 T, .int .i64 D, .int .u64 0, .int .u64 0] 55 := pq.set 4 _
    have z2s := zq.setOther (a := ⟨pb, 4, none⟩) NN.out.2.2.2.2.1 (.int .i64 D)
    have k2s := kq.setNew (b := pb) NN.out.2.2.2.2.2.1 4 (.int .i64 D)
    clear kn rn kq zq pq k1s z1s p1s r1s
    go_wp2_with fail
    clear cc ff
    refine (J.out.2.2.2.1 _ _ _ _ r2s (by omega)).mono ?_
    rintro e v3 ⟨rfl, kn, rn⟩
    have kq := (k2s.then kn (fun i hi (h : i = w.heap.size + 1) => by omega))
    have zq := z2s.kept kn NN.out.2.2.2.1
    have pq := p2s.kept kn NN.out.2.2.1
    have cc : v3.cell? ⟨pb, 5, none⟩ = some (.int .u64 0) := pq.cell 5
    have ff := pq.free 5
    have r3s := rn.kept (Kept.one v3 pb 5 (.int .u64 (R : Int))) NN.out.1 NN.out.2.1
    have p3s : Blk (v3.setCell ⟨pb, 5, none⟩ (.int .u64 (R : Int))) pb #[.string ⟨N.toArray⟩, .int .i64 V, .int .u64 (K : Int), .int .i64 T, .int .i64 D, .int .u64 (R : Int), .int .u64 0] 55 := pq.set 5 _
    have z3s := zq.setOther (a := ⟨pb, 5, none⟩) NN.out.2.2.2.2.1 (.int .u64 (R : Int))
    have k3s := kq.setNew (b := pb) NN.out.2.2.2.2.2.1 5 (.int .u64 (R : Int))
    clear kn rn kq zq pq k2s z2s p2s r2s
    go_wp2_with fail
    clear cc ff
    refine (J.out.2.2.2.2.1 _ _ _ _ r3s (by omega)).mono ?_
    rintro e v4 ⟨rfl, kn, rn⟩
    have kq := (k3s.then kn (fun i hi (h : i = w.heap.size + 1) => by omega))
    have zq := z3s.kept kn NN.out.2.2.2.1
    have pq := p3s.kept kn NN.out.2.2.1
    have cc : v4.cell? ⟨pb, 6, none⟩ = some (.int .u64 0) := pq.cell 6
    have ff := pq.free 6
    have r4s := rn.kept (Kept.one v4 pb 6 (.int .u64 (S : Int))) NN.out.1 NN.out.2.1
    have p4s : Blk (v4.setCell ⟨pb, 6, none⟩ (.int .u64 (S : Int))) pb #[.string ⟨N.toArray⟩, .int .i64 V, .int .u64 (K : Int), .int .i64 T, .int .i64 D, .int .u64 (R : Int), .int .u64 (S : Int)] 55 := pq.set 6 _
    have z4s := zq.setOther (a := ⟨pb, 6, none⟩) NN.out.2.2.2.2.1 (.int .u64 (S : Int))
    have k4s := kq.setNew (b := pb) NN.out.2.2.2.2.2.1 6 (.int .u64 (S : Int))
    have RD := J.out.2.2.2.2.2.2 _ _ rn
    clear kn rn kq zq pq k3s z3s p3s r3s
    obtain ⟨d1, a7, c7, d0, g7, g8⟩ := RD
    have hne1 := NN.out.2.2.2.2.2.2
    have hne2 : w.heap.size + 1 ≠ pb := Ne.symm hne1
    by_cases he : E7 = 0
    · subst he
      by_cases hl : 0 < L7
      · obtain ⟨t1, t2⟩ := A.out.2.1 (by trivial) hl
        have P1 := hid t1
        have P2 := hid t2
        clear t1 t2
        go_wp2_with (first | (refine wpList_store_blk rfl _ _ _ rfl rfl rfl z4s aPr rfl zero_all ?_; intro wz hz kz) | fail)
        exact bodyPost_ret (v := .tuple #[.agg #[.string ⟨#[]⟩, .int .i64 0, .int .u64 0, .int .i64 0, .int .i64 0, .int .u64 0, .int .u64 0], .int .i64 20]) (res_ct rfl _ rfl rfl hz aPr) rfl ⟨by rw [P1.out, P2.out]; rfl, k4s.then kz (fun i hi (h : i = w.heap.size) => by omega)⟩
      · obtain rfl : L7 = 0 := by omega
        go_wp2_with (first | (refine wpList_load_blk rfl _ _ rfl rfl p4s aPr ?_) | fail)
        refine (J.out.2.2.2.2.2.1 _).mono ?_
        rintro e w5 ⟨rfl, kn⟩
        have k5 := k4s.trans kn
        have z5 := z4s.kept kn (fun h => h)
        have u5 := p4s.kept kn (fun h => h)
        clear k4s z4s p4s r4s kn J d0 d1
        cases Z with
        | false =>
          obtain ⟨t1, t2⟩ := A.out.2.2.1 (by trivial) (by trivial) (by trivial)
          have P1 := hid t1
          have P2 := hid t2
          clear t1 t2
          go_wp2_with (first | (refine wpList_store_blk rfl _ _ _ rfl rfl rfl z5 aPr rfl zero_all ?_; intro wz hz kz) | fail)
          exact bodyPost_ret (v := .tuple #[.agg #[.string ⟨#[]⟩, .int .i64 0, .int .u64 0, .int .i64 0, .int .i64 0, .int .u64 0, .int .u64 0], .int .i64 23]) (res_ct rfl _ rfl rfl hz aPr) rfl ⟨by rw [P1.out, P2.out]; rfl, k5.then kz (fun i hi (h : i = w.heap.size) => by omega)⟩
        | true =>
          obtain ⟨t1, t2⟩ := A.out.2.2.2 (by trivial) (by trivial) (by trivial)
          have P1 := hid t1
          have P2 := hid t2
          clear t1 t2
          go_wp2_with (first | (refine wpList_load_blk rfl _ _ rfl rfl u5 aPr ?_) | (refine wpList_store_blk rfl _ _ _ rfl rfl rfl z5 aPr rfl (pr_all ⟨N.toArray⟩ V K T D R S) ?_; intro wz hz kz) | fail)
          exact bodyPost_ret (v := .tuple #[prV ⟨N.toArray⟩ V K T D R S, .int .i64 0]) (res_ct rfl _ rfl rfl hz aPr) rfl ⟨by rw [P1.out, P2.out, HQ.out], k5.then kz (fun i hi (h : i = w.heap.size) => by omega)⟩
    · obtain ⟨t1, t2⟩ := A.out.1 he
      have P1 := hid t1
      have P2 := hid t2
      have h2b : (E7 != 0) = true := by simpa using he
      have h2c : (E7 == 0) = false := by simpa using he
      clear t1 t2 he
      go_wp2_with fail
      obtain ⟨w9, hw9⟩ : ∃ w9, w9 = v4.setCell ⟨pb, 6, none⟩ (.int .u64 (S : Int)) := ⟨_, rfl⟩
      rw [← hw9] at k4s z4s p4s r4s ⊢
      clear hw9
      have hdX : ∀ W, Kept (Just w.heap.size) w9 W → W.cell? ⟨w.heap.size + 1, 1, none⟩ = some (.int .i64 E7) := fun W hW => (J.out.2.2.2.2.2.2 _ _ (r4s.kept hW (fun k _ h (e : k = w.heap.size) => by omega) (fun (e : w.heap.size + 1 = w.heap.size) => by omega))).1
      refine wp_region_plan (Kept (Just w.heap.size) w9) [{ k := 5, uses := [100], spends := [100], fact := fun _ W => Blk W w.heap.size #[.string ⟨#[]⟩, .int .i64 0, .int .u64 0, .int .i64 0, .int .i64 0, .int .u64 0, .int .u64 0] 55 }, { k := 100, uses := [], fact := fun _ W => Blk W w.heap.size #[.string ⟨#[]⟩, .int .i64 0, .int .u64 0, .int .i64 0, .int .i64 0, .int .u64 0, .int .u64 0] 55 }] [100] (by kernel_rfl) (by kernel_rfl) (by kernel_rfl) (by rfl) ?pures3 ((Kept.refl _ w9).drew) ?starts3 ?walk3
      case pures3 =>
        intro f hf
        exact ⟨undef, by simp only [List.mem_cons, List.not_mem_nil, or_false] at hf; rcases hf with rfl | rfl <;> trivial⟩
      case starts3 =>
        intro k hk
        obtain rfl : k = 100 := by simpa using hk
        exact z4s.drew
      iterate 5 (refine wpPar_pure rfl (by rfl) _ (fun W hW => by
          have d1 := hdX W hW
          go_simp
          exact rfl) ?_; simp only [Act.put, List.setIfInBounds_toArray, List.set_cons_zero, List.set_cons_succ])
      refine wpPar_adds rfl (by rfl) (fun W hW hd => ?_) (fun v5 hv => ?_)
      · have vW : Blk W w.heap.size #[.string ⟨#[]⟩, .int .i64 0, .int .u64 0, .int .i64 0, .int .i64 0, .int .u64 0, .int .u64 0] 55 := hd 100 (List.Mem.head _)
        refine gives_store_blk _ _ _ rfl rfl rfl vW aPr rfl zero_all fun W' b' k' => ?_
        refine ⟨hW.trans k', trivial, b', keeps_of fun f hf hs _ hne u hfu => ?_⟩
        simp only [List.mem_cons, List.not_mem_nil, or_false] at hf
        rcases hf with rfl | rfl
        · exact absurd rfl hne
        · exact absurd (List.Mem.head _) hs
      simp only [Act.put]
      iterate 1 (refine wpPar_pure rfl (by rfl) _ (fun W hW => by
          go_simp
          exact rfl) ?_; simp only [Act.put, List.setIfInBounds_toArray, List.set_cons_zero, List.set_cons_succ])
      refine wpPar_nil (fun W hW hG => ?_)
      have hR7 : Blk W w.heap.size #[.string ⟨#[]⟩, .int .i64 0, .int .u64 0, .int .i64 0, .int .i64 0, .int .u64 0, .int .u64 0] 55 := hG 5
      have k7 := k4s.then hW (fun i hi (h : i = w.heap.size) => by omega)
      clear hG hdX z4s p4s r4s k4s hW J d0 d1
      go_wp2
      exact bodyPost_ret (v := .tuple #[.agg #[.string ⟨#[]⟩, .int .i64 0, .int .u64 0, .int .i64 0, .int .i64 0, .int .u64 0, .int .u64 0], .int .i64 E7]) (res_ct rfl _ rfl rfl hR7 aPr) rfl ⟨by rw [P1.out, P2.out]; rfl, k7⟩
/-- Read. -/
theorem read (v : Value) (lo hi : Nat) (l : List UInt8) (w : World) (hv : Bs w lo hi v l) :
    Calls Try.prog 26 #[v] w fun e w' => e = .returned (.tuple #[(readPr l).V, .int .i64 (readPrE l)]) ∧ Kept None w w' := by
  by_cases h : 512 < l.length
  · exact read_long v lo hi l w hv h
  by_cases h1 : l.length = 0
  · exact read_short v lo hi l w hv h1
  by_cases h2 : bAt l 0 = 80
  · exact read_body v lo hi l w hv h h1 h2
  · exact read_mark v lo hi l w hv h h1 h2
end RPp
end Go.Proofs.Ytibkijloibnkfaa
