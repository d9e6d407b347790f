/- postmarklaw7.bent: by contract. -/
import Derived.Test.YtkogkcaflhjlhaaPV7
import Derived.Test.YtkogkcaflhjlhaaRMake7
import Derived.Test.YtkogkcaflhjlhaaHashes8
namespace Go.Pm
open Go Go.RowKit
/-- A proof that is another one in a place. -/
def bentP (p : Pf) (what at_ : Nat) (h : List UInt8) : Pf :=
  match what % 7 with
  | 0 => ⟨p.path ++ [h], p.e, p.x⟩
  | 1 => if 0 < p.path.length then ⟨p.path.set (at_ % p.path.length) h, p.e, p.x⟩ else p
  | 2 => if 0 < p.path.length then ⟨p.path.take (at_ % p.path.length), p.e, p.x⟩ else p
  | 3 => ⟨p.path, ((at_ % 5 : Nat) : Int) - 1, p.x⟩
  | 4 => ⟨p.path, p.e, ⟨h, p.x.v⟩⟩
  | 5 => ⟨p.path, p.e, ⟨p.x.i, h⟩⟩
  | _ => ⟨p.path, 0, zeroIt⟩
theorem Hs.cut7 {w : World} {lo hi : Nat} {a : Option Addr} {n cap : Nat} {hs : List (List UInt8)} (h : Hs w lo hi (.slice a n cap) hs) (l m : Nat) (hl : l ≤ m) (hm : m ≤ n) :
    Hs w lo hi (.slice (if cap = l then a else a.map (·.add (l * 32))) (m - l) (cap - l)) ((hs.take m).drop l) := by
  refine ⟨fun x hx => h.1 x (List.mem_of_mem_take (List.mem_of_mem_drop hx)), ?_⟩
  have h2 := Ps.sliced h.2 l m hl hm
  rwa [show hsC ((hs.take m).drop l) = ((hsC hs).take m).drop l by rw [hsC, hsC, List.map_drop, List.map_take]]
end Go.Pm
namespace Go.Proofs.Ytkogkcaflhjlhaa
open Go.RowKit Go.Pm
namespace Pr
set_option maxRecDepth 100000 in
set_option maxHeartbeats 16000000 in
theorem bent (p : Pf) (A : Array Value) (what at_ : Nat) (h : List UInt8) (w : World) (hp : PV p w A) (hn : p.path.length ≤ 1000) (hw : what < 256) (ha : at_ < 256) (hh : h.length = 32) :
    Calls Try.prog 26 #[.agg A, .int .u8 what, .int .u8 at_, hashV h] w fun e w' => ∃ A', e = .returned (.agg A') ∧ Kept None w w' ∧ PV (bentP p what at_ h) w' A' := by
  have hpA := PV.agg hp
  have hpS := hp.size
  obtain ⟨hok, u, hA, hu⟩ := hp
  obtain ⟨a, c, rfl⟩ := hu.form
  obtain ⟨n, hnn⟩ : ∃ n, n = p.path.length := ⟨_, rfl⟩
  rw [← hnn] at hA hu
  have hallA : A.all (·.oneCell') = true := by rw [hA]; exact pfC_one hu
  obtain ⟨HA, hHA⟩ : ∃ A : Array Value, A = (h.map u8v).toArray := ⟨_, rfl⟩
  have aHA : AggTy Try.prog 25 HA.size := by rw [hHA]; exact Hk.aH32 hh
  have sHA : HA.size = 32 := by rw [hHA]; simpa using hh
  show Calls Try.prog 26 #[.agg A, .int .u8 what, .int .u8 at_, .agg (h.map u8v).toArray] w _
  rw [← hHA]
  have k0 : Kept None w (((w.alloc (.cells A 45)).alloc (.cells HA 25)).alloc (.cells Try.zeroCells45 45)) := (((Kept.refl _ _).alloc _).alloc _).alloc _
  have bA : Blk (((w.alloc (.cells A 45)).alloc (.cells HA 25)).alloc (.cells Try.zeroCells45 45)) w.heap.size A 45 := ((Blk.new w _ _).alloc _).alloc _
  have bH : Blk (((w.alloc (.cells A 45)).alloc (.cells HA 25)).alloc (.cells Try.zeroCells45 45)) (w.heap.size + 1) HA 25 := (Blk.new2 w _ _ _).alloc _
  obtain ⟨z, hz, hZ⟩ := Blk.any (n := 66) (Blk.new3 w (.cells A 45) (.cells HA 25) Try.zeroCells45 45) (by rfl)
  have hu0 := hu.kept k0
  obtain ⟨hiu, hPs⟩ : ∃ hi, Ps 32 (((w.alloc (.cells A 45)).alloc (.cells HA 25)).alloc (.cells Try.zeroCells45 45)) 0 hi (.slice a n c) (hsC p.path) := by obtain ⟨hi, h1, h2⟩ := hu0; exact ⟨hi, h2⟩
  have hP0 : Blk (((w.alloc (.cells A 45)).alloc (.cells HA 25)).alloc (.cells Try.zeroCells45 45)) w.heap.size (pfC (.slice a n c) p).toArray 45 := by rw [← hA]; exact bA
  have c0 := pf_c0 hP0
  obtain ⟨t7, ht7⟩ : ∃ t, t = what % 7 := ⟨_, rfl⟩
  have m7 : (what : Int).tmod 7 = (t7 : Int) := by rw [ht7]; rfl
  have l7 : t7 < 7 := by rw [ht7]; exact Nat.mod_lt _ (by decide)
  have HL7 := hid (And.intro l7 ht7)
  have HZS := hid hz
  have HPSv := hid hPs
  have HHA := hid (And.intro sHA (And.intro hHA hh))
  have HNN := hid (And.intro hnn hn)
  have HPO := hid (And.intro hP0 (And.intro hok (And.intro hw ha)))
  have hs3 : (((w.alloc (.cells A 45)).alloc (.cells HA 25)).alloc (.cells Try.zeroCells45 45)).heap.size = w.heap.size + 3 := by simp
  have HS3 := hid hs3
  have K0 := hid k0
  have BH := hid bH
  have BZ := hid hZ
  clear hu hu0 hA hallA hHA sHA bA hP0 ht7 l7 hz hPs hnn hn hok hw ha hh hs3 hpS hpA k0 bH hZ
  go_enter Try.func26, Try.ntmps26
  go_upto_region 2 with (first | (at_builtin; refine wpList_append_po rfl _ _ 23 rfl Hk.rtHashes (by decide) rfl rfl (Po.nil 32 25 _ _) HPSv.out (hsC_one _) (by rw [hsC_len]; have := HNN.out; simp; omega) (Nat.le_refl _) ?_; intro a9 n9 c9 w9 p9 k9 o9; have hk9 := k9.mono (T := None) (fun q _ h => by cases h); have hP9 := HPO.out.1.kept hk9 (fun h => h); have c09 := pf_c0 hP9; have f09 := hP9.free 0) | fail)
  have h32 : H32 p.path := HPO.out.2.1.1
  have hO9 : Ho 25 w9 (((w.alloc (.cells A 45)).alloc (.cells HA 25)).alloc (.cells Try.zeroCells45 45)).heap.size (.slice a9 n9 c9) p.path := ⟨h32, p9⟩
  have hn9 : n9 = n := by
    obtain ⟨_, _, h⟩ := hO9.form
    injection h with _ h
    rw [h, HNN.out.1]
  subst hn9
  rw [HS3.out] at hO9
  have kk := Kept.one w9 w.heap.size 0 (.slice a9 n9 c9)
  have hset : Blk (w9.setCell ⟨w.heap.size, 0, none⟩ (.slice a9 n9 c9)) w.heap.size (pfC (.slice a9 n9 c9) p).toArray 45 := by
    have h := hP9.set 0 (.slice a9 n9 c9)
    simpa [pfC] using h
  have hO2 := hO9.kept kk (fun q hq h => by have h : q = w.heap.size := h; have := (hO9.2.own q hq).1; omega)
  have bH2 := (BH.out.kept hk9 (fun h => h)).kept kk (fun h => by have h : w.heap.size + 1 = w.heap.size := h; omega)
  have bZ2 := (BZ.out.kept hk9 (fun h => h)).kept kk (fun h => by have h : w.heap.size + 1 + 1 = w.heap.size := h; omega)
  have k2 := (K0.out.trans hk9).then kk (fun j hj h => by have h : j = w.heap.size := h; omega)
  have hsz2 : w.heap.size + 3 ≤ (w9.setCell ⟨w.heap.size, 0, none⟩ (.slice a9 n9 c9)).heap.size := by
    have h1 := hk9.size
    have h2 := kk.size
    rw [HS3.out] at h1
    omega
  have BH2 := hid bH2
  have BP := hid hset
  have HO := hid hO2
  have K2 := hid k2
  have HQ := hid hsz2
  have HZ2 := hid bZ2
  obtain ⟨w2, hw2⟩ : ∃ x, x = w9.setCell ⟨w.heap.size, 0, none⟩ (.slice a9 n9 c9) := ⟨_, rfl⟩
  rw [← hw2] at BH2 BP HO K2 HQ HZ2 ⊢
  clear h32 hO9 kk hset hO2 bH2 bZ2 k2 hsz2 hw2 hk9 hP9 c09 f09 k9 o9 p9 K0 BH BZ HPSv HS3 c0
  have hl7 := HL7.out.1
  have hcs : t7 = 0 ∨ t7 = 1 ∨ t7 = 2 ∨ t7 = 3 ∨ t7 = 4 ∨ t7 = 5 ∨ t7 = 6 := by omega
  clear hl7
  rcases hcs with rfl | rfl | rfl | rfl | rfl | rfl | rfl
  · have HBT : Hid (bentP p what at_ h = ⟨p.path ++ [h], p.e, p.x⟩) := hid (by unfold bentP; rw [← HL7.out.2]; rfl)
    have ka : Kept None w2 (w2.alloc (.cells HA 25)) := (Kept.refl _ _).alloc _
    have HO10 := hid (HO.out.kept ka (fun _ _ h => h))
    have hrow := Blk.new w2 HA 25
    rw [HHA.out.2.1] at hrow
    have HU10 := hid (Hs.ofBlk hrow HHA.out.2.2)
    rw [← HHA.out.2.1] at HU10
    have HP10 := hid (BP.out.kept ka (fun h => h))
    have HZ10 := hid (HZ2.out.kept ka (fun h => h))
    have KA := hid (K2.out.trans ka)
    have HSA := hid ka.size
    have c10 := pf_c0 BP.out
    have HOW : Hid (∀ q, (Value.slice a9 n9 c9).ownBlock = some q → w.heap.size + 3 ≤ q) := hid (fun q hq => (HO.out.2.own q hq).1)
    clear ka hrow
    go_upto_region 18 with (first | (refine wpList_load_blk rfl _ _ rfl rfl BH2.out aHA ?_) | (refine wpList_one_item rfl _ _ rfl Hk.rtHashes (by decide) rfl HHA.out.1 ?_) | (at_builtin; refine wpList_append_po rfl _ _ 23 rfl Hk.rtHashes (by decide) rfl rfl HO10.out.2 HU10.out.2 (hsC_one _) (by rw [hsC_len, hsC_len]; have := HNN.out; simp; omega) (by have := HQ.out; have := HSA.out; omega) ?_; intro a11 n11 c11 w11 p11 k11 o11; have hP11 := HP10.out.kept k11 (fun h => by have := HOW.out _ h; omega); have c11' := pf_c0 hP11; have f11' := hP11.free 0) | fail)
    have hO11 : Ho 25 w11 (w.heap.size + 3) (.slice a11 n11 c11) (p.path ++ [h]) := ⟨HO10.out.1.append (H32.one HHA.out.2.2), by rw [hsC_append]; exact p11⟩
    have kk := Kept.one w11 w.heap.size 0 (.slice a11 n11 c11)
    have HBF : Hid (Blk (w11.setCell ⟨w.heap.size, 0, none⟩ (.slice a11 n11 c11)) w.heap.size (pfC (.slice a11 n11 c11) ⟨p.path ++ [h], p.e, p.x⟩).toArray 45) := hid (by
      have h := hP11.set 0 (.slice a11 n11 c11)
      simpa [pfC] using h)
    have HZF := hid ((HZ10.out.kept k11 (fun h => by have := HOW.out _ h; omega)).kept kk (fun h => by have h : w.heap.size + 1 + 1 = w.heap.size := h; omega))
    have KF := hid ((KA.out.then k11 (fun j hj h => by have := HOW.out _ h; omega)).then kk (fun j hj h => by have h : j = w.heap.size := h; omega))
    have HRF := hid ((hO11.kept kk (fun q hq h => by have h : q = w.heap.size := h; have := (hO11.2.own q hq).1; omega)).rh)
    have HOK : Hid (Pf.Ok ⟨p.path ++ [h], p.e, p.x⟩) := hid ⟨hO11.1, HPO.out.2.1.2⟩
    clear hO11 kk hP11 c11' f11' k11 o11 p11
    have hokF : Pf.Ok ⟨p.path ++ [h], p.e, p.x⟩ := HOK.out
    have aPF := aP (s := (.slice a11 n11 c11)) hokF
    have hallF : (pfC (.slice a11 n11 c11) ⟨p.path ++ [h], p.e, p.x⟩).toArray.all (·.oneCell') = true := pfC_one (p := ⟨p.path ++ [h], p.e, p.x⟩) HRF.out
    have HAF := hid hallF
    have EF := hid (HZS.out.trans (show 66 = (pfC (.slice a11 n11 c11) ⟨p.path ++ [h], p.e, p.x⟩).toArray.size by simpa using (pfC_len (.slice a11 n11 c11) hokF).symm))
    have hBF := HBF.out
    have hZF := HZF.out
    clear hallF
    go_wp2_with (first | (refine wpList_load_blk rfl _ _ rfl rfl hBF aPF ?_) | (refine wpList_store_blk rfl _ _ _ rfl rfl rfl hZF aPF EF.out HAF.out ?_; intro w9 hR9 k9) | fail)
    exact bodyPost_ret (v := .agg (pfC (.slice a11 n11 c11) ⟨p.path ++ [h], p.e, p.x⟩).toArray) (results_blk rfl _ rfl hR9 aPF) rfl ⟨_, rfl, KF.out.then k9 (fun j hj h => by have h : j = w.heap.size + 1 + 1 := h; omega), by rw [HBT.out]; exact ⟨HOK.out, _, rfl, (HRF.out.keptS k9 (fun q h1 h => by have h : q = w.heap.size + 1 + 1 := h; omega)).mono (Nat.zero_le _)⟩⟩
  · skip
    by_cases h0 : n9 = 0
    · have HBT : Hid (bentP p what at_ h = p) := hid (by unfold bentP; rw [← HL7.out.2]; show (if 0 < p.path.length then _ else p) = p; rw [if_neg (by have := HNN.out.1; omega)])
      have c0 := pf_c0 BP.out
      have HBF := BP
      have HZF := HZ2
      have KF := K2
      have HRF := hid (HO.out.rh)
      have HOK : Hid p.Ok := hid HPO.out.2.1
      subst h0
      go_upto_region 18 with (fail)
      have hokF : Pf.Ok p := HOK.out
      have aPF := aP (s := (.slice a9 0 c9)) hokF
      have hallF : (pfC (.slice a9 0 c9) p).toArray.all (·.oneCell') = true := pfC_one (p := p) HRF.out
      have HAF := hid hallF
      have EF := hid (HZS.out.trans (show 66 = (pfC (.slice a9 0 c9) p).toArray.size by simpa using (pfC_len (.slice a9 0 c9) hokF).symm))
      have hBF := HBF.out
      have hZF := HZF.out
      clear hallF
      go_wp2_with (first | (refine wpList_load_blk rfl _ _ rfl rfl hBF aPF ?_) | (refine wpList_store_blk rfl _ _ _ rfl rfl rfl hZF aPF EF.out HAF.out ?_; intro w9 hR9 k9) | fail)
      exact bodyPost_ret (v := .agg (pfC (.slice a9 0 c9) p).toArray) (results_blk rfl _ rfl hR9 aPF) rfl ⟨_, rfl, KF.out.then k9 (fun j hj h => by have h : j = w.heap.size + 1 + 1 := h; omega), by rw [HBT.out]; exact ⟨HOK.out, _, rfl, (HRF.out.keptS k9 (fun q h1 h => by have h : q = w.heap.size + 1 + 1 := h; omega)).mono (Nat.zero_le _)⟩⟩
    · obtain ⟨gb, hgb⟩ : ∃ g, a9 = some ⟨g, 0, none⟩ := by
        rcases HO.out.2.2.2 with ⟨_, h1⟩ | ⟨g, _, _, h1, _⟩
        · rw [hsC_len] at h1
          exact absurd (HNN.out.1.trans h1) h0
        · injection h1 with h1
          exact ⟨g, h1⟩
      subst hgb
      obtain ⟨ix, hix⟩ : ∃ x : Nat, x = at_ % n9 := ⟨_, rfl⟩
      have mi : (at_ : Int) % (n9 : Int) = (ix : Int) := by rw [hix]; rfl
      have mit : (at_ : Int).tmod (n9 : Int) = (ix : Int) := by rw [hix]; rfl
      have lix : ix < n9 := by rw [hix]; exact Nat.mod_lt _ (by omega)
      have wq : IntKind.i64.wrap (at_ : Int) = (at_ : Int) := by rw [IntKind.wrap_i64]; have := HPO.out.2.2.2; omega
      have lixz : (ix : Int) < (n9 : Int) := by omega
      have h0p : (0 : Int) < (n9 : Int) := by omega
      have h0n : 0 < n9 := by omega
      have HIX := hid (And.intro lix hix)
      have hpos : 0 < p.path.length := by have := HNN.out.1; omega
      have HBT : Hid (bentP p what at_ h = ⟨p.path.set ix h, p.e, p.x⟩) := hid (by unfold bentP; rw [← HL7.out.2]; show (if 0 < p.path.length then _ else p) = _; rw [if_pos hpos, HIX.out.2, HNN.out.1])
      have c0 := pf_c0 BP.out
      clear hix lix hpos
      go_wp2_with fail
      have hs : Steady [] := Go.Pm.Steady.nil
      refine wp_region_kn_tail 10 w2 _ hs (Kept.refl _ _) (by kernel_rfl) (by kernel_rfl) (by kernel_rfl) ?_
      simp only [List.take_succ_cons, List.take_zero, List.drop_succ_cons, List.drop_zero]
      iterate 1 (refine wpPar_pure rfl (by rfl) _ (fun W hW => by
          have c0 := pf_c0 (BP.out.kept hW (fun h => h))
          go_simp
          exact rfl) ?_; simp only [Act.put, List.setIfInBounds_toArray, List.set_cons_zero, List.set_cons_succ])
      refine wpPar_pure rfl (by rfl) _ (fun W hW => by first | exact exec_load_blk _ _ rfl rfl (BH2.out.kept hW (fun h => h)) aHA | (have c0 := pf_c0 (BP.out.kept hW (fun h => h)); go_simp; exact rfl)) ?_; simp only [Act.put, List.setIfInBounds_toArray, List.set_cons_zero, List.set_cons_succ]
      iterate 3 (refine wpPar_pure rfl (by rfl) _ (fun W hW => by
          have c0 := pf_c0 (BP.out.kept hW (fun h => h))
          go_simp
          exact rfl) ?_; simp only [Act.put, List.setIfInBounds_toArray, List.set_cons_zero, List.set_cons_succ])
      refine wpPar_pure rfl (by rfl) _ (fun W hW => by first | exact exec_load_blk _ _ rfl rfl (BH2.out.kept hW (fun h => h)) aHA | (have c0 := pf_c0 (BP.out.kept hW (fun h => h)); go_simp; exact rfl)) ?_; simp only [Act.put, List.setIfInBounds_toArray, List.set_cons_zero, List.set_cons_succ]
      iterate 2 (refine wpPar_pure rfl (by rfl) _ (fun W hW => by
          have c0 := pf_c0 (BP.out.kept hW (fun h => h))
          go_simp
          exact rfl) ?_; simp only [Act.put, List.setIfInBounds_toArray, List.set_cons_zero, List.set_cons_succ])
      refine wpPar_pure rfl (by rfl) _ (fun W hW => by first | exact exec_load_blk _ _ rfl rfl (BH2.out.kept hW (fun h => h)) aHA | (have c0 := pf_c0 (BP.out.kept hW (fun h => h)); go_simp; exact rfl)) ?_; simp only [Act.put, List.setIfInBounds_toArray, List.set_cons_zero, List.set_cons_succ]
      iterate 1 (refine wpPar_pure rfl (by rfl) _ (fun W hW => by
          have c0 := pf_c0 (BP.out.kept hW (fun h => h))
          go_simp
          exact rfl) ?_; simp only [Act.put, List.setIfInBounds_toArray, List.set_cons_zero, List.set_cons_succ])
      refine wpPar_nil (fun W hW hG => ?_)
      have HOW := hid (HO.out.kept hW (fun _ _ h => h))
      have KW := hid (K2.out.trans hW)
      have BPW := hid (BP.out.kept hW (fun h => h))
      have HZW := hid (HZ2.out.kept hW (fun h => h))
      clear hG hs hW
      refine wpList_store_hash rfl _ _ _ rfl HOW.out (by rw [← HNN.out.1]; exact HIX.out.1) HHA.out.2.2 rfl (by rw [← HHA.out.2.1]; rfl) Sp.aH ?_
      intro w11 p11 k11
      have HGB : Hid (w.heap.size + 3 ≤ gb) := hid ((HO.out.2.own gb rfl).1)
      have HBF := hid (BPW.out.kept k11 (fun h => by have h : w.heap.size = gb := h; have := HGB.out; omega))
      have HZF := hid (HZW.out.kept k11 (fun h => by have h : w.heap.size + 1 + 1 = gb := h; have := HGB.out; omega))
      have KF := hid (KW.out.then k11 (fun j hj h => by have h : j = gb := h; have := HGB.out; omega))
      have HRF := hid p11.rh
      have HOK : Hid (Pf.Ok ⟨p.path.set ix h, p.e, p.x⟩) := hid ⟨p11.1, HPO.out.2.1.2⟩
      have HBF : Hid (Blk w11 w.heap.size (pfC (.slice (some ⟨gb, 0, none⟩) n9 c9) ⟨p.path.set ix h, p.e, p.x⟩).toArray 45) := hid HBF.out
      clear p11 k11
      go_upto_region 18 with (fail)
      have hokF : Pf.Ok ⟨p.path.set ix h, p.e, p.x⟩ := HOK.out
      have aPF := aP (s := (.slice (some ⟨gb, 0, none⟩) n9 c9)) hokF
      have hallF : (pfC (.slice (some ⟨gb, 0, none⟩) n9 c9) ⟨p.path.set ix h, p.e, p.x⟩).toArray.all (·.oneCell') = true := pfC_one (p := ⟨p.path.set ix h, p.e, p.x⟩) HRF.out
      have HAF := hid hallF
      have EF := hid (HZS.out.trans (show 66 = (pfC (.slice (some ⟨gb, 0, none⟩) n9 c9) ⟨p.path.set ix h, p.e, p.x⟩).toArray.size by simpa using (pfC_len (.slice (some ⟨gb, 0, none⟩) n9 c9) hokF).symm))
      have hBF := HBF.out
      have hZF := HZF.out
      clear hallF
      go_wp2_with (first | (refine wpList_load_blk rfl _ _ rfl rfl hBF aPF ?_) | (refine wpList_store_blk rfl _ _ _ rfl rfl rfl hZF aPF EF.out HAF.out ?_; intro w9 hR9 k9) | fail)
      exact bodyPost_ret (v := .agg (pfC (.slice (some ⟨gb, 0, none⟩) n9 c9) ⟨p.path.set ix h, p.e, p.x⟩).toArray) (results_blk rfl _ rfl hR9 aPF) rfl ⟨_, rfl, KF.out.then k9 (fun j hj h => by have h : j = w.heap.size + 1 + 1 := h; omega), by rw [HBT.out]; exact ⟨HOK.out, _, rfl, (HRF.out.keptS k9 (fun q h1 h => by have h : q = w.heap.size + 1 + 1 := h; omega)).mono (Nat.zero_le _)⟩⟩
  · skip
    by_cases h0 : n9 = 0
    · have HBT : Hid (bentP p what at_ h = p) := hid (by unfold bentP; rw [← HL7.out.2]; show (if 0 < p.path.length then _ else p) = p; rw [if_neg (by have := HNN.out.1; omega)])
      have c0 := pf_c0 BP.out
      have HBF := BP
      have HZF := HZ2
      have KF := K2
      have HRF := hid (HO.out.rh)
      have HOK : Hid p.Ok := hid HPO.out.2.1
      subst h0
      go_upto_region 18 with (fail)
      have hokF : Pf.Ok p := HOK.out
      have aPF := aP (s := (.slice a9 0 c9)) hokF
      have hallF : (pfC (.slice a9 0 c9) p).toArray.all (·.oneCell') = true := pfC_one (p := p) HRF.out
      have HAF := hid hallF
      have EF := hid (HZS.out.trans (show 66 = (pfC (.slice a9 0 c9) p).toArray.size by simpa using (pfC_len (.slice a9 0 c9) hokF).symm))
      have hBF := HBF.out
      have hZF := HZF.out
      clear hallF
      go_wp2_with (first | (refine wpList_load_blk rfl _ _ rfl rfl hBF aPF ?_) | (refine wpList_store_blk rfl _ _ _ rfl rfl rfl hZF aPF EF.out HAF.out ?_; intro w9 hR9 k9) | fail)
      exact bodyPost_ret (v := .agg (pfC (.slice a9 0 c9) p).toArray) (results_blk rfl _ rfl hR9 aPF) rfl ⟨_, rfl, KF.out.then k9 (fun j hj h => by have h : j = w.heap.size + 1 + 1 := h; omega), by rw [HBT.out]; exact ⟨HOK.out, _, rfl, (HRF.out.keptS k9 (fun q h1 h => by have h : q = w.heap.size + 1 + 1 := h; omega)).mono (Nat.zero_le _)⟩⟩
    · obtain ⟨gb, hgb⟩ : ∃ g, a9 = some ⟨g, 0, none⟩ := by
        rcases HO.out.2.2.2 with ⟨_, h1⟩ | ⟨g, _, _, h1, _⟩
        · rw [hsC_len] at h1
          exact absurd (HNN.out.1.trans h1) h0
        · injection h1 with h1
          exact ⟨g, h1⟩
      subst hgb
      obtain ⟨ix, hix⟩ : ∃ x : Nat, x = at_ % n9 := ⟨_, rfl⟩
      have mi : (at_ : Int) % (n9 : Int) = (ix : Int) := by rw [hix]; rfl
      have mit : (at_ : Int).tmod (n9 : Int) = (ix : Int) := by rw [hix]; rfl
      have lix : ix < n9 := by rw [hix]; exact Nat.mod_lt _ (by omega)
      have wq : IntKind.i64.wrap (at_ : Int) = (at_ : Int) := by rw [IntKind.wrap_i64]; have := HPO.out.2.2.2; omega
      have lixz : (ix : Int) < (n9 : Int) := by omega
      have h0p : (0 : Int) < (n9 : Int) := by omega
      have h0n : 0 < n9 := by omega
      have HIX := hid (And.intro lix hix)
      have hpos : 0 < p.path.length := by have := HNN.out.1; omega
      have HBT : Hid (bentP p what at_ h = ⟨p.path.take ix, p.e, p.x⟩) := hid (by unfold bentP; rw [← HL7.out.2]; show (if 0 < p.path.length then _ else p) = _; rw [if_pos hpos, HIX.out.2, HNN.out.1])
      have c0 := pf_c0 BP.out
      have hnc : n9 ≤ c9 := by
        obtain ⟨_, h⟩ := HO.out.rh
        obtain ⟨_, _, h1, h2, _⟩ := h.form
        injection h1 with _ h3 h4
        omega
      have hic : (ix : Int) ≤ (c9 : Int) := by omega
      clear hix lix hpos
      go_wp2_with fail
      have hs : Steady [] := Go.Pm.Steady.nil
      refine wp_region_kn_tail 10 w2 _ hs (Kept.refl _ _) (by kernel_rfl) (by kernel_rfl) (by kernel_rfl) ?_
      simp only [List.take_succ_cons, List.take_zero, List.drop_succ_cons, List.drop_zero]
      iterate 1 (refine wpPar_pure rfl (by rfl) _ (fun W hW => by
          have c0 := pf_c0 (BP.out.kept hW (fun h => h))
          go_simp
          exact rfl) ?_; simp only [Act.put, List.setIfInBounds_toArray, List.set_cons_zero, List.set_cons_succ])
      refine wpPar_pure rfl (by rfl) _ (fun W hW => by first | exact exec_load_blk _ _ rfl rfl (BH2.out.kept hW (fun h => h)) aHA | (have c0 := pf_c0 (BP.out.kept hW (fun h => h)); go_simp; exact rfl)) ?_; simp only [Act.put, List.setIfInBounds_toArray, List.set_cons_zero, List.set_cons_succ]
      iterate 3 (refine wpPar_pure rfl (by rfl) _ (fun W hW => by
          have c0 := pf_c0 (BP.out.kept hW (fun h => h))
          go_simp
          exact rfl) ?_; simp only [Act.put, List.setIfInBounds_toArray, List.set_cons_zero, List.set_cons_succ])
      refine wpPar_pure rfl (by rfl) _ (fun W hW => by first | exact exec_load_blk _ _ rfl rfl (BH2.out.kept hW (fun h => h)) aHA | (have c0 := pf_c0 (BP.out.kept hW (fun h => h)); go_simp; exact rfl)) ?_; simp only [Act.put, List.setIfInBounds_toArray, List.set_cons_zero, List.set_cons_succ]
      iterate 4 (refine wpPar_pure rfl (by rfl) _ (fun W hW => by
          have c0 := pf_c0 (BP.out.kept hW (fun h => h))
          go_simp
          exact rfl) ?_; simp only [Act.put, List.setIfInBounds_toArray, List.set_cons_zero, List.set_cons_succ])
      refine wpPar_nil (fun W hW hG => ?_)
      have hPW := BP.out.kept hW (fun h => h)
      have hZW := HZ2.out.kept hW (fun h => h)
      have kW := K2.out.trans hW
      have hOW := HO.out.kept hW (fun _ _ h => h)
      have kk := Kept.one W w.heap.size 0 (.slice (some ⟨gb, 0, none⟩) ix c9)
      have HBF : Hid (Blk (W.setCell ⟨w.heap.size, 0, none⟩ (.slice (some ⟨gb, 0, none⟩) ix c9)) w.heap.size (pfC (.slice (some ⟨gb, 0, none⟩) ix c9) ⟨p.path.take ix, p.e, p.x⟩).toArray 45) := hid (by
        have h := hPW.set 0 (.slice (some ⟨gb, 0, none⟩) ix c9)
        simpa [pfC] using h)
      have HZF := hid (hZW.kept kk (fun h => by have h : w.heap.size + 1 + 1 = w.heap.size := h; omega))
      have KF := hid (kW.then kk (fun j hj h => by have h : j = w.heap.size := h; omega))
      have HRF : Hid (Rh (w.heap.size + 3) (W.setCell ⟨w.heap.size, 0, none⟩ (.slice (some ⟨gb, 0, none⟩) ix c9)) (.slice (some ⟨gb, 0, none⟩) ix c9) (p.path.take ix)) := hid (by
        obtain ⟨h9, hr⟩ := (hOW.kept kk (fun q hq h => by have h : q = w.heap.size := h; have := (hOW.2.own q hq).1; omega)).rh
        have h2 := Hs.cut7 hr 0 ix (Nat.zero_le _) (Nat.le_of_lt HIX.out.1)
        have e : (if c9 = 0 then some (⟨gb, 0, none⟩ : Addr) else some ((⟨gb, 0, none⟩ : Addr).add 0)) = some ⟨gb, 0, none⟩ := by split <;> rfl
        simp only [Option.map_some, Nat.zero_mul, Nat.sub_zero, List.drop_zero] at h2
        rw [e] at h2
        exact ⟨h9, h2⟩)
      have HOK : Hid (Pf.Ok ⟨p.path.take ix, p.e, p.x⟩) := hid ⟨HPO.out.2.1.1.take ix, HPO.out.2.1.2⟩
      have c0 := pf_c0 hPW
      have f0 := hPW.free 0
      clear hG hs hW hPW hZW kW hOW kk
      go_upto_region 18 with (fail)
      have hokF : Pf.Ok ⟨p.path.take ix, p.e, p.x⟩ := HOK.out
      have aPF := aP (s := (.slice (some ⟨gb, 0, none⟩) ix c9)) hokF
      have hallF : (pfC (.slice (some ⟨gb, 0, none⟩) ix c9) ⟨p.path.take ix, p.e, p.x⟩).toArray.all (·.oneCell') = true := pfC_one (p := ⟨p.path.take ix, p.e, p.x⟩) HRF.out
      have HAF := hid hallF
      have EF := hid (HZS.out.trans (show 66 = (pfC (.slice (some ⟨gb, 0, none⟩) ix c9) ⟨p.path.take ix, p.e, p.x⟩).toArray.size by simpa using (pfC_len (.slice (some ⟨gb, 0, none⟩) ix c9) hokF).symm))
      have hBF := HBF.out
      have hZF := HZF.out
      clear hallF
      go_wp2_with (first | (refine wpList_load_blk rfl _ _ rfl rfl hBF aPF ?_) | (refine wpList_store_blk rfl _ _ _ rfl rfl rfl hZF aPF EF.out HAF.out ?_; intro w9 hR9 k9) | fail)
      exact bodyPost_ret (v := .agg (pfC (.slice (some ⟨gb, 0, none⟩) ix c9) ⟨p.path.take ix, p.e, p.x⟩).toArray) (results_blk rfl _ rfl hR9 aPF) rfl ⟨_, rfl, KF.out.then k9 (fun j hj h => by have h : j = w.heap.size + 1 + 1 := h; omega), by rw [HBT.out]; exact ⟨HOK.out, _, rfl, (HRF.out.keptS k9 (fun q h1 h => by have h : q = w.heap.size + 1 + 1 := h; omega)).mono (Nat.zero_le _)⟩⟩
  · obtain ⟨f5, hf5⟩ : ∃ t, t = at_ % 5 := ⟨_, rfl⟩
    have HBT : Hid (bentP p what at_ h = ⟨p.path, (f5 : Int) - 1, p.x⟩) := hid (by unfold bentP; rw [← HL7.out.2, hf5]; rfl)
    have m5 : (at_ : Int).tmod 5 = (f5 : Int) := by rw [hf5]; rfl
    have l5 : f5 < 5 := by rw [hf5]; exact Nat.mod_lt _ (by decide)
    have w5 : wrap64 (f5 : Int) = (f5 : Int) := by unfold wrap64; omega
    have w5s : wrap64 ((f5 : Int) - 1) = (f5 : Int) - 1 := by unfold wrap64; omega
    have c1 := pf_c1 BP.out
    have f1 := BP.out.free 1
    have kk := Kept.one w2 w.heap.size 1 (.int .i64 ((f5 : Int) - 1))
    have HBF : Hid (Blk (w2.setCell ⟨w.heap.size, 1, none⟩ (.int .i64 ((f5 : Int) - 1))) w.heap.size (pfC (.slice a9 n9 c9) ⟨p.path, (f5 : Int) - 1, p.x⟩).toArray 45) := hid (by
      have h := BP.out.set 1 (.int .i64 ((f5 : Int) - 1))
      simpa [pfC] using h)
    have HZF := hid (HZ2.out.kept kk (fun h => by have h : w.heap.size + 1 + 1 = w.heap.size := h; omega))
    have KF := hid (K2.out.then kk (fun j hj h => by have h : j = w.heap.size := h; omega))
    have HRF := hid ((HO.out.kept kk (fun q hq h => by have h : q = w.heap.size := h; have := (HO.out.2.own q hq).1; omega)).rh)
    have HOK : Hid (Pf.Ok ⟨p.path, (f5 : Int) - 1, p.x⟩) := hid ⟨HPO.out.2.1.1, HPO.out.2.1.2⟩
    clear kk hf5 l5
    go_upto_region 18 with (fail)
    have hokF : Pf.Ok ⟨p.path, (f5 : Int) - 1, p.x⟩ := HOK.out
    have aPF := aP (s := (.slice a9 n9 c9)) hokF
    have hallF : (pfC (.slice a9 n9 c9) ⟨p.path, (f5 : Int) - 1, p.x⟩).toArray.all (·.oneCell') = true := pfC_one (p := ⟨p.path, (f5 : Int) - 1, p.x⟩) HRF.out
    have HAF := hid hallF
    have EF := hid (HZS.out.trans (show 66 = (pfC (.slice a9 n9 c9) ⟨p.path, (f5 : Int) - 1, p.x⟩).toArray.size by simpa using (pfC_len (.slice a9 n9 c9) hokF).symm))
    have hBF := HBF.out
    have hZF := HZF.out
    clear hallF
    go_wp2_with (first | (refine wpList_load_blk rfl _ _ rfl rfl hBF aPF ?_) | (refine wpList_store_blk rfl _ _ _ rfl rfl rfl hZF aPF EF.out HAF.out ?_; intro w9 hR9 k9) | fail)
    exact bodyPost_ret (v := .agg (pfC (.slice a9 n9 c9) ⟨p.path, (f5 : Int) - 1, p.x⟩).toArray) (results_blk rfl _ rfl hR9 aPF) rfl ⟨_, rfl, KF.out.then k9 (fun j hj h => by have h : j = w.heap.size + 1 + 1 := h; omega), by rw [HBT.out]; exact ⟨HOK.out, _, rfl, (HRF.out.keptS k9 (fun q h1 h => by have h : q = w.heap.size + 1 + 1 := h; omega)).mono (Nat.zero_le _)⟩⟩
  · have HBT : Hid (bentP p what at_ h = ⟨p.path, p.e, ⟨h, p.x.v⟩⟩) := hid (by unfold bentP; rw [← HL7.out.2]; rfl)
    have HCI := hid (pf_cut_i (.slice a9 n9 c9) HPO.out.2.1 h)
    go_upto_region 18 with (first | (refine wpList_load_blk rfl _ _ rfl rfl BH2.out aHA ?_) | (refine pf_store (h := h) rfl _ _ _ rfl rfl (by rw [hashV, ← HHA.out.2.1]; rfl) BP.out HPO.out.2.1 HHA.out.2.2 (by kernel_rfl) (by decide) HCI.out ?_; intro w5 hP5 k5) | fail)
    have HBF := hid hP5
    have HZF := hid (HZ2.out.kept k5 (fun h => by have h : w.heap.size + 1 + 1 = w.heap.size := h; omega))
    have KF := hid (K2.out.then k5 (fun j hj h => by have h : j = w.heap.size := h; omega))
    have HRF := hid ((HO.out.kept k5 (fun q hq h => by have h : q = w.heap.size := h; have := (HO.out.2.own q hq).1; omega)).rh)
    have HOK : Hid (Pf.Ok ⟨p.path, p.e, ⟨h, p.x.v⟩⟩) := hid ⟨HPO.out.2.1.1, HHA.out.2.2, HPO.out.2.1.2.2⟩
    clear hP5 k5
    have hokF : Pf.Ok ⟨p.path, p.e, ⟨h, p.x.v⟩⟩ := HOK.out
    have aPF := aP (s := (.slice a9 n9 c9)) hokF
    have hallF : (pfC (.slice a9 n9 c9) ⟨p.path, p.e, ⟨h, p.x.v⟩⟩).toArray.all (·.oneCell') = true := pfC_one (p := ⟨p.path, p.e, ⟨h, p.x.v⟩⟩) HRF.out
    have HAF := hid hallF
    have EF := hid (HZS.out.trans (show 66 = (pfC (.slice a9 n9 c9) ⟨p.path, p.e, ⟨h, p.x.v⟩⟩).toArray.size by simpa using (pfC_len (.slice a9 n9 c9) hokF).symm))
    have hBF := HBF.out
    have hZF := HZF.out
    clear hallF
    go_wp2_with (first | (refine wpList_load_blk rfl _ _ rfl rfl hBF aPF ?_) | (refine wpList_store_blk rfl _ _ _ rfl rfl rfl hZF aPF EF.out HAF.out ?_; intro w9 hR9 k9) | fail)
    exact bodyPost_ret (v := .agg (pfC (.slice a9 n9 c9) ⟨p.path, p.e, ⟨h, p.x.v⟩⟩).toArray) (results_blk rfl _ rfl hR9 aPF) rfl ⟨_, rfl, KF.out.then k9 (fun j hj h => by have h : j = w.heap.size + 1 + 1 := h; omega), by rw [HBT.out]; exact ⟨HOK.out, _, rfl, (HRF.out.keptS k9 (fun q h1 h => by have h : q = w.heap.size + 1 + 1 := h; omega)).mono (Nat.zero_le _)⟩⟩
  · have HBT : Hid (bentP p what at_ h = ⟨p.path, p.e, ⟨p.x.i, h⟩⟩) := hid (by unfold bentP; rw [← HL7.out.2]; rfl)
    have HCI := hid (pf_cut_v (.slice a9 n9 c9) HPO.out.2.1 h)
    go_upto_region 18 with (first | (refine wpList_load_blk rfl _ _ rfl rfl BH2.out aHA ?_) | (refine pf_store (h := h) rfl _ _ _ rfl rfl (by rw [hashV, ← HHA.out.2.1]; rfl) BP.out HPO.out.2.1 HHA.out.2.2 (by kernel_rfl) (by decide) HCI.out ?_; intro w5 hP5 k5) | fail)
    have HBF := hid hP5
    have HZF := hid (HZ2.out.kept k5 (fun h => by have h : w.heap.size + 1 + 1 = w.heap.size := h; omega))
    have KF := hid (K2.out.then k5 (fun j hj h => by have h : j = w.heap.size := h; omega))
    have HRF := hid ((HO.out.kept k5 (fun q hq h => by have h : q = w.heap.size := h; have := (HO.out.2.own q hq).1; omega)).rh)
    have HOK : Hid (Pf.Ok ⟨p.path, p.e, ⟨p.x.i, h⟩⟩) := hid ⟨HPO.out.2.1.1, HPO.out.2.1.2.1, HHA.out.2.2⟩
    clear hP5 k5
    have hokF : Pf.Ok ⟨p.path, p.e, ⟨p.x.i, h⟩⟩ := HOK.out
    have aPF := aP (s := (.slice a9 n9 c9)) hokF
    have hallF : (pfC (.slice a9 n9 c9) ⟨p.path, p.e, ⟨p.x.i, h⟩⟩).toArray.all (·.oneCell') = true := pfC_one (p := ⟨p.path, p.e, ⟨p.x.i, h⟩⟩) HRF.out
    have HAF := hid hallF
    have EF := hid (HZS.out.trans (show 66 = (pfC (.slice a9 n9 c9) ⟨p.path, p.e, ⟨p.x.i, h⟩⟩).toArray.size by simpa using (pfC_len (.slice a9 n9 c9) hokF).symm))
    have hBF := HBF.out
    have hZF := HZF.out
    clear hallF
    go_wp2_with (first | (refine wpList_load_blk rfl _ _ rfl rfl hBF aPF ?_) | (refine wpList_store_blk rfl _ _ _ rfl rfl rfl hZF aPF EF.out HAF.out ?_; intro w9 hR9 k9) | fail)
    exact bodyPost_ret (v := .agg (pfC (.slice a9 n9 c9) ⟨p.path, p.e, ⟨p.x.i, h⟩⟩).toArray) (results_blk rfl _ rfl hR9 aPF) rfl ⟨_, rfl, KF.out.then k9 (fun j hj h => by have h : j = w.heap.size + 1 + 1 := h; omega), by rw [HBT.out]; exact ⟨HOK.out, _, rfl, (HRF.out.keptS k9 (fun q h1 h => by have h : q = w.heap.size + 1 + 1 := h; omega)).mono (Nat.zero_le _)⟩⟩
  · have HBT : Hid (bentP p what at_ h = ⟨p.path, 0, zeroIt⟩) := hid (by unfold bentP; rw [← HL7.out.2]; rfl)
    have c0 := pf_c0 BP.out
    have hokP := HPO.out.2.1
    have e6 : Try.zeroCells45.setIfInBounds 0 (.slice a9 n9 c9) = (pfC (.slice a9 n9 c9) ⟨p.path, 0, zeroIt⟩).toArray := rfl
    have hok6 : Pf.Ok ⟨p.path, 0, zeroIt⟩ := ⟨hokP.1, rfl, rfl⟩
    have A6 := hid (show AggTy Try.prog 45 (Try.zeroCells45.setIfInBounds 0 (.slice a9 n9 c9)).size by rw [e6]; exact aP hok6)
    have S6 := hid (show (pfC (.slice a9 n9 c9) p).toArray.size = (Try.zeroCells45.setIfInBounds 0 (.slice a9 n9 c9)).size by rw [e6]; have h1 := pfC_len (.slice a9 n9 c9) hokP; have h2 := pfC_len (.slice a9 n9 c9) hok6; simp only [List.size_toArray, h1, h2])
    have hr6 := HO.out.rh
    have L6 := hid (show (Try.zeroCells45.setIfInBounds 0 (.slice a9 n9 c9)).all (·.oneCell') = true by rw [e6]; exact pfC_one (p := ⟨p.path, 0, zeroIt⟩) hr6)
    have E6 := hid e6
    clear e6 hr6
    go_upto_region 18 with (first | (refine wpList_store_blk rfl _ _ _ rfl rfl rfl BP.out A6.out S6.out L6.out ?_; intro w5 hP5 k5) | fail)
    rw [E6.out] at hP5
    have HBF := hid hP5
    have HZF := hid (HZ2.out.kept k5 (fun h => by have h : w.heap.size + 1 + 1 = w.heap.size := h; omega))
    have KF := hid (K2.out.then k5 (fun j hj h => by have h : j = w.heap.size := h; omega))
    have HRF := hid ((HO.out.kept k5 (fun q hq h => by have h : q = w.heap.size := h; have := (HO.out.2.own q hq).1; omega)).rh)
    have HOK := hid hok6
    clear hP5 k5 hok6
    have hokF : Pf.Ok ⟨p.path, 0, zeroIt⟩ := HOK.out
    have aPF := aP (s := (.slice a9 n9 c9)) hokF
    have hallF : (pfC (.slice a9 n9 c9) ⟨p.path, 0, zeroIt⟩).toArray.all (·.oneCell') = true := pfC_one (p := ⟨p.path, 0, zeroIt⟩) HRF.out
    have HAF := hid hallF
    have EF := hid (HZS.out.trans (show 66 = (pfC (.slice a9 n9 c9) ⟨p.path, 0, zeroIt⟩).toArray.size by simpa using (pfC_len (.slice a9 n9 c9) hokF).symm))
    have hBF := HBF.out
    have hZF := HZF.out
    clear hallF
    go_wp2_with (first | (refine wpList_load_blk rfl _ _ rfl rfl hBF aPF ?_) | (refine wpList_store_blk rfl _ _ _ rfl rfl rfl hZF aPF EF.out HAF.out ?_; intro w9 hR9 k9) | fail)
    exact bodyPost_ret (v := .agg (pfC (.slice a9 n9 c9) ⟨p.path, 0, zeroIt⟩).toArray) (results_blk rfl _ rfl hR9 aPF) rfl ⟨_, rfl, KF.out.then k9 (fun j hj h => by have h : j = w.heap.size + 1 + 1 := h; omega), by rw [HBT.out]; exact ⟨HOK.out, _, rfl, (HRF.out.keptS k9 (fun q h1 h => by have h : q = w.heap.size + 1 + 1 := h; omega)).mono (Nat.zero_le _)⟩⟩
end Pr
end Go.Proofs.Ytkogkcaflhjlhaa
