/- postmarkref5.ProofCheck: by contract. -/
import Derived.Test.YtdlnikkfpfdbbaaRTexts7
namespace Go.Pm
open Go Go.RowKit
/-- It tells lists of bytes, at least one. -/
abbrev Fct.rlp (k lo n : Nat) (ls : List (List UInt8)) (uses : List Nat := []) : Fct := { k := k, uses := uses, pure := fun u => ∃ b o c, u = .slice (some ⟨b, o, none⟩) n c, fact := fun u W => Rl lo W u ls }
theorem Steady.rlp {l : List Fct} {k lo n : Nat} {us : List Nat} {ls : List (List UInt8)} (h : Steady l) : Steady (.rlp k lo n ls us :: l) := .cons ⟨_, 0, 0, 0, rfl⟩ (fun _ _ _ hk hb => Rl.kept hb hk) h
end Go.Pm
namespace Go.Proofs.Ytdlnikkfpfdbbaa
open Go.RowKit Go.Pm
namespace RPr
set_option maxRecDepth 100000 in
set_option maxHeartbeats 2000000 in
/-- ProofCheck. -/
theorem check (root i : List UInt8) (s : Value) (p : Pf) (w : World) (hr : root.length = 32) (hi : i.length = 32) (hp : p.Ok) (hs : Rh 0 w s p.path) :
    Calls Try.prog 35 #[hashV root, hashV i, pfV s p] w fun e w' => e = .returned (.tuple #[hashV (checkV root i p), .bool (checkH root i p), .bool (okP root i p)]) ∧ Kept None w w' := by
  obtain ⟨X, hX⟩ : ∃ X, X = (pfC s p).toArray := ⟨_, rfl⟩
  obtain ⟨L, hL⟩ : ∃ L : Array Value, L = (i.map u8v).toArray := ⟨_, rfl⟩
  obtain ⟨RO, hRO⟩ : ∃ RO : Array Value, RO = (root.map u8v).toArray := ⟨_, rfl⟩
  have hRi : ∀ w, Rh 0 w s p.path → Calls Try.prog 37 #[.agg (i.map u8v).toArray, .agg (pfC s p).toArray] w fun e w' => e = .returned (.bool (rightP i p)) ∧ Kept None w w' := fun w h => right i s p w hi hp h
  have hTx : p.path.length ≤ 256 → ∀ w, Rh 0 w s p.path → Calls Try.prog 64 #[.agg (i.map u8v).toArray, .agg (pfC s p).toArray] w fun e w' => ∃ u, e = .returned u ∧ Kept None w w' ∧ Rl w.heap.size w' u (textsP i p) := fun hn w h => texts i s p w hi hp h hn
  obtain ⟨tx, rest, htl⟩ : ∃ tx rest, textsP i p = tx :: rest := by
    unfold textsP
    match hpp : p.path with
    | [] => exact ⟨_, _, rfl⟩
    | r :: rs => exact ⟨_, _, rfl⟩
  have hroot : rootP i p = sumB tx := by
    unfold rootP climbH
    have h : climbB i (footB p) p.path 0 = tx :: rest := htl
    rw [h]; rfl
  have htxl : rightP i p = true → tx.length ≤ 1000 := fun _ => by
    have h : climbB i (footB p) p.path 0 = tx :: rest := htl
    match hpp : p.path with
    | [] =>
      rw [hpp, climbB] at h
      injection h with h
      rw [← h]
      unfold footB
      have := hp.2
      split <;> simp [textB, lumpB, leB_length] <;> omega
    | r :: rs =>
      rw [hpp, climbB] at h
      injection h with h
      rw [← h]
      have h1 : r.length = 32 := hp.1 r (by rw [hpp]; exact List.mem_cons_self ..)
      have h2 := sumB_len ((climbB i (footB p) rs (0 + 1)).headD [])
      obtain ⟨sb, hsb⟩ : ∃ x, x = sumB ((climbB i (footB p) rs (0 + 1)).headD []) := ⟨_, rfl⟩
      rw [← hsb] at h2 ⊢
      split <;> simp [textB, lumpB, leB_length, h1, h2]
  have aP' : AggTy Try.prog 48 (pfC s p).toArray.size := Pr.aP hp
  have aL := Pr.aH32 hi
  have aO := Pr.aH32 hr
  have aV := Pr.aH32' hp.2.2
  have hE := Tr.neqHash (rootP i p) root (climbH_len _ _ _ _) hr
  have hlen : rightP i p = true → p.path.length ≤ 256 := rightP_len
  have hV : checkV root i p = if rightP i p && (rootP i p == root) then saysV p else zero32 := rfl
  have hH : checkH root i p = (rightP i p && (rootP i p == root) && saysH p) := rfl
  have hO : okP root i p = (rightP i p && (rootP i p == root)) := rfl
  have hsV : saysV p = if p.e = 0 then p.x.v else zero32 := rfl
  have hsH : saysH p = decide (p.e = 0) := rfl
  have hsm : tx.length ≤ 1000 → ∀ v lo hi w, Bs w lo hi v tx → Calls Try.prog 63 #[v] w fun e w' => e = .returned (hashV (sumB tx)) ∧ Kept None w w' := fun h v lo hi w hb => Ref.sum v lo hi tx w hb (by omega)
  rw [← hroot] at hsm
  obtain ⟨cv, hcv⟩ : ∃ r, r = checkV root i p := ⟨_, rfl⟩
  obtain ⟨ch, hch⟩ : ∃ r, r = checkH root i p := ⟨_, rfl⟩
  obtain ⟨co, hco⟩ : ∃ r, r = okP root i p := ⟨_, rfl⟩
  rw [← hcv, ← hch, ← hco]
  rw [hV, hsV] at hcv
  rw [hH, hsH] at hch
  rw [hO] at hco
  obtain ⟨PV_, hPV⟩ : ∃ C : List Value, C = p.x.v.map u8v := ⟨_, rfl⟩
  show Calls Try.prog 35 #[.agg (root.map u8v).toArray, .agg (i.map u8v).toArray, .agg (pfC s p).toArray] w _
  have k0 : Kept None w ((((w.alloc (.cells RO 25)).alloc (.cells L 25)).alloc (.cells X 48)).alloc (.cells #[.int .u8 0, .int .u8 0, .int .u8 0, .int .u8 0, .int .u8 0, .int .u8 0, .int .u8 0, .int .u8 0, .int .u8 0, .int .u8 0, .int .u8 0, .int .u8 0, .int .u8 0, .int .u8 0, .int .u8 0, .int .u8 0, .int .u8 0, .int .u8 0, .int .u8 0, .int .u8 0, .int .u8 0, .int .u8 0, .int .u8 0, .int .u8 0, .int .u8 0, .int .u8 0, .int .u8 0, .int .u8 0, .int .u8 0, .int .u8 0, .int .u8 0, .int .u8 0] 25)) := ((((Kept.refl _ _).alloc _).alloc _).alloc _).alloc _
  have bO : Blk ((((w.alloc (.cells RO 25)).alloc (.cells L 25)).alloc (.cells X 48)).alloc (.cells #[.int .u8 0, .int .u8 0, .int .u8 0, .int .u8 0, .int .u8 0, .int .u8 0, .int .u8 0, .int .u8 0, .int .u8 0, .int .u8 0, .int .u8 0, .int .u8 0, .int .u8 0, .int .u8 0, .int .u8 0, .int .u8 0, .int .u8 0, .int .u8 0, .int .u8 0, .int .u8 0, .int .u8 0, .int .u8 0, .int .u8 0, .int .u8 0, .int .u8 0, .int .u8 0, .int .u8 0, .int .u8 0, .int .u8 0, .int .u8 0, .int .u8 0, .int .u8 0] 25)) w.heap.size RO 25 := (((Blk.new w _ _).alloc _).alloc _).alloc _
  have bL : Blk ((((w.alloc (.cells RO 25)).alloc (.cells L 25)).alloc (.cells X 48)).alloc (.cells #[.int .u8 0, .int .u8 0, .int .u8 0, .int .u8 0, .int .u8 0, .int .u8 0, .int .u8 0, .int .u8 0, .int .u8 0, .int .u8 0, .int .u8 0, .int .u8 0, .int .u8 0, .int .u8 0, .int .u8 0, .int .u8 0, .int .u8 0, .int .u8 0, .int .u8 0, .int .u8 0, .int .u8 0, .int .u8 0, .int .u8 0, .int .u8 0, .int .u8 0, .int .u8 0, .int .u8 0, .int .u8 0, .int .u8 0, .int .u8 0, .int .u8 0, .int .u8 0] 25)) (w.heap.size + 1) L 25 := ((Blk.new2 w _ _ _).alloc _).alloc _
  have bX : Blk ((((w.alloc (.cells RO 25)).alloc (.cells L 25)).alloc (.cells X 48)).alloc (.cells #[.int .u8 0, .int .u8 0, .int .u8 0, .int .u8 0, .int .u8 0, .int .u8 0, .int .u8 0, .int .u8 0, .int .u8 0, .int .u8 0, .int .u8 0, .int .u8 0, .int .u8 0, .int .u8 0, .int .u8 0, .int .u8 0, .int .u8 0, .int .u8 0, .int .u8 0, .int .u8 0, .int .u8 0, .int .u8 0, .int .u8 0, .int .u8 0, .int .u8 0, .int .u8 0, .int .u8 0, .int .u8 0, .int .u8 0, .int .u8 0, .int .u8 0, .int .u8 0] 25)) (w.heap.size + 1 + 1) X 48 := (Blk.new3 w _ _ _ _).alloc _
  have v0 : Blk ((((w.alloc (.cells RO 25)).alloc (.cells L 25)).alloc (.cells X 48)).alloc (.cells #[.int .u8 0, .int .u8 0, .int .u8 0, .int .u8 0, .int .u8 0, .int .u8 0, .int .u8 0, .int .u8 0, .int .u8 0, .int .u8 0, .int .u8 0, .int .u8 0, .int .u8 0, .int .u8 0, .int .u8 0, .int .u8 0, .int .u8 0, .int .u8 0, .int .u8 0, .int .u8 0, .int .u8 0, .int .u8 0, .int .u8 0, .int .u8 0, .int .u8 0, .int .u8 0, .int .u8 0, .int .u8 0, .int .u8 0, .int .u8 0, .int .u8 0, .int .u8 0] 25)) (w.heap.size + 1 + 1 + 1) #[.int .u8 0, .int .u8 0, .int .u8 0, .int .u8 0, .int .u8 0, .int .u8 0, .int .u8 0, .int .u8 0, .int .u8 0, .int .u8 0, .int .u8 0, .int .u8 0, .int .u8 0, .int .u8 0, .int .u8 0, .int .u8 0, .int .u8 0, .int .u8 0, .int .u8 0, .int .u8 0, .int .u8 0, .int .u8 0, .int .u8 0, .int .u8 0, .int .u8 0, .int .u8 0, .int .u8 0, .int .u8 0, .int .u8 0, .int .u8 0, .int .u8 0, .int .u8 0] 25 := by simpa using Blk.new3 (w.alloc _) _ _ _ _
  obtain ⟨z, hz, hZ⟩ := Blk.any (n := 32) v0 (by rfl)
  have rV : World.rangeAt ((((w.alloc (.cells RO 25)).alloc (.cells L 25)).alloc (.cells X 48)).alloc (.cells #[.int .u8 0, .int .u8 0, .int .u8 0, .int .u8 0, .int .u8 0, .int .u8 0, .int .u8 0, .int .u8 0, .int .u8 0, .int .u8 0, .int .u8 0, .int .u8 0, .int .u8 0, .int .u8 0, .int .u8 0, .int .u8 0, .int .u8 0, .int .u8 0, .int .u8 0, .int .u8 0, .int .u8 0, .int .u8 0, .int .u8 0, .int .u8 0, .int .u8 0, .int .u8 0, .int .u8 0, .int .u8 0, .int .u8 0, .int .u8 0, .int .u8 0, .int .u8 0] 25)) (w.heap.size + 1 + 1) 34 PV_ := hPV ▸ pf_rv (hX ▸ bX : Blk ((((w.alloc (.cells RO 25)).alloc (.cells L 25)).alloc (.cells X 48)).alloc (.cells #[.int .u8 0, .int .u8 0, .int .u8 0, .int .u8 0, .int .u8 0, .int .u8 0, .int .u8 0, .int .u8 0, .int .u8 0, .int .u8 0, .int .u8 0, .int .u8 0, .int .u8 0, .int .u8 0, .int .u8 0, .int .u8 0, .int .u8 0, .int .u8 0, .int .u8 0, .int .u8 0, .int .u8 0, .int .u8 0, .int .u8 0, .int .u8 0, .int .u8 0, .int .u8 0, .int .u8 0, .int .u8 0, .int .u8 0, .int .u8 0, .int .u8 0, .int .u8 0] 25)) (w.heap.size + 1 + 1) (pfC s p).toArray 48) hp
  have hc1 : X[1]? = some (.int .i64 p.e) := by rw [hX]; rfl
  rw [← hX, ← hL] at hRi hTx
  rw [← hX] at aP'
  rw [← hL] at aL
  rw [← hRO] at aO hE
  rw [← hPV] at aV
  rw [← hX, ← hL, ← hRO]
  obtain ⟨rp, hrp⟩ : ∃ r, r = rootP i p := ⟨_, rfl⟩
  rw [← hrp] at hE hsm hcv hch hco
  have hrl : rp.length = 32 := by rw [hrp]; exact climbH_len _ _ _ _
  obtain ⟨bR, hbR⟩ : ∃ r, r = rightP i p := ⟨_, rfl⟩
  rw [← hbR] at hRi hlen hcv hch hco htxl
  obtain ⟨bE, hbE⟩ : ∃ r, r = (rp == root) := ⟨_, rfl⟩
  rw [← hbE] at hE hcv hch hco
  rw [htl] at hTx
  have HPV := hid (And.intro hPV hp.2.2)
  have HC1 := hid hc1
  have HRE := hid (And.intro hcv (And.intro hch hco))
  have HR := hid hRi
  have HT := hid hTx
  have HL := hid (And.intro hlen htxl)
  have HSV := hid hs
  have HSM := hid hsm
  have HE := hid hE
  have HV0 := hid rV
  obtain ⟨tn, htn⟩ : ∃ n, n = (tx :: rest).length := ⟨_, rfl⟩
  have HTN := hid htn
  have HTN0 : 0 < tn := by rw [htn]; simp
  clear hcv hch hco hX hL hRO hRi hTx hrp hbR hbE hV hH hO hlen hs htl hroot htxl hsV hsH hsm hPV v0 rV hE hrl htn hc1
  go_enter Try.func35, Try.ntmps35
  go_wp2_with fail
  refine wp_nm ?_
  intro w1 e1
  rw [← e1] at k0 bO bL bX hZ HV0
  clear e1
  have BO := hid bO
  have BL := hid bL
  have BX := hid bX
  clear bO bL bX
  cases bR with
  | false =>
    have hs : Steady [.val 2 (.bool false)] := Go.Pm.Steady.val (Go.Pm.Steady.nil)
    refine wp_region_kn w1 _ hs (Kept.refl _ _) (by kernel_rfl) (by kernel_rfl) (by kernel_rfl) ?_
    refine wpPar_pure rfl (by rfl) _ (fun W hW => by first | exact exec_load_blk _ _ rfl rfl (BL.out.kept hW (fun h => h)) aL | exact exec_load_blk _ _ rfl rfl (BX.out.kept hW (fun h => h)) aP' | exact exec_load_blk _ _ rfl rfl (BO.out.kept hW (fun h => h)) aO | (go_simp; exact rfl)) ?_; simp only [Act.put, List.setIfInBounds_toArray, List.set_cons_zero, List.set_cons_succ]
    refine wpPar_pure rfl (by rfl) _ (fun W hW => by first | exact exec_load_blk _ _ rfl rfl (BL.out.kept hW (fun h => h)) aL | exact exec_load_blk _ _ rfl rfl (BX.out.kept hW (fun h => h)) aP' | exact exec_load_blk _ _ rfl rfl (BO.out.kept hW (fun h => h)) aO | (go_simp; exact rfl)) ?_; simp only [Act.put, List.setIfInBounds_toArray, List.set_cons_zero, List.set_cons_succ]
    refine wpKn_adds hs rfl (by rfl) (fun W hW hd => ?_) (fun v2 hv => ?_)
    · unfold Gives
      go_simp
      refine gives_call (HR.out W (HSV.out.kept (k0.trans hW))) ?_
      rintro e w3 ⟨rfl, k3⟩
      exact ⟨_, rfl, k3, rfl, trivial⟩
    obtain rfl : v2 = .bool false := hv
    simp only [Act.put, List.setIfInBounds_toArray, List.set_cons_zero, List.set_cons_succ]
    iterate 2 (refine wpPar_pure rfl (by rfl) _ (fun W hW => by
        go_simp
        exact rfl) ?_; simp only [Act.put, List.setIfInBounds_toArray, List.set_cons_zero, List.set_cons_succ])
    refine wpPar_skip (by kernel_rfl) ?_; simp only [Act.put, List.setIfInBounds_toArray, List.set_cons_zero, List.set_cons_succ]
    refine wpPar_skip (by kernel_rfl) ?_; simp only [Act.put, List.setIfInBounds_toArray, List.set_cons_zero, List.set_cons_succ]
    refine wpPar_skip (by kernel_rfl) ?_; simp only [Act.put, List.setIfInBounds_toArray, List.set_cons_zero, List.set_cons_succ]
    refine wpPar_skip (by kernel_rfl) ?_; simp only [Act.put, List.setIfInBounds_toArray, List.set_cons_zero, List.set_cons_succ]
    refine wpPar_skip (by kernel_rfl) ?_; simp only [Act.put, List.setIfInBounds_toArray, List.set_cons_zero, List.set_cons_succ]
    refine wpPar_skip (by kernel_rfl) ?_; simp only [Act.put, List.setIfInBounds_toArray, List.set_cons_zero, List.set_cons_succ]
    refine wpPar_skip (by kernel_rfl) ?_; simp only [Act.put, List.setIfInBounds_toArray, List.set_cons_zero, List.set_cons_succ]
    refine wpPar_skip (by kernel_rfl) ?_; simp only [Act.put, List.setIfInBounds_toArray, List.set_cons_zero, List.set_cons_succ]
    iterate 1 (refine wpPar_pure rfl (by rfl) _ (fun W hW => by
        go_simp
        exact rfl) ?_; simp only [Act.put, List.setIfInBounds_toArray, List.set_cons_zero, List.set_cons_succ])
    refine wpPar_nil (fun w3 hW hG => ?_)
    have k03 := k0.trans hW
    have hZ3 := hZ.kept hW (fun h => h)
    clear hG hs hW k0 hZ HE
    go_wp2_with (first | (refine wpList_store_blk rfl _ _ _ rfl rfl rfl hZ3 Sp.aH hz Pr.zero_all32 ?_; intro w9 hR9 k9) | fail)
    exact bodyPost_ret (v := .tuple #[.agg #[.int .u8 0, .int .u8 0, .int .u8 0, .int .u8 0, .int .u8 0, .int .u8 0, .int .u8 0, .int .u8 0, .int .u8 0, .int .u8 0, .int .u8 0, .int .u8 0, .int .u8 0, .int .u8 0, .int .u8 0, .int .u8 0, .int .u8 0, .int .u8 0, .int .u8 0, .int .u8 0, .int .u8 0, .int .u8 0, .int .u8 0, .int .u8 0, .int .u8 0, .int .u8 0, .int .u8 0, .int .u8 0, .int .u8 0, .int .u8 0, .int .u8 0, .int .u8 0], .bool false, .bool false]) (res_cell_tmp2 rfl _ rfl rfl rfl hR9 Sp.aH) rfl ⟨by rw [HRE.out.1, HRE.out.2.1, HRE.out.2.2]; rfl, k03.then k9 (fun i hi (h : i = w.heap.size + 1 + 1 + 1) => by omega)⟩
  | true =>
    have h256 := hid (HL.out.1 rfl)
    have h1000 := hid (HL.out.2 rfl)
    have hs : Steady [.val 2 (.bool true), .rlp 7 0 tn (tx :: rest), .rb 9 0 tx [7], .val 10 (hashV rp) [9]] := Go.Pm.Steady.val (Go.Pm.Steady.rlp (Go.Pm.Steady.rb (Go.Pm.Steady.val (Go.Pm.Steady.nil))))
    refine wp_region_kn w1 _ hs (Kept.refl _ _) (by kernel_rfl) (by kernel_rfl) (by kernel_rfl) ?_
    refine wpPar_pure rfl (by rfl) _ (fun W hW => by first | exact exec_load_blk _ _ rfl rfl (BL.out.kept hW (fun h => h)) aL | exact exec_load_blk _ _ rfl rfl (BX.out.kept hW (fun h => h)) aP' | exact exec_load_blk _ _ rfl rfl (BO.out.kept hW (fun h => h)) aO | (have q1 := HE.out; go_simp; exact rfl)) ?_; simp only [Act.put, List.setIfInBounds_toArray, List.set_cons_zero, List.set_cons_succ]
    refine wpPar_pure rfl (by rfl) _ (fun W hW => by first | exact exec_load_blk _ _ rfl rfl (BL.out.kept hW (fun h => h)) aL | exact exec_load_blk _ _ rfl rfl (BX.out.kept hW (fun h => h)) aP' | exact exec_load_blk _ _ rfl rfl (BO.out.kept hW (fun h => h)) aO | (have q1 := HE.out; go_simp; exact rfl)) ?_; simp only [Act.put, List.setIfInBounds_toArray, List.set_cons_zero, List.set_cons_succ]
    refine wpKn_adds hs rfl (by rfl) (fun W hW hd => ?_) (fun v2 hv => ?_)
    · unfold Gives
      go_simp
      refine gives_call (HR.out W (HSV.out.kept (k0.trans hW))) ?_
      rintro e w3 ⟨rfl, k3⟩
      exact ⟨_, rfl, k3, rfl, trivial⟩
    obtain rfl : v2 = .bool true := hv
    simp only [Act.put, List.setIfInBounds_toArray, List.set_cons_zero, List.set_cons_succ]
    iterate 2 (refine wpPar_pure rfl (by rfl) _ (fun W hW => by
        have q1 := HE.out
        go_simp
        exact rfl) ?_; simp only [Act.put, List.setIfInBounds_toArray, List.set_cons_zero, List.set_cons_succ])
    refine wpPar_pure rfl (by kernel_rfl) _ (fun W hW => by first | exact exec_load_blk _ _ rfl rfl (BL.out.kept hW (fun h => h)) aL | exact exec_load_blk _ _ rfl rfl (BX.out.kept hW (fun h => h)) aP' | exact exec_load_blk _ _ rfl rfl (BO.out.kept hW (fun h => h)) aO | (have q1 := HE.out; go_simp; exact rfl)) ?_; simp only [Act.put, List.setIfInBounds_toArray, List.set_cons_zero, List.set_cons_succ]
    refine wpPar_pure rfl (by kernel_rfl) _ (fun W hW => by first | exact exec_load_blk _ _ rfl rfl (BL.out.kept hW (fun h => h)) aL | exact exec_load_blk _ _ rfl rfl (BX.out.kept hW (fun h => h)) aP' | exact exec_load_blk _ _ rfl rfl (BO.out.kept hW (fun h => h)) aO | (have q1 := HE.out; go_simp; exact rfl)) ?_; simp only [Act.put, List.setIfInBounds_toArray, List.set_cons_zero, List.set_cons_succ]
    refine wpKn_adds hs rfl (by kernel_rfl) (fun W hW hd => ?_) (fun v7 hv => ?_)
    · unfold Gives
      go_simp
      refine gives_call (HT.out h256.out W (HSV.out.kept (k0.trans hW))) ?_
      rintro e w3 ⟨u, rfl, k3, b3⟩
      obtain ⟨a3, c3, rfl⟩ := b3.form
      obtain ⟨b, o, _, _, e1, _, _⟩ := Rl.at b3 (i := 0) (by simp)
      obtain rfl := e1
      exact ⟨_, rfl, k3, ⟨b, o, c3, by rw [HTN.out]⟩, b3.mono (Nat.zero_le _)⟩
    obtain ⟨b7, o7, c7, rfl⟩ : ∃ b o c, v7 = .slice (some ⟨b, o, none⟩) tn c := hv
    simp only [Act.put, List.setIfInBounds_toArray, List.set_cons_zero, List.set_cons_succ]
    refine wpPar_pure rfl (by kernel_rfl) _ (fun W hW => by
        have q1 := HE.out
        go_simp
        exact rfl) ?_; simp only [Act.put, List.setIfInBounds_toArray, List.set_cons_zero, List.set_cons_succ]
    refine wpKn_adds hs rfl (by kernel_rfl) (fun W hW hd => ?_) (fun v9 hv => ?_)
    · unfold Gives
      have b7' : Rl 0 W (.slice (some ⟨b7, o7, none⟩) tn c7) (tx :: rest) := hd 7 (List.Mem.head _)
      obtain ⟨b, o, a1, c1, e1, cc, rb⟩ := Rl.at b7' (i := 0) (by simp)
      obtain ⟨e2, e3⟩ : b7 = b ∧ o7 = o := by injection e1 with e1; injection e1 with e1 e2; exact ⟨e1, e2⟩
      subst e2 e3
      rw [Nat.add_zero] at cc
      have cc : W.cell? ⟨b7, o7, none⟩ = some (.slice a1 tx.length c1) := cc
      go_simp
      exact ⟨Kept.refl _ _, ⟨_, _, rfl⟩, rb⟩
    obtain ⟨a9, c9, rfl⟩ : ∃ a c, v9 = .slice a tx.length c := hv
    simp only [Act.put, List.setIfInBounds_toArray, List.set_cons_zero, List.set_cons_succ]
    refine wpKn_adds hs rfl (by kernel_rfl) (fun W hW hd => ?_) (fun v10 hv => ?_)
    · unfold Gives
      obtain ⟨hi9, b9⟩ : Rb 0 W (.slice a9 tx.length c9) tx := hd 9 (List.Mem.head _)
      go_simp
      refine gives_call (HSM.out h1000.out _ _ _ W b9) ?_
      rintro e w3 ⟨rfl, k3⟩
      exact ⟨_, rfl, k3, rfl, trivial⟩
    obtain rfl : v10 = hashV rp := hv
    simp only [Act.put, List.setIfInBounds_toArray, List.set_cons_zero, List.set_cons_succ]
    refine wpPar_pure rfl (by kernel_rfl) _ (fun W hW => by first | exact exec_load_blk _ _ rfl rfl (BL.out.kept hW (fun h => h)) aL | exact exec_load_blk _ _ rfl rfl (BX.out.kept hW (fun h => h)) aP' | exact exec_load_blk _ _ rfl rfl (BO.out.kept hW (fun h => h)) aO | (have q1 := HE.out; go_simp; exact rfl)) ?_; simp only [Act.put, List.setIfInBounds_toArray, List.set_cons_zero, List.set_cons_succ]
    refine wpPar_pure rfl (by kernel_rfl) _ (fun W hW => by
        have q1 := HE.out
        go_simp
        exact rfl) ?_; simp only [Act.put, List.setIfInBounds_toArray, List.set_cons_zero, List.set_cons_succ]
    iterate 1 (refine wpPar_pure rfl (by rfl) _ (fun W hW => by
        have q1 := HE.out
        go_simp
        exact rfl) ?_; simp only [Act.put, List.setIfInBounds_toArray, List.set_cons_zero, List.set_cons_succ])
    refine wpPar_nil (fun w3 hW hG => ?_)
    have k03 := k0.trans hW
    have hZ3 := hZ.kept hW (fun h => h)
    have c3 : w3.cell? ⟨w.heap.size + 1 + 1, 1, none⟩ = some (.int .i64 p.e) := by rw [(BX.out.kept hW (fun h => h)).cell]; exact HC1.out
    have rV3 := rangeAt_kept HV0.out hW
    clear hG hs hW k0 hZ HE
    cases bE with
    | false =>
      clear c3 rV3
      go_wp2_with (first | (refine wpList_store_blk rfl _ _ _ rfl rfl rfl hZ3 Sp.aH hz Pr.zero_all32 ?_; intro w9 hR9 k9) | fail)
      exact bodyPost_ret (v := .tuple #[.agg #[.int .u8 0, .int .u8 0, .int .u8 0, .int .u8 0, .int .u8 0, .int .u8 0, .int .u8 0, .int .u8 0, .int .u8 0, .int .u8 0, .int .u8 0, .int .u8 0, .int .u8 0, .int .u8 0, .int .u8 0, .int .u8 0, .int .u8 0, .int .u8 0, .int .u8 0, .int .u8 0, .int .u8 0, .int .u8 0, .int .u8 0, .int .u8 0, .int .u8 0, .int .u8 0, .int .u8 0, .int .u8 0, .int .u8 0, .int .u8 0, .int .u8 0, .int .u8 0], .bool false, .bool false]) (res_cell_tmp2 rfl _ rfl rfl rfl hR9 Sp.aH) rfl ⟨by rw [HRE.out.1, HRE.out.2.1, HRE.out.2.2]; rfl, k03.then k9 (fun i hi (h : i = w.heap.size + 1 + 1 + 1) => by omega)⟩
    | true =>
      by_cases h0 : p.e = 0
      · have hez : (p.e == 0) = true := by rw [h0]; rfl
        have HE0 := hid h0
        clear h0
        have E9 : Hid (z.size = PV_.toArray.size) := hid (by rw [hz, HPV.out.1]; simp [HPV.out.2])
        have AV : Hid (PV_.toArray.all (·.oneCell') = true) := hid (by rw [HPV.out.1]; exact u8v_all' _)
        have aV' : AggTy Try.prog 25 PV_.toArray.size := by simpa using aV
        go_wp2_with (first | (refine wpList_load_at rfl _ _ rfl rfl rV3 aV ?_) | (refine wpList_store_blk rfl _ _ _ rfl rfl rfl hZ3 aV' E9.out AV.out ?_; intro w9 hR9 k9) | fail)
        exact bodyPost_ret (v := .tuple #[.agg PV_.toArray, .bool true, .bool true]) (res_cell_tmp2 rfl _ rfl rfl rfl hR9 aV') rfl ⟨by rw [HRE.out.1, HRE.out.2.1, HRE.out.2.2, HE0.out, HPV.out.1]; rfl, k03.then k9 (fun i hi (h : i = w.heap.size + 1 + 1 + 1) => by omega)⟩
      · have hez : (p.e == 0) = false := by simpa using h0
        have HE0 := hid h0
        clear h0 rV3
        go_wp2_with (first | (refine wpList_store_blk rfl _ _ _ rfl rfl rfl hZ3 Sp.aH hz Pr.zero_all32 ?_; intro w9 hR9 k9) | fail)
        exact bodyPost_ret (v := .tuple #[.agg #[.int .u8 0, .int .u8 0, .int .u8 0, .int .u8 0, .int .u8 0, .int .u8 0, .int .u8 0, .int .u8 0, .int .u8 0, .int .u8 0, .int .u8 0, .int .u8 0, .int .u8 0, .int .u8 0, .int .u8 0, .int .u8 0, .int .u8 0, .int .u8 0, .int .u8 0, .int .u8 0, .int .u8 0, .int .u8 0, .int .u8 0, .int .u8 0, .int .u8 0, .int .u8 0, .int .u8 0, .int .u8 0, .int .u8 0, .int .u8 0, .int .u8 0, .int .u8 0], .bool false, .bool true]) (res_cell_tmp2 rfl _ rfl rfl rfl hR9 Sp.aH) rfl ⟨by rw [HRE.out.1, HRE.out.2.1, HRE.out.2.2, if_neg HE0.out, decide_eq_false HE0.out]; rfl, k03.then k9 (fun i hi (h : i = w.heap.size + 1 + 1 + 1) => by omega)⟩
end RPr
end Go.Proofs.Ytdlnikkfpfdbbaa
