/- postmarkref5.ReadProof: by contract. -/
import Derived.Test.YtidegffdhpdhjaaRead7
import Derived.Test.YtidegffdhpdhjaaRInt10
import Derived.Test.YtidegffdhpdhjaaKey7
import Derived.Deep.LoopGhost
import Derived.Deep.DeepCutAuto
import Derived.Test.YtidegffdhpdhjaaReadP7
import Derived.Test.YtidegffdhpdhjaaFoot7
namespace Go.Proofs.Ytidegffdhpdhjaa
open Go.RowKit Go.Pm
namespace RPr
open Pr (aP66 aP aH32 rtHashes)
/-- What the loop of ReadProof has: its own proof, its Reader. -/
structure RRMid (T E : TypeId) (w0 : World) (z : Array Value) (r g6 : Nat) (l : List UInt8) (k : Nat) (w : World) : Prop where
  kept : Kept None w0 w
  hz : Blk w w0.heap.size z E
  rd : Ref.Rd w 0 w0.heap.size r (stAt l (8 + 32 * k))
  pf : ∃ s, Blk w g6 (pfC s zeroPf).toArray E ∧ Ho T w (g6 + 1) s (hashesO (stAt l 8) k)
  lt : w0.heap.size < r ∧ r < g6 ∧ g6 < w.heap.size
theorem rd_cell {w : World} {lo hi r : Nat} {s : St} (h : Ref.Rd w lo hi r s) : w.cell? ⟨r, 1, none⟩ = some (.int .i64 s.e) := by
  obtain ⟨_, v, hb, _⟩ := h
  exact hb.cell 1
theorem rd_left {w : World} {lo hi r : Nat} {s : St} (h : Ref.Rd w lo hi r s) : ∃ a c, w.cell? ⟨r, 0, none⟩ = some (.slice a s.l.length c) := by
  obtain ⟨_, v, hb, hv⟩ := h
  obtain ⟨a, c, rfl, _⟩ := hv.shape
  exact ⟨a, c, hb.cell 0⟩
set_option maxRecDepth 100000 in
set_option maxHeartbeats 4000000 in
/-- ReadProof. -/
theorem readP (v : Value) (lo0 hi0 : Nat) (l : List UInt8) (w : World) (hv : Bs w lo0 hi0 v l) (hl : l.length ≤ 1099511627776) :
    Calls Try.prog 37 #[v] w fun e w' => ∃ s, e = .returned (.tuple #[pfV s (readQP l), .int .i64 (readEP l)]) ∧ Kept None w w' ∧ Rh w.heap.size w' s (readQP l).path := by
  have hm := many_num l
  have s0 := stAt_num l 0
  rw [stAt_zero] at hm s0
  obtain ⟨n, hn⟩ : ∃ n, n = manyR l := ⟨_, rfl⟩
  rw [← hn] at hm
  have hn64 : (n : Int) < 18446744073709551616 := by rw [hm]; exact St.num_lt _
  have hn8 : l.length < 8 → n = 0 := fun h => by rw [hn]; unfold manyR; rw [if_neg (by omega)]
  obtain ⟨S1, hS1⟩ : ∃ S, S = stAt l 8 := ⟨_, rfl⟩
  rw [show 0 + 8 = 8 from rfl, ← hS1] at s0
  have hS1e : S1.e = if 8 ≤ l.length then 0 else 21 := by
    rw [hS1]; unfold stAt; split <;> rfl
  have hM : ∀ W, Ref.Rd W 0 w.heap.size (w.heap.size + 1) ⟨l, 0⟩ → Calls Try.prog 55 #[.pointer (some ⟨w.heap.size + 1, 0, none⟩)] W fun e w' => e = .returned (.int .u64 n) ∧ Kept (Just (w.heap.size + 1)) W w' ∧ Ref.Rd w' 0 w.heap.size (w.heap.size + 1) S1 := fun W h => by
    have := Ref.rnum (w.heap.size + 1) 0 w.heap.size ⟨l, 0⟩ W h (Nat.le_succ _)
    rwa [← hm, s0] at this
  obtain ⟨q, hq⟩ : ∃ q, q = readQP l := ⟨_, rfl⟩
  obtain ⟨er, her⟩ : ∃ e, e = readEP l := ⟨_, rfl⟩
  rw [← hq, ← her]
  have hv1 := hv.all
  obtain ⟨av, cv, rfl, gv⟩ := hv1.shape
  obtain ⟨rv, hrv⟩ : ∃ x : Value, x = .slice av l.length cv := ⟨_, rfl⟩
  have k1 : Kept None w ((w.alloc (.cells Try.zeroCells63 63)).alloc (.cells #[.slice av l.length cv, .int .i64 0] 106)) := ((Kept.refl _ _).alloc _).alloc _
  obtain ⟨z, hz, hZ⟩ := Blk.any (n := 66) (show Blk ((w.alloc (.cells Try.zeroCells63 63)).alloc (.cells #[.slice av l.length cv, .int .i64 0] 106)) w.heap.size Try.zeroCells63 63 from (Blk.new w _ _).alloc _) (by rfl)
  have r1 : Ref.Rd ((w.alloc (.cells Try.zeroCells63 63)).alloc (.cells #[.slice av l.length cv, .int .i64 0] 106)) 0 w.heap.size (w.heap.size + 1) ⟨l, 0⟩ := ⟨fun h => absurd rfl h, _, Blk.new2 w _ _ _, hv1.kept k1 (fun _ _ _ h => h)⟩
  have HM := hid hM
  have HQE := hid (And.intro hq (And.intro her (And.intro hn hS1)))
  have H8 := hid (And.intro hn8 hS1e)
  clear hM hm s0 hq her hn hS1 hv hv1 gv hrv rv hn8 hS1e
  go_enter Try.func37, Try.ntmps37
  go_wp2_with fail
  refine Calls.nm ?_
  intro w1 ew
  rw [← ew] at k1 hZ r1
  clear ew
  refine (HM.out w1 r1).mono ?_
  rintro e w2 ⟨rfl, kn, r2⟩
  obtain ⟨rr, hrr⟩ : ∃ r, r = w.heap.size + 1 := ⟨_, rfl⟩
  rw [← hrr] at kn r2 ⊢
  have k02 : Kept None w w2 := k1.then kn (fun i hi h => by have h : i = rr := h; omega)
  have hZ2 := hZ.kept kn (fun h => by have h : w.heap.size = rr := h; omega)
  have hrlt : w.heap.size < rr := by omega
  have hrw := r2.lt
  clear k1 kn hZ r1 HM hrr
  have c1 := rd_cell r2
  have HM : True := trivial
  by_cases h8 : l.length < 8
  · have hn0 : n = 0 := H8.out.1 h8
    have hE1 : S1.e = 21 := by rw [H8.out.2, if_neg (by omega)]
    rw [hE1] at c1
    have HI : Hid (RRMid 23 63 w z rr w2.heap.size l 0 (w2.alloc (.cells Try.zeroCells63 63))) := hid (by
      have ka : Kept None w2 (w2.alloc (.cells Try.zeroCells63 63)) := (Kept.refl _ _).alloc _
      refine ⟨k02.trans ka, hZ2.kept ka (fun h => h), ?_, ⟨.slice none 0 0, Blk.new w2 _ _, Ho.nil _ _ _⟩, ?_⟩
      · have := HQE.out.2.2.2
        rw [show 8 + 32 * 0 = 8 from rfl, ← this]
        exact r2.kept ka (fun _ _ _ h => h) (fun h => h)
      · simp
        omega)
    have HSM := hid (show n ≤ 256 by omega)
    have HOR := hid (show (0 : Nat) = n ∨ l.length < 8 + 32 * 0 by omega)
    have hshort0 : l.length < 80 + 32 * 0 := by omega
    subst hn0
    obtain ⟨g6, hg6⟩ : ∃ g, g = w2.heap.size := ⟨_, rfl⟩
    clear k02 hZ2 r2 hE1 hn64
    go_wp2
    rw [← hg6] at HI ⊢
    clear hg6 hrw hrlt c1
    go_loopg [7] 0 (fun kx s7 wr => ∃ k : Nat, s7 = .int .u64 k ∧ k = 0 ∧ Hid (RRMid 23 63 w z rr g6 l k wr))
    case atStart => exact ⟨0, rfl, rfl, HI⟩
    case round =>
      obtain ⟨k, rfl, rfl, HR⟩ := hrel
      clear HI
      obtain ⟨s, hP6, hO6⟩ := HR.out.pf
      obtain ⟨Sa, hSa⟩ : ∃ S, S = stAt l (8 + 32 * 0) := ⟨_, rfl⟩
      obtain ⟨Sb, hSb⟩ : ∃ S, S = stAt l (16 + 32 * 0) := ⟨_, rfl⟩
      obtain ⟨Sc, hSc⟩ : ∃ S, S = stAt l (48 + 32 * 0) := ⟨_, rfl⟩
      obtain ⟨Sd, hSd⟩ : ∃ S, S = stAt l (80 + 32 * 0) := ⟨_, rfl⟩
      obtain ⟨En, hEn⟩ : ∃ e, e = (stAt l (8 + 32 * 0)).num := ⟨_, rfl⟩
      obtain ⟨hI, hhI⟩ : ∃ h, h = hashO Sb := ⟨_, rfl⟩
      obtain ⟨hV, hhV⟩ : ∃ h, h = hashO Sc := ⟨_, rfl⟩
      have hEb : 0 ≤ En ∧ En < 18446744073709551616 := by rw [hEn]; exact ⟨St.num_ge _, St.num_lt _⟩
      have hNum : ∀ W, Ref.Rd W 0 w.heap.size rr Sa → Calls Try.prog 55 #[.pointer (some ⟨rr, 0, none⟩)] W fun e w' => e = .returned (.int .u64 En) ∧ Kept (Just rr) W w' ∧ Ref.Rd w' 0 w.heap.size rr Sb := fun W h => by
        have h2 := Ref.rnum rr 0 w.heap.size Sa W h (by have := HR.out.lt; omega)
        have e1 : Sa.num = En := by rw [hSa, hEn]
        have e2 : Sa.numS = Sb := by rw [hSa, hSb, stAt_num, show 8 + 32 * 0 + 8 = 16 + 32 * 0 by omega]
        rwa [e1, e2] at h2
      have hH1 : ∀ W, w.heap.size ≤ W.heap.size → Ref.Rd W 0 w.heap.size rr Sb → Calls Try.prog 54 #[.pointer (some ⟨rr, 0, none⟩)] W fun e w' => e = .returned (hashV hI) ∧ Kept (Just rr) W w' ∧ Ref.Rd w' 0 w.heap.size rr Sc := fun W hw h => by
        have h2 := Ref.rhash rr 0 w.heap.size Sb W h (by have := HR.out.lt; omega) hw
        have e2 : Sb.rawS 32 = Sc := by
          rw [hSb, hSc, show 48 + 32 * 0 = 16 + 32 * 0 + 32 by omega]
          exact stAt_raw l (16 + 32 * 0) 32
        rwa [e2, ← hhI] at h2
      have hH2 : ∀ W, w.heap.size ≤ W.heap.size → Ref.Rd W 0 w.heap.size rr Sc → Calls Try.prog 54 #[.pointer (some ⟨rr, 0, none⟩)] W fun e w' => e = .returned (hashV hV) ∧ Kept (Just rr) W w' ∧ Ref.Rd w' 0 w.heap.size rr Sd := fun W hw h => by
        have h2 := Ref.rhash rr 0 w.heap.size Sc W h (by have := HR.out.lt; omega) hw
        have e2 : Sc.rawS 32 = Sd := by
          rw [hSc, hSd, show 80 + 32 * 0 = 48 + 32 * 0 + 32 by omega]
          exact stAt_raw l (48 + 32 * 0) 32
        rwa [e2, ← hhV] at h2
      have hI32 : hI.length = 32 := by rw [hhI]; exact hashO_len _
      have hV32 : hV.length = 32 := by rw [hhV]; exact hashO_len _
      obtain ⟨ps, hps⟩ : ∃ h, h = hashesO (stAt l 8) 0 := ⟨_, rfl⟩
      have hr0 := HR.out.rd
      rw [← hSa] at hr0
      rw [← hps] at hO6
      obtain ⟨a3, c3, rfl⟩ := hO6.form
      have hSde : Sd = if 80 + 32 * 0 ≤ l.length then ⟨l.drop (80 + 32 * 0), 0⟩ else ⟨[], 21⟩ := by rw [hSd]; rfl
      have hEr21 : l.length < 80 + 32 * 0 → er = 21 ∧ q = zeroPf := fun hs => by
        have h1 : readEP l = 21 := by
          unfold readEP
          rw [← HQE.out.2.2.1, if_neg (by have := HSM.out; omega), if_pos (by rcases HOR.out with h | h <;> omega)]
        refine ⟨by rw [HQE.out.2.1, h1], ?_⟩
        rw [HQE.out.1]
        unfold readQP
        rw [h1]
        rfl
      have hsh : l.length < 80 + 32 * 0 := hshort0
      have HNum := hid hNum
      have HH1 := hid hH1
      have HH2 := hid hH2
      have H32 := hid (And.intro hI32 hV32)
      have HE := hid hEb
      have HSD := hid (And.intro hSde hEr21)
      have HQ := hid (And.intro HR.out.lt (And.intro hr0.lt hP6.lt))
      have kR := HR.out.kept
      have hzR := HR.out.hz
      have hok0 : (zeroPf).Ok := zeroPf_ok
      clear hSa hSb hSc hSd hEn hhI hhV hEb hNum hH1 hH2 hI32 hV32 hps hSde hEr21 HR HM HQE
      go_wp2_with fail
      refine (HNum.out _ hr0).mono ?_
      rintro e w3 ⟨rfl, k3, r3⟩
      have hq := HQ.out
      have kw3 := kR.then k3 (fun i hi h => by have h : i = rr := h; omega)
      have hz3 := hzR.kept k3 (fun h => by have h : w.heap.size = rr := h; omega)
      have hP3 := hP6.kept k3 (fun h => by have h : g6 = rr := h; omega)
      have hO3 := hO6.kept k3 (fun q2 hq2 h => by have h : q2 = rr := h; have := (hO6.2.own q2 hq2).1; omega)
      clear hr0 k3 kR hzR hP6 hO6 hq
      go_wp2_with fail
      refine (HH1.out _ kw3.size r3).mono ?_
      rintro e w4 ⟨rfl, k4, r4⟩
      have hq := HQ.out
      have kw4 := kw3.then k4 (fun i hi h => by have h : i = rr := h; omega)
      have hz4 := hz3.kept k4 (fun h => by have h : w.heap.size = rr := h; omega)
      have hP4 := hP3.kept k4 (fun h => by have h : g6 = rr := h; omega)
      have hO4 := hO3.kept k4 (fun q2 hq2 h => by have h : q2 = rr := h; have := (hO3.2.own q2 hq2).1; omega)
      clear r3 k4 kw3 hz3 hP3 hO3 hq
      have hI' := H32.out.1
      have HCI := hid (pf_cut_i (.slice a3 ps.length c3) hok0 hI)
      go_wp2_with (first | (refine pf_store rfl _ _ _ rfl rfl rfl hP4 hok0 hI' (by kernel_rfl) (by decide) HCI.out ?_; intro w5 hP5 k5) | fail)
      have hq := HQ.out
      have r5 := r4.kept k5 (fun q2 h1 h2 h => by have h : q2 = g6 := h; omega) (fun h => by have h : rr = g6 := h; omega)
      have kw5 := kw4.then k5 (fun i hi h => by have h : i = g6 := h; omega)
      have hz5 := hz4.kept k5 (fun h => by have h : w.heap.size = g6 := h; omega)
      have hO5 := hO4.kept k5 (fun q2 hq2 h => by have h : q2 = g6 := h; have := (hO4.2.own q2 hq2).1; omega)
      clear r4 k5 kw4 hz4 hP4 hO4 hq
      refine (HH2.out _ kw5.size r5).mono ?_
      rintro e w6 ⟨rfl, k6, r6⟩
      have hq := HQ.out
      have kw6 := kw5.then k6 (fun i hi h => by have h : i = rr := h; omega)
      have hz6 := hz5.kept k6 (fun h => by have h : w.heap.size = rr := h; omega)
      have hP6 := hP5.kept k6 (fun h => by have h : g6 = rr := h; omega)
      have hO6 := hO5.kept k6 (fun q2 hq2 h => by have h : q2 = rr := h; have := (hO5.2.own q2 hq2).1; omega)
      clear r5 k6 kw5 hz5 hP5 hO5 hq
      have hV' := H32.out.2
      have hok1 : Pf.Ok ⟨zeroPf.path, zeroPf.e, ⟨hI, zeroPf.x.v⟩⟩ := ⟨zeroPf_ok.1, hI', rfl⟩
      have HCV := hid (pf_cut_v (.slice a3 ps.length c3) hok1 hV)
      have hzall : (pfC (.slice none 0 0) zeroPf).toArray.all (·.oneCell') = true := pfC_one (Rh.nil 0 w)
      have HALL := hid hzall
      clear hzall
      have hSd21 : Sd = ⟨[], 21⟩ := by rw [HSD.out.1, if_neg (by omega)]
      have HEQ := hid (HSD.out.2 (by omega))
      rw [hSd21] at r6
      clear hSd21
      go_wp2_with (first | (refine pf_store rfl _ _ _ rfl rfl rfl hP6 hok1 hV' (by kernel_rfl) (by decide) HCV.out ?_; intro w7 hP7 k7; have r7 := r6.kept k7 (fun q2 h1 h2 h => by have h : q2 = g6 := h; have := HQ.out; omega) (fun h => by have h : rr = g6 := h; have := HQ.out; omega); have c1 : w7.cell? ⟨rr, 1, none⟩ = some (.int .i64 21) := rd_cell r7) | fail)
      have hq := HQ.out
      have kw7 := kw6.then k7 (fun i hi h => by have h : i = g6 := h; omega)
      have hz7 := hz6.kept k7 (fun h => by have h : w.heap.size = g6 := h; omega)
      have hO7 := hO6.kept k7 (fun q2 hq2 h => by have h : q2 = g6 := h; have := (hO6.2.own q2 hq2).1; omega)
      clear r6 k7 kw6 hz6 hP6 hO6 hq
      have C1 := hid c1
      have hz66 := hid hz
      clear c1
      refine wp_region_plan (Kept (Just w.heap.size) w7) [{ k := 5, uses := [100], spends := [100], fact := fun _ W => Blk W w.heap.size (pfC (.slice none 0 0) zeroPf).toArray 63 }, { k := 100, uses := [], fact := fun _ W => ∃ z : Array Value, z.size = 66 ∧ Blk W w.heap.size z 63 }] [100] (by kernel_rfl) (by kernel_rfl) (by kernel_rfl) (by rfl) ?pas ((Kept.refl _ w7).drew) ?sas ?wak
      case pas =>
        intro f hf
        simp only [List.mem_cons, List.not_mem_nil, or_false] at hf
        rcases hf with rfl | rfl
        · exact ⟨undef, trivial⟩
        · exact ⟨undef, trivial⟩
      case sas =>
        intro k hk
        have hk : k = 100 := by simpa using hk
        subst hk
        exact ⟨_, hz66.out, hz7.drew⟩
      iterate 5 (refine wpPar_pure rfl (by rfl) _ (fun W hW => by
          have c1 := (hW.cell (p := ⟨rr, 1, none⟩) (block_lt_of_cell C1.out) (fun h => by have h : rr = w.heap.size := h; have := HQ.out; omega)).trans C1.out
          go_simp
          exact rfl) ?_; simp only [Act.put, List.setIfInBounds_toArray, List.set_cons_zero, List.set_cons_succ])
      refine wpPar_adds rfl (by rfl) (fun W hW hd => ?_) (fun v5 hv => ?_)
      · obtain ⟨z3, hz3, hR3⟩ : ∃ z : Array Value, z.size = 66 ∧ Blk W w.heap.size z 63 := hd 100 (List.Mem.head _)
        refine gives_store7 _ _ _ rfl rfl rfl hR3 aP66 hz3 HALL.out (fun W' hb hk => ⟨hW.trans hk, trivial, hb, keeps_of fun f hf hs _ hne u hfu => ?_⟩)
        simp only [List.mem_cons, List.not_mem_nil, or_false] at hf
        rcases hf with rfl | rfl
        · exact absurd rfl hne
        · exact absurd (List.Mem.head _) hs
      simp only [Act.put]
      iterate 1 (refine wpPar_pure rfl (by rfl) _ (fun W hW => by
          go_simp
          exact rfl) ?_; simp only [Act.put, List.setIfInBounds_toArray, List.set_cons_zero, List.set_cons_succ])
      refine wpPar_nil (fun W hW hG => ?_)
      have hR9 : Blk W w.heap.size (pfC (.slice none 0 0) zeroPf).toArray 63 := hG 5
      have k9 := hW
      clear hG hW
      go_wp2
      exact bodyPost_ret (v := .tuple #[pfV (.slice none 0 0) zeroPf, .int .i64 21]) (res_cell_tmp rfl _ rfl rfl hR9 aP66) rfl ⟨.slice none 0 0, by rw [HEQ.out.1, HEQ.out.2], kw7.then k9 (fun i hi h => by have h : i = w.heap.size := h; omega), by rw [HEQ.out.2]; exact Rh.nil _ _⟩
  · have hE1 : S1.e = 0 := by rw [H8.out.2, if_pos (by omega)]
    rw [hE1] at c1
    by_cases hbig : 256 < n
    · have hbz : (256 : Int) < (n : Int) := by omega
      have hall : (pfC (.slice none 0 0) zeroPf).toArray.all (·.oneCell') = true := pfC_one (Rh.nil 0 w)
      have HALL := hid hall
      have HEQ : Hid (er = 22 ∧ q = zeroPf) := hid (by
        obtain ⟨h1, h2, h3, _⟩ := HQE.out
        have e1 : readEP l = 22 := by unfold readEP; rw [← h3, if_pos hbig]
        refine ⟨by rw [h2, e1], ?_⟩
        rw [h1]; unfold readQP; rw [e1]; rfl)
      clear hall hn64
      go_wp2_with (first | go_skip | (refine wpList_store_blk rfl _ _ _ rfl rfl rfl hZ2 aP66 hz HALL.out ?_; intro w9 hR9 k9) | fail)
      exact bodyPost_ret (v := .tuple #[pfV (.slice none 0 0) zeroPf, .int .i64 22]) (res_cell_tmp rfl _ rfl rfl hR9 aP66) rfl ⟨.slice none 0 0, by rw [HEQ.out.1, HEQ.out.2], k02.then k9 (fun i hi h => by have h : i = w.heap.size := h; omega), by rw [HEQ.out.2]; exact Rh.nil _ _⟩
    · have hbz : ¬ (256 : Int) < (n : Int) := by omega
      have HSM := hid (show n ≤ 256 by omega)
      have hbd : decide ((256 : Int) < (n : Int)) = false := by simpa using hbz
      clear hbig hn64
      have HI : Hid (RRMid 23 63 w z rr w2.heap.size l 0 (w2.alloc (.cells Try.zeroCells63 63))) := hid (by
        have ka : Kept None w2 (w2.alloc (.cells Try.zeroCells63 63)) := (Kept.refl _ _).alloc _
        refine ⟨k02.trans ka, hZ2.kept ka (fun h => h), ?_, ⟨.slice none 0 0, Blk.new w2 _ _, Ho.nil _ _ _⟩, ?_⟩
        · have := HQE.out.2.2.2
          rw [show 8 + 32 * 0 = 8 from rfl, ← this]
          exact r2.kept ka (fun _ _ _ h => h) (fun h => h)
        · simp
          omega)
      obtain ⟨g6, hg6⟩ : ∃ g, g = w2.heap.size := ⟨_, rfl⟩
      clear k02 hZ2 r2 hE1
      go_wp2
      rw [← hg6] at HI ⊢
      clear hg6 hrw hrlt c1
      go_loopg [7] n (fun kx s7 wr => ∃ k : Nat, s7 = .int .u64 k ∧ k ≤ n ∧ n - k ≤ kx ∧ Hid (RRMid 23 63 w z rr g6 l k wr))
      case atStart => exact ⟨0, rfl, Nat.zero_le _, Nat.le_refl _, HI⟩
      case round =>
        obtain ⟨k, rfl, hk, hkx, HR⟩ := hrel
        clear HI
        by_cases hlt : k < n
        · have hlz : (k : Int) < (n : Int) := by omega
          by_cases herr : 8 + 32 * k ≤ l.length
          · obtain ⟨s, hP6, hO6⟩ := HR.out.pf
            obtain ⟨S, hS⟩ : ∃ S, S = stAt l (8 + 32 * k) := ⟨_, rfl⟩
            obtain ⟨S2, hS2⟩ : ∃ S, S = stAt l (8 + 32 * (k + 1)) := ⟨_, rfl⟩
            have hSe : S.e = 0 := by rw [hS]; unfold stAt; rw [if_pos herr]
            obtain ⟨hh, hhh⟩ : ∃ h, h = hashO S := ⟨_, rfl⟩
            obtain ⟨ps, hps⟩ : ∃ h, h = hashesO (stAt l 8) k := ⟨_, rfl⟩
            have hnext : hashesO (stAt l 8) (k + 1) = ps ++ [hh] := by
              show hashesO (stAt l 8) k ++ [hashO ((stAt l 8).rawS (32 * k : Nat))] = _
              rw [stAt_raw, ← hS, ← hhh, ← hps]
            have hHH : ∀ W, wr.heap.size ≤ W.heap.size → Ref.Rd W 0 w.heap.size rr S → Calls Try.prog 54 #[.pointer (some ⟨rr, 0, none⟩)] W fun e w' => e = .returned (hashV hh) ∧ Kept (Just rr) W w' ∧ Ref.Rd w' 0 w.heap.size rr S2 := fun W hw h => by
              have h2 := Ref.rhash rr 0 w.heap.size S W h (by have := HR.out.lt; omega) (by have := HR.out.kept.size; omega)
              have e2 : S.rawS 32 = S2 := by
                rw [hS, hS2]
                exact stAt_raw l (8 + 32 * k) 32
              rwa [e2, ← hhh] at h2
            have hr0 := HR.out.rd
            rw [← hS] at hr0
            have c1 := rd_cell hr0
            rw [hSe] at c1
            rw [← hps] at hO6
            obtain ⟨a3, c3, rfl⟩ := hO6.form
            have hlen : ps.length = k := by rw [hps]; exact hashesO_len _ _
            have h32 : hh.length = 32 := by rw [hhh]; exact hashO_len _
            have hRd := hid hr0
            have hO := hid hO6
            have HH := hid hHH
            have H32 := hid h32
            have HLN := hid hlen
            have HNX := hid hnext
            have HS2 := hid hS2
            have HQ := hid (And.intro HR.out.lt (And.intro hr0.lt (And.intro hP6.lt HSM.out)))
            have HC := hid (fun W (hW : Kept (fun q => q = rr ∨ (Value.slice a3 ps.length c3).ownBlock = some q) wr W) => (show W.cell? ⟨g6, 0, none⟩ = some (.slice a3 ps.length c3) from pf_c0 (hP6.kept hW (fun h => by
              have := HQ.out
              rcases h with h | h
              · omega
              · have := (hO6.2.own g6 h).1; omega))))
            have HP6 := hid hP6
            clear hS hS2 hhh hps hnext hHH hr0 hO6 hlen h32 hP6 hSe
            go_wp2_with fail
            clear c1
            have hTP : (Value.slice a3 ps.length c3).ownBlock = (Value.slice a3 ps.length c3).ownBlock := rfl
            refine wp_region_plan_tail 7 (Kept (fun q => q = rr ∨ (Value.slice a3 ps.length c3).ownBlock = some q) wr) [{ k := 3, uses := [100], spends := [100], pure := fun u => u = hashV hh, fact := fun _ W => Ref.Rd W 0 w.heap.size rr S2 },
              { k := 4, uses := [], pure := fun u => ∃ g, u = .slice (some ⟨g, 0, none⟩) 1 1, fact := fun u W => ∃ g, u = .slice (some ⟨g, 0, none⟩) 1 1 ∧ wr.heap.size ≤ g ∧ Blk W g (hh.map u8v).toArray 23 },
              { k := 5, uses := [4, 101], spends := [101], pure := fun u => ∃ a n c, u = .slice a n c, fact := fun u W => Ho 23 W (g6 + 1) u (ps ++ [hh]) },
              { k := 100, uses := [], fact := fun _ W => Ref.Rd W 0 w.heap.size rr S },
              { k := 101, uses := [], fact := fun _ W => Ho 23 W (g6 + 1) (.slice a3 ps.length c3) ps }] [100, 101] (by kernel_rfl) (by kernel_rfl) (by kernel_rfl) (by rfl) ?pures ((Kept.refl _ wr).drew) ?starts ?walk
            case pures =>
              intro f hf
              simp only [List.mem_cons, List.not_mem_nil, or_false] at hf
              rcases hf with rfl | rfl | rfl | rfl | rfl
              · exact ⟨_, rfl⟩
              · exact ⟨_, 0, rfl⟩
              · exact ⟨_, none, 0, 0, rfl⟩
              · exact ⟨undef, trivial⟩
              · exact ⟨undef, trivial⟩
            case starts =>
              intro k hk
              have hk : k = 100 ∨ k = 101 := by simpa using hk
              rcases hk with rfl | rfl
              · exact hRd.out.kept ((Kept.refl None wr).drew) (fun _ _ _ h => h) (fun h => h)
              · exact hO.out.kept ((Kept.refl None wr).drew) (fun _ _ h => h)
            simp only [List.take_succ_cons, List.take_zero, List.drop_succ_cons, List.drop_zero]
            iterate 3 (refine wpPar_pure rfl (by rfl) _ (fun W hW => by
                have c0 := HC.out W hW
                go_simp
                exact rfl) ?_; simp only [Act.put, List.setIfInBounds_toArray, List.set_cons_zero, List.set_cons_succ])
            refine wpPar_adds rfl (by rfl) (fun W hW hd => ?_) (fun v3 hv => ?_)
            · have rW : Ref.Rd W 0 w.heap.size rr S := hd 100 (List.Mem.head _)
              unfold Gives
              go_simp
              refine gives_call (HH.out W hW.size rW) ?_
              rintro e W' ⟨rfl, k, r4⟩
              refine ⟨_, rfl, hW.trans (k.mono (fun _ _ h => .inl h)), rfl, r4, keeps_of fun f hf hs _ hne u hfu => ?_⟩
              simp only [List.mem_cons, List.not_mem_nil, or_false] at hf
              rcases hf with rfl | rfl | rfl | rfl | rfl
              · exact absurd rfl hne
              · obtain ⟨g, e1, e2, e3⟩ := hfu
                exact ⟨g, e1, e2, e3.kept k (fun h => by have h : g = rr := h; have := HQ.out; omega)⟩
              · exact Ho.kept hfu k (fun q hq h => by have h : q = rr := h; have := HQ.out; have := (Po.own hfu.2 q hq).1; omega)
              · exact absurd (List.Mem.head _) hs
              · exact Ho.kept hfu k (fun q hq h => by have h : q = rr := h; have := HQ.out; have := (Po.own hfu.2 q hq).1; omega)
            obtain rfl : v3 = hashV hh := hv
            simp only [Act.put, List.setIfInBounds_toArray, List.set_cons_zero, List.set_cons_succ]
            refine wpPar_adds rfl (by rfl) (fun W hW hd => ?_) (fun v4 hv => ?_)
            · unfold Gives
              rw [exec_one_item 59 (.tmp 39) rfl rtHashes (by decide) (A := (hh.map u8v).toArray) rfl (by simpa using H32.out)]
              · refine ⟨hW.alloc _, ⟨_, rfl⟩, ⟨_, rfl, hW.size, Blk.new _ _ _⟩, keeps_of fun f hf hs _ hne u hfu => ?_⟩
                have ka : Kept None W (W.alloc (.cells (hh.map u8v).toArray 23)) := (Kept.refl None W).alloc _
                simp only [List.mem_cons, List.not_mem_nil, or_false] at hf
                rcases hf with rfl | rfl | rfl | rfl | rfl
                · exact Ref.Rd.kept hfu ka (fun _ _ _ h => h) (fun h => h)
                · exact absurd rfl hne
                · exact Ho.kept hfu ka (fun _ _ h => h)
                · exact Ref.Rd.kept hfu ka (fun _ _ _ h => h) (fun h => h)
                · exact Ho.kept hfu ka (fun _ _ h => h)
            obtain ⟨g4, rfl⟩ : ∃ g, v4 = .slice (some ⟨g, 0, none⟩) 1 1 := hv
            simp only [Act.put, List.setIfInBounds_toArray, List.set_cons_zero, List.set_cons_succ]
            refine wpPar_adds rfl (by rfl) (fun W hW hd => ?_) (fun v5 hv => ?_)
            · obtain ⟨g, hgg, hg2, hg3⟩ : ∃ g, Value.slice (some ⟨g4, 0, none⟩) 1 1 = .slice (some ⟨g, 0, none⟩) 1 1 ∧ wr.heap.size ≤ g ∧ Blk W g (hh.map u8v).toArray 23 := hd 4 (List.Mem.head _)
              obtain rfl : g4 = g := by simpa using hgg
              have hOW : Ho 23 W (g6 + 1) (.slice a3 ps.length c3) ps := hd 101 (List.Mem.tail _ (List.Mem.head _))
              have hsz := hW.size
              have hu := Hs.ofBlk hg3 H32.out
              refine gives_append_po _ _ 59 rfl rtHashes (by decide) rfl rfl hOW.2 hu.2 (hsC_one _) (by rw [hsC_len, hsC_len]; have := HLN.out; simp; omega) (by have := HQ.out; omega) ?_
              intro a' n' c' W' hP k hown
              have hown0 : ∀ q, (Value.slice a3 ps.length c3).ownBlock = some q → (g6 + 1) ≤ q ∧ q < wr.heap.size := fun q hq => hO.out.2.own q hq
              refine ⟨hW.trans (k.mono (fun q _ h => .inr h)), ⟨_, _, _, rfl⟩, ⟨hOW.1.append hu.1, by rw [hsC_append]; exact hP⟩, keeps_of fun f hf hs _ hne u hfu => ?_⟩
              simp only [List.mem_cons, List.not_mem_nil, or_false] at hf
              rcases hf with rfl | rfl | rfl | rfl | rfl
              · exact Ref.Rd.kept hfu k (fun q h1 h2 h => by have := (hown0 q h).1; have := HQ.out; omega) (fun h => by have := (hown0 _ h).1; have := HQ.out; omega)
              · obtain ⟨g, e1, e2, e3⟩ := hfu
                exact ⟨g, e1, e2, e3.kept k (fun h => by have := (hown0 _ h).2; omega)⟩
              · exact absurd rfl hne
              · exact Ref.Rd.kept hfu k (fun q h1 h2 h => by have := (hown0 q h).1; have := HQ.out; omega) (fun h => by have := (hown0 _ h).1; have := HQ.out; omega)
              · exact absurd (List.Mem.head _) hs
            obtain ⟨a5, n5, c5, rfl⟩ : ∃ a n c, v5 = .slice a n c := hv
            simp only [Act.put, List.setIfInBounds_toArray, List.set_cons_zero, List.set_cons_succ]
            iterate 1 (refine wpPar_pure rfl (by rfl) _ (fun W hW => by
                go_simp
                exact rfl) ?_; simp only [Act.put, List.setIfInBounds_toArray, List.set_cons_zero, List.set_cons_succ])
            refine wpPar_nil (fun W hW hG => ?_)
            have hRW : Ref.Rd W 0 w.heap.size rr S2 := hG 3
            have hOW : Ho 23 W (g6 + 1) (.slice a5 n5 c5) (ps ++ [hh]) := hG 5
            have hown0 : ∀ q, (Value.slice a3 ps.length c3).ownBlock = some q → (g6 + 1) ≤ q ∧ q < wr.heap.size := fun q hq => hO.out.2.own q hq
            have hq := HQ.out
            have hP6W := HP6.out.kept hW (fun h => by
              rcases h with h | h
              · omega
              · have := (hown0 g6 h).1; omega)
            have hzW := HR.out.hz.kept hW (fun h => by
              rcases h with h | h
              · omega
              · have := (hown0 _ h).1; omega)
            have kW : Kept None w W := HR.out.kept.then hW (fun i hi h => by
              rcases h with h | h
              · omega
              · have := (hown0 i h).1; omega)
            have c0 := pf_c0 hP6W
            have f0 := hP6W.free 0
            have hWs := hW.size
            have HRM : Hid (RRMid 23 63 w z rr g6 l (k + 1) (W.setCell ⟨g6, 0, none⟩ (.slice a5 n5 c5))) := hid (by
              have k1 := Kept.one W g6 0 (.slice a5 n5 c5)
              refine ⟨kW.setCell (p := ⟨g6, 0, none⟩) (fun h => by have h : g6 < w.heap.size := h; omega) _, hzW.setOther (by show w.heap.size ≠ g6; omega) _, ?_, ⟨.slice a5 n5 c5, ?_, ?_⟩, ?_⟩
              · have := HS2.out
                rw [← this]
                exact hRW.kept k1 (fun q h1 h2 h => by have h : q = g6 := h; omega) (fun h => by have h : rr = g6 := h; omega)
              · have h := hP6W.set 0 (.slice a5 n5 c5)
                simpa [pfC] using h
              · rw [HNX.out]
                exact hOW.kept k1 (fun q hq2 h => by have h : q = g6 := h; have := (hOW.2.own q hq2).1; omega)
              · refine ⟨by omega, by omega, ?_⟩
                have := k1.size
                omega)
            clear hG hW hRW hOW hown0 hq hP6W hzW kW hWs HC HP6 HR
            have wk : IntKind.u64.wrap ((k : Int) + 1) = (k : Int) + 1 := by rw [IntKind.wrap_u64]; have := HSM.out; omega
            go_wp2
            go_roundg (n - (k + 1))
            case measure => omega
            case rel => exact ⟨k + 1, by go_num, by omega, Nat.le_refl _, HRM⟩
          · have hSe : (stAt l (8 + 32 * k)).e = 21 := by unfold stAt; rw [if_neg herr]
            have c1 := rd_cell HR.out.rd
            rw [hSe] at c1
            have HOR := hid (show k = n ∨ l.length < 8 + 32 * k by omega)
            have hshort0 : l.length < 80 + 32 * k := by omega
            clear hSe
            obtain ⟨s, hP6, hO6⟩ := HR.out.pf
            obtain ⟨Sa, hSa⟩ : ∃ S, S = stAt l (8 + 32 * k) := ⟨_, rfl⟩
            obtain ⟨Sb, hSb⟩ : ∃ S, S = stAt l (16 + 32 * k) := ⟨_, rfl⟩
            obtain ⟨Sc, hSc⟩ : ∃ S, S = stAt l (48 + 32 * k) := ⟨_, rfl⟩
            obtain ⟨Sd, hSd⟩ : ∃ S, S = stAt l (80 + 32 * k) := ⟨_, rfl⟩
            obtain ⟨En, hEn⟩ : ∃ e, e = (stAt l (8 + 32 * k)).num := ⟨_, rfl⟩
            obtain ⟨hI, hhI⟩ : ∃ h, h = hashO Sb := ⟨_, rfl⟩
            obtain ⟨hV, hhV⟩ : ∃ h, h = hashO Sc := ⟨_, rfl⟩
            have hEb : 0 ≤ En ∧ En < 18446744073709551616 := by rw [hEn]; exact ⟨St.num_ge _, St.num_lt _⟩
            have hNum : ∀ W, Ref.Rd W 0 w.heap.size rr Sa → Calls Try.prog 55 #[.pointer (some ⟨rr, 0, none⟩)] W fun e w' => e = .returned (.int .u64 En) ∧ Kept (Just rr) W w' ∧ Ref.Rd w' 0 w.heap.size rr Sb := fun W h => by
              have h2 := Ref.rnum rr 0 w.heap.size Sa W h (by have := HR.out.lt; omega)
              have e1 : Sa.num = En := by rw [hSa, hEn]
              have e2 : Sa.numS = Sb := by rw [hSa, hSb, stAt_num, show 8 + 32 * k + 8 = 16 + 32 * k by omega]
              rwa [e1, e2] at h2
            have hH1 : ∀ W, w.heap.size ≤ W.heap.size → Ref.Rd W 0 w.heap.size rr Sb → Calls Try.prog 54 #[.pointer (some ⟨rr, 0, none⟩)] W fun e w' => e = .returned (hashV hI) ∧ Kept (Just rr) W w' ∧ Ref.Rd w' 0 w.heap.size rr Sc := fun W hw h => by
              have h2 := Ref.rhash rr 0 w.heap.size Sb W h (by have := HR.out.lt; omega) hw
              have e2 : Sb.rawS 32 = Sc := by
                rw [hSb, hSc, show 48 + 32 * k = 16 + 32 * k + 32 by omega]
                exact stAt_raw l (16 + 32 * k) 32
              rwa [e2, ← hhI] at h2
            have hH2 : ∀ W, w.heap.size ≤ W.heap.size → Ref.Rd W 0 w.heap.size rr Sc → Calls Try.prog 54 #[.pointer (some ⟨rr, 0, none⟩)] W fun e w' => e = .returned (hashV hV) ∧ Kept (Just rr) W w' ∧ Ref.Rd w' 0 w.heap.size rr Sd := fun W hw h => by
              have h2 := Ref.rhash rr 0 w.heap.size Sc W h (by have := HR.out.lt; omega) hw
              have e2 : Sc.rawS 32 = Sd := by
                rw [hSc, hSd, show 80 + 32 * k = 48 + 32 * k + 32 by omega]
                exact stAt_raw l (48 + 32 * k) 32
              rwa [e2, ← hhV] at h2
            have hI32 : hI.length = 32 := by rw [hhI]; exact hashO_len _
            have hV32 : hV.length = 32 := by rw [hhV]; exact hashO_len _
            obtain ⟨ps, hps⟩ : ∃ h, h = hashesO (stAt l 8) k := ⟨_, rfl⟩
            have hr0 := HR.out.rd
            rw [← hSa] at hr0
            rw [← hps] at hO6
            obtain ⟨a3, c3, rfl⟩ := hO6.form
            have hSde : Sd = if 80 + 32 * k ≤ l.length then ⟨l.drop (80 + 32 * k), 0⟩ else ⟨[], 21⟩ := by rw [hSd]; rfl
            have hEr21 : l.length < 80 + 32 * k → er = 21 ∧ q = zeroPf := fun hs => by
              have h1 : readEP l = 21 := by
                unfold readEP
                rw [← HQE.out.2.2.1, if_neg (by have := HSM.out; omega), if_pos (by rcases HOR.out with h | h <;> omega)]
              refine ⟨by rw [HQE.out.2.1, h1], ?_⟩
              rw [HQE.out.1]
              unfold readQP
              rw [h1]
              rfl
            have hsh : l.length < 80 + 32 * k := hshort0
            have HNum := hid hNum
            have HH1 := hid hH1
            have HH2 := hid hH2
            have H32 := hid (And.intro hI32 hV32)
            have HE := hid hEb
            have HSD := hid (And.intro hSde hEr21)
            have HQ := hid (And.intro HR.out.lt (And.intro hr0.lt hP6.lt))
            have kR := HR.out.kept
            have hzR := HR.out.hz
            have hok0 : (zeroPf).Ok := zeroPf_ok
            clear hSa hSb hSc hSd hEn hhI hhV hEb hNum hH1 hH2 hI32 hV32 hps hSde hEr21 HR HM HQE
            go_wp2_with fail
            refine (HNum.out _ hr0).mono ?_
            rintro e w3 ⟨rfl, k3, r3⟩
            have hq := HQ.out
            have kw3 := kR.then k3 (fun i hi h => by have h : i = rr := h; omega)
            have hz3 := hzR.kept k3 (fun h => by have h : w.heap.size = rr := h; omega)
            have hP3 := hP6.kept k3 (fun h => by have h : g6 = rr := h; omega)
            have hO3 := hO6.kept k3 (fun q2 hq2 h => by have h : q2 = rr := h; have := (hO6.2.own q2 hq2).1; omega)
            clear hr0 k3 kR hzR hP6 hO6 hq
            go_wp2_with fail
            refine (HH1.out _ kw3.size r3).mono ?_
            rintro e w4 ⟨rfl, k4, r4⟩
            have hq := HQ.out
            have kw4 := kw3.then k4 (fun i hi h => by have h : i = rr := h; omega)
            have hz4 := hz3.kept k4 (fun h => by have h : w.heap.size = rr := h; omega)
            have hP4 := hP3.kept k4 (fun h => by have h : g6 = rr := h; omega)
            have hO4 := hO3.kept k4 (fun q2 hq2 h => by have h : q2 = rr := h; have := (hO3.2.own q2 hq2).1; omega)
            clear r3 k4 kw3 hz3 hP3 hO3 hq
            have hI' := H32.out.1
            have HCI := hid (pf_cut_i (.slice a3 ps.length c3) hok0 hI)
            go_wp2_with (first | (refine pf_store rfl _ _ _ rfl rfl rfl hP4 hok0 hI' (by kernel_rfl) (by decide) HCI.out ?_; intro w5 hP5 k5) | fail)
            have hq := HQ.out
            have r5 := r4.kept k5 (fun q2 h1 h2 h => by have h : q2 = g6 := h; omega) (fun h => by have h : rr = g6 := h; omega)
            have kw5 := kw4.then k5 (fun i hi h => by have h : i = g6 := h; omega)
            have hz5 := hz4.kept k5 (fun h => by have h : w.heap.size = g6 := h; omega)
            have hO5 := hO4.kept k5 (fun q2 hq2 h => by have h : q2 = g6 := h; have := (hO4.2.own q2 hq2).1; omega)
            clear r4 k5 kw4 hz4 hP4 hO4 hq
            refine (HH2.out _ kw5.size r5).mono ?_
            rintro e w6 ⟨rfl, k6, r6⟩
            have hq := HQ.out
            have kw6 := kw5.then k6 (fun i hi h => by have h : i = rr := h; omega)
            have hz6 := hz5.kept k6 (fun h => by have h : w.heap.size = rr := h; omega)
            have hP6 := hP5.kept k6 (fun h => by have h : g6 = rr := h; omega)
            have hO6 := hO5.kept k6 (fun q2 hq2 h => by have h : q2 = rr := h; have := (hO5.2.own q2 hq2).1; omega)
            clear r5 k6 kw5 hz5 hP5 hO5 hq
            have hV' := H32.out.2
            have hok1 : Pf.Ok ⟨zeroPf.path, zeroPf.e, ⟨hI, zeroPf.x.v⟩⟩ := ⟨zeroPf_ok.1, hI', rfl⟩
            have HCV := hid (pf_cut_v (.slice a3 ps.length c3) hok1 hV)
            have hzall : (pfC (.slice none 0 0) zeroPf).toArray.all (·.oneCell') = true := pfC_one (Rh.nil 0 w)
            have HALL := hid hzall
            clear hzall
            have hSd21 : Sd = ⟨[], 21⟩ := by rw [HSD.out.1, if_neg (by omega)]
            have HEQ := hid (HSD.out.2 (by omega))
            rw [hSd21] at r6
            clear hSd21
            go_wp2_with (first | (refine pf_store rfl _ _ _ rfl rfl rfl hP6 hok1 hV' (by kernel_rfl) (by decide) HCV.out ?_; intro w7 hP7 k7; have r7 := r6.kept k7 (fun q2 h1 h2 h => by have h : q2 = g6 := h; have := HQ.out; omega) (fun h => by have h : rr = g6 := h; have := HQ.out; omega); have c1 : w7.cell? ⟨rr, 1, none⟩ = some (.int .i64 21) := rd_cell r7) | fail)
            have hq := HQ.out
            have kw7 := kw6.then k7 (fun i hi h => by have h : i = g6 := h; omega)
            have hz7 := hz6.kept k7 (fun h => by have h : w.heap.size = g6 := h; omega)
            have hO7 := hO6.kept k7 (fun q2 hq2 h => by have h : q2 = g6 := h; have := (hO6.2.own q2 hq2).1; omega)
            clear r6 k7 kw6 hz6 hP6 hO6 hq
            have C1 := hid c1
            have hz66 := hid hz
            clear c1
            refine wp_region_plan (Kept (Just w.heap.size) w7) [{ k := 5, uses := [100], spends := [100], fact := fun _ W => Blk W w.heap.size (pfC (.slice none 0 0) zeroPf).toArray 63 }, { k := 100, uses := [], fact := fun _ W => ∃ z : Array Value, z.size = 66 ∧ Blk W w.heap.size z 63 }] [100] (by kernel_rfl) (by kernel_rfl) (by kernel_rfl) (by rfl) ?pbs ((Kept.refl _ w7).drew) ?sbs ?wbk
            case pbs =>
              intro f hf
              simp only [List.mem_cons, List.not_mem_nil, or_false] at hf
              rcases hf with rfl | rfl
              · exact ⟨undef, trivial⟩
              · exact ⟨undef, trivial⟩
            case sbs =>
              intro k hk
              have hk : k = 100 := by simpa using hk
              subst hk
              exact ⟨_, hz66.out, hz7.drew⟩
            iterate 5 (refine wpPar_pure rfl (by rfl) _ (fun W hW => by
                have c1 := (hW.cell (p := ⟨rr, 1, none⟩) (block_lt_of_cell C1.out) (fun h => by have h : rr = w.heap.size := h; have := HQ.out; omega)).trans C1.out
                go_simp
                exact rfl) ?_; simp only [Act.put, List.setIfInBounds_toArray, List.set_cons_zero, List.set_cons_succ])
            refine wpPar_adds rfl (by rfl) (fun W hW hd => ?_) (fun v5 hv => ?_)
            · obtain ⟨z3, hz3, hR3⟩ : ∃ z : Array Value, z.size = 66 ∧ Blk W w.heap.size z 63 := hd 100 (List.Mem.head _)
              refine gives_store7 _ _ _ rfl rfl rfl hR3 aP66 hz3 HALL.out (fun W' hb hk => ⟨hW.trans hk, trivial, hb, keeps_of fun f hf hs _ hne u hfu => ?_⟩)
              simp only [List.mem_cons, List.not_mem_nil, or_false] at hf
              rcases hf with rfl | rfl
              · exact absurd rfl hne
              · exact absurd (List.Mem.head _) hs
            simp only [Act.put]
            iterate 1 (refine wpPar_pure rfl (by rfl) _ (fun W hW => by
                go_simp
                exact rfl) ?_; simp only [Act.put, List.setIfInBounds_toArray, List.set_cons_zero, List.set_cons_succ])
            refine wpPar_nil (fun W hW hG => ?_)
            have hR9 : Blk W w.heap.size (pfC (.slice none 0 0) zeroPf).toArray 63 := hG 5
            have k9 := hW
            clear hG hW
            go_wp2
            exact bodyPost_ret (v := .tuple #[pfV (.slice none 0 0) zeroPf, .int .i64 21]) (res_cell_tmp rfl _ rfl rfl hR9 aP66) rfl ⟨.slice none 0 0, by rw [HEQ.out.1, HEQ.out.2], kw7.then k9 (fun i hi h => by have h : i = w.heap.size := h; omega), by rw [HEQ.out.2]; exact Rh.nil _ _⟩
        · have hkn0 : k = n := by omega
          have hlz : ¬ (k : Int) < (n : Int) := by omega
          have HOR := hid (show k = n ∨ l.length < 8 + 32 * k by omega)
          clear hlt
          obtain ⟨s, hP6, hO6⟩ := HR.out.pf
          obtain ⟨Sa, hSa⟩ : ∃ S, S = stAt l (8 + 32 * k) := ⟨_, rfl⟩
          obtain ⟨Sb, hSb⟩ : ∃ S, S = stAt l (16 + 32 * k) := ⟨_, rfl⟩
          obtain ⟨Sc, hSc⟩ : ∃ S, S = stAt l (48 + 32 * k) := ⟨_, rfl⟩
          obtain ⟨Sd, hSd⟩ : ∃ S, S = stAt l (80 + 32 * k) := ⟨_, rfl⟩
          obtain ⟨En, hEn⟩ : ∃ e, e = (stAt l (8 + 32 * k)).num := ⟨_, rfl⟩
          obtain ⟨hI, hhI⟩ : ∃ h, h = hashO Sb := ⟨_, rfl⟩
          obtain ⟨hV, hhV⟩ : ∃ h, h = hashO Sc := ⟨_, rfl⟩
          have hEb : 0 ≤ En ∧ En < 18446744073709551616 := by rw [hEn]; exact ⟨St.num_ge _, St.num_lt _⟩
          have hNum : ∀ W, Ref.Rd W 0 w.heap.size rr Sa → Calls Try.prog 55 #[.pointer (some ⟨rr, 0, none⟩)] W fun e w' => e = .returned (.int .u64 En) ∧ Kept (Just rr) W w' ∧ Ref.Rd w' 0 w.heap.size rr Sb := fun W h => by
            have h2 := Ref.rnum rr 0 w.heap.size Sa W h (by have := HR.out.lt; omega)
            have e1 : Sa.num = En := by rw [hSa, hEn]
            have e2 : Sa.numS = Sb := by rw [hSa, hSb, stAt_num, show 8 + 32 * k + 8 = 16 + 32 * k by omega]
            rwa [e1, e2] at h2
          have hH1 : ∀ W, w.heap.size ≤ W.heap.size → Ref.Rd W 0 w.heap.size rr Sb → Calls Try.prog 54 #[.pointer (some ⟨rr, 0, none⟩)] W fun e w' => e = .returned (hashV hI) ∧ Kept (Just rr) W w' ∧ Ref.Rd w' 0 w.heap.size rr Sc := fun W hw h => by
            have h2 := Ref.rhash rr 0 w.heap.size Sb W h (by have := HR.out.lt; omega) hw
            have e2 : Sb.rawS 32 = Sc := by
              rw [hSb, hSc, show 48 + 32 * k = 16 + 32 * k + 32 by omega]
              exact stAt_raw l (16 + 32 * k) 32
            rwa [e2, ← hhI] at h2
          have hH2 : ∀ W, w.heap.size ≤ W.heap.size → Ref.Rd W 0 w.heap.size rr Sc → Calls Try.prog 54 #[.pointer (some ⟨rr, 0, none⟩)] W fun e w' => e = .returned (hashV hV) ∧ Kept (Just rr) W w' ∧ Ref.Rd w' 0 w.heap.size rr Sd := fun W hw h => by
            have h2 := Ref.rhash rr 0 w.heap.size Sc W h (by have := HR.out.lt; omega) hw
            have e2 : Sc.rawS 32 = Sd := by
              rw [hSc, hSd, show 80 + 32 * k = 48 + 32 * k + 32 by omega]
              exact stAt_raw l (48 + 32 * k) 32
            rwa [e2, ← hhV] at h2
          have hI32 : hI.length = 32 := by rw [hhI]; exact hashO_len _
          have hV32 : hV.length = 32 := by rw [hhV]; exact hashO_len _
          obtain ⟨ps, hps⟩ : ∃ h, h = hashesO (stAt l 8) k := ⟨_, rfl⟩
          have hr0 := HR.out.rd
          rw [← hSa] at hr0
          rw [← hps] at hO6
          obtain ⟨a3, c3, rfl⟩ := hO6.form
          have hSde : Sd = if 80 + 32 * k ≤ l.length then ⟨l.drop (80 + 32 * k), 0⟩ else ⟨[], 21⟩ := by rw [hSd]; rfl
          have hEr21 : l.length < 80 + 32 * k → er = 21 ∧ q = zeroPf := fun hs => by
            have h1 : readEP l = 21 := by
              unfold readEP
              rw [← HQE.out.2.2.1, if_neg (by have := HSM.out; omega), if_pos (by rcases HOR.out with h | h <;> omega)]
            refine ⟨by rw [HQE.out.2.1, h1], ?_⟩
            rw [HQE.out.1]
            unfold readQP
            rw [h1]
            rfl
          have hkn : k = n := hkn0
          have hFin : readPf l = ⟨ps, En, ⟨hI, hV⟩⟩ := by
            unfold readPf endR
            rw [← HQE.out.2.2.1, ← hkn, ← hps, ← hEn, ← hSb, ← hSc, ← hhI, ← hhV]
          have hEr : er = if l.length < 80 + 32 * k then 21 else if 2 < En ∨ 80 + 32 * k < l.length then 20 else 0 := by
            rw [HQE.out.2.1]
            unfold readEP endR
            rw [← HQE.out.2.2.1, ← hkn, ← hEn, if_neg (by have := HSM.out; omega)]
          have hQr : q = if er = 0 then ⟨ps, En, ⟨hI, hV⟩⟩ else zeroPf := by
            rw [HQE.out.1, HQE.out.2.1]
            unfold readQP
            rw [hFin]
          have HFE := hid (And.intro hEr hQr)
          have HNum := hid hNum
          have HH1 := hid hH1
          have HH2 := hid hH2
          have H32 := hid (And.intro hI32 hV32)
          have HE := hid hEb
          have HSD := hid (And.intro hSde hEr21)
          have HQ := hid (And.intro HR.out.lt (And.intro hr0.lt hP6.lt))
          have kR := HR.out.kept
          have hzR := HR.out.hz
          have hok0 : (zeroPf).Ok := zeroPf_ok
          clear hSa hSb hSc hSd hEn hhI hhV hEb hNum hH1 hH2 hI32 hV32 hps hSde hEr21 HR HM HQE hkn hFin hEr hQr
          go_wp2_with fail
          refine (HNum.out _ hr0).mono ?_
          rintro e w3 ⟨rfl, k3, r3⟩
          have hq := HQ.out
          have kw3 := kR.then k3 (fun i hi h => by have h : i = rr := h; omega)
          have hz3 := hzR.kept k3 (fun h => by have h : w.heap.size = rr := h; omega)
          have hP3 := hP6.kept k3 (fun h => by have h : g6 = rr := h; omega)
          have hO3 := hO6.kept k3 (fun q2 hq2 h => by have h : q2 = rr := h; have := (hO6.2.own q2 hq2).1; omega)
          clear hr0 k3 kR hzR hP6 hO6 hq
          go_wp2_with fail
          refine (HH1.out _ kw3.size r3).mono ?_
          rintro e w4 ⟨rfl, k4, r4⟩
          have hq := HQ.out
          have kw4 := kw3.then k4 (fun i hi h => by have h : i = rr := h; omega)
          have hz4 := hz3.kept k4 (fun h => by have h : w.heap.size = rr := h; omega)
          have hP4 := hP3.kept k4 (fun h => by have h : g6 = rr := h; omega)
          have hO4 := hO3.kept k4 (fun q2 hq2 h => by have h : q2 = rr := h; have := (hO3.2.own q2 hq2).1; omega)
          clear r3 k4 kw3 hz3 hP3 hO3 hq
          have hI' := H32.out.1
          have HCI := hid (pf_cut_i (.slice a3 ps.length c3) hok0 hI)
          go_wp2_with (first | (refine pf_store rfl _ _ _ rfl rfl rfl hP4 hok0 hI' (by kernel_rfl) (by decide) HCI.out ?_; intro w5 hP5 k5) | fail)
          have hq := HQ.out
          have r5 := r4.kept k5 (fun q2 h1 h2 h => by have h : q2 = g6 := h; omega) (fun h => by have h : rr = g6 := h; omega)
          have kw5 := kw4.then k5 (fun i hi h => by have h : i = g6 := h; omega)
          have hz5 := hz4.kept k5 (fun h => by have h : w.heap.size = g6 := h; omega)
          have hO5 := hO4.kept k5 (fun q2 hq2 h => by have h : q2 = g6 := h; have := (hO4.2.own q2 hq2).1; omega)
          clear r4 k5 kw4 hz4 hP4 hO4 hq
          refine (HH2.out _ kw5.size r5).mono ?_
          rintro e w6 ⟨rfl, k6, r6⟩
          have hq := HQ.out
          have kw6 := kw5.then k6 (fun i hi h => by have h : i = rr := h; omega)
          have hz6 := hz5.kept k6 (fun h => by have h : w.heap.size = rr := h; omega)
          have hP6 := hP5.kept k6 (fun h => by have h : g6 = rr := h; omega)
          have hO6 := hO5.kept k6 (fun q2 hq2 h => by have h : q2 = rr := h; have := (hO5.2.own q2 hq2).1; omega)
          clear r5 k6 kw5 hz5 hP5 hO5 hq
          have hV' := H32.out.2
          have hok1 : Pf.Ok ⟨zeroPf.path, zeroPf.e, ⟨hI, zeroPf.x.v⟩⟩ := ⟨zeroPf_ok.1, hI', rfl⟩
          have HCV := hid (pf_cut_v (.slice a3 ps.length c3) hok1 hV)
          have hzall : (pfC (.slice none 0 0) zeroPf).toArray.all (·.oneCell') = true := pfC_one (Rh.nil 0 w)
          have HALL := hid hzall
          clear hzall
          by_cases hshort : l.length < 80 + 32 * k
          · have hSd21 : Sd = ⟨[], 21⟩ := by rw [HSD.out.1, if_neg (by omega)]
            have HEQ := hid (HSD.out.2 (by omega))
            rw [hSd21] at r6
            clear hSd21
            go_wp2_with (first | (refine pf_store rfl _ _ _ rfl rfl rfl hP6 hok1 hV' (by kernel_rfl) (by decide) HCV.out ?_; intro w7 hP7 k7; have r7 := r6.kept k7 (fun q2 h1 h2 h => by have h : q2 = g6 := h; have := HQ.out; omega) (fun h => by have h : rr = g6 := h; have := HQ.out; omega); have c1 : w7.cell? ⟨rr, 1, none⟩ = some (.int .i64 21) := rd_cell r7) | fail)
            have hq := HQ.out
            have kw7 := kw6.then k7 (fun i hi h => by have h : i = g6 := h; omega)
            have hz7 := hz6.kept k7 (fun h => by have h : w.heap.size = g6 := h; omega)
            have hO7 := hO6.kept k7 (fun q2 hq2 h => by have h : q2 = g6 := h; have := (hO6.2.own q2 hq2).1; omega)
            clear r6 k7 kw6 hz6 hP6 hO6 hq
            have C1 := hid c1
            have hz66 := hid hz
            clear c1
            refine wp_region_plan (Kept (Just w.heap.size) w7) [{ k := 5, uses := [100], spends := [100], fact := fun _ W => Blk W w.heap.size (pfC (.slice none 0 0) zeroPf).toArray 63 }, { k := 100, uses := [], fact := fun _ W => ∃ z : Array Value, z.size = 66 ∧ Blk W w.heap.size z 63 }] [100] (by kernel_rfl) (by kernel_rfl) (by kernel_rfl) (by rfl) ?pcs ((Kept.refl _ w7).drew) ?scs ?wck
            case pcs =>
              intro f hf
              simp only [List.mem_cons, List.not_mem_nil, or_false] at hf
              rcases hf with rfl | rfl
              · exact ⟨undef, trivial⟩
              · exact ⟨undef, trivial⟩
            case scs =>
              intro k hk
              have hk : k = 100 := by simpa using hk
              subst hk
              exact ⟨_, hz66.out, hz7.drew⟩
            iterate 5 (refine wpPar_pure rfl (by rfl) _ (fun W hW => by
                have c1 := (hW.cell (p := ⟨rr, 1, none⟩) (block_lt_of_cell C1.out) (fun h => by have h : rr = w.heap.size := h; have := HQ.out; omega)).trans C1.out
                go_simp
                exact rfl) ?_; simp only [Act.put, List.setIfInBounds_toArray, List.set_cons_zero, List.set_cons_succ])
            refine wpPar_adds rfl (by rfl) (fun W hW hd => ?_) (fun v5 hv => ?_)
            · obtain ⟨z3, hz3, hR3⟩ : ∃ z : Array Value, z.size = 66 ∧ Blk W w.heap.size z 63 := hd 100 (List.Mem.head _)
              refine gives_store7 _ _ _ rfl rfl rfl hR3 aP66 hz3 HALL.out (fun W' hb hk => ⟨hW.trans hk, trivial, hb, keeps_of fun f hf hs _ hne u hfu => ?_⟩)
              simp only [List.mem_cons, List.not_mem_nil, or_false] at hf
              rcases hf with rfl | rfl
              · exact absurd rfl hne
              · exact absurd (List.Mem.head _) hs
            simp only [Act.put]
            iterate 1 (refine wpPar_pure rfl (by rfl) _ (fun W hW => by
                go_simp
                exact rfl) ?_; simp only [Act.put, List.setIfInBounds_toArray, List.set_cons_zero, List.set_cons_succ])
            refine wpPar_nil (fun W hW hG => ?_)
            have hR9 : Blk W w.heap.size (pfC (.slice none 0 0) zeroPf).toArray 63 := hG 5
            have k9 := hW
            clear hG hW
            go_wp2
            exact bodyPost_ret (v := .tuple #[pfV (.slice none 0 0) zeroPf, .int .i64 21]) (res_cell_tmp rfl _ rfl rfl hR9 aP66) rfl ⟨.slice none 0 0, by rw [HEQ.out.1, HEQ.out.2], kw7.then k9 (fun i hi h => by have h : i = w.heap.size := h; omega), by rw [HEQ.out.2]; exact Rh.nil _ _⟩
          · have hSd0 : Sd = ⟨l.drop (80 + 32 * k), 0⟩ := by rw [HSD.out.1, if_pos (by omega)]
            rw [hSd0] at r6
            clear hSd0
            obtain ⟨L, hL⟩ : ∃ L, L = (l.drop (80 + 32 * k)).length := ⟨_, rfl⟩
            have hLn : L = l.length - (80 + 32 * k) := by rw [hL, List.length_drop]
            have hE0 := HE.out.1
            have HLL := hid hL
            clear hL
            by_cases hE2 : 2 < En
            · have hEr : er = 20 := by rw [HFE.out.1, if_neg hshort, if_pos (.inl hE2)]
              have hQr : q = zeroPf := by rw [HFE.out.2, hEr]; rfl
              have HEQ := hid (And.intro hEr hQr)
              clear hEr hQr hLn
              go_wp2_with (first | go_skip | (refine pf_store rfl _ _ _ rfl rfl rfl hP6 hok1 hV' (by kernel_rfl) (by decide) HCV.out ?_; intro w7 hP7 k7; have r7 := r6.kept k7 (fun q2 h1 h2 h => by have h : q2 = g6 := h; have := HQ.out; omega) (fun h => by have h : rr = g6 := h; have := HQ.out; omega); have c1 : w7.cell? ⟨rr, 1, none⟩ = some (.int .i64 0) := rd_cell r7; have hz7 := (hz6.kept k7 (fun h => by have h : w.heap.size = g6 := h; have := HQ.out; omega)); have kw7 := kw6.then k7 (fun i hi h => by have h : i = g6 := h; have := HQ.out; omega)) | (refine wpList_store_blk rfl _ _ _ rfl rfl rfl hz7 aP66 hz HALL.out ?_; intro w9 hR9 k9) | fail)
              exact bodyPost_ret (v := .tuple #[pfV (.slice none 0 0) zeroPf, .int .i64 20]) (res_cell_tmp rfl _ rfl rfl hR9 aP66) rfl ⟨.slice none 0 0, by rw [HEQ.out.1, HEQ.out.2], kw7.then k9 (fun i hi h => by have h : i = w.heap.size := h; omega), by rw [HEQ.out.2]; exact Rh.nil _ _⟩
            · have hEle : En ≤ 2 := by omega
              have hEd : decide (2 < En) = false := by simpa using hE2
              by_cases hmore : 0 < L
              · have hEr : er = 20 := by rw [HFE.out.1, if_neg hshort, if_pos (.inr (by omega))]
                have hQr : q = zeroPf := by rw [HFE.out.2, hEr]; rfl
                have HEQ := hid (And.intro hEr hQr)
                have hL0 : (0 : Int) < (L : Int) := by omega
                clear hEr hQr hLn
                go_wp2_with (first | go_skip | (refine pf_store rfl _ _ _ rfl rfl rfl hP6 hok1 hV' (by kernel_rfl) (by decide) HCV.out ?_; intro w7 hP7 k7; have r7 := r6.kept k7 (fun q2 h1 h2 h => by have h : q2 = g6 := h; have := HQ.out; omega) (fun h => by have h : rr = g6 := h; have := HQ.out; omega); have c1 : w7.cell? ⟨rr, 1, none⟩ = some (.int .i64 0) := rd_cell r7; obtain ⟨a7, c7, c0⟩ := rd_left r7; have hz7 := (hz6.kept k7 (fun h => by have h : w.heap.size = g6 := h; have := HQ.out; omega)); have kw7 := kw6.then k7 (fun i hi h => by have h : i = g6 := h; have := HQ.out; omega); rw [show ({ l := l.drop (80 + 32 * k), e := 0 } : St).l.length = L by rw [HLL.out]] at c0) | (refine wpList_store_blk rfl _ _ _ rfl rfl rfl hz7 aP66 hz HALL.out ?_; intro w9 hR9 k9) | fail)
                exact bodyPost_ret (v := .tuple #[pfV (.slice none 0 0) zeroPf, .int .i64 20]) (res_cell_tmp rfl _ rfl rfl hR9 aP66) rfl ⟨.slice none 0 0, by rw [HEQ.out.1, HEQ.out.2], kw7.then k9 (fun i hi h => by have h : i = w.heap.size := h; omega), by rw [HEQ.out.2]; exact Rh.nil _ _⟩
              · have hEr : er = 0 := by rw [HFE.out.1, if_neg hshort, if_neg (by omega)]
                have hQr : q = ⟨ps, En, ⟨hI, hV⟩⟩ := by rw [HFE.out.2, if_pos hEr]
                have HEQ := hid (And.intro hEr hQr)
                obtain rfl : L = 0 := by omega
                have wE : IntKind.i64.wrap En = En := by rw [IntKind.wrap_i64]; omega
                clear hEr hQr hLn
                go_upto_region 17 with (first | go_skip | (refine pf_store rfl _ _ _ rfl rfl rfl hP6 hok1 hV' (by kernel_rfl) (by decide) HCV.out ?_; intro w7 hP7 k7; have r7 := r6.kept k7 (fun q2 h1 h2 h => by have h : q2 = g6 := h; have := HQ.out; omega) (fun h => by have h : rr = g6 := h; have := HQ.out; omega); have c1 : w7.cell? ⟨rr, 1, none⟩ = some (.int .i64 0) := rd_cell r7; obtain ⟨a7, c7, c0⟩ := rd_left r7; rw [show ({ l := l.drop (80 + 32 * k), e := 0 } : St).l.length = 0 by rw [← HLL.out]] at c0) | fail)
                have hq := HQ.out
                have kw7 := kw6.then k7 (fun i hi h => by have h : i = g6 := h; omega)
                have hz7 := hz6.kept k7 (fun h => by have h : w.heap.size = g6 := h; omega)
                have hO7 := hO6.kept k7 (fun q2 hq2 h => by have h : q2 = g6 := h; have := (hO6.2.own q2 hq2).1; omega)
                clear r6 k7 kw6 hz6 hP6 hO6 hq c1 c0 r7
                have c1 := pf_c1 hP7
                have f1 := hP7.free 1
                have hset : Blk (w7.setCell ⟨g6, 1, none⟩ (.int .i64 En)) g6 (pfC (.slice a3 ps.length c3) ⟨ps, En, ⟨hI, hV⟩⟩).toArray 63 := by
                  have h := hP7.set 1 (.int .i64 En)
                  simpa [pfC] using h
                have hq := HQ.out
                have k78 := Kept.one w7 g6 1 (.int .i64 En)
                have hz8 := hz7.kept k78 (fun h => by have h : w.heap.size = g6 := h; omega)
                have hO8 := hO7.kept k78 (fun q2 hq2 h => by have h : q2 = g6 := h; have := (hO7.2.own q2 hq2).1; omega)
                have kw8 := kw7.then k78 (fun i hi h => by have h : i = g6 := h; omega)
                have hokF : Pf.Ok ⟨ps, En, ⟨hI, hV⟩⟩ := ⟨hO7.1, hI', hV'⟩
                have aPF := aP (s := .slice a3 ps.length c3) hokF
                have hRh := hO8.rh
                have hallF : (pfC (.slice a3 ps.length c3) ⟨ps, En, ⟨hI, hV⟩⟩).toArray.all (·.oneCell') = true := pfC_one (p := ⟨ps, En, ⟨hI, hV⟩⟩) hRh
                have HAF := hid hallF
                have EF := hid (hz.trans (show 66 = (pfC (.slice a3 ps.length c3) ⟨ps, En, ⟨hI, hV⟩⟩).toArray.size by simpa using (pfC_len (.slice a3 ps.length c3) hokF).symm))
                have HRH := hid hRh
                clear hP7 k78 hz7 hO7 kw7 hq hallF hRh hO8
                go_wp2_with (first | (refine wpList_load_blk rfl _ _ rfl rfl hset aPF ?_) | (refine wpList_store_blk rfl _ _ _ rfl rfl rfl hz8 aPF EF.out HAF.out ?_; intro w9 hR9 k9) | fail)
                exact bodyPost_ret (v := .tuple #[pfV (.slice a3 ps.length c3) ⟨ps, En, ⟨hI, hV⟩⟩, .int .i64 0]) (res_cell_tmp rfl _ rfl rfl hR9 aPF) rfl ⟨.slice a3 ps.length c3, by rw [HEQ.out.1, HEQ.out.2], kw8.then k9 (fun i hi h => by have h : i = w.heap.size := h; omega), by rw [HEQ.out.2]; exact (HRH.out.keptS k9 (fun q2 h1 h => by have h : q2 = w.heap.size := h; have := HQ.out; omega)).mono (by have := HQ.out; omega)⟩
end RPr
end Go.Proofs.Ytidegffdhpdhjaa

namespace Go.Proofs.Ytidegffdhpdhjaa
open Go.RowKit Go.Pm
namespace RPr
set_option maxRecDepth 100000 in
set_option maxHeartbeats 4000000 in
/-- PutProof. -/
theorem put (s : Value) (p : Pf) (w : World) (hp : p.Ok) (hs : Rh 0 w s p.path) (hlen : p.path.length ≤ 1000000) :
    Calls Try.prog 34 #[pfV s p] w fun e w' => ∃ u, e = .returned u ∧ Kept None w w' ∧ Ob w' w.heap.size u (putP p) := by
  have hM := putP_form p
  obtain ⟨q0, hv⟩ := hs
  obtain ⟨a, c, rfl, g1, g2, g3⟩ := hv.form
  obtain ⟨n, hn⟩ : ∃ n, n = p.path.length := ⟨_, rfl⟩
  have hv' : Hs w 0 q0 (.slice a n c) p.path := by rw [hn]; exact hv
  rw [← hn] at g1 hlen hM
  rw [show pfV (.slice a p.path.length c) p = .agg (pfC (.slice a n c) p).toArray by rw [hn]]
  obtain ⟨X, hX⟩ : ∃ X, X = (pfC (.slice a n c) p).toArray := ⟨_, rfl⟩
  rw [← hX]
  have hc0 : X[0]? = some (.slice a n c) := by rw [hX]; rfl
  have hE : 0 ≤ U6 p.e ∧ U6 p.e < 18446744073709551616 := ⟨U6_ge _, U6_lt _⟩
  have hwE : IntKind.u64.wrap p.e = U6 p.e := by rw [IntKind.wrap_u64]
  have wn : IntKind.u64.wrap (n : Int) = (n : Int) := by rw [IntKind.wrap_u64]; omega
  obtain ⟨E, he⟩ : ∃ E, E = U6 p.e := ⟨_, rfl⟩
  rw [← he] at hE hwE hM
  obtain ⟨M, hm⟩ : ∃ M, M = putP p := ⟨_, rfl⟩
  rw [← hm] at hM ⊢
  obtain ⟨L0, h0⟩ : ∃ L, L = leB n := ⟨_, rfl⟩
  obtain ⟨L1, h1⟩ : ∃ L, L = L0 ++ p.path.flatten := ⟨_, rfl⟩
  obtain ⟨L2, h2⟩ : ∃ L, L = L1 ++ leB E := ⟨_, rfl⟩
  obtain ⟨L3, h3⟩ : ∃ L, L = L2 ++ p.x.i := ⟨_, rfl⟩
  have h4 : L3 ++ p.x.v = M := by rw [h3, h2, h1, h0, hM]; simp
  have l0 : L0.length = 8 := by rw [h0, leB_length]
  have l1 : L1.length = 8 + 32 * n := by rw [h1, List.length_append, l0, flat32 hp.1, hn]
  have l2 : L2.length = 16 + 32 * n := by rw [h2, List.length_append, l1, leB_length]; omega
  have l3 : L3.length = 48 + 32 * n := by rw [h3, List.length_append, l2, hp.2.1]; omega
  have hN0 : ∀ W, Calls Try.prog 35 #[.int .u64 (n : Int)] W fun e w' => ∃ v, e = .returned v ∧ Kept None W w' ∧ Ob w' W.heap.size v L0 := fun W => by
    rw [h0]
    exact Ref.num n W (by omega) (by omega)
  have HP := hid (And.intro hv' (And.intro hp (And.intro hX hn)))
  have HN := hid (And.intro hN0 hE)
  have HE := hid (And.intro h1 (And.intro h2 (And.intro h3 h4)))
  have HL := hid (And.intro l0 (And.intro l1 (And.intro l2 (And.intro l3 hlen))))
  have HW := hid hwE
  have k1 : Kept None w (w.alloc (.cells X 63)) := (Kept.refl _ _).alloc _
  have x1 : Blk (w.alloc (.cells X 63)) w.heap.size X 63 := Blk.new w _ _
  clear hv hv' hX hM hm he h0 h1 h2 h3 h4 l0 l1 l2 l3 hN0 hE hwE hn g3
  go_enter Try.func34, Try.ntmps34
  go_wp2_with fail
  refine Calls.nm ?_
  intro w1 e1
  rw [← e1] at k1 x1
  clear e1 hc0 wn
  refine (HN.out.1 w1).mono ?_
  rintro e w2 ⟨u, rfl, kn, bn⟩
  have k2 := k1.trans kn
  have x2 := x1.kept kn (fun h => h)
  have b2 := bn.base (show w.heap.size + 1 ≤ w1.heap.size from x1.lt)
  obtain ⟨a2, c2, rfl⟩ := bn.form
  have K2 := hid k2
  have X2 := hid x2
  have B2 := hid b2
  have c0 : w2.cell? ⟨w.heap.size, 0, none⟩ = some (.slice a n c) := pf_c0 (p := p) (HP.out.2.2.1 ▸ x2)
  clear k1 x1 kn bn k2 x2 b2
  go_wp2
  go_loopg [3, 4] n (fun kx s3 s4 wr => ∃ (k : Nat) (a3 : Option Addr) (n3 c3 : Nat), s3 = .slice a3 n3 c3 ∧ s4 = .int .i64 k ∧ k ≤ n ∧ n - k ≤ kx ∧ Hid (Ob wr (w.heap.size + 1) (.slice a3 n3 c3) (L0 ++ (p.path.take k).flatten)) ∧ Hid (Kept (fun q => w.heap.size + 1 ≤ q) w2 wr))
  case atStart => exact ⟨0, _, _, _, rfl, rfl, Nat.zero_le _, Nat.le_refl _, hid (by simpa using B2.out), hid (Kept.refl _ _)⟩
  case round =>
    obtain ⟨k, a3, n3, c3, rfl, rfl, hk, hkx, HB, HKr⟩ := hrel
    clear c0 B2
    have xr := X2.out.kept HKr.out (by omega)
    have c0 : wr.cell? ⟨w.heap.size, 0, none⟩ = some (.slice a n c) := pf_c0 (p := p) (HP.out.2.2.1 ▸ xr)
    have kr : Kept None w wr := K2.out.then HKr.out (fun i hi h => by omega)
    have sr : w.heap.size + 1 ≤ wr.heap.size := xr.lt
    by_cases hlt : k < n
    · have hz : (k : Int) < (n : Int) := by omega
      have hvr := (HP.out.1.kept kr (fun _ _ _ h => h))
      obtain ⟨b, o, rfl, _, _, _, hr⟩ := hvr.lo (by have := HP.out.2.2.2; omega)
      have hkp : k < p.path.length := by have := HP.out.2.2.2; omega
      have hr := hr k hkp
      obtain ⟨R, hRR⟩ : ∃ R, R = p.path[k] := ⟨_, rfl⟩
      have h32 : R.length = 32 := by rw [hRR]; exact HP.out.2.1.1 _ (List.getElem_mem hkp)
      rw [← hRR] at hr
      have htk : L0 ++ (p.path.take (k + 1)).flatten = (L0 ++ (p.path.take k).flatten) ++ R := by rw [hRR, flatten_take _ _ hkp, List.append_assoc]
      have dr := (range_bs hr h32 (by decide)).all
      have HT := hid htk
      obtain ⟨Lk, hLk⟩ : ∃ L, L = L0 ++ (p.path.take k).flatten := ⟨_, rfl⟩
      rw [← hLk] at htk HB
      have hll : Lk.length ≤ 40000000 := by
        have h1 := total_take_le p.path k
        have h2 := flat32 HP.out.2.1.1
        unfold total at h1
        rw [hLk, List.length_append, HL.out.1]
        have := HL.out.2.2.2.2
        have := HP.out.2.2.2
        omega
      have HTK := hid htk
      have HLK := hid hll
      have H32 := hid h32
      have hb := HB.out
      have XR := hid xr
      have wk : IntKind.i64.wrap ((k : Int) + 1) = (k : Int) + 1 := by rw [IntKind.wrap_i64]; have := HL.out.2.2.2.2; omega
      clear hvr hRR hkp htk hll h32 hr HT hLk
      go_wp2_with (first | (at_builtin; refine wpList_append_bo (l := Lk) (m := R) (base := w.heap.size + 1) rfl _ _ 29 rfl rtBytes rfl rfl hb dr (by have := HLK.out; have := H32.out; omega) sr ?q4) | fail)
      case q4 =>
        intro a5 n5 c5 w5 b5 k5
        rw [← HTK.out] at b5
        have HB5 := hid b5
        have HK5 : Hid (Kept (fun q => w.heap.size + 1 ≤ q) w2 w5) := hid (HKr.out.trans (k5.mono (fun q _ h => (hb.own q h).1)))
        clear hb dr b5 k5
        go_wp2
        go_roundg (n - (k + 1))
        case measure => omega
        case rel => exact ⟨k + 1, _, _, _, rfl, by go_num, by omega, Nat.le_refl _, HB5, HK5⟩
    · have hz : ¬ (k : Int) < (n : Int) := by omega
      obtain rfl : k = n := by omega
      have htk : p.path.take k = p.path := List.take_of_length_le (by have := HP.out.2.2.2; omega)
      have hB := HB.out
      rw [htk, ← HE.out.1] at hB
      have c1 : wr.cell? ⟨w.heap.size, 1, none⟩ = some (.int .i64 p.e) := pf_c1 (HP.out.2.2.1 ▸ xr)
      have hwE := HW.out
      clear HB htk
      go_wp2_with fail
      refine (Ref.num E wr HN.out.2.1 HN.out.2.2).mono ?_
      rintro e w4 ⟨u, rfl, kn, bn⟩
      have k4 := kr.trans kn
      have x4 := xr.kept kn (fun h => h)
      have b4 := hB.kept kn (fun _ _ h => h)
      have d4 := bn.bs (Nat.le_refl _)
      have s4 : w.heap.size + 1 ≤ w4.heap.size := x4.lt
      obtain ⟨an, cn, rfl⟩ := bn.form
      clear kn bn kr xr hB c0 c1 hwE HKr sr
      go_wp2_with (first | (at_builtin; refine wpList_append_bo (l := L1) (m := leB E) (base := w.heap.size + 1) rfl _ _ 29 rfl rtBytes rfl rfl b4 d4 (by have := HL.out; rw [leB_length]; omega) s4 ?q5) | fail)
      case q5 =>
        intro a5 n5 m5 w5 b5 kn
        have k5 := Kept.own k4 kn (fun k hk => Nat.le_of_succ_le (b4.own k hk).1)
        have x5 := x4.kept kn (fun h => absurd (b4.own _ h).1 (by omega))
        rw [← HE.out.2.1] at b5
        clear kn k4 x4 b4 d4 s4
        go_wp2_with fail
        have X5 := hid x5
        have B5 := hid b5
        have K5 := hid k5
        have S5 := hid (show w.heap.size + 1 ≤ w5.heap.size from x5.lt)
        have HR := hid (fun W (hW : Kept (fun q => w.heap.size + 1 ≤ q) w5 W) => (range_bs (pf_ri (s := .slice a k c) (p := p) (HP.out.2.2.1 ▸ (X5.out.kept hW (by omega))) HP.out.2.1) HP.out.2.1.2.1 (by decide)).all)
        have HG := hid (fun W (hW : Kept (fun q => w.heap.size + 1 ≤ q) w5 W) => (range_bs (pf_rv (s := .slice a k c) (p := p) (HP.out.2.2.1 ▸ (X5.out.kept hW (by omega))) HP.out.2.1) HP.out.2.1.2.2 (by decide)).all)
        clear x5 b5 k5
        refine wp_region_plan (Kept (fun q => w.heap.size + 1 ≤ q) w5) [{ k := 4, uses := [100], spends := [100], later := [8], pure := fun u => ∃ a n c, u = .slice a n c, fact := fun u W => Ob W (w.heap.size + 1) u L3 }, { k := 8, uses := [4, 100], spends := [4, 100], pure := fun u => ∃ a n c, u = .slice a n c, fact := fun u W => Ob W (w.heap.size + 1) u M }, { k := 100, uses := [], fact := fun u W => Ob W (w.heap.size + 1) (.slice a5 n5 m5) L2 }] [100] (by kernel_rfl) (by kernel_rfl) (by kernel_rfl) (by rfl) ?pures ((Kept.refl _ w5).drew) ?starts ?walk
        case pures =>
          intro f hf
          simp only [List.mem_cons, List.not_mem_nil, or_false] at hf
          rcases hf with rfl | rfl | rfl
          · exact ⟨_, none, 0, 0, rfl⟩
          · exact ⟨_, none, 0, 0, rfl⟩
          · exact ⟨undef, trivial⟩
        case starts =>
          intro k hk
          have hk : k = 100 := by simpa using hk
          subst hk
          exact B5.out.kept ((Kept.refl None w5).drew) (fun _ _ h => h)
        iterate 4 (refine wpPar_pure rfl (by rfl) _ (fun W hW => by
            go_simp
            exact rfl) ?_; simp only [Act.put, List.setIfInBounds_toArray, List.set_cons_zero, List.set_cons_succ])
        refine wpPar_adds rfl (by rfl) (fun W hW hd => ?_) (fun v4 hv => ?_)
        · have h1 : Ob W (w.heap.size + 1) (.slice a5 n5 m5) L2 := hd 100 (List.Mem.head _)
          refine gives_append_bo _ _ 29 rfl rtBytes rfl rfl h1 (HR.out W hW) (by have := HL.out; have := HP.out.2.1.2; omega) (Nat.le_trans S5.out hW.size) ?_
          intro a' n' c' W' h3 h4 _
          rw [← HE.out.2.2.1] at h3
          refine ⟨hW.trans (h4.mono (fun q _ h => (h1.own q h).1)), ⟨_, _, _, rfl⟩, h3, keeps_of fun f hf hs hl hne u hfu => ?_⟩
          simp only [List.mem_cons, List.not_mem_nil, or_false] at hf
          rcases hf with rfl | rfl | rfl
          · exact absurd rfl hne
          · exact absurd (List.Mem.head _) hl
          · exact absurd (List.Mem.head _) hs
        obtain ⟨a4, n4, c4, rfl⟩ : ∃ a n c, v4 = .slice a n c := hv
        simp only [Act.put, List.setIfInBounds_toArray, List.set_cons_zero, List.set_cons_succ]
        iterate 3 (refine wpPar_pure rfl (by rfl) _ (fun W hW => by
            go_simp
            exact rfl) ?_; simp only [Act.put, List.setIfInBounds_toArray, List.set_cons_zero, List.set_cons_succ])
        refine wpPar_adds rfl (by rfl) (fun W hW hd => ?_) (fun v8 hv => ?_)
        · have h1 : Ob W (w.heap.size + 1) (.slice a4 n4 c4) L3 := hd 4 (List.Mem.head _)
          refine gives_append_bo _ _ 29 rfl rtBytes rfl rfl h1 (HG.out W hW) (by have := HL.out; have := HP.out.2.1.2; omega) (Nat.le_trans S5.out hW.size) ?_
          intro a' n' c' W' h3 h4 _
          rw [HE.out.2.2.2] at h3
          refine ⟨hW.trans (h4.mono (fun q _ h => (h1.own q h).1)), ⟨_, _, _, rfl⟩, h3, keeps_of fun f hf hs hl hne u hfu => ?_⟩
          simp only [List.mem_cons, List.not_mem_nil, or_false] at hf
          rcases hf with rfl | rfl | rfl
          · exact absurd (List.Mem.head _) hs
          · exact absurd rfl hne
          · exact absurd (List.Mem.tail _ (List.Mem.head _)) hs
        obtain ⟨a8, n8, c8, rfl⟩ : ∃ a n c, v8 = .slice a n c := hv
        simp only [Act.put, List.setIfInBounds_toArray, List.set_cons_zero, List.set_cons_succ]
        iterate 1 (refine wpPar_pure rfl (by rfl) _ (fun W hW => by
            go_simp
            exact rfl) ?_; simp only [Act.put, List.setIfInBounds_toArray, List.set_cons_zero, List.set_cons_succ])
        refine wpPar_nil (fun W hW hG => ?_)
        have b6 : Ob W (w.heap.size + 1) (.slice a8 n8 c8) M := hG 8
        have k6 : Kept None w W := K5.out.then hW (fun i hi h => by omega)
        have bz := b6.base (Nat.le_succ w.heap.size)
        clear hG hW HR HG S5 K5 B5 X5 b6
        go_wp2
        go_ret
        exact ⟨_, rfl, k6, bz⟩
end RPr
end Go.Proofs.Ytidegffdhpdhjaa
