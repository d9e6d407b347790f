/- Package proof, Read: by contract. -/
import Derived.Test.YtidegffdhpdhjaaHash7
import Derived.Test.YtidegffdhpdhjaaHk8
namespace Go.Pm
open Go Go.RowKit
/-- A proof's Item, its halves stored over. -/
theorem pf_store {P : Program} {ops : Array Oper} {rest : List Oper} {o : Oper} {a : Act} {w : World} {Q : Exit → Act → World → Prop} (hgd : o.guard = none) (ty : TypeId) (x y : Operand) (ho : o.op = .store ty x y)
    {g off : Nat} {s : Value} {p p' : Pf} {t : TypeId} {h : List UInt8} (hx : a.eval x = .pointer (some ⟨g, off, none⟩)) (hy : a.eval y = hashV h) (hb : Blk w g (pfC s p).toArray t) (hp : p.Ok) (h32 : h.length = 32) (hT : (P.info? ty).map (·.size) = some 32)
    (hoff : off + 32 ≤ 66) (hc : (pfC s p).take off ++ h.map u8v ++ (pfC s p).drop (off + 32) = pfC s p')
    (hk : ∀ w', Blk w' g (pfC s p').toArray t → Kept (Just g) w w' → wpList P ops Q rest (a.put o.dst undef) w') : wpList P ops Q (o :: rest) a w := by
  have h66 := pfC_len s hp
  refine wpList_store_mid hgd ty x y ho g off (h.map u8v).toArray hx hy (fun j hj => ?_) (by simpa [h32] using hT) (u8v_all' h) ?_
  · simp only [List.size_toArray, List.length_map, h32] at hj
    refine ⟨?_, hb.free _⟩
    rw [hb.cell]
    simp [show off + j < (pfC s p).length by omega]
  · refine hk _ ?_ (kept_setCells (S := Just g) (fun _ => rfl) _ _ _ (Kept.refl _ _))
    have hs := Blk.setCells (h.map u8v) off w (pfC s p).toArray hb (by simp [h66, h32]; omega)
    have e : (pfC s p).toArray.toList.take off ++ h.map u8v ++ (pfC s p).toArray.toList.drop (off + (h.map u8v).length) = pfC s p' := by
      simpa [h32] using hc
    rw [e] at hs
    simpa using hs
theorem pf_cut_i (s : Value) {p : Pf} (hp : p.Ok) (h : List UInt8) : (pfC s p).take 2 ++ h.map u8v ++ (pfC s p).drop (2 + 32) = pfC s ⟨p.path, p.e, ⟨h, p.x.v⟩⟩ := by
  have hi : (p.x.i.map u8v).length = 32 := by simp [hp.2.1]
  unfold pfC itC
  simp only [List.take_succ_cons, List.take_zero, List.drop_succ_cons, show 2 + 32 = 32 + 1 + 1 from rfl]
  rw [List.drop_left' hi]
  simp
theorem pf_cut_v (s : Value) {p : Pf} (hp : p.Ok) (h : List UInt8) : (pfC s p).take 34 ++ h.map u8v ++ (pfC s p).drop (34 + 32) = pfC s ⟨p.path, p.e, ⟨p.x.i, h⟩⟩ := by
  have hi : (p.x.i.map u8v).length = 32 := by simp [hp.2.1]
  have hv : (p.x.v.map u8v).length = 32 := by simp [hp.2.2]
  unfold pfC itC
  simp only [List.take_succ_cons, List.drop_succ_cons, show 34 = 32 + 1 + 1 from rfl, show 32 + 1 + 1 + 32 = 64 + 1 + 1 from rfl]
  rw [List.take_left' hi, List.drop_of_length_le (by simp [hp.2.1, hp.2.2])]
  simp
end Go.Pm
namespace Go.Proofs.Ytidegffdhpdhjaa
open Go.RowKit Go.Pm
namespace Pr
/-- What the loop of Read has: its own proof, its Reader. -/
structure RMid (T E : TypeId) (w0 : World) (z : Array Value) (lo hi r g6 : Nat) (l : List UInt8) (k : Nat) (w : World) : Prop where
  kept : Kept None w0 w
  hz : Blk w w0.heap.size z E
  rd : Bin.Rd w lo hi r (stAt l (8 + 32 * k))
  pf : ∃ s, Blk w g6 (pfC s zeroPf).toArray E ∧ Ho T w (g6 + 1) s (hashesO (stAt l 8) k)
  lt : w0.heap.size < r ∧ r < g6 ∧ hi ≤ r ∧ w0.heap.size < lo ∧ g6 < w.heap.size
set_option maxRecDepth 100000 in
set_option maxHeartbeats 1000000 in
/-- Read. -/
theorem read (v : Value) (lo0 hi0 : Nat) (l : List UInt8) (w : World) (hv : Bs w lo0 hi0 v l) (hl : l.length ≤ 1099511627776) :
    Calls Try.prog 36 #[v] w fun e w' => ∃ s, e = .returned (.tuple #[pfV s (readQP l), .int .i64 (readEP l)]) ∧ Kept None w w' ∧ Rh w.heap.size w' s (readQP l).path := by
  have hm := many_num l
  have s0 := stAt_num l 0
  rw [stAt_zero] at hm s0
  obtain ⟨n, hn⟩ : ∃ n, n = manyR l := ⟨_, rfl⟩
  rw [← hn] at hm
  have hn64 : (n : Int) < 18446744073709551616 := by rw [hm]; exact St.num_lt _
  obtain ⟨S1, hS1⟩ : ∃ S, S = stAt l 8 := ⟨_, rfl⟩
  rw [show 0 + 8 = 8 from rfl, ← hS1] at s0
  have hN := fun v lo hi w h => Bin.new v lo hi l w h (by omega)
  have hM : ∀ r lo hi W, Bin.Rd W lo hi r ⟨l, 0⟩ → hi ≤ r → Calls Try.prog 76 #[.pointer (some ⟨r, 0, none⟩)] W fun e w' => e = .returned (.int .u64 n) ∧ Kept (Just r) W w' ∧ Bin.Rd w' lo hi r S1 := fun r lo hi W h h2 => by
    have := Bin.rnum r lo hi ⟨l, 0⟩ W h h2
    rwa [← hm, s0] at this
  obtain ⟨q, hq⟩ : ∃ q, q = readQP l := ⟨_, rfl⟩
  obtain ⟨er, her⟩ : ∃ e, e = readEP l := ⟨_, rfl⟩
  rw [← hq, ← her]
  have k0 : Kept None w (w.alloc (.cells Try.zeroCells63 63)) := (Kept.refl _ _).alloc _
  obtain ⟨z, hz, hZ⟩ := Blk.any (n := 66) (Blk.new w Try.zeroCells63 63) (by rfl)
  have hv0 := hv.kept k0 (fun _ _ _ h => h)
  obtain ⟨av, cv, rfl, gv⟩ := hv.shape
  have HN := hid hN
  have HM := hid hM
  have HQE := hid (And.intro hq (And.intro her (And.intro hn hS1)))
  clear hN hM hm s0 hq her hn hS1 hv gv
  go_enter Try.func36, Try.ntmps36
  go_wp2_with fail
  refine (HN.out _ _ _ _ hv0).mono ?_
  rintro e w1 ⟨r, rfl, k1, hle, r1⟩
  have hlo : w.heap.size < (w.alloc (.cells Try.zeroCells63 63)).heap.size := by simp
  obtain ⟨lo, hlo'⟩ : ∃ lo, lo = (w.alloc (.cells Try.zeroCells63 63)).heap.size := ⟨_, rfl⟩
  rw [← hlo'] at hlo hle r1
  have k01 := k0.trans k1
  have hZ1 := hZ.kept k1 (fun h => h)
  have hrl := r1.lt
  have HLO := hid (And.intro hlo (And.intro hle hrl))
  clear k0 k1 hZ hv0 hlo' hlo hle hrl
  go_wp2_with fail
  refine (HM.out r _ _ _ r1 (Nat.le_refl _)).mono ?_
  rintro e w2 ⟨rfl, k2, r2⟩
  have k02 := k01.then k2 (fun i hi h => by have h : i = r := h; have := HLO.out; omega)
  have hZ2 := hZ1.kept k2 (fun h => by have h : w.heap.size = r := h; have := HLO.out; omega)
  have hsz := k2.size
  have HSZ := hid hsz
  clear k01 k2 hZ1 r1 hsz
  by_cases hbig : 256 < n
  · have hbz : (256 : Int) < (n : Int) := by omega
    have hall : (pfC (.slice none 0 0) zeroPf).toArray.all (·.oneCell') = true := pfC_one (Rh.nil 0 w)
    have HALL := hid hall
    have HE : Hid (er = 22 ∧ q = zeroPf) := hid (by
      obtain ⟨h1, h2, h3, _⟩ := HQE.out
      have e1 : readEP l = 22 := by unfold readEP; rw [← h3, if_pos hbig]
      refine ⟨by rw [h2, e1], ?_⟩
      rw [h1]; unfold readQP; rw [e1]; rfl)
    clear hall
    go_wp2_with (first | (refine wpList_store_blk rfl _ _ _ rfl rfl rfl hZ2 aP66 hz HALL.out ?_; intro w9 hR9 k9) | fail)
    exact bodyPost_ret (v := .tuple #[pfV (.slice none 0 0) zeroPf, .int .i64 22]) (res_cell_tmp rfl _ rfl rfl hR9 aP66) rfl ⟨.slice none 0 0, by rw [HE.out.1, HE.out.2], k02.then k9 (fun i hi (h : i = w.heap.size) => by omega), by rw [HE.out.2]; exact Rh.nil _ _⟩
  · have hbz : ¬ (256 : Int) < (n : Int) := by omega
    have hsm : n ≤ 256 := by omega
    have hbd : decide ((256 : Int) < (n : Int)) = false := by simpa using hbz
    clear hbig hn64
    have HI : Hid (RMid 23 63 w z lo r r w2.heap.size l 0 (w2.alloc (.cells Try.zeroCells63 63))) := hid (by
      have ka : Kept None w2 (w2.alloc (.cells Try.zeroCells63 63)) := (Kept.refl _ _).alloc _
      refine ⟨k02.trans ka, hZ2.kept ka (fun h => h), ?_, ⟨.slice none 0 0, Blk.new w2 _ _, Ho.nil _ _ _⟩, ?_⟩
      · have := HQE.out.2.2.2
        rw [show 8 + 32 * 0 = 8 from rfl, ← this]
        exact r2.kept ka (fun _ _ _ h => h) (fun h => h)
      · have := HLO.out
        have := HSZ.out
        simp
        omega)
    obtain ⟨g6, hg6⟩ : ∃ g, g = w2.heap.size := ⟨_, rfl⟩
    clear k02 hZ2 r2
    go_wp2
    rw [← hg6] at HI ⊢
    clear HSZ hg6
    go_loopg [16] n (fun kx s16 wr => ∃ k : Nat, s16 = .int .u64 k ∧ k ≤ n ∧ n - k ≤ kx ∧ Hid (RMid 23 63 w z lo r r g6 l k wr))
    case atStart => exact ⟨0, rfl, Nat.zero_le _, Nat.le_refl _, HI⟩
    case round =>
      obtain ⟨k, rfl, hk, hkx, HR⟩ := hrel
      clear HI
      by_cases hlt : k < n
      · have hlz : (k : Int) < (n : Int) := by omega
        obtain ⟨s, hP6, hO6⟩ := HR.out.pf
        obtain ⟨S, hS⟩ : ∃ S, S = stAt l (8 + 32 * k) := ⟨_, rfl⟩
        obtain ⟨S2, hS2⟩ : ∃ S, S = stAt l (8 + 32 * (k + 1)) := ⟨_, rfl⟩
        obtain ⟨hh, hhh⟩ : ∃ h, h = hashO S := ⟨_, rfl⟩
        obtain ⟨ps, hps⟩ : ∃ h, h = hashesO (stAt l 8) k := ⟨_, rfl⟩
        have hnext : hashesO (stAt l 8) (k + 1) = ps ++ [hh] := by
          show hashesO (stAt l 8) k ++ [hashO ((stAt l 8).rawS (32 * k : Nat))] = _
          rw [stAt_raw, ← hS, ← hhh, ← hps]
        have hHH : ∀ W, Bin.Rd W lo r r S → Calls Try.prog 77 #[.pointer (some ⟨r, 0, none⟩)] W fun e w' => e = .returned (hashV hh) ∧ Kept (Just r) W w' ∧ Bin.Rd w' lo r r S2 := fun W h => by
          have h2 := rhash r lo r S W h (Nat.le_refl _) (by rw [hS]; unfold stAt; split <;> simp; omega)
          have e2 : S.rawS 32 = S2 := by
            rw [hS, hS2]
            exact stAt_raw l (8 + 32 * k) 32
          rwa [e2, ← hhh] at h2
        have hr0 := HR.out.rd
        rw [← hS] at hr0
        rw [← hps] at hO6
        obtain ⟨a3, c3, rfl⟩ := hO6.form
        have hlen : ps.length = k := by rw [hps]; exact hashesO_len _ _
        have h32 : hh.length = 32 := by rw [hhh]; exact hashO_len _
        have hRd := hid hr0
        have hO := hid hO6
        have HH := hid hHH
        have H32 := hid h32
        have HLN := hid hlen
        have HNX := hid hnext
        have HS2 := hid hS2
        have HQ := hid (And.intro HR.out.lt (And.intro hr0.lt hP6.lt))
        have HC := hid (fun W (hW : Kept (fun q => q = r ∨ (Value.slice a3 ps.length c3).ownBlock = some q) wr W) => (show W.cell? ⟨g6, 0, none⟩ = some (.slice a3 ps.length c3) from pf_c0 (hP6.kept hW (fun h => by
          have := HQ.out
          rcases h with h | h
          · omega
          · have := (hO6.2.own g6 h).1; omega))))
        have HP6 := hid hP6
        clear hS hS2 hhh hps hnext hHH hr0 hO6 hlen h32 hP6
        go_wp2_with fail
        have hTP : (Value.slice a3 ps.length c3).ownBlock = (Value.slice a3 ps.length c3).ownBlock := rfl
        refine wp_region_plan_tail 7 (Kept (fun q => q = r ∨ (Value.slice a3 ps.length c3).ownBlock = some q) wr) [{ k := 3, uses := [100], spends := [100], pure := fun u => u = hashV hh, fact := fun _ W => Bin.Rd W lo r r S2 },
          { k := 4, uses := [], pure := fun u => ∃ g, u = .slice (some ⟨g, 0, none⟩) 1 1, fact := fun u W => ∃ g, u = .slice (some ⟨g, 0, none⟩) 1 1 ∧ wr.heap.size ≤ g ∧ Blk W g (hh.map u8v).toArray 23 },
          { k := 5, uses := [4, 101], spends := [101], pure := fun u => ∃ a n c, u = .slice a n c, fact := fun u W => Ho 23 W (g6 + 1) u (ps ++ [hh]) },
          { k := 100, uses := [], fact := fun _ W => Bin.Rd W lo r r S },
          { k := 101, uses := [], fact := fun _ W => Ho 23 W (g6 + 1) (.slice a3 ps.length c3) ps }] [100, 101] (by kernel_rfl) (by kernel_rfl) (by kernel_rfl) (by rfl) ?pures ((Kept.refl _ wr).drew) ?starts ?walk
        case pures =>
          intro f hf
          simp only [List.mem_cons, List.not_mem_nil, or_false] at hf
          rcases hf with rfl | rfl | rfl | rfl | rfl
          · exact ⟨_, rfl⟩
          · exact ⟨_, 0, rfl⟩
          · exact ⟨_, none, 0, 0, rfl⟩
          · exact ⟨undef, trivial⟩
          · exact ⟨undef, trivial⟩
        case starts =>
          intro k hk
          have hk : k = 100 ∨ k = 101 := by simpa using hk
          rcases hk with rfl | rfl
          · exact hRd.out.kept ((Kept.refl None wr).drew) (fun _ _ _ h => h) (fun h => h)
          · exact hO.out.kept ((Kept.refl None wr).drew) (fun _ _ h => h)
        simp only [List.take_succ_cons, List.take_zero, List.drop_succ_cons, List.drop_zero]
        iterate 3 (refine wpPar_pure rfl (by rfl) _ (fun W hW => by
            have c0 := HC.out W hW
            go_simp
            exact rfl) ?_; simp only [Act.put, List.setIfInBounds_toArray, List.set_cons_zero, List.set_cons_succ])
        refine wpPar_adds rfl (by rfl) (fun W hW hd => ?_) (fun v3 hv => ?_)
        · have rW : Bin.Rd W lo r r S := hd 100 (List.Mem.head _)
          unfold Gives
          go_simp
          refine gives_call (HH.out W rW) ?_
          rintro e W' ⟨rfl, k, r4⟩
          refine ⟨_, rfl, hW.trans (k.mono (fun _ _ h => .inl h)), rfl, r4, keeps_of fun f hf hs _ hne u hfu => ?_⟩
          simp only [List.mem_cons, List.not_mem_nil, or_false] at hf
          rcases hf with rfl | rfl | rfl | rfl | rfl
          · exact absurd rfl hne
          · obtain ⟨g, e1, e2, e3⟩ := hfu
            exact ⟨g, e1, e2, e3.kept k (fun h => by have h : g = r := h; have := HQ.out; omega)⟩
          · exact Ho.kept hfu k (fun q hq h => by have h : q = r := h; have := HQ.out; have := (Po.own hfu.2 q hq).1; omega)
          · exact absurd (List.Mem.head _) hs
          · exact Ho.kept hfu k (fun q hq h => by have h : q = r := h; have := HQ.out; have := (Po.own hfu.2 q hq).1; omega)
        obtain rfl : v3 = hashV hh := hv
        simp only [Act.put, List.setIfInBounds_toArray, List.set_cons_zero, List.set_cons_succ]
        refine wpPar_adds rfl (by rfl) (fun W hW hd => ?_) (fun v4 hv => ?_)
        · unfold Gives
          rw [exec_one_item 59 (.tmp 21) rfl rtHashes (by decide) (A := (hh.map u8v).toArray) rfl (by simpa using H32.out)]
          · refine ⟨hW.alloc _, ⟨_, rfl⟩, ⟨_, rfl, hW.size, Blk.new _ _ _⟩, keeps_of fun f hf hs _ hne u hfu => ?_⟩
            have ka : Kept None W (W.alloc (.cells (hh.map u8v).toArray 23)) := (Kept.refl None W).alloc _
            simp only [List.mem_cons, List.not_mem_nil, or_false] at hf
            rcases hf with rfl | rfl | rfl | rfl | rfl
            · exact Bin.Rd.kept hfu ka (fun _ _ _ h => h) (fun h => h)
            · exact absurd rfl hne
            · exact Ho.kept hfu ka (fun _ _ h => h)
            · exact Bin.Rd.kept hfu ka (fun _ _ _ h => h) (fun h => h)
            · exact Ho.kept hfu ka (fun _ _ h => h)
        obtain ⟨g4, rfl⟩ : ∃ g, v4 = .slice (some ⟨g, 0, none⟩) 1 1 := hv
        simp only [Act.put, List.setIfInBounds_toArray, List.set_cons_zero, List.set_cons_succ]
        refine wpPar_adds rfl (by rfl) (fun W hW hd => ?_) (fun v5 hv => ?_)
        · obtain ⟨g, hgg, hg2, hg3⟩ : ∃ g, Value.slice (some ⟨g4, 0, none⟩) 1 1 = .slice (some ⟨g, 0, none⟩) 1 1 ∧ wr.heap.size ≤ g ∧ Blk W g (hh.map u8v).toArray 23 := hd 4 (List.Mem.head _)
          obtain rfl : g4 = g := by simpa using hgg
          have hOW : Ho 23 W (g6 + 1) (.slice a3 ps.length c3) ps := hd 101 (List.Mem.tail _ (List.Mem.head _))
          have hsz := hW.size
          have hu := Hs.ofBlk hg3 H32.out
          refine gives_append_po _ _ 59 rfl rtHashes (by decide) rfl rfl hOW.2 hu.2 (hsC_one _) (by rw [hsC_len, hsC_len]; have := HLN.out; simp; omega) (by have := HQ.out; omega) ?_
          intro a' n' c' W' hP k hown
          have hown0 : ∀ q, (Value.slice a3 ps.length c3).ownBlock = some q → (g6 + 1) ≤ q ∧ q < wr.heap.size := fun q hq => hO.out.2.own q hq
          refine ⟨hW.trans (k.mono (fun q _ h => .inr h)), ⟨_, _, _, rfl⟩, ⟨hOW.1.append hu.1, by rw [hsC_append]; exact hP⟩, keeps_of fun f hf hs _ hne u hfu => ?_⟩
          simp only [List.mem_cons, List.not_mem_nil, or_false] at hf
          rcases hf with rfl | rfl | rfl | rfl | rfl
          · exact Bin.Rd.kept hfu k (fun q h1 h2 h => by have := (hown0 q h).1; have := HQ.out; omega) (fun h => by have := (hown0 _ h).1; have := HQ.out; omega)
          · obtain ⟨g, e1, e2, e3⟩ := hfu
            exact ⟨g, e1, e2, e3.kept k (fun h => by have := (hown0 _ h).2; omega)⟩
          · exact absurd rfl hne
          · exact Bin.Rd.kept hfu k (fun q h1 h2 h => by have := (hown0 q h).1; have := HQ.out; omega) (fun h => by have := (hown0 _ h).1; have := HQ.out; omega)
          · exact absurd (List.Mem.head _) hs
        obtain ⟨a5, n5, c5, rfl⟩ : ∃ a n c, v5 = .slice a n c := hv
        simp only [Act.put, List.setIfInBounds_toArray, List.set_cons_zero, List.set_cons_succ]
        iterate 1 (refine wpPar_pure rfl (by rfl) _ (fun W hW => by
            go_simp
            exact rfl) ?_; simp only [Act.put, List.setIfInBounds_toArray, List.set_cons_zero, List.set_cons_succ])
        refine wpPar_nil (fun W hW hG => ?_)
        have hRW : Bin.Rd W lo r r S2 := hG 3
        have hOW : Ho 23 W (g6 + 1) (.slice a5 n5 c5) (ps ++ [hh]) := hG 5
        have hown0 : ∀ q, (Value.slice a3 ps.length c3).ownBlock = some q → (g6 + 1) ≤ q ∧ q < wr.heap.size := fun q hq => hO.out.2.own q hq
        have hq := HQ.out
        have hP6W := HP6.out.kept hW (fun h => by
          rcases h with h | h
          · omega
          · have := (hown0 g6 h).1; omega)
        have hzW := HR.out.hz.kept hW (fun h => by
          rcases h with h | h
          · omega
          · have := (hown0 _ h).1; omega)
        have kW : Kept None w W := HR.out.kept.then hW (fun i hi h => by
          rcases h with h | h
          · omega
          · have := (hown0 i h).1; omega)
        have c0 := pf_c0 hP6W
        have f0 := hP6W.free 0
        have hWs := hW.size
        have HRM : Hid (RMid 23 63 w z lo r r g6 l (k + 1) (W.setCell ⟨g6, 0, none⟩ (.slice a5 n5 c5))) := hid (by
          have k1 := Kept.one W g6 0 (.slice a5 n5 c5)
          refine ⟨kW.setCell (p := ⟨g6, 0, none⟩) (fun h => by have h : g6 < w.heap.size := h; omega) _, hzW.setOther (by show w.heap.size ≠ g6; omega) _, ?_, ⟨.slice a5 n5 c5, ?_, ?_⟩, ?_⟩
          · have := HS2.out
            rw [← this]
            exact hRW.kept k1 (fun q h1 h2 h => by have h : q = g6 := h; omega) (fun h => by have h : r = g6 := h; omega)
          · have h := hP6W.set 0 (.slice a5 n5 c5)
            simpa [pfC] using h
          · rw [HNX.out]
            exact hOW.kept k1 (fun q hq2 h => by have h : q = g6 := h; have := (hOW.2.own q hq2).1; omega)
          · refine ⟨by omega, by omega, by omega, by omega, ?_⟩
            have := k1.size
            omega)
        clear hG hW hRW hOW hown0 hq hP6W hzW kW hWs HC HP6 HR
        go_wp2
        go_roundg (n - (k + 1))
        case measure => omega
        case rel => exact ⟨k + 1, by go_num, by omega, Nat.le_refl _, HRM⟩
      · obtain rfl : k = n := by omega
        have hlz : ¬ (k : Int) < (k : Int) := by omega
        obtain ⟨s, hP6, hO6⟩ := HR.out.pf
        obtain ⟨Sa, hSa⟩ : ∃ S, S = stAt l (8 + 32 * k) := ⟨_, rfl⟩
        obtain ⟨Sb, hSb⟩ : ∃ S, S = stAt l (16 + 32 * k) := ⟨_, rfl⟩
        obtain ⟨Sc, hSc⟩ : ∃ S, S = stAt l (48 + 32 * k) := ⟨_, rfl⟩
        obtain ⟨Sd, hSd⟩ : ∃ S, S = stAt l (80 + 32 * k) := ⟨_, rfl⟩
        obtain ⟨En, hEn⟩ : ∃ e, e = endR l := ⟨_, rfl⟩
        obtain ⟨hI, hhI⟩ : ∃ h, h = hashO Sb := ⟨_, rfl⟩
        obtain ⟨hV, hhV⟩ : ∃ h, h = hashO Sc := ⟨_, rfl⟩
        have hEb : 0 ≤ En ∧ En < 18446744073709551616 := by rw [hEn]; unfold endR; exact ⟨St.num_ge _, St.num_lt _⟩
        have hNum : ∀ W, Bin.Rd W lo r r Sa → Calls Try.prog 76 #[.pointer (some ⟨r, 0, none⟩)] W fun e w' => e = .returned (.int .u64 En) ∧ Kept (Just r) W w' ∧ Bin.Rd w' lo r r Sb := fun W h => by
          have h2 := Bin.rnum r lo r Sa W h (Nat.le_refl _)
          have e1 : Sa.num = En := by rw [hSa, hEn, HQE.out.2.2.1]; rfl
          have e2 : Sa.numS = Sb := by rw [hSa, hSb, stAt_num, show 8 + 32 * k + 8 = 16 + 32 * k by omega]
          rwa [e1, e2] at h2
        have hH1 : ∀ W, Bin.Rd W lo r r Sb → Calls Try.prog 77 #[.pointer (some ⟨r, 0, none⟩)] W fun e w' => e = .returned (hashV hI) ∧ Kept (Just r) W w' ∧ Bin.Rd w' lo r r Sc := fun W h => by
          have h2 := rhash r lo r Sb W h (Nat.le_refl _) (by rw [hSb]; unfold stAt; split <;> simp; omega)
          have e2 : Sb.rawS 32 = Sc := by
            rw [hSb, hSc, show 48 + 32 * k = 16 + 32 * k + 32 by omega]
            exact stAt_raw l (16 + 32 * k) 32
          rwa [e2, ← hhI] at h2
        have hH2 : ∀ W, Bin.Rd W lo r r Sc → Calls Try.prog 77 #[.pointer (some ⟨r, 0, none⟩)] W fun e w' => e = .returned (hashV hV) ∧ Kept (Just r) W w' ∧ Bin.Rd w' lo r r Sd := fun W h => by
          have h2 := rhash r lo r Sc W h (Nat.le_refl _) (by rw [hSc]; unfold stAt; split <;> simp; omega)
          have e2 : Sc.rawS 32 = Sd := by
            rw [hSc, hSd, show 80 + 32 * k = 48 + 32 * k + 32 by omega]
            exact stAt_raw l (48 + 32 * k) 32
          rwa [e2, ← hhV] at h2
        have hI32 : hI.length = 32 := by rw [hhI]; exact hashO_len _
        have hV32 : hV.length = 32 := by rw [hhV]; exact hashO_len _
        obtain ⟨ps, hps⟩ : ∃ h, h = hashesO (stAt l 8) k := ⟨_, rfl⟩
        have hr0 := HR.out.rd
        rw [← hSa] at hr0
        rw [← hps] at hO6
        obtain ⟨a3, c3, rfl⟩ := hO6.form
        have hFin : readPf l = ⟨ps, En, ⟨hI, hV⟩⟩ := by
          unfold readPf
          rw [← HQE.out.2.2.1, ← hps, ← hEn, ← hSb, ← hSc, ← hhI, ← hhV]
        have hSde : Sd = if 80 + 32 * k ≤ l.length then ⟨l.drop (80 + 32 * k), 0⟩ else ⟨[], 21⟩ := by rw [hSd]; rfl
        have hEr : er = if l.length < 80 + 32 * k then 21 else if 2 < En ∨ 80 + 32 * k < l.length then 20 else 0 := by
          rw [HQE.out.2.1]
          unfold readEP
          rw [← HQE.out.2.2.1, ← hEn, if_neg (by omega)]
        have hQr : q = if er = 0 then ⟨ps, En, ⟨hI, hV⟩⟩ else zeroPf := by
          rw [HQE.out.1, HQE.out.2.1]
          unfold readQP
          rw [hFin]
        have HNum := hid hNum
        have HH1 := hid hH1
        have HH2 := hid hH2
        have H32 := hid (And.intro hI32 hV32)
        have HE := hid hEb
        have HFE := hid (And.intro hSde (And.intro hEr hQr))
        have HQ := hid (And.intro HR.out.lt (And.intro hr0.lt hP6.lt))
        have kR := HR.out.kept
        have hzR := HR.out.hz
        have hok0 : (zeroPf).Ok := zeroPf_ok
        clear hSa hSb hSc hSd hEn hhI hhV hEb hNum hH1 hH2 hI32 hV32 hps hFin hSde hEr hQr HR HM HN HQE
        go_wp2_with fail
        refine (HNum.out _ hr0).mono ?_
        rintro e w3 ⟨rfl, k3, r3⟩
        have hq := HQ.out
        have kw3 := kR.then k3 (fun i hi h => by have h : i = r := h; omega)
        have hz3 := hzR.kept k3 (fun h => by have h : w.heap.size = r := h; omega)
        have hP3 := hP6.kept k3 (fun h => by have h : g6 = r := h; omega)
        have hO3 := hO6.kept k3 (fun q2 hq2 h => by have h : q2 = r := h; have := (hO6.2.own q2 hq2).1; omega)
        clear hr0 k3 kR hzR hP6 hO6 hq
        go_wp2_with fail
        refine (HH1.out _ r3).mono ?_
        rintro e w4 ⟨rfl, k4, r4⟩
        have hq := HQ.out
        have kw4 := kw3.then k4 (fun i hi h => by have h : i = r := h; omega)
        have hz4 := hz3.kept k4 (fun h => by have h : w.heap.size = r := h; omega)
        have hP4 := hP3.kept k4 (fun h => by have h : g6 = r := h; omega)
        have hO4 := hO3.kept k4 (fun q2 hq2 h => by have h : q2 = r := h; have := (hO3.2.own q2 hq2).1; omega)
        clear r3 k4 kw3 hz3 hP3 hO3 hq
        have hI' := H32.out.1
        have HCI := hid (pf_cut_i (.slice a3 ps.length c3) hok0 hI)
        go_wp2_with (first | (refine pf_store rfl _ _ _ rfl rfl rfl hP4 hok0 hI' (by kernel_rfl) (by decide) HCI.out ?_; intro w5 hP5 k5) | fail)
        have hq := HQ.out
        have r5 := r4.kept k5 (fun q2 h1 h2 h => by have h : q2 = g6 := h; omega) (fun h => by have h : r = g6 := h; omega)
        have kw5 := kw4.then k5 (fun i hi h => by have h : i = g6 := h; omega)
        have hz5 := hz4.kept k5 (fun h => by have h : w.heap.size = g6 := h; omega)
        have hO5 := hO4.kept k5 (fun q2 hq2 h => by have h : q2 = g6 := h; have := (hO4.2.own q2 hq2).1; omega)
        clear r4 k5 kw4 hz4 hP4 hO4 hq
        refine (HH2.out _ r5).mono ?_
        rintro e w6 ⟨rfl, k6, r6⟩
        have hq := HQ.out
        have kw6 := kw5.then k6 (fun i hi h => by have h : i = r := h; omega)
        have hz6 := hz5.kept k6 (fun h => by have h : w.heap.size = r := h; omega)
        have hP6 := hP5.kept k6 (fun h => by have h : g6 = r := h; omega)
        have hO6 := hO5.kept k6 (fun q2 hq2 h => by have h : q2 = r := h; have := (hO5.2.own q2 hq2).1; omega)
        clear r5 k6 kw5 hz5 hP5 hO5 hq
        have hV' := H32.out.2
        have hok1 : Pf.Ok ⟨zeroPf.path, zeroPf.e, ⟨hI, zeroPf.x.v⟩⟩ := ⟨zeroPf_ok.1, hI', rfl⟩
        have HCV := hid (pf_cut_v (.slice a3 ps.length c3) hok1 hV)
        go_wp2_with (first | (refine pf_store rfl _ _ _ rfl rfl rfl hP6 hok1 hV' (by kernel_rfl) (by decide) HCV.out ?_; intro w7 hP7 k7) | fail)
        have hq := HQ.out
        have r7 := r6.kept k7 (fun q2 h1 h2 h => by have h : q2 = g6 := h; omega) (fun h => by have h : r = g6 := h; omega)
        have kw7 := kw6.then k7 (fun i hi h => by have h : i = g6 := h; omega)
        have hz7 := hz6.kept k7 (fun h => by have h : w.heap.size = g6 := h; omega)
        have hO7 := hO6.kept k7 (fun q2 hq2 h => by have h : q2 = g6 := h; have := (hO6.2.own q2 hq2).1; omega)
        clear r6 k7 kw6 hz6 hP6 hO6 hq
        have hzall : (pfC (.slice none 0 0) zeroPf).toArray.all (·.oneCell') = true := pfC_one (Rh.nil 0 w)
        have HALL := hid hzall
        clear hzall
        refine (Bin.rerr r lo r Sd w7 r7).mono ?_
        rintro e w8 ⟨rfl, rfl⟩
        by_cases hshort : l.length < 80 + 32 * k
        · have hSd21 : Sd = ⟨[], 21⟩ := by rw [HFE.out.1, if_neg (by omega)]
          have hEr : er = 21 := by rw [HFE.out.2.1, if_pos hshort]
          have hQr : q = zeroPf := by rw [HFE.out.2.2, hEr]; rfl
          have HEQ := hid (And.intro hEr hQr)
          rw [hSd21] at r7 ⊢
          clear hEr hQr hSd21
          go_wp2_with (first | (refine wpList_store_blk rfl _ _ _ rfl rfl rfl hz7 aP66 hz HALL.out ?_; intro w9 hR9 k9) | fail)
          refine (Bin.rerr r lo r ⟨[], 21⟩ w7 r7).mono ?_
          rintro e w8 ⟨rfl, rfl⟩
          go_wp2_with (first | (refine wpList_store_blk rfl _ _ _ rfl rfl rfl hz7 aP66 hz HALL.out ?_; intro w9 hR9 k9) | fail)
          exact bodyPost_ret (v := .tuple #[pfV (.slice none 0 0) zeroPf, .int .i64 21]) (res_cell_tmp rfl _ rfl rfl hR9 aP66) rfl ⟨.slice none 0 0, by rw [HEQ.out.1, HEQ.out.2], kw7.then k9 (fun i hi h => by have h : i = w.heap.size := h; omega), by rw [HEQ.out.2]; exact Rh.nil _ _⟩
        · have hSd0 : Sd = ⟨l.drop (80 + 32 * k), 0⟩ := by rw [HFE.out.1, if_pos (by omega)]
          rw [hSd0] at r7 ⊢
          have hE0 := HE.out.1
          by_cases hE2 : 2 < En
          · have hEr : er = 20 := by rw [HFE.out.2.1, if_neg hshort, if_pos (.inl hE2)]
            have hQr : q = zeroPf := by rw [HFE.out.2.2, hEr]; rfl
            have HEQ := hid (And.intro hEr hQr)
            clear hEr hQr hSd0
            go_wp2_with (first | go_skip | (refine wpList_store_blk rfl _ _ _ rfl rfl rfl hz7 aP66 hz HALL.out ?_; intro w9 hR9 k9) | fail)
            exact bodyPost_ret (v := .tuple #[pfV (.slice none 0 0) zeroPf, .int .i64 20]) (res_cell_tmp rfl _ rfl rfl hR9 aP66) rfl ⟨.slice none 0 0, by rw [HEQ.out.1, HEQ.out.2], kw7.then k9 (fun i hi h => by have h : i = w.heap.size := h; omega), by rw [HEQ.out.2]; exact Rh.nil _ _⟩
          · have hEle : En ≤ 2 := by omega
            go_wp2_with fail
            refine (Bin.rleft r lo r ⟨l.drop (80 + 32 * k), 0⟩ w7 r7 (by simp; omega)).mono ?_
            rintro e w8 ⟨rfl, rfl⟩
            by_cases hmore : 80 + 32 * k < l.length
            · have hEr : er = 20 := by rw [HFE.out.2.1, if_neg hshort, if_pos (.inr hmore)]
              have hQr : q = zeroPf := by rw [HFE.out.2.2, hEr]; rfl
              have HEQ := hid (And.intro hEr hQr)
              obtain ⟨L, hL⟩ : ∃ L, L = (l.drop (80 + 32 * k)).length := ⟨_, rfl⟩
              have hL0 : (0 : Int) < (L : Int) := by rw [hL, List.length_drop]; omega
              rw [show (({ l := l.drop (80 + 32 * k), e := 0 } : St).l.length : Int) = (L : Int) by rw [hL]]
              clear hEr hQr hSd0 hL
              go_wp2_with (first | (refine wpList_store_blk rfl _ _ _ rfl rfl rfl hz7 aP66 hz HALL.out ?_; intro w9 hR9 k9) | fail)
              exact bodyPost_ret (v := .tuple #[pfV (.slice none 0 0) zeroPf, .int .i64 20]) (res_cell_tmp rfl _ rfl rfl hR9 aP66) rfl ⟨.slice none 0 0, by rw [HEQ.out.1, HEQ.out.2], kw7.then k9 (fun i hi h => by have h : i = w.heap.size := h; omega), by rw [HEQ.out.2]; exact Rh.nil _ _⟩
            · have hEr : er = 0 := by rw [HFE.out.2.1, if_neg hshort, if_neg (by omega)]
              have hQr : q = ⟨ps, En, ⟨hI, hV⟩⟩ := by rw [HFE.out.2.2, if_pos hEr]
              have HEQ := hid (And.intro hEr hQr)
              have hL0 : (l.drop (80 + 32 * k)).length = 0 := by rw [List.length_drop]; omega
              rw [show (({ l := l.drop (80 + 32 * k), e := 0 } : St).l.length : Int) = 0 by exact_mod_cast hL0]
              have c1 := pf_c1 hP7
              have f1 := hP7.free 1
              have hset : Blk (w7.setCell ⟨g6, 1, none⟩ (.int .i64 En)) g6 (pfC (.slice a3 ps.length c3) ⟨ps, En, ⟨hI, hV⟩⟩).toArray 63 := by
                have h := hP7.set 1 (.int .i64 En)
                simpa [pfC] using h
              have hq := HQ.out
              have k78 := Kept.one w7 g6 1 (.int .i64 En)
              have hz8 := hz7.kept k78 (fun h => by have h : w.heap.size = g6 := h; omega)
              have hO8 := hO7.kept k78 (fun q2 hq2 h => by have h : q2 = g6 := h; have := (hO7.2.own q2 hq2).1; omega)
              have kw8 := kw7.then k78 (fun i hi h => by have h : i = g6 := h; omega)
              have hokF : Pf.Ok ⟨ps, En, ⟨hI, hV⟩⟩ := ⟨hO7.1, hI', hV'⟩
              have aPF := aP (s := .slice a3 ps.length c3) hokF
              have hRh := hO8.rh
              have hallF : (pfC (.slice a3 ps.length c3) ⟨ps, En, ⟨hI, hV⟩⟩).toArray.all (·.oneCell') = true := pfC_one (p := ⟨ps, En, ⟨hI, hV⟩⟩) hRh
              have HAF := hid hallF
              have EF := hid (hz.trans (show 66 = (pfC (.slice a3 ps.length c3) ⟨ps, En, ⟨hI, hV⟩⟩).toArray.size by simpa using (pfC_len (.slice a3 ps.length c3) hokF).symm))
              have wE : IntKind.i64.wrap En = En := by rw [IntKind.wrap_i64]; omega
              have HRH := hid hRh
              clear hEr hQr hSd0 hL0 hP7 k78 hz7 hO7 kw7 hq hallF hRh hO8
              go_wp2_with (first | (refine wpList_load_blk rfl _ _ rfl rfl hset aPF ?_) | (refine wpList_store_blk rfl _ _ _ rfl rfl rfl hz8 aPF EF.out HAF.out ?_; intro w9 hR9 k9) | fail)
              exact bodyPost_ret (v := .tuple #[pfV (.slice a3 ps.length c3) ⟨ps, En, ⟨hI, hV⟩⟩, .int .i64 0]) (res_cell_tmp rfl _ rfl rfl hR9 aPF) rfl ⟨.slice a3 ps.length c3, by rw [HEQ.out.1, HEQ.out.2], kw8.then k9 (fun i hi h => by have h : i = w.heap.size := h; omega), by rw [HEQ.out.2]; exact (HRH.out.keptS k9 (fun q2 h1 h => by have h : q2 = w.heap.size := h; have := HQ.out; omega)).mono (by have := HQ.out; omega)⟩
end Pr
end Go.Proofs.Ytidegffdhpdhjaa
