/- Package proof, hash: by contract. -/
import Derived.Test.YtkogkcaflhjlhaaReadP7
import Derived.Test.YtkogkcaflhjlhaaLowRd
import Derived.Laws.IdiomCopy
namespace Go.Pm
open Go Go.RowKit
/-- What a copy of bytes into a hash of noughts leaves. -/
def padO (l : List UInt8) : List UInt8 := if l.length = 32 then l else zero32
theorem padO_len (l : List UInt8) : (padO l).length = 32 := by unfold padO; split; assumption; rfl
theorem raw32 (s : St) : (s.raw 32).length = 32 ∨ (s.raw 32).length = 0 := by
  unfold St.raw
  split
  · left; rw [List.length_take]; omega
  · right; rfl
theorem padO_raw (s : St) : padO (s.raw 32) = hashO s := by
  unfold padO hashO St.raw
  by_cases h : s.e = 0 ∧ 32 ≤ s.l.length
  · have h2 : s.e = 0 ∧ (32 : Int) ≤ s.l.length := ⟨h.1, by omega⟩
    rw [if_pos h, if_pos h2, if_pos (by rw [List.length_take]; omega)]
    rfl
  · have h2 : ¬ (s.e = 0 ∧ (32 : Int) ≤ s.l.length) := fun q => h ⟨q.1, by omega⟩
    rw [if_neg h, if_neg h2]
    rfl
theorem wpList_copy_pad {P : Program} {ops : Array Oper} {rest : List Oper} {o : Oper} {a : Act} {w : World} {Q : Exit → Act → World → Prop} (hgd : o.guard = none) (d s : Operand) (dT sT : TypeId)
    (ho : o.op = .call { callee := .builtin .copy, args := #[d, s], argTypes := #[dT, sT] }) (elem : TypeId) (hu : P.underlying dT = some (.slice elem)) (hsz : (P.info? elem).map (·.size) = some 1)
    {g : Nat} {u : Value} (hd : a.eval d = .slice (some ⟨g, 0, none⟩) 32 32) (hs : a.eval s = u) {lo hi : Nat} {l : List UInt8} (hv : Bs w lo hi u l) (hl : l.length = 32 ∨ l.length = 0)
    {t : TypeId} (hb : Blk w g (zero32.map u8v).toArray t)
    (h : ∀ x w', Blk w' g ((padO l).map u8v).toArray t → Kept (Just g) w w' → wpList P ops Q rest (a.put o.dst (.int .i64 x)) w') : wpList P ops Q (o :: rest) a w := by
  refine wpList_plain hgd fun K hK' => ?_
  obtain ⟨sp, sc, rfl, g1, g2, g3⟩ := hv.shape
  obtain ⟨a', cap', e, _, _, h3, h4⟩ := hv
  injection e with e1 e2 e3
  subst e1 e3
  unfold Oper.wp
  rcases hl with h32 | h0
  · cases sp with
    | none => have := h3 rfl; omega
    | some ad =>
      have hrun := run_copy_row (P := P) w dT sT o.type elem g 0 32 32 ad l.length sc (zero32.map u8v).toArray t (l.map u8v) hu hsz hb (by rw [List.length_map, h32]; rfl) (fun j v hj => (h4 ad rfl j v hj).2.2) (by simp [h32, zero32]) (u8v_one l)
      simp only [execOp, ho, resolve, invoke, builtin, Sem.run_bind, Sem.run_pure, Result.andThen_ok, List.map_toArray, List.map_cons, List.map_nil, hd, hs, hrun, List.length_map]
      refine hK' _ _ (h _ _ ?_ (Kept.row _ _ _))
      have := hb.setRow (splice (zero32.map u8v) 0 (l.map u8v)).toArray
      have e : splice (zero32.map u8v) 0 (l.map u8v) = (padO l).map u8v := by
        unfold splice padO
        rw [if_pos h32]
        simp [h32, zero32]
      rw [e] at this
      have e' : ((zero32.map u8v).take 0 ++ l.map u8v ++ (zero32.map u8v).drop (0 + (l.map u8v).length)) = (padO l).map u8v := e
      simpa [splice, padO, h32, zero32] using this
  · have hrun := run_copy_none (P := P) w dT sT o.type elem (some ⟨g, 0, none⟩) sp 32 32 l.length sc hu hsz (by rw [h0]; rfl)
    simp only [execOp, ho, resolve, invoke, builtin, Sem.run_bind, Sem.run_pure, Result.andThen_ok, List.map_toArray, List.map_cons, List.map_nil, hd, hs, hrun]
    refine hK' _ _ (h _ _ ?_ (Kept.refl _ _))
    unfold padO
    rw [if_neg (by omega)]
    exact hb
end Go.Pm
namespace Go.Proofs.Ytkogkcaflhjlhaa
open Go.RowKit Go.Pm
namespace Pr
set_option maxRecDepth 100000 in
set_option maxHeartbeats 1000000 in
/-- hash. -/
theorem rhash (r lo hi : Nat) (s : St) (w : World) (hr : Bin.Rd w lo hi r s) (hlo : hi ≤ r) (hl : s.l.length ≤ 140737488355328) :
    Calls Try.prog 70 #[.pointer (some ⟨r, 0, none⟩)] w fun e w' => e = .returned (hashV (hashO s)) ∧ Kept (Just r) w w' ∧ Bin.Rd w' lo hi r (s.rawS 32) := by
  have hR := fun W h => Bin.rraw r lo hi s 32 W h (by decide) (by decide) hlo hl
  have hpad := padO_raw s
  have h32 := hashO_len s
  obtain ⟨raw, hraw⟩ : ∃ x, x = s.raw 32 := ⟨_, rfl⟩
  have hlen := raw32 s
  obtain ⟨S2, hS2⟩ : ∃ x, x = s.rawS 32 := ⟨_, rfl⟩
  rw [← hraw] at hR hpad hlen
  rw [← hS2] at hR ⊢
  obtain ⟨res, hres⟩ : ∃ x, x = hashO s := ⟨_, rfl⟩
  rw [← hres] at hpad h32 ⊢
  have k0 : Kept None w ((w.alloc (.cells #[.int .u8 0, .int .u8 0, .int .u8 0, .int .u8 0, .int .u8 0, .int .u8 0, .int .u8 0, .int .u8 0, .int .u8 0, .int .u8 0, .int .u8 0, .int .u8 0, .int .u8 0, .int .u8 0, .int .u8 0, .int .u8 0, .int .u8 0, .int .u8 0, .int .u8 0, .int .u8 0, .int .u8 0, .int .u8 0, .int .u8 0, .int .u8 0, .int .u8 0, .int .u8 0, .int .u8 0, .int .u8 0, .int .u8 0, .int .u8 0, .int .u8 0, .int .u8 0] 25)).alloc (.cells #[.int .u8 0, .int .u8 0, .int .u8 0, .int .u8 0, .int .u8 0, .int .u8 0, .int .u8 0, .int .u8 0, .int .u8 0, .int .u8 0, .int .u8 0, .int .u8 0, .int .u8 0, .int .u8 0, .int .u8 0, .int .u8 0, .int .u8 0, .int .u8 0, .int .u8 0, .int .u8 0, .int .u8 0, .int .u8 0, .int .u8 0, .int .u8 0, .int .u8 0, .int .u8 0, .int .u8 0, .int .u8 0, .int .u8 0, .int .u8 0, .int .u8 0, .int .u8 0] 25)) := ((Kept.refl _ _).alloc _).alloc _
  have z1 : Blk ((w.alloc (.cells #[.int .u8 0, .int .u8 0, .int .u8 0, .int .u8 0, .int .u8 0, .int .u8 0, .int .u8 0, .int .u8 0, .int .u8 0, .int .u8 0, .int .u8 0, .int .u8 0, .int .u8 0, .int .u8 0, .int .u8 0, .int .u8 0, .int .u8 0, .int .u8 0, .int .u8 0, .int .u8 0, .int .u8 0, .int .u8 0, .int .u8 0, .int .u8 0, .int .u8 0, .int .u8 0, .int .u8 0, .int .u8 0, .int .u8 0, .int .u8 0, .int .u8 0, .int .u8 0] 25)).alloc (.cells #[.int .u8 0, .int .u8 0, .int .u8 0, .int .u8 0, .int .u8 0, .int .u8 0, .int .u8 0, .int .u8 0, .int .u8 0, .int .u8 0, .int .u8 0, .int .u8 0, .int .u8 0, .int .u8 0, .int .u8 0, .int .u8 0, .int .u8 0, .int .u8 0, .int .u8 0, .int .u8 0, .int .u8 0, .int .u8 0, .int .u8 0, .int .u8 0, .int .u8 0, .int .u8 0, .int .u8 0, .int .u8 0, .int .u8 0, .int .u8 0, .int .u8 0, .int .u8 0] 25)) w.heap.size #[.int .u8 0, .int .u8 0, .int .u8 0, .int .u8 0, .int .u8 0, .int .u8 0, .int .u8 0, .int .u8 0, .int .u8 0, .int .u8 0, .int .u8 0, .int .u8 0, .int .u8 0, .int .u8 0, .int .u8 0, .int .u8 0, .int .u8 0, .int .u8 0, .int .u8 0, .int .u8 0, .int .u8 0, .int .u8 0, .int .u8 0, .int .u8 0, .int .u8 0, .int .u8 0, .int .u8 0, .int .u8 0, .int .u8 0, .int .u8 0, .int .u8 0, .int .u8 0] 25 := (Blk.new w _ _).alloc _
  have z2 : Blk ((w.alloc (.cells #[.int .u8 0, .int .u8 0, .int .u8 0, .int .u8 0, .int .u8 0, .int .u8 0, .int .u8 0, .int .u8 0, .int .u8 0, .int .u8 0, .int .u8 0, .int .u8 0, .int .u8 0, .int .u8 0, .int .u8 0, .int .u8 0, .int .u8 0, .int .u8 0, .int .u8 0, .int .u8 0, .int .u8 0, .int .u8 0, .int .u8 0, .int .u8 0, .int .u8 0, .int .u8 0, .int .u8 0, .int .u8 0, .int .u8 0, .int .u8 0, .int .u8 0, .int .u8 0] 25)).alloc (.cells #[.int .u8 0, .int .u8 0, .int .u8 0, .int .u8 0, .int .u8 0, .int .u8 0, .int .u8 0, .int .u8 0, .int .u8 0, .int .u8 0, .int .u8 0, .int .u8 0, .int .u8 0, .int .u8 0, .int .u8 0, .int .u8 0, .int .u8 0, .int .u8 0, .int .u8 0, .int .u8 0, .int .u8 0, .int .u8 0, .int .u8 0, .int .u8 0, .int .u8 0, .int .u8 0, .int .u8 0, .int .u8 0, .int .u8 0, .int .u8 0, .int .u8 0, .int .u8 0] 25)) (w.heap.size + 1) #[.int .u8 0, .int .u8 0, .int .u8 0, .int .u8 0, .int .u8 0, .int .u8 0, .int .u8 0, .int .u8 0, .int .u8 0, .int .u8 0, .int .u8 0, .int .u8 0, .int .u8 0, .int .u8 0, .int .u8 0, .int .u8 0, .int .u8 0, .int .u8 0, .int .u8 0, .int .u8 0, .int .u8 0, .int .u8 0, .int .u8 0, .int .u8 0, .int .u8 0, .int .u8 0, .int .u8 0, .int .u8 0, .int .u8 0, .int .u8 0, .int .u8 0, .int .u8 0] 25 := Blk.new2 w _ _ _
  obtain ⟨z, hz, hZ⟩ := Blk.any (n := 32) z1 (by rfl)
  have hH : Blk ((w.alloc (.cells #[.int .u8 0, .int .u8 0, .int .u8 0, .int .u8 0, .int .u8 0, .int .u8 0, .int .u8 0, .int .u8 0, .int .u8 0, .int .u8 0, .int .u8 0, .int .u8 0, .int .u8 0, .int .u8 0, .int .u8 0, .int .u8 0, .int .u8 0, .int .u8 0, .int .u8 0, .int .u8 0, .int .u8 0, .int .u8 0, .int .u8 0, .int .u8 0, .int .u8 0, .int .u8 0, .int .u8 0, .int .u8 0, .int .u8 0, .int .u8 0, .int .u8 0, .int .u8 0] 25)).alloc (.cells #[.int .u8 0, .int .u8 0, .int .u8 0, .int .u8 0, .int .u8 0, .int .u8 0, .int .u8 0, .int .u8 0, .int .u8 0, .int .u8 0, .int .u8 0, .int .u8 0, .int .u8 0, .int .u8 0, .int .u8 0, .int .u8 0, .int .u8 0, .int .u8 0, .int .u8 0, .int .u8 0, .int .u8 0, .int .u8 0, .int .u8 0, .int .u8 0, .int .u8 0, .int .u8 0, .int .u8 0, .int .u8 0, .int .u8 0, .int .u8 0, .int .u8 0, .int .u8 0] 25)) (w.heap.size + 1) (zero32.map u8v).toArray 25 := z2
  have hr0 := hr.kept k0 (fun _ _ _ h => h) (fun h => h)
  have HR := hid hR
  have HL := hid hlen
  have HP := hid (And.intro hpad h32)
  have hrw := hid hr.lt
  clear hR hraw hlen hS2 hres hpad h32 z1 z2 hr
  go_enter Try.func70, Try.ntmps70
  go_wp2_with fail
  refine wp_nm ?_
  intro w1 e1
  rw [← e1] at k0 hZ hH hr0
  clear e1
  refine wp_region_plan_tail 3 (Kept (Just r) w1) [{ k := 2, uses := [100], spends := [100], pure := fun u => ∃ a c, u = .slice a raw.length c, fact := fun u W => Bs W 0 W.heap.size u raw ∧ Bin.Rd W lo hi r S2 },
    { k := 100, uses := [], fact := fun _ W => Bin.Rd W lo hi r s }] [100] (by kernel_rfl) (by kernel_rfl) (by kernel_rfl) (by rfl) ?pures ((Kept.refl _ w1).drew) ?starts ?walk
  case pures =>
    intro f hf
    simp only [List.mem_cons, List.not_mem_nil, or_false] at hf
    rcases hf with rfl | rfl
    · exact ⟨_, none, 0, rfl⟩
    · exact ⟨undef, trivial⟩
  case starts =>
    intro k hk
    obtain rfl : k = 100 := by simpa using hk
    exact hr0.kept ((Kept.refl None w1).drew) (fun _ _ _ h => h) (fun h => h)
  simp only [List.take_succ_cons, List.take_zero, List.drop_succ_cons, List.drop_zero]
  iterate 2 (refine wpPar_pure rfl (by rfl) _ (fun W hW => by
      go_simp
      exact rfl) ?_; simp only [Act.put, List.setIfInBounds_toArray, List.set_cons_zero, List.set_cons_succ])
  refine wpPar_adds rfl (by rfl) (fun W hW hd => ?_) (fun v2 hv => ?_)
  · have rW : Bin.Rd W lo hi r s := hd 100 (List.Mem.head _)
    unfold Gives
    go_simp
    refine gives_call (HR.out W rW) ?_
    rintro e W' ⟨u, rfl, k, b, r4⟩
    obtain ⟨a3, c3, rfl⟩ := b.form
    refine ⟨_, rfl, hW.trans k, ⟨_, _, rfl⟩, ⟨(b.bs (Nat.le_refl _)).all, r4⟩, keeps_of fun f hf hs _ hne u hfu => ?_⟩
    simp only [List.mem_cons, List.not_mem_nil, or_false] at hf
    rcases hf with rfl | rfl
    · exact absurd rfl hne
    · exact absurd (List.Mem.head _) hs
  obtain ⟨a2, c2, rfl⟩ : ∃ a c, v2 = .slice a raw.length c := hv
  simp only [Act.put, List.setIfInBounds_toArray, List.set_cons_zero, List.set_cons_succ]
  refine wpPar_nil (fun W hW hG => ?_)
  obtain ⟨hB, hRd⟩ : Bs W 0 W.heap.size (.slice a2 raw.length c2) raw ∧ Bin.Rd W lo hi r S2 := hG 2
  have hZW := hZ.kept hW (fun h => by have h : w.heap.size = r := h; have := hrw.out; omega)
  have hHW := hH.kept hW (fun h => by have h : w.heap.size + 1 = r := h; have := hrw.out; omega)
  have kW : Kept (Just r) w W := (k0.mono (fun _ _ h => h.elim)).trans hW
  clear hG hW hZ hH k0 hr0 HR
  have hB0 := hB
  refine wpList_copy_pad rfl (.tmp 4) (.tmp 6) 22 22 rfl 5 tBytes' (by kernel_rfl) rfl rfl hB0 HL.out hHW ?_
  intro x w5 h5 k5
  rw [HP.out.1] at h5
  have hZ5 := hZW.kept k5 (fun h => by have h : w.heap.size = w.heap.size + 1 := h; omega)
  have hR5 := hRd.kept k5 (fun k h1 h2 h => by have h : k = w.heap.size + 1 := h; have := hrw.out; omega) (fun h => by have h : r = w.heap.size + 1 := h; have := hrw.out; omega)
  have k05 : Kept (Just r) w w5 := kW.then k5 (fun i hi h => by have h : i = w.heap.size + 1 := h; omega)
  have aH' := aH32 HP.out.2
  have E := hid (hz.trans (show 32 = (res.map u8v).toArray.size by simpa using HP.out.2.symm))
  clear hB hB0 hRd hZW hHW kW k5 hz
  go_wp2_with (first | (refine wpList_load_blk rfl _ _ rfl rfl h5 aH' ?_) | (refine wpList_store_blk rfl _ _ _ rfl rfl rfl hZ5 aH' E.out (u8v_all' _) ?_; intro w9 hR9 k9) | fail)
  refine bodyPost_ret (v := hashV res) (results_blk rfl _ rfl hR9 aH') rfl ⟨rfl, k05.then k9 (fun i hi (h : i = w.heap.size) => by omega), ?_⟩
  exact hR5.kept k9 (fun k h1 h2 h => by have h : k = w.heap.size := h; have := hrw.out; omega) (fun h => by have h : r = w.heap.size := h; have := hrw.out; omega)
end Pr
end Go.Proofs.Ytkogkcaflhjlhaa
