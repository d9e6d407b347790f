/- Texts joined: LowByt, NmA, Frame13, Jrn14, JrnB14, Tree6, ItemA6, SetCl, Rows6, Pcs7, Pn14, Scan15, EqF, EqR14, SgTy, RecRow14, ScnC15. -/
import Derived.Test.YtbebpnanhkcngaaProg
import Derived.Test.YtbebpnanhkcngaaPk1
import Derived.Lib.SlBytesConst
import Derived.Deep.MidRow
import Derived.BigQuiet
import Derived.Laws.Tables
import Derived.Laws.OwnMore
import Derived.Great.BuildSlice
import Derived.Deep.LoopGhost
namespace Go.Proofs.Ytbebpnanhkcngaa
open Go.RowKit Go.Pm

theorem tBytes : Try.prog.underlying 22 = some (.slice (Try.prog.elem 22)) := by kernel_rfl
theorem tBytes' : Try.prog.underlying 22 = some (.slice 5) := by kernel_rfl
theorem tByte : Try.prog.underlying 5 = some (.int .u8) := by kernel_rfl
theorem tString : Try.prog.underlying 9 = some .string := by kernel_rfl
theorem zBytes : ∀ W, (sizeOf (Try.prog.elem 22)).run Try.prog W = .ok 1 W := fun _ => by kernel_rfl
theorem infoByte : (Try.prog.info? 5).map (fun i => (i.zero, i.size, i.bytes)) = some (some (.int .u8 0), 1, 1) := by kernel_rfl
theorem rtBytes : RowTy Try.prog 22 5 (.int .u8 0) 1 := ⟨by kernel_rfl, info_parts infoByte, rfl⟩
/-- Bytes that the call owns. -/
abbrev Ob (w : World) (base : Nat) (v : Value) (l : List UInt8) : Prop := Bo 5 w base v l


theorem cvBytes {w : World} {lo hi : Nat} {v : Value} {l : List UInt8} (h : Bs w lo hi v l) : (convert 22 9 v).run Try.prog w = .ok (.string ⟨l.toArray⟩) w := run_string_bs tBytes' tByte tString h

/-- '[]byte("..")' of a constant. -/
theorem constBytes (w : World) (C : Array Value) (n c g : Nat) (hg : g = w.heap.size) : (convert 22 22 (.slice (some ⟨g, 0, none⟩) n c)).run Try.prog (w.alloc (.cells C 5)) = .ok (.slice (some ⟨g, 0, none⟩) n c) (w.alloc (.cells C 5 (C.size, C.size + 1))) := by
  subst hg; exact Lib.run_convert_bytes_const w 22 5 C n c tBytes' tByte

end Go.Proofs.Ytbebpnanhkcngaa
namespace Go.Pm
open Go Go.RowKit
theorem rangeAt_kept {w w' : World} {b o : Nat} {cs : List Value} (h : w.rangeAt b o cs) (hk : Kept None w w') : w'.rangeAt b o cs := fun j v hv => by
  have h1 := h j v hv
  rw [hk.cell (block_lt_of_cell h1) (fun h => h)]
  exact h1
/-- A load, of a known range. -/
theorem exec_load_at {P : Program} {o : Oper} {ev : Operand → Value} {W : World} {ty : TypeId} {x : Operand} {b off : Nat} {cs : List Value} (ho : o.op = .load ty x) (hx : ev x = .pointer (some ⟨b, off, none⟩)) (hc : W.rangeAt b off cs) (hT : AggTy P ty cs.length) : (execOp ev o).run P W = .ok (.value (.agg cs.toArray)) W := by
  obtain ⟨d, hu, hd⟩ := hT.ag
  unfold execOp
  simp only [ho, hx, Instr.loadAt, Instr.sureAddr, Sem.run_bind, Sem.run_pure, Result.andThen_ok, run_loadVar_mid W b off ty cs d hc hu (by cases d <;> first | rfl | exact hd) hT.size]
theorem Calls.nm {P : Program} {f : FuncId} {args : Array Value} {w : World} {K : Ending → World → Prop} (h : ∀ w1, w1 = w → Calls P f args w1 K) : Calls P f args w K := h w rfl
theorem wp_nm {P : Program} {c : Code} {Q : Exit → Act → World → Prop} {a : Act} {w : World} (h : ∀ w1, w1 = w → c.wp P Q a w1) : c.wp P Q a w := h w rfl
theorem wpList_nm {P : Program} {ops : Array Oper} {l : List Oper} {Q : Exit → Act → World → Prop} {a : Act} {w : World} (h : ∀ w1, w1 = w → wpList P ops Q l a w1) : wpList P ops Q l a w := h w rfl
theorem u8v_all' (l : List UInt8) : (l.map u8v).toArray.all (·.oneCell') = true := by
  rw [Array.all_eq_true']
  intro x hx
  exact u8v_one l x (by simpa using hx)
/-- A store to a new block touches nothing that was there. -/
theorem Kept.fresh {w w' : World} {o : Obj} (k : Kept (Just w.heap.size) (w.alloc o) w') : Kept None w w' := ((Kept.refl None w).alloc o).then k (fun i hi h => by have h : i = w.heap.size := h; omega)
/-- A new block, its size alone. -/
theorem Blk.any {w : World} {g n : Nat} {cs : Array Value} {t : TypeId} (h : Blk w g cs t) (hs : cs.size = n) : ∃ z : Array Value, z.size = n ∧ Blk w g z t := ⟨cs, hs, h⟩
/-- Cells in the midst of a row, loaded, guarded or not. -/
theorem wpList_load_wr {P : Program} {ops : Array Oper} {rest : List Oper} {o : Oper} {a : Act} {w : World} {Q : Exit → Act → World → Prop} (hw : Region.wanted o (yielded ops a.tmps) = true) {ty : TypeId} {x : Operand} (ho : o.op = .load ty x)
    {b off : Nat} (hx : a.eval x = .pointer (some ⟨b, off, none⟩)) {cs : List Value} (hc : w.rangeAt b off cs) (hT : AggTy P ty cs.length)
    (h : wpList P ops Q rest (a.put o.dst (.agg cs.toArray)) w) : wpList P ops Q (o :: rest) a w :=
  BigFrame.wpList_want hw fun K hK => by
    unfold Oper.wp
    rw [exec_load_at ho hx hc hT]
    exact hK _ _ h
theorem wpList_load_bw {P : Program} {ops : Array Oper} {rest : List Oper} {o : Oper} {a : Act} {w : World} {Q : Exit → Act → World → Prop} (hw : Region.wanted o (yielded ops a.tmps) = true) {ty : TypeId} {x : Operand} (ho : o.op = .load ty x)
    {g : Nat} (hx : a.eval x = .pointer (some ⟨g, 0, none⟩)) {t : TypeId} {cs : Array Value} (hb : Blk w g cs t) (hT : AggTy P ty cs.size)
    (h : wpList P ops Q rest (a.put o.dst (.agg cs)) w) : wpList P ops Q (o :: rest) a w :=
  BigFrame.wpList_want hw fun K hK => by
    unfold Oper.wp
    rw [exec_load_blk ty x ho hx hb hT]
    exact hK _ _ h
theorem Blk.rg {w : World} {g : Nat} {cs : Array Value} {t : TypeId} (h : Blk w g cs t) : w.rangeAt g 0 cs.toList := fun j c hj => by rw [Nat.zero_add, h.cell]; simpa using hj
/-- It makes a block of so many noughts. -/
abbrev Fct.room (k : Nat) (lo n : Nat) (t : TypeId) (uses : List Nat := []) : Fct := { k := k, uses := uses, pure := fun u => ∃ g, u = .pointer (some ⟨g, 0, none⟩), fact := fun u W => ∃ g z, u = .pointer (some ⟨g, 0, none⟩) ∧ lo ≤ g ∧ z.size = n ∧ Blk W g z t }
theorem Steady.room {l : List Fct} {k : Nat} {us : List Nat} {lo n : Nat} {t : TypeId} (h : Steady l) : Steady (.room k lo n t us :: l) := .cons ⟨_, 0, rfl⟩ (fun _ _ _ hk ⟨g, z, h1, h2, h3, h4⟩ => ⟨g, z, h1, h2, h3, h4.kept hk (fun h => h)⟩) h
end Go.Pm
namespace Go.Pm
open Go Go.RowKit
def le4 (n : Int) : List UInt8 := [byteOf n, byteOf (n / 256), byteOf (n / 65536), byteOf (n / 16777216)]
def le4V (l : List UInt8) : Int := bAt l 0 + bAt l 1 * 256 + bAt l 2 * 65536 + bAt l 3 * 16777216
/-- A frame's mark. -/
def markF (k s : Int) (b : List UInt8) : List UInt8 := (sumB (textB 102 [[byteOf k], leB s, b])).take 8
def putF (k s : Int) (b : List UInt8) : List UInt8 := le4 b.length ++ [byteOf k] ++ leB s ++ b ++ markF k s b
def putFE (k s : Int) (b : List UInt8) : Int := if k < 1 ∨ 255 < k ∨ s < 0 then 23 else if 4096 < b.length then 22 else 0
def putFL (k s : Int) (b : List UInt8) : List UInt8 := if putFE k s b = 0 then putF k s b else []
structure Fr where
  kind : Int
  seq : Int
  body : List UInt8
  n : Nat
  e : Int
def readF (b : List UInt8) : Fr :=
  if b.length < 13 then ⟨0, 0, [], 0, 21⟩
  else if 4096 < le4V b ∨ bAt b 4 = 0 ∨ 9223372036854775807 < leV (b.drop 5) then ⟨0, 0, [], 0, 20⟩
  else if (b.length : Int) < 21 + le4V b then ⟨0, 0, [], 0, 21⟩
  else if markF (bAt b 4) (leV (b.drop 5)) ((b.drop 13).take (le4V b).toNat) = (b.drop (13 + (le4V b).toNat)).take 8 then ⟨bAt b 4, leV (b.drop 5), (b.drop 13).take (le4V b).toNat, 21 + (le4V b).toNat, 0⟩
  else ⟨0, 0, [], 0, 24⟩
theorem le4V_ge (l : List UInt8) : 0 ≤ le4V l := by
  have := bAt_ge l 0
  have := bAt_ge l 1
  have := bAt_ge l 2
  have := bAt_ge l 3
  unfold le4V
  omega
theorem le4V_lt (l : List UInt8) : le4V l < 4294967296 := by
  have := bAt_lt l 0
  have := bAt_lt l 1
  have := bAt_lt l 2
  have := bAt_lt l 3
  unfold le4V
  omega
theorem le4_length (n : Int) : (le4 n).length = 4 := rfl
theorem markF_len (k s : Int) (b : List UInt8) : (markF k s b).length = 8 := by simp [markF, sumB_len]
theorem putF_len (k s : Int) (b : List UInt8) : (putF k s b).length = 21 + b.length := by
  simp [putF, le4_length, leB_length, markF_len]
  omega
theorem le4V_le4 (n : Int) (h0 : 0 ≤ n) (h1 : n < 4294967296) (r : List UInt8) : le4V (le4 n ++ r) = n := by
  show ((Go.Pm.byteOf n).toNat : Int) + ((Go.Pm.byteOf (n / 256)).toNat : Int) * 256 + ((Go.Pm.byteOf (n / 65536)).toNat : Int) * 65536 + ((Go.Pm.byteOf (n / 16777216)).toNat : Int) * 16777216 = n
  rw [byteOf_toNat, byteOf_toNat, byteOf_toNat, byteOf_toNat]
  omega
/-- A frame, and whatever stands behind it, reads as the frame. -/
theorem read_putF (k s : Int) (b r : List UInt8) (k0 : 1 ≤ k) (k1 : k ≤ 255) (s0 : 0 ≤ s) (s1 : s ≤ 9223372036854775807) (hb : b.length ≤ 4096) : readF (putF k s b ++ r) = ⟨k, s, b, 21 + b.length, 0⟩ := by
  have e0 : putF k s b ++ r = le4 b.length ++ ([Go.Pm.byteOf k] ++ (leB s ++ (b ++ (markF k s b ++ r)))) := by simp [putF]
  have hM : le4V (putF k s b ++ r) = (b.length : Int) := by rw [e0]; exact le4V_le4 _ (by omega) (by omega) _
  have hK : bAt (putF k s b ++ r) 4 = k := by
    rw [e0]
    show ((Go.Pm.byteOf k).toNat : Int) = k
    rw [byteOf_toNat]
    omega
  have d5 : (putF k s b ++ r).drop 5 = leB s ++ (b ++ (markF k s b ++ r)) := by
    rw [e0, ← List.append_assoc]
    exact List.drop_left' (by simp [le4_length])
  have hS : leV ((putF k s b ++ r).drop 5) = s := by rw [d5]; exact leV_leB s s0 (by omega) _
  have d13 : (putF k s b ++ r).drop 13 = b ++ (markF k s b ++ r) := by
    rw [e0, ← List.append_assoc, ← List.append_assoc]
    exact List.drop_left' (by simp [le4_length, leB_length])
  have dB : (putF k s b ++ r).drop (13 + b.length) = markF k s b ++ r := by
    rw [← List.drop_drop, d13]
    exact List.drop_left' rfl
  have hl : (putF k s b ++ r).length = 21 + b.length + r.length := by rw [List.length_append, putF_len]
  have tB : ((putF k s b ++ r).drop 13).take b.length = b := by rw [d13]; exact List.take_left' rfl
  have tM : ((putF k s b ++ r).drop (13 + b.length)).take 8 = markF k s b := by rw [dB]; exact List.take_left' (markF_len _ _ _)
  unfold readF
  rw [if_neg (by omega), if_neg (by rw [hM, hK, hS]; omega), if_neg (by rw [hM, hl]; omega), hM, hK, hS, Int.toNat_natCast, tB, tM, if_pos rfl]
theorem readF_body (b : List UInt8) : (readF b).e ≠ 0 → (readF b).body = [] := by
  unfold readF
  split
  · exact fun _ => rfl
  · split
    · exact fun _ => rfl
    · split
      · exact fun _ => rfl
      · split
        · exact fun h => absurd rfl h
        · exact fun _ => rfl
/-- What readF says, in numbers. -/
theorem readF_bad {b : List UInt8} {M K S : Nat} (hl : ¬ b.length < 13) (e : le4V b = (M : Int) ∧ bAt b 4 = (K : Int) ∧ leV (b.drop 5) = (S : Int)) (h : 4096 < M ∨ K = 0 ∨ 9223372036854775807 < S) : readF b = ⟨0, 0, [], 0, 20⟩ := by
  unfold readF
  rw [if_neg hl, if_pos (by rw [e.1, e.2.1, e.2.2]; omega)]
theorem readF_short {b : List UInt8} {M K S : Nat} (hl : ¬ b.length < 13) (e : le4V b = (M : Int) ∧ bAt b 4 = (K : Int) ∧ leV (b.drop 5) = (S : Int)) (h : ¬ (4096 < M ∨ K = 0 ∨ 9223372036854775807 < S)) (hs : b.length < 21 + M) : readF b = ⟨0, 0, [], 0, 21⟩ := by
  unfold readF
  rw [if_neg hl, if_neg (by rw [e.1, e.2.1, e.2.2]; omega), if_pos (by rw [e.1]; omega)]
theorem readF_sum {b : List UInt8} {M K S : Nat} (hl : ¬ b.length < 13) (e : le4V b = (M : Int) ∧ bAt b 4 = (K : Int) ∧ leV (b.drop 5) = (S : Int)) (h : ¬ (4096 < M ∨ K = 0 ∨ 9223372036854775807 < S)) (hs : ¬ b.length < 21 + M) (hm : ¬ markF K S ((b.drop 13).take M) = (b.drop (13 + M)).take 8) : readF b = ⟨0, 0, [], 0, 24⟩ := by
  unfold readF
  rw [if_neg hl, if_neg (by rw [e.1, e.2.1, e.2.2]; omega), if_neg (by rw [e.1]; omega), if_neg (by rw [e.1, e.2.1, e.2.2, Int.toNat_natCast]; exact hm)]
theorem readF_ok {b : List UInt8} {M K S : Nat} (hl : ¬ b.length < 13) (e : le4V b = (M : Int) ∧ bAt b 4 = (K : Int) ∧ leV (b.drop 5) = (S : Int)) (h : ¬ (4096 < M ∨ K = 0 ∨ 9223372036854775807 < S)) (hs : ¬ b.length < 21 + M) (hm : markF K S ((b.drop 13).take M) = (b.drop (13 + M)).take 8) : readF b = ⟨K, S, (b.drop 13).take M, 21 + M, 0⟩ := by
  unfold readF
  rw [if_neg hl, if_neg (by rw [e.1, e.2.1, e.2.2]; omega), if_neg (by rw [e.1]; omega), if_pos (by rw [e.1, e.2.1, e.2.2, Int.toNat_natCast]; exact hm), e.1, e.2.1, e.2.2, Int.toNat_natCast]
theorem Fm.putFL_ok {k s : Int} {b : List UInt8} (k0 : 1 ≤ k) (k1 : k ≤ 255) (s0 : 0 ≤ s) (hb : b.length ≤ 4096) : putFE k s b = 0 ∧ putFL k s b = putF k s b := by
  have e : putFE k s b = 0 := by unfold putFE; rw [if_neg (by omega), if_neg (by omega)]
  exact ⟨e, by unfold putFL; rw [if_pos e]⟩
end Go.Pm
namespace Go.Pm
open Go Go.RowKit
/-- A record. -/
structure Rec where
  kind : Int
  seq : Int
  gen : Int
  count : Int
  u : Req
  tick : Int
  epoch : Int
def Rec.none : Rec := ⟨0, 0, 0, 0, Req.none, 0, 0⟩
def Rec.C (r : Rec) : Array Value := #[.int .i64 r.kind, .int .i64 r.seq, .int .i64 r.gen, .int .i64 r.count, .string r.u.n, .int .i64 r.u.v, .int .u64 (r.u.k : Int), .int .i64 r.u.c, .int .u64 (r.u.r : Int), .int .u64 (r.u.s : Int), .int .i64 r.tick, .int .i64 r.epoch]
abbrev Rec.V (r : Rec) : Value := .agg r.C
/-- No request at all. -/
def Req.no (q : Req) : Bool := decide (q.n.size = 0) && decide (q.v = 0) && decide (q.k = 0) && decide (q.c = 0) && decide (q.r = 0) && decide (q.s = 0)
/-- The fields of a request are numbers of their types. -/
def Req.Fits (q : Req) : Prop := (-9223372036854775808 ≤ q.v ∧ q.v < 9223372036854775808) ∧ q.k < 18446744073709551616 ∧ (-9223372036854775808 ≤ q.c ∧ q.c < 9223372036854775808) ∧ q.r < 18446744073709551616 ∧ q.s < 18446744073709551616
def inI (x : Int) : Prop := -9223372036854775808 ≤ x ∧ x < 9223372036854775808
def Rec.Fits (r : Rec) : Prop := inI r.kind ∧ inI r.seq ∧ inI r.gen ∧ inI r.count ∧ r.u.Fits ∧ inI r.tick ∧ inI r.epoch
def baseJ (r : Rec) : Bool := decide (r.kind = 1) && r.u.no && decide (r.tick = 0) && decide (r.epoch = 0) && decide (0 ≤ r.gen) && decide (r.gen ≤ 1152921504606846976) && decide (0 ≤ r.count) && decide (r.count ≤ 32)
def pendJ (r : Rec) : Bool := decide (r.kind = 2) && decide (r.gen = 0) && decide (r.count = 0) && decide (r.epoch = 0) && r.u.right && decide (0 ≤ r.tick) && decide (r.tick ≤ 1152921504606846976)
def doneJ (r : Rec) : Bool := decide (r.kind = 3) && decide (r.gen = 0) && decide (r.count = 0) && r.u.no && decide (r.tick = 0) && decide (1 ≤ r.epoch) && decide (r.epoch ≤ 1073741824)
def seqJ (r : Rec) : Bool := decide (0 ≤ r.seq) && decide (r.seq ≤ 1152921504606846976)
/-- Right. -/
def rightJ (r : Rec) : Bool := seqJ r && (baseJ r || pendJ r || doneJ r)
def reqB (q : Req) : List UInt8 := putB q.n q.v q.k q.c q.r q.s
/-- A record's body. -/
def bodyJ (r : Rec) : List UInt8 := if r.kind = 1 then leB r.gen ++ leB r.count else if r.kind = 2 then leB r.tick ++ reqB r.u else leB r.epoch
def putJE (r : Rec) : Int := if rightJ r then 0 else 23
def putJL (r : Rec) : List UInt8 := if rightJ r then putF r.kind r.seq (bodyJ r) else []
/-- The one record that a body can be of. -/
def candJ (k s : Int) (b : List UInt8) : Rec :=
  if k = 1 then ⟨k, s, leV b, leV (b.drop 8), Req.none, 0, 0⟩
  else if k = 2 then ⟨k, s, 0, 0, readQ (b.drop 8), leV b, 0⟩
  else ⟨k, s, 0, 0, Req.none, 0, leV b⟩
def okJ (k s : Int) (b : List UInt8) : Bool := rightJ (candJ k s b) && decide (bodyJ (candJ k s b) = b)
structure Rd14 where
  r : Rec
  n : Nat
  e : Int
def readJ (b : List UInt8) : Rd14 :=
  if (readF b).e = 0 then (if okJ (readF b).kind (readF b).seq (readF b).body then ⟨candJ (readF b).kind (readF b).seq (readF b).body, (readF b).n, 0⟩ else ⟨Rec.none, 0, 20⟩) else ⟨Rec.none, 0, (readF b).e⟩

theorem Rec.C_size (r : Rec) : r.C.size = 12 := rfl
theorem Rec.C_one (r : Rec) : r.C.all (·.oneCell') = true := by simp [Rec.C]; exact ⟨rfl, rfl, rfl, rfl, rfl, rfl, rfl, rfl, rfl, rfl, rfl, rfl⟩
theorem Req.no_iff (q : Req) : q.no = true ↔ q = Req.none := by
  unfold Req.no
  simp only [Bool.and_eq_true, decide_eq_true_eq]
  constructor
  · rintro ⟨⟨⟨⟨⟨h1, h2⟩, h3⟩, h4⟩, h5⟩, h6⟩
    obtain ⟨⟨d⟩, v, k, c, r, s⟩ := q
    have : d = #[] := Array.eq_empty_of_size_eq_zero h1
    simp only at h2 h3 h4 h5 h6
    subst h2 h3 h4 h5 h6 this
    rfl
  · rintro rfl
    exact ⟨⟨⟨⟨⟨rfl, rfl⟩, rfl⟩, rfl⟩, rfl⟩, rfl⟩
theorem baseJ_iff (r : Rec) : baseJ r = true ↔ r = ⟨1, r.seq, r.gen, r.count, Req.none, 0, 0⟩ ∧ 0 ≤ r.gen ∧ r.gen ≤ 1152921504606846976 ∧ 0 ≤ r.count ∧ r.count ≤ 32 := by
  unfold baseJ
  simp only [Bool.and_eq_true, decide_eq_true_eq, Req.no_iff]
  obtain ⟨k, s, g, c, u, t, e⟩ := r
  simp only [Rec.mk.injEq, true_and, and_assoc]
theorem pendJ_iff (r : Rec) : pendJ r = true ↔ r = ⟨2, r.seq, 0, 0, r.u, r.tick, 0⟩ ∧ r.u.right = true ∧ 0 ≤ r.tick ∧ r.tick ≤ 1152921504606846976 := by
  unfold pendJ
  simp only [Bool.and_eq_true, decide_eq_true_eq]
  obtain ⟨k, s, g, c, u, t, e⟩ := r
  simp only [Rec.mk.injEq, true_and, and_assoc]
theorem doneJ_iff (r : Rec) : doneJ r = true ↔ r = ⟨3, r.seq, 0, 0, Req.none, 0, r.epoch⟩ ∧ 1 ≤ r.epoch ∧ r.epoch ≤ 1073741824 := by
  unfold doneJ
  simp only [Bool.and_eq_true, decide_eq_true_eq, Req.no_iff]
  obtain ⟨k, s, g, c, u, t, e⟩ := r
  simp only [Rec.mk.injEq, true_and, and_true, and_assoc]
theorem rightJ_iff (r : Rec) : rightJ r = true ↔ (0 ≤ r.seq ∧ r.seq ≤ 1152921504606846976) ∧ ((r = ⟨1, r.seq, r.gen, r.count, Req.none, 0, 0⟩ ∧ 0 ≤ r.gen ∧ r.gen ≤ 1152921504606846976 ∧ 0 ≤ r.count ∧ r.count ≤ 32) ∨ (r = ⟨2, r.seq, 0, 0, r.u, r.tick, 0⟩ ∧ r.u.right = true ∧ 0 ≤ r.tick ∧ r.tick ≤ 1152921504606846976) ∨ (r = ⟨3, r.seq, 0, 0, Req.none, 0, r.epoch⟩ ∧ 1 ≤ r.epoch ∧ r.epoch ≤ 1073741824)) := by
  unfold rightJ seqJ
  rw [Bool.and_eq_true, Bool.or_eq_true, Bool.or_eq_true, baseJ_iff, pendJ_iff, doneJ_iff, Bool.and_eq_true, decide_eq_true_eq, decide_eq_true_eq, or_assoc]
theorem rightJ_kind {r : Rec} (h : rightJ r = true) : 1 ≤ r.kind ∧ r.kind ≤ 3 := by
  rcases (rightJ_iff r).1 h with ⟨_, h | h | h⟩
  · have : r.kind = 1 := by rw [h.1]
    omega
  · have : r.kind = 2 := by rw [h.1]
    omega
  · have : r.kind = 3 := by rw [h.1]
    omega
theorem reqB_len (q : Req) (h : q.right = true) : (reqB q).length ≤ 80 := by
  unfold reqB
  rw [putB_len]
  have := ((rightB_iff _ _ _ _).1 h).1
  omega
theorem bodyJ_len {r : Rec} (h : rightJ r = true) : (bodyJ r).length ≤ 88 := by
  rcases (rightJ_iff r).1 h with ⟨_, h | h | h⟩
  · unfold bodyJ; rw [h.1]; simp [leB_length]
  · unfold bodyJ
    have hk : r.kind = 2 := by rw [h.1]
    rw [if_neg (by omega), if_pos hk, List.length_append, leB_length]
    have := reqB_len r.u h.2.1
    omega
  · unfold bodyJ; rw [h.1]; simp [leB_length]
theorem putJ_len {r : Rec} (h : rightJ r = true) : (putJL r).length = 21 + (bodyJ r).length := by
  unfold putJL
  rw [if_pos h, putF_len]
theorem putJL_len (r : Rec) : (putJL r).length ≤ 109 := by
  by_cases h : rightJ r = true
  · rw [putJ_len h]; have := bodyJ_len h; omega
  · unfold putJL; rw [if_neg h]; decide
/-- A body is of the record that it was made of. -/
theorem candJ_body {r : Rec} (h : rightJ r = true) (hf : r.u.r < 18446744073709551616 ∧ r.u.s < 18446744073709551616) : candJ r.kind r.seq (bodyJ r) = r := by
  rcases (rightJ_iff r).1 h with ⟨_, h | h | h⟩
  · have hk : r.kind = 1 := by rw [h.1]
    have hb : bodyJ r = leB r.gen ++ leB r.count := by unfold bodyJ; rw [if_pos hk]
    have e1 : leV (bodyJ r) = r.gen := by rw [hb]; exact leV_leB _ (by omega) (by omega) _
    have e2 : leV ((bodyJ r).drop 8) = r.count := by
      rw [hb, List.drop_left' (leB_length _)]
      have := leV_leB r.count (by omega) (by omega) []
      rwa [List.append_nil] at this
    unfold candJ
    rw [if_pos hk, e1, e2, hk]
    exact h.1.symm
  · have hk : r.kind = 2 := by rw [h.1]
    have hb : bodyJ r = leB r.tick ++ reqB r.u := by unfold bodyJ; rw [if_neg (by omega), if_pos hk]
    have e1 : leV (bodyJ r) = r.tick := by rw [hb]; exact leV_leB _ (by omega) (by omega) _
    have e2 : (bodyJ r).drop 8 = reqB r.u := by rw [hb, List.drop_left' (leB_length _)]
    have e3 := (read_put r.u.n r.u.v r.u.k r.u.c r.u.r r.u.s h.2.1 hf.1 hf.2).2
    unfold candJ
    rw [if_neg (by omega), if_pos hk, e1, e2, hk]
    have e4 : readQ (reqB r.u) = r.u := e3
    rw [e4]
    exact h.1.symm
  · have hk : r.kind = 3 := by rw [h.1]
    have hb : bodyJ r = leB r.epoch := by unfold bodyJ; rw [if_neg (by omega), if_neg (by omega)]
    have e1 : leV (bodyJ r) = r.epoch := by
      rw [hb]
      have := leV_leB r.epoch (by omega) (by omega) []
      rwa [List.append_nil] at this
    unfold candJ
    rw [if_neg (by omega), if_neg (by omega), e1, hk]
    exact h.1.symm
/-- A record, and whatever stands behind it, reads as the record. -/
theorem read_putJ {r : Rec} (t : List UInt8) (h : rightJ r = true) (hf : r.u.r < 18446744073709551616 ∧ r.u.s < 18446744073709551616) : readJ (putJL r ++ t) = ⟨r, 21 + (bodyJ r).length, 0⟩ := by
  have hk := rightJ_kind h
  have hs := ((rightJ_iff r).1 h).1
  have hl := bodyJ_len h
  have e := read_putF r.kind r.seq (bodyJ r) t hk.1 (by omega) hs.1 (by omega) (by omega)
  have e2 : putJL r = putF r.kind r.seq (bodyJ r) := by unfold putJL; rw [if_pos h]
  have e3 := candJ_body h hf
  unfold readJ
  rw [e2, e]
  simp only [if_pos]
  rw [if_pos (by unfold okJ; rw [e3, h]; simp), e3]
theorem byteOf_of (b : UInt8) : Go.Pm.byteOf (b.toNat : Int) = b := by
  apply UInt8.toNat_inj.1
  have h1 := byteOf_toNat (b.toNat : Int)
  have h2 := b.toNat_lt
  omega
theorem byteOf_u (b : UInt8) (x : Int) (h : x % 256 = (b.toNat : Int)) : Go.Pm.byteOf x = b := by
  rw [← byteOf_mod, h]
  exact byteOf_of b
theorem byte_of (b : List UInt8) (h : 4 < b.length) : [Go.Pm.byteOf (bAt b 4)] = (b.drop 4).take 1 := by
  match b, h with
  | a :: c :: d :: e :: f :: r, _ => exact congrArg (· :: []) (byteOf_of f)
theorem le4_of (b : List UInt8) (h : 4 ≤ b.length) : b.take 4 = le4 (le4V b) := by
  match b, h with
  | a :: c :: d :: e :: r, _ =>
    have e0 : le4V (a :: c :: d :: e :: r) = (a.toNat : Int) + (c.toNat : Int) * 256 + (d.toNat : Int) * 65536 + (e.toNat : Int) * 16777216 := rfl
    have ha := a.toNat_lt
    have hc := c.toNat_lt
    have hd := d.toNat_lt
    have he := e.toNat_lt
    rw [e0]
    unfold le4
    rw [byteOf_u a _ (by omega), byteOf_u c _ (by omega), byteOf_u d _ (by omega), byteOf_u e _ (by omega)]
    rfl
theorem leB_of (b : List UInt8) (h : 8 ≤ b.length) : leB (leV b) = b.take 8 := by
  match b, h with
  | a :: c :: d :: e :: f :: g :: i :: j :: r, _ =>
    have e0 : leV (a :: c :: d :: e :: f :: g :: i :: j :: r) = (a.toNat : Int) + (c.toNat : Int) * 256 + (d.toNat : Int) * 65536 + (e.toNat : Int) * 16777216 + (f.toNat : Int) * 4294967296 + (g.toNat : Int) * 1099511627776 + (i.toNat : Int) * 281474976710656 + (j.toNat : Int) * 72057594037927936 := rfl
    have ha := a.toNat_lt
    have hc := c.toNat_lt
    have hd := d.toNat_lt
    have he := e.toNat_lt
    have hf := f.toNat_lt
    have hg := g.toNat_lt
    have hi := i.toNat_lt
    have hj := j.toNat_lt
    rw [e0]
    unfold leB
    rw [byteOf_u a _ (by omega), byteOf_u c _ (by omega), byteOf_u d _ (by omega), byteOf_u e _ (by omega), byteOf_u f _ (by omega), byteOf_u g _ (by omega), byteOf_u i _ (by omega), byteOf_u j _ (by omega)]
    rfl
/-- What readF took is the frame itself. -/
theorem readF_take {b : List UInt8} (h : (readF b).e = 0) : b.take (readF b).n = putF (readF b).kind (readF b).seq (readF b).body ∧ (readF b).body.length ≤ 4096 ∧ (readF b).n = 21 + (readF b).body.length ∧ (readF b).n ≤ b.length ∧ 1 ≤ (readF b).kind ∧ (readF b).kind ≤ 255 ∧ 0 ≤ (readF b).seq ∧ (readF b).seq ≤ 9223372036854775807 := by
  unfold readF at h ⊢
  by_cases h1 : b.length < 13
  · rw [if_pos h1] at h; exact absurd h (by decide)
  rw [if_neg h1] at h ⊢
  by_cases h2 : 4096 < le4V b ∨ bAt b 4 = 0 ∨ 9223372036854775807 < leV (b.drop 5)
  · rw [if_pos h2] at h; exact absurd h (by decide)
  rw [if_neg h2] at h ⊢
  by_cases h3 : (b.length : Int) < 21 + le4V b
  · rw [if_pos h3] at h; exact absurd h (by decide)
  rw [if_neg h3] at h ⊢
  by_cases h4n : ¬ markF (bAt b 4) (leV (b.drop 5)) ((b.drop 13).take (le4V b).toNat) = (b.drop (13 + (le4V b).toNat)).take 8
  · rw [if_neg h4n] at h; exact absurd h (by decide)
  have h4 := Classical.not_not.1 h4n
  rw [if_pos h4]
  have g0 := le4V_ge b
  have g1 := bAt_ge b 4
  have g2 := bAt_lt b 4
  have g3 := leV_ge (b.drop 5)
  obtain ⟨M, hM⟩ : ∃ M : Nat, M = (le4V b).toNat := ⟨_, rfl⟩
  have eM : le4V b = (M : Int) := by rw [hM, Int.toNat_of_nonneg g0]
  rw [← hM] at h4 ⊢
  have hM4 : M ≤ 4096 := by omega
  have hlen : 21 + M ≤ b.length := by omega
  have hbl : ((b.drop 13).take M).length = M := by rw [List.length_take, List.length_drop]; omega
  refine ⟨?_, by simp only; omega, by simp only; omega, hlen, by simp only; omega, by simp only; omega, g3, by simp only; omega⟩
  simp only
  unfold putF
  rw [hbl, h4]
  have eL : le4 (M : Int) = b.take 4 := by
    rw [← eM]
    exact (le4_of b (by omega)).symm
  have eK : [Go.Pm.byteOf (bAt b 4)] = (b.drop 4).take 1 := byte_of b (by omega)
  have eS : leB (leV (b.drop 5)) = (b.drop 5).take 8 := leB_of (b.drop 5) (by rw [List.length_drop]; omega)
  rw [eL, eK, eS]
  have q : ∀ (l : List UInt8) (i j : Nat), l.take i ++ (l.drop i).take j = l.take (i + j) := fun l i j => (List.take_add ..).symm
  rw [q, q, q, q]
  congr 1
  omega
end Go.Pm
namespace Go.Pm
open Go Go.RowKit
theorem results_blk3 {P : Program} {fn : Func} {p q r : Tmp} {ty : TypeId} (h : fn.results = #[.cell p ty, .tmp q, .tmp r]) (tmps : Array Value) {w : World} {g : Nat} {t : TypeId} {cs : Array Value} (hp : tmps.getD p undef = .pointer (some ⟨g, 0, none⟩)) {x y : Value} (hq : tmps.getD q undef = x) (hr : tmps.getD r undef = y) (hb : Blk w g cs t)
    (hT : AggTy P ty cs.size) : (results fn tmps).run P w = .ok (.tuple #[.agg cs, x, y]) w := by
  obtain ⟨d, hu, hd⟩ := hT.ag
  have hp' : tmps[p]?.getD undef = .pointer (some ⟨g, 0, none⟩) := by simpa using hp
  have hq' : tmps[q]?.getD undef = x := by simpa using hq
  have hr' : tmps[r]?.getD undef = y := by simpa using hr
  have h1 := run_loadVar_row w g t ty cs (0, 0) d hb hu (by cases d <;> first | rfl | exact hd) hT.size
  simp [results, h, hp', hq', hr', asAddr, h1]
theorem markF_inj_body {k s : Int} {x y : List UInt8} (h : putF k s x = putF k s y) : x = y := by
  have hl : x.length = y.length := by
    have := congrArg List.length h
    rw [putF_len, putF_len] at this
    omega
  have e : ∀ z : List UInt8, putF k s z = (le4 z.length ++ [Go.Pm.byteOf k] ++ leB s) ++ (z ++ markF k s z) := fun z => by simp [putF]
  have hd : ∀ z : List UInt8, ((putF k s z).drop 13).take z.length = z := fun z => by
    rw [e, List.drop_left' (by simp [le4_length, leB_length]), List.take_left' rfl]
  rw [← hd x, ← hd y, h, hl]
/-- What a candidate for a frame's record comes to. -/
theorem readJ_of {b L : List UInt8} {K S : Int} {n : Nat} (hF : readF b = ⟨K, S, L, n, 0⟩) (r : Rec) (hk : r.kind = K) (hs : r.seq = S) (hf : r.u.r < 18446744073709551616 ∧ r.u.s < 18446744073709551616) (hc : okJ K S L = true → r = candJ K S L) :
    readJ b = if rightJ r = true ∧ putJL r = b.take n then ⟨r, n, 0⟩ else ⟨Rec.none, 0, 20⟩ := by
  have ht := (readF_take (b := b) (by rw [hF])).1
  rw [hF] at ht
  simp only at ht
  have e0 : readJ b = if okJ K S L = true then ⟨candJ K S L, n, 0⟩ else ⟨Rec.none, 0, 20⟩ := by
    unfold readJ
    rw [hF]
    simp only [if_pos]
  rw [e0]
  by_cases h : okJ K S L = true
  · have e := hc h
    have h2 : rightJ (candJ K S L) = true ∧ bodyJ (candJ K S L) = L := by
      unfold okJ at h
      simpa using h
    have e3 : putJL r = b.take n := by
      unfold putJL
      rw [e, if_pos h2.1, h2.2, ht, ← e, hk, hs]
    rw [if_pos h, if_pos ⟨by rw [e]; exact h2.1, e3⟩, e]
  · rw [if_neg h, if_neg]
    rintro ⟨h1, h2⟩
    have e1 : putJL r = putF K S (bodyJ r) := by unfold putJL; rw [if_pos h1, hk, hs]
    rw [e1, ht] at h2
    have e2 := markF_inj_body h2
    have e3 := candJ_body h1 hf
    rw [hk, hs, e2] at e3
    exact h (by unfold okJ; rw [e3, h1, e2]; simp)
/-- Where it can be none. -/
theorem readJ_bad {b L : List UInt8} {K S : Int} {n : Nat} (hF : readF b = ⟨K, S, L, n, 0⟩) (h : okJ K S L = false) : readJ b = ⟨Rec.none, 0, 20⟩ := by
  unfold readJ
  rw [hF]
  simp only [if_pos, h]
  rfl
theorem readJ_err {b L : List UInt8} {K S E : Int} {n : Nat} (hF : readF b = ⟨K, S, L, n, E⟩) (h : ¬ E = 0) : readJ b = ⟨Rec.none, 0, E⟩ := by
  unfold readJ
  rw [hF]
  simp only
  rw [if_neg h]
/-- What there must be of a body. -/
theorem okJ_one {S : Int} {L : List UInt8} (h : okJ 1 S L = true) : L.length = 16 ∧ 0 ≤ leV L ∧ leV L ≤ 1152921504606846976 ∧ 0 ≤ leV (L.drop 8) ∧ leV (L.drop 8) ≤ 32 := by
  unfold okJ at h
  rw [Bool.and_eq_true, decide_eq_true_eq] at h
  have e : candJ 1 S L = ⟨1, S, leV L, leV (L.drop 8), Req.none, 0, 0⟩ := rfl
  rw [e] at h
  have h1 := (rightJ_iff _).1 h.1
  simp only [Rec.mk.injEq] at h1
  have hl : L.length = 16 := by rw [← h.2]; simp [bodyJ, leB_length]
  rcases h1 with ⟨_, h1 | h1 | h1⟩
  · exact ⟨hl, h1.2⟩
  · exact absurd h1.1.1 (by decide)
  · exact absurd h1.1.1 (by decide)
theorem okJ_two {S : Int} {L : List UInt8} (h : okJ 2 S L = true) : 8 ≤ L.length ∧ 0 ≤ leV L ∧ leV L ≤ 1152921504606846976 ∧ (readQ (L.drop 8)).right = true := by
  unfold okJ at h
  rw [Bool.and_eq_true, decide_eq_true_eq] at h
  have e : candJ 2 S L = ⟨2, S, 0, 0, readQ (L.drop 8), leV L, 0⟩ := rfl
  rw [e] at h
  have h1 := (rightJ_iff _).1 h.1
  simp only [Rec.mk.injEq] at h1
  have hl : 8 ≤ L.length := by rw [← h.2]; simp [bodyJ, leB_length]
  rcases h1 with ⟨_, h1 | h1 | h1⟩
  · exact absurd h1.1.1 (by decide)
  · exact ⟨hl, h1.2.2.1, h1.2.2.2, h1.2.1⟩
  · exact absurd h1.1.1 (by decide)
theorem okJ_three {S : Int} {L : List UInt8} (h : okJ 3 S L = true) : L.length = 8 ∧ 1 ≤ leV L ∧ leV L ≤ 1073741824 := by
  unfold okJ at h
  rw [Bool.and_eq_true, decide_eq_true_eq] at h
  have e : candJ 3 S L = ⟨3, S, 0, 0, Req.none, 0, leV L⟩ := rfl
  rw [e] at h
  have h1 := (rightJ_iff _).1 h.1
  simp only [Rec.mk.injEq] at h1
  have hl : L.length = 8 := by rw [← h.2]; simp [bodyJ, leB_length]
  rcases h1 with ⟨_, h1 | h1 | h1⟩
  · exact absurd h1.1.1 (by decide)
  · exact absurd h1.1.1 (by decide)
  · exact ⟨hl, h1.2⟩
theorem okJ_kind {K S : Int} {L : List UInt8} (h : okJ K S L = true) : K = 1 ∨ K = 2 ∨ K = 3 := by
  unfold okJ at h
  rw [Bool.and_eq_true] at h
  have hk := rightJ_kind h.1
  have e : (candJ K S L).kind = K := by
    unfold candJ
    split
    · rfl
    · split <;> rfl
  omega
theorem readE_bad {l : List UInt8} (h : ¬ readE l = 0) : (readQ l).right = false := by
  unfold readQ
  rw [if_neg h]
  rfl
end Go.Pm
namespace Go.Pm
open Go Go.RowKit

/-! ### The order of bytes -/
theorem less_irrefl : ∀ a : List UInt8, Op.bytesLess a a = false
  | [] => rfl
  | x :: a => by
    unfold Op.bytesLess
    rw [less_irrefl a]
    simp
theorem less_trans : ∀ {a b c : List UInt8}, Op.bytesLess a b = true → Op.bytesLess b c = true → Op.bytesLess a c = true
  | _, [], _, h, _ => by cases ‹List UInt8› <;> simp [Op.bytesLess] at h
  | _, _ :: _, [], _, h => by simp [Op.bytesLess] at h
  | [], _ :: _, _ :: _, _, _ => rfl
  | x :: a, y :: b, z :: c, h1, h2 => by
    unfold Op.bytesLess at h1 h2 ⊢
    simp only [Bool.or_eq_true, Bool.and_eq_true, decide_eq_true_eq, beq_iff_eq] at h1 h2 ⊢
    rcases h1 with h1 | ⟨rfl, h1⟩
    · rcases h2 with h2 | ⟨rfl, h2⟩
      · exact .inl (UInt8.lt_trans h1 h2)
      · exact .inl h1
    · rcases h2 with h2 | ⟨rfl, h2⟩
      · exact .inl h2
      · exact .inr ⟨rfl, less_trans h1 h2⟩
theorem less_total : ∀ a b : List UInt8, Op.bytesLess a b = true ∨ a = b ∨ Op.bytesLess b a = true
  | [], [] => .inr (.inl rfl)
  | [], _ :: _ => .inl rfl
  | _ :: _, [] => .inr (.inr rfl)
  | x :: a, y :: b => by
    unfold Op.bytesLess
    simp only [Bool.or_eq_true, Bool.and_eq_true, decide_eq_true_eq, beq_iff_eq]
    by_cases hxy : x = y
    · subst hxy
      rcases less_total a b with h | h | h
      · exact .inl (.inr ⟨rfl, h⟩)
      · exact .inr (.inl (by rw [h]))
      · exact .inr (.inr (.inr ⟨rfl, h⟩))
    · rcases UInt8.lt_or_lt_of_ne hxy with h | h
      · exact .inl (.inl h)
      · exact .inr (.inr (.inl h))
theorem less_asymm {a b : List UInt8} (h : Op.bytesLess a b = true) : Op.bytesLess b a = false := by
  cases h2 : Op.bytesLess b a with
  | false => rfl
  | true => have := less_trans h h2; rw [less_irrefl] at this; cases this
theorem less_ne {a b : List UInt8} (h : Op.bytesLess a b = true) : a ≠ b := fun e => by subst e; rw [less_irrefl] at h; cases h

/-! ### Items -/
structure It where
  i : List UInt8
  v : List UInt8
  deriving DecidableEq
/-- Strictly rising. -/
def Srt (l : List It) : Prop := l.Pairwise (fun a b => Op.bytesLess a.i b.i = true)
/-- An item, into its place. -/
def insI (x : It) : List It → List It
  | [] => [x]
  | y :: l => if Op.bytesLess y.i x.i then y :: insI x l else if y.i = x.i then x :: l else x :: y :: l
/-- Set, of all items one behind another. -/
def setI (l : List It) : List It := l.foldl (fun out x => insI x out) []
theorem mem_insI {x z : It} : ∀ {l : List It}, Srt l → (z ∈ insI x l ↔ z = x ∨ z ∈ l ∧ z.i ≠ x.i)
  | [], _ => by simp [insI]
  | y :: l, h => by
    obtain ⟨hy, hl⟩ := List.pairwise_cons.1 h
    unfold insI
    split
    · rename_i h1
      rw [List.mem_cons, mem_insI hl, List.mem_cons]
      have hne := less_ne h1
      constructor
      · rintro (rfl | rfl | ⟨h2, h3⟩)
        · exact .inr ⟨.inl rfl, hne⟩
        · exact .inl rfl
        · exact .inr ⟨.inr h2, h3⟩
      · rintro (rfl | ⟨rfl | h2, h3⟩)
        · exact .inr (.inl rfl)
        · exact .inl rfl
        · exact .inr (.inr ⟨h2, h3⟩)
    · rename_i h1
      have out : ∀ w ∈ l, ¬ w.i = x.i ∨ False := fun w hw => by
        left
        intro e
        have h2 := hy w hw
        rcases less_total y.i x.i with h3 | h3 | h3
        · exact h1 h3
        · rw [e, ← h3, less_irrefl] at h2; cases h2
        · rw [e] at h2; exact h1 h2
      split
      · rename_i h2
        rw [List.mem_cons, List.mem_cons]
        constructor
        · rintro (rfl | h3)
          · exact .inl rfl
          · exact .inr ⟨.inr h3, (out z h3).elim id False.elim⟩
        · rintro (rfl | ⟨rfl | h3, h4⟩)
          · exact .inl rfl
          · exact absurd h2 h4
          · exact .inr h3
      · rename_i h2
        rw [List.mem_cons, List.mem_cons]
        constructor
        · rintro (rfl | rfl | h3)
          · exact .inl rfl
          · exact .inr ⟨.inl rfl, h2⟩
          · exact .inr ⟨.inr h3, (out z h3).elim id False.elim⟩
        · rintro (rfl | ⟨h3, _⟩)
          · exact .inl rfl
          · exact .inr h3
theorem srt_insI (x : It) : ∀ {l : List It}, Srt l → Srt (insI x l)
  | [], _ => by simp [insI, Srt]
  | y :: l, h => by
    obtain ⟨hy, hl⟩ := List.pairwise_cons.1 h
    unfold insI
    split
    · rename_i h1
      refine List.pairwise_cons.2 ⟨fun z hz => ?_, srt_insI x hl⟩
      rcases (mem_insI hl).1 hz with rfl | ⟨h2, _⟩
      · exact h1
      · exact hy z h2
    · rename_i h1
      split
      · rename_i h2
        exact List.pairwise_cons.2 ⟨fun z hz => by rw [← h2]; exact hy z hz, hl⟩
      · rename_i h2
        have h3 : Op.bytesLess x.i y.i = true := by
          rcases less_total y.i x.i with h | h | h
          · exact absurd h h1
          · exact absurd h h2
          · exact h
        refine List.pairwise_cons.2 ⟨fun z hz => ?_, h⟩
        rcases List.mem_cons.1 hz with rfl | hz
        · exact h3
        · exact less_trans h3 (hy z hz)
theorem srt_fold (l : List It) : ∀ {o : List It}, Srt o → Srt (l.foldl (fun out x => insI x out) o) := by
  induction l with
  | nil => exact fun h => h
  | cons x l ih => exact fun h => ih (srt_insI x h)
theorem srt_setI (l : List It) : Srt (setI l) := srt_fold l List.Pairwise.nil
/-- The last one of an index. -/
def lastI (l : List It) (i : List UInt8) : Option It := l.reverse.find? (fun x => decide (x.i = i))
theorem lastI_snoc (l : List It) (x : It) (i : List UInt8) : lastI (l ++ [x]) i = if x.i = i then some x else lastI l i := by
  unfold lastI
  rw [List.reverse_append, List.reverse_singleton, List.singleton_append, List.find?_cons]
  by_cases h : x.i = i
  · simp [h]
  · simp [h]
theorem setI_snoc (l : List It) (x : It) : setI (l ++ [x]) = insI x (setI l) := by
  unfold setI
  rw [List.foldl_append]
  rfl
/-- Just the last ones are in it. -/
theorem mem_setI (z : It) (l : List It) : z ∈ setI l ↔ lastI l z.i = some z := by
  suffices h : ∀ r : List It, z ∈ setI r.reverse ↔ lastI r.reverse z.i = some z by
    have := h l.reverse
    rwa [List.reverse_reverse] at this
  intro r
  induction r with
  | nil => simp [setI, lastI]
  | cons x r ih =>
    rw [List.reverse_cons, setI_snoc, mem_insI (srt_setI _), lastI_snoc]
    by_cases h : x.i = z.i
    · rw [if_pos h]
      constructor
      · rintro (rfl | ⟨_, h2⟩)
        · rfl
        · exact absurd h.symm h2
      · intro h2
        exact .inl (Option.some.inj h2).symm
    · rw [if_neg h, ← ih]
      constructor
      · rintro (rfl | ⟨h2, _⟩)
        · exact absurd rfl h
        · exact h2
      · exact fun h2 => .inr ⟨h2, fun e => h e.symm⟩
/-- What rises and has the same items is the same. -/
theorem srt_ext : ∀ {a b : List It}, Srt a → Srt b → (∀ z, z ∈ a ↔ z ∈ b) → a = b
  | [], [], _, _, _ => rfl
  | [], y :: b, _, _, h => by have := (h y).2 (List.mem_cons_self ..); cases this
  | x :: a, [], _, _, h => by have := (h x).1 (List.mem_cons_self ..); cases this
  | x :: a, y :: b, ha, hb, h => by
    obtain ⟨hx, ha'⟩ := List.pairwise_cons.1 ha
    obtain ⟨hy, hb'⟩ := List.pairwise_cons.1 hb
    have hxy : x = y := by
      rcases List.mem_cons.1 ((h x).1 (List.mem_cons_self ..)) with h1 | h1
      · exact h1
      · rcases List.mem_cons.1 ((h y).2 (List.mem_cons_self ..)) with h2 | h2
        · exact h2.symm
        · have h3 := hy x h1
          have h4 := hx y h2
          rw [less_asymm h3] at h4
          cases h4
    subst hxy
    rw [srt_ext ha' hb' fun z => ?_]
    constructor
    · intro hz
      rcases List.mem_cons.1 ((h z).1 (List.mem_cons_of_mem _ hz)) with rfl | h1
      · have h3 := hx z hz; rw [less_irrefl] at h3; cases h3
      · exact h1
    · intro hz
      rcases List.mem_cons.1 ((h z).2 (List.mem_cons_of_mem _ hz)) with rfl | h1
      · have h3 := hy z hz; rw [less_irrefl] at h3; cases h3
      · exact h1
/-- Whatever rises and has just the last ones is the Set. -/
theorem set_is {l s : List It} (h : Srt s) (hm : ∀ z, z ∈ s ↔ lastI l z.i = some z) : s = setI l :=
  srt_ext h (srt_setI l) fun z => (hm z).trans (mem_setI z l).symm
theorem srt_one {l : List It} (h : Srt l) {a b : It} (ha : a ∈ l) (hb : b ∈ l) (hi : a.i = b.i) : a = b := by
  induction l with
  | nil => cases ha
  | cons x l ih =>
    obtain ⟨hx, hl⟩ := List.pairwise_cons.1 h
    rcases List.mem_cons.1 ha with ha1 | ha1 <;> rcases List.mem_cons.1 hb with hb1 | hb1
    · rw [ha1, hb1]
    · have := hx b hb1; rw [← ha1, hi, less_irrefl] at this; cases this
    · have := hx a ha1; rw [← hb1, hi, less_irrefl] at this; cases this
    · exact ih hl ha1 hb1
theorem find_some {l : List It} {i : List UInt8} {z : It} (h : lastI l i = some z) : z ∈ l ∧ z.i = i := by
  unfold lastI at h
  exact ⟨List.mem_reverse.1 (List.mem_of_find?_eq_some h), by simpa using List.find?_some h⟩
/-- Of a rising list each is the last one of its index. -/
theorem last_srt {l : List It} (h : Srt l) (z : It) : lastI l z.i = some z ↔ z ∈ l := by
  constructor
  · exact fun h2 => (find_some h2).1
  · intro hz
    cases hf : lastI l z.i with
    | none =>
      unfold lastI at hf
      have := List.find?_eq_none.1 hf z (List.mem_reverse.2 hz)
      simp at this
    | some y =>
      obtain ⟨h1, h2⟩ := find_some hf
      rw [srt_one h h1 hz h2]
/-- The Set of a rising list is the list. -/
theorem set_srt {l : List It} (h : Srt l) : setI l = l := (set_is h fun z => (last_srt h z).symm).symm

/-- Where no two unlike ones have one index, each is the last one of it. -/
theorem last_one {l : List It} (h : ∀ a ∈ l, ∀ b ∈ l, a.i = b.i → a = b) (z : It) : lastI l z.i = some z ↔ z ∈ l := by
  constructor
  · exact fun h2 => (find_some h2).1
  · intro hz
    cases hf : lastI l z.i with
    | none =>
      unfold lastI at hf
      have := List.find?_eq_none.1 hf z (List.mem_reverse.2 hz)
      simp at this
    | some y =>
      obtain ⟨h1, h2⟩ := find_some hf
      rw [h y h1 z hz h2]
/-- The same items in whatever order, as often as may be: the same Set. -/
theorem set_like {l s : List It} (hs : Srt s) (h : ∀ z, z ∈ l ↔ z ∈ s) : setI l = s :=
  (set_is hs fun z => (h z).symm.trans (last_one (fun _ ha _ hb hi => srt_one hs ((h _).1 ha) ((h _).1 hb) hi) z).symm).symm

/-! ### Bits and roots -/
/-- A hash's bit. -/
def bitI (h : List UInt8) (j : Nat) : Nat := (h.getD (j / 8) 0).toNat / 2 ^ (7 - j % 8) % 2
theorem bitI_two (h : List UInt8) (j : Nat) : bitI h j = 0 ∨ bitI h j = 1 := by unfold bitI; omega
theorem byte_bits {a b : Nat} (ha : a < 256) (hb : b < 256) (h : ∀ k, k < 8 → a / 2 ^ (7 - k) % 2 = b / 2 ^ (7 - k) % 2) : a = b := by
  have h0 := h 0 (by decide)
  have h1 := h 1 (by decide)
  have h2 := h 2 (by decide)
  have h3 := h 3 (by decide)
  have h4 := h 4 (by decide)
  have h5 := h 5 (by decide)
  have h6 := h 6 (by decide)
  have h7 := h 7 (by decide)
  simp only [Nat.sub_zero, show (2 : Nat) ^ 7 = 128 by decide, show (2 : Nat) ^ (7 - 1) = 64 by decide, show (2 : Nat) ^ (7 - 2) = 32 by decide, show (2 : Nat) ^ (7 - 3) = 16 by decide, show (2 : Nat) ^ (7 - 4) = 8 by decide, show (2 : Nat) ^ (7 - 5) = 4 by decide, show (2 : Nat) ^ (7 - 6) = 2 by decide, show (2 : Nat) ^ (7 - 7) = 1 by decide] at h0 h1 h2 h3 h4 h5 h6 h7
  omega
/-- Hashes of like bits are the same. -/
theorem bits_ext {a b : List UInt8} (ha : a.length = 32) (hb : b.length = 32) (h : ∀ j, j < 256 → bitI a j = bitI b j) : a = b := by
  refine List.ext_getElem (by omega) fun n h1 h2 => ?_
  apply UInt8.toNat_inj.1
  refine byte_bits (UInt8.toNat_lt _) (UInt8.toNat_lt _) fun k hk => ?_
  have hb' := h (8 * n + k) (by omega)
  unfold bitI at hb'
  rw [show (8 * n + k) / 8 = n by omega, show (8 * n + k) % 8 = k by omega] at hb'
  simpa [List.getD, List.getElem?_eq_getElem h1, List.getElem?_eq_getElem h2] using hb'
/-- All agree on the bits ahead of a place. -/
def Agree (l : List It) (j : Nat) : Prop := ∀ a ∈ l, ∀ b ∈ l, ∀ k, k < j → bitI a.i k = bitI b.i k
def Len (l : List It) : Prop := ∀ a ∈ l, a.i.length = 32 ∧ a.v.length = 32
/-- Two of them agree on fewer than all bits. -/
theorem agree_lt {l : List It} (h : Srt l) (hl : Len l) {j : Nat} (ha : Agree l j) (h2 : 2 ≤ l.length) : j < 256 := by
  match l, h2 with
  | x :: y :: l, _ =>
    rcases Nat.lt_or_ge j 256 with h3 | h3
    · exact h3
    · exfalso
      have hx : x ∈ x :: y :: l := List.mem_cons_self ..
      have hy : y ∈ x :: y :: l := List.mem_cons_of_mem _ (List.mem_cons_self ..)
      have he := bits_ext (hl x hx).1 (hl y hy).1 fun k hk => ha x hx y hy k (by omega)
      have := (List.pairwise_cons.1 h).1 y (List.mem_cons_self ..)
      rw [he, less_irrefl] at this
      cases this
/-- The half of those whose bit is b. -/
def half (l : List It) (j b : Nat) : List It := l.filter (fun x => bitI x.i j == b)
theorem mem_half {l : List It} {j b : Nat} {x : It} : x ∈ half l j b ↔ x ∈ l ∧ bitI x.i j = b := by unfold half; rw [List.mem_filter, beq_iff_eq]
theorem srt_half {l : List It} (h : Srt l) (j b : Nat) : Srt (half l j b) := List.Pairwise.filter _ h
theorem len_half {l : List It} (h : Len l) (j b : Nat) : Len (half l j b) := fun a ha => h a (mem_half.1 ha).1
theorem agree_half {l : List It} {j : Nat} (h : Agree l j) (b : Nat) : Agree (half l j b) (j + 1) := fun x hx y hy k hk => by
  obtain ⟨h1, h2⟩ := mem_half.1 hx
  obtain ⟨h3, h4⟩ := mem_half.1 hy
  by_cases he : k = j
  · subst he; rw [h2, h4]
  · exact h x h1 y h3 k (by omega)
def leafH (x : It) : List UInt8 := sumB (textB 108 [x.i, x.v])
def nodeH (a b : List UInt8) : List UInt8 := sumB (textB 110 [a, b])
def emptyH : List UInt8 := sumB (textB 122 [])
/-- The root of what rises, from a place on; 'f': so many levels at most. -/
def rootI : Nat → List It → Nat → List UInt8
  | _, [], _ => emptyH
  | _, [x], _ => leafH x
  | 0, _ :: _ :: _, _ => []
  | f + 1, x :: y :: l, j => nodeH (rootI f (half (x :: y :: l) j 0) (j + 1)) (rootI f (half (x :: y :: l) j 1) (j + 1))
/-- Root. -/
def rootOf (l : List It) : List UInt8 := rootI 256 (setI l) 0
/-- More levels than there are bits change nothing. -/
theorem rootI_more : ∀ (f : Nat) {l : List It} {j : Nat}, Srt l → Len l → Agree l j → 256 ≤ f + j → ∀ e, rootI (f + e) l j = rootI f l j
  | f, [], j, _, _, _, _, e => by cases f <;> cases e <;> rfl
  | f, [x], j, _, _, _, _, e => by cases f <;> cases e <;> rfl
  | 0, x :: y :: l, j, h, hl, ha, hf, e => absurd (agree_lt h hl ha (by simp)) (by omega)
  | f + 1, x :: y :: l, j, h, hl, ha, hf, e => by
    rw [show f + 1 + e = (f + e) + 1 by omega]
    show nodeH _ _ = nodeH _ _
    rw [rootI_more f (srt_half h j 0) (len_half hl j 0) (agree_half ha 0) (by omega) e, rootI_more f (srt_half h j 1) (len_half hl j 1) (agree_half ha 1) (by omega) e]
/-- A root of two or more is that of both halves. -/
theorem root_halves {l : List It} (h : Srt l) (h2 : 2 ≤ l.length) : rootOf l = nodeH (rootI 255 (half l 0 0) 1) (rootI 255 (half l 0 1) 1) := by
  unfold rootOf
  rw [set_srt h]
  match l, h2 with
  | x :: y :: l, _ => rfl
theorem rootI_len : ∀ (f : Nat) {l : List It} {j : Nat}, Srt l → Len l → Agree l j → 256 ≤ f + j → (rootI f l j).length = 32
  | f, [], j, _, _, _, _ => by cases f <;> exact sumB_len _
  | f, [x], j, _, _, _, _ => by cases f <;> exact sumB_len _
  | 0, x :: y :: l, j, h, hl, ha, hf => absurd (agree_lt h hl ha (by simp)) (by omega)
  | f + 1, x :: y :: l, j, h, hl, ha, hf => sumB_len _
end Go.Pm
namespace Go.Pm
open Go Go.RowKit

theorem fold_put (off : Nat) : ∀ (l : List Value) (k : Nat) (cs : Array Value), off + k + l.length ≤ cs.size →
    (l.zipIdx k).foldl (fun cs (p : Value × Nat) => cs.setIfInBounds (off + p.2) p.1) cs = (cs.toList.take (off + k) ++ l ++ cs.toList.drop (off + k + l.length)).toArray
  | [], k, cs, h => by simp
  | v :: l, k, cs, h => by
    simp only [List.length_cons] at h
    rw [List.zipIdx_cons, List.foldl_cons, fold_put off l (k + 1) _ (by simp; omega)]
    apply Array.ext'
    simp only [Array.toList_setIfInBounds, List.length_cons]
    have h1 : (cs.toList.set (off + k) v).take (off + (k + 1)) = cs.toList.take (off + k) ++ [v] := by
      rw [show off + (k + 1) = off + k + 1 by omega, List.take_succ_eq_append_getElem (by simp; omega), List.getElem_set_self, List.take_set_of_le (Nat.le_refl _)]
    have h2 : (cs.toList.set (off + k) v).drop (off + (k + 1) + l.length) = cs.toList.drop (off + k + (l.length + 1)) := by
      rw [List.drop_set_of_lt (by omega)]
      congr 1
      omega
    rw [h1, h2]
    simp
theorem fill_cons {place : Nat → Option (Nat × Nat)} {cells : Array Value} {i : Nat} {v : Value} {rest : List (Nat × Value)} {off size : Nat} (h : place i = some (off, size)) (h1 : v.cells.size = size) (h2 : off + v.cells.size ≤ cells.size) :
    Instr.fill place cells ((i, v) :: rest) = Instr.fill place (v.cells.zipIdx.foldl (fun cs (c, j) => cs.setIfInBounds (off + j) c) cells) rest := by
  conv => lhs; unfold Instr.fill
  rw [h]
  simp only
  rw [if_neg]
  simp [h1]
  omega
theorem fill_two (z A B : Array Value) (hz : z.size = 64) (hA : A.size = 32) (hB : B.size = 32) : Instr.fill (fun i => #[(0, 32), (32, 32)][i]?) z [(0, .agg A), (1, .agg B)] = some (A ++ B) := by
  have ha := fold_put 0 A.toList 0 z (by simp; omega)
  have hb := fold_put 32 B.toList 0 (A ++ (z.toList.drop 32).toArray) (by simp; omega)
  have e1 : A.zipIdx.foldl (fun cs (c, j) => cs.setIfInBounds (0 + j) c) z = A ++ (z.toList.drop 32).toArray := by
    rw [← Array.foldl_toList, Array.toList_zipIdx]
    refine ha.trans ?_
    apply Array.ext'
    simp [hA]
  have e2 : B.zipIdx.foldl (fun cs (c, j) => cs.setIfInBounds (32 + j) c) (A ++ (z.toList.drop 32).toArray) = A ++ B := by
    rw [← Array.foldl_toList, Array.toList_zipIdx]
    refine hb.trans ?_
    apply Array.ext'
    have h1 : (A.toList ++ z.toList.drop 32).take 32 = A.toList := List.take_left' (by simpa using hA)
    have h2 : (A.toList ++ z.toList.drop 32).drop 64 = [] := List.drop_eq_nil_of_le (by simp; omega)
    simp [hB, h1, h2]
  rw [fill_cons (v := .agg A) (off := 0) (size := 32) rfl (show (Value.agg A).cells.size = 32 from hA) (by show 0 + A.size ≤ z.size; omega)]
  rw [show (Value.agg A).cells = A from rfl, e1]
  rw [fill_cons (v := .agg B) (off := 32) (size := 32) rfl (show (Value.agg B).cells.size = 32 from hB) (by show 32 + B.size ≤ _; simp; omega)]
  rw [show (Value.agg B).cells = B from rfl, e2]
  rfl
theorem aggOf {P : Program} {t : TypeId} {n : Nat} (h : (P.underlying t).map aggD = some true) (h2 : (P.info? t).map (·.size) = some n) : AggTy P t n := by
  cases hu : P.underlying t with
  | none => rw [hu] at h; cases h
  | some d => rw [hu] at h; exact ⟨⟨d, hu, by simpa using h⟩, h2⟩
theorem run_execOp_build {P : Program} {ρ : Operand → Value} {o : Oper} {w : World} {t : TypeId} {parts : Array (Nat × Operand)} {v : Value} (ho : o.op = .build t parts)
    (h : (Instr.build t (parts.map fun (i, x) => (i, ρ x))).run P w = .ok v w) : (execOp ρ o).run P w = .ok (.value v) w := by
  unfold execOp
  simp only [ho, Sem.run_bind, h, Result.andThen_ok]
  rfl
end Go.Pm
namespace Go.Pm
open Go Go.RowKit
theorem kept_setCells {S : Nat → Prop} {a : World} {b : Nat} (hb : b < a.heap.size → S b) : ∀ (cs : List Value) (o : Nat) (w : World), Kept S a w → Kept S a (w.setCells b o cs)
  | [], _, _, h => h
  | c :: cs, o, _w, h => kept_setCells hb cs (o + 1) _ (h.setCell (p := ⟨b, o, none⟩) hb c)
theorem Blk.setCells {g : Nat} {t : TypeId} : ∀ (cs : List Value) (o : Nat) (w : World) (cur : Array Value), Blk w g cur t → o + cs.length ≤ cur.size →
    Blk (w.setCells g o cs) g (cur.toList.take o ++ cs ++ cur.toList.drop (o + cs.length)).toArray t
  | [], o, w, cur, h, _ => by simpa [World.setCells] using h
  | c :: cs, o, w, cur, h, hl => by
    simp only [List.length_cons] at hl
    have h1 := Blk.setCells cs (o + 1) (w.setCell ⟨g, o, none⟩ c) (cur.setIfInBounds o c) (h.set o c) (by simp; omega)
    rw [World.setCells]
    have e : (cur.setIfInBounds o c).toList.take (o + 1) ++ cs ++ (cur.setIfInBounds o c).toList.drop (o + 1 + cs.length) = cur.toList.take o ++ c :: cs ++ cur.toList.drop (o + (cs.length + 1)) := by
      rw [Array.toList_setIfInBounds, List.take_succ_eq_append_getElem (by simp; omega), List.getElem_set_self, List.take_set_of_le (Nat.le_refl _), List.drop_set_of_lt (by omega)]
      simp [Nat.add_assoc, Nat.add_comm 1 cs.length]
    rw [e] at h1
    simpa using h1
/-- A struct, stored into the midst of a block. -/
theorem wpList_store_agg {P : Program} {ops : Array Oper} {rest : List Oper} {o : Oper} {a : Act} {w : World} {Q : Exit → Act → World → Prop} (hgd : o.guard = none) (ty : TypeId) (x y : Operand) (ho : o.op = .store ty x y)
    {g off : Nat} {cur xs : List Value} {t : TypeId} (hx : a.eval x = .pointer (some ⟨g, off, none⟩)) (hy : a.eval y = .agg xs.toArray) (hb : Blk w g cur.toArray t) (hT : (P.info? ty).map (·.size) = some xs.length) (h1 : xs.toArray.all (·.oneCell') = true)
    (hoff : off + xs.length ≤ cur.length)
    (hk : ∀ w', Blk w' g (cur.take off ++ xs ++ cur.drop (off + xs.length)).toArray t → Kept (Just g) w w' → wpList P ops Q rest (a.put o.dst undef) w') : wpList P ops Q (o :: rest) a w := by
  refine wpList_store_mid hgd ty x y ho g off xs.toArray hx hy (fun j hj => ?_) (by simpa using hT) h1 ?_
  · simp only [List.size_toArray] at hj
    refine ⟨?_, hb.free _⟩
    rw [hb.cell]
    simp [show off + j < cur.length by omega]
  · refine hk _ ?_ (kept_setCells (S := Just g) (fun _ => rfl) _ _ _ (Kept.refl _ _))
    have hs := Blk.setCells xs off w cur.toArray hb (by simpa using hoff)
    simpa using hs
/-- A region of which the head is walked by what is said upfront. -/
theorem wp_region_kn_tail {P : Program} {id : Nat} {Q : Exit → Act → World → Prop} {a : Act} {w : World} {ops : List Oper} (n : Nat) (w0 : World) (l : List Fct) (hs : Steady l) (hk : Kept None w0 w) (hm : P.follows .mixedOrders = true) (hB : Region.lexTailB .any ops.toArray n = true) (hok : (planOf (Kept None w0) l).ok .any ops.toArray = true)
    (h : wpPar P (planOf (Kept None w0) l) ops.toArray (fun a' w' => wpList P ops.toArray Q (ops.drop n) a' w') 0 (ops.take n) a (starts (planOf (Kept None w0) l) [])) : (Code.region id ops.toArray true).wp P Q a w :=
  wp_region_plan_tail n (Kept None w0) l [] hm hB hok rfl hs.pure hk.drew (fun j hj => by cases hj) h
end Go.Pm
namespace Go.Pm
open Go Go.RowKit

/-- The slice value v holds n pieces of k cells, which read as the cells xs; they lie in blocks from lo on, below hi. -/
def Fs (k : Nat) (w : World) (lo hi : Nat) (v : Value) (n : Nat) (xs : List Value) : Prop :=
  xs.length = n * k ∧ ∃ a cap, v = .slice a n cap ∧ n ≤ cap ∧ cap ≤ maxLen ∧ (a = none → cap = 0) ∧ ∀ ad, a = some ad → ∀ i x, xs[i]? = some x → lo ≤ ad.block ∧ ad.block < hi ∧ w.cell? (ad.add i) = some x
theorem Fs.kept {k : Nat} {S : Nat → Prop} {w w' : World} {lo hi : Nat} {v : Value} {n : Nat} {xs : List Value} (h : Fs k w lo hi v n xs) (hk : Kept S w w') (hs : ∀ k, lo ≤ k → k < hi → ¬ S k) : Fs k w' lo hi v n xs := by
  obtain ⟨h0, a, cap, hv, h1, h2, h3, h4⟩ := h
  refine ⟨h0, a, cap, hv, h1, h2, h3, fun ad had i x hx => ?_⟩
  obtain ⟨q1, q2, q3⟩ := h4 ad had i x hx
  refine ⟨q1, q2, ?_⟩
  rw [hk.cell (block_lt_of_cell q3) (by rw [add_block]; exact hs _ q1 q2)]
  exact q3
theorem Fs.wider {k : Nat} {w : World} {lo hi lo' hi' : Nat} {v : Value} {n : Nat} {xs : List Value} (h : Fs k w lo hi v n xs) (h1 : lo' ≤ lo) (h2 : hi ≤ hi') : Fs k w lo' hi' v n xs := by
  obtain ⟨h0, a, cap, hv, g1, g2, g3, g4⟩ := h
  exact ⟨h0, a, cap, hv, g1, g2, g3, fun ad had i x hx => ⟨Nat.le_trans h1 (g4 ad had i x hx).1, Nat.lt_of_lt_of_le (g4 ad had i x hx).2.1 h2, (g4 ad had i x hx).2.2⟩⟩
theorem Fs.nil (k : Nat) (w : World) (lo hi : Nat) : Fs k w lo hi (.slice none 0 0) 0 [] := ⟨by simp, none, 0, rfl, Nat.le_refl _, Nat.zero_le _, fun _ => rfl, fun ad h => by cases h⟩
theorem Fs.lt {k : Nat} {w : World} {lo hi : Nat} {v : Value} {n : Nat} {xs : List Value} (h : Fs k w lo hi v n xs) : Fs k w lo (min hi w.heap.size) v n xs := by
  obtain ⟨h0, a, cap, hv, g1, g2, g3, g4⟩ := h
  refine ⟨h0, a, cap, hv, g1, g2, g3, fun ad had i x hx => ?_⟩
  obtain ⟨q1, q2, q3⟩ := g4 ad had i x hx
  have := block_lt_of_cell q3
  rw [add_block] at this
  exact ⟨q1, by omega, q3⟩
/-- A row that the call owns. -/
theorem Fs.ofRow {k : Nat} {w : World} {base : Nat} {e : TypeId} {v : Value} {n : Nat} {xs : List Value} (h : w.ownsRow base e k v n xs) {hi : Nat} (hh : w.heap.size ≤ hi) : Fs k w base hi v n xs := by
  obtain ⟨h1, h2⟩ := h
  rcases h2 with ⟨rfl, rfl⟩ | ⟨g, cap, cur, rfl, hb, hg, hnc, hcm, hcs, ht⟩
  · have : xs = [] := List.eq_nil_of_length_eq_zero (by simpa using h1)
    subst this
    exact Fs.nil k w _ _
  · refine ⟨h1, some ⟨g, 0, none⟩, cap, rfl, hnc, hcm, (fun h => by cases h), ?_⟩
    intro ad had i x hx
    simp at had
    subst had
    have hlt := lt_of_block hg
    refine ⟨hb, by show g < hi; omega, ?_⟩
    rw [Addr.add_lit, Nat.zero_add, cell_of_row w g i cur e (0, 0) hg]
    rw [← ht, List.getElem?_take] at hx
    split at hx
    · simpa using hx
    · cases hx
/-- What an append at pieces of k cells wants of the program. -/
structure RowTyK (P : Program) (t e : TypeId) (z : Value) (k bytes : Nat) : Prop where
  sl : P.underlying t = some (.slice e)
  info : ∃ i, P.info? e = some i ∧ i.zero = some z ∧ i.size = k ∧ i.bytes = bytes
  cells : z.cells.size = k
  pos : 0 < k
theorem run_append_fs {P : Program} {w : World} {t ty e : TypeId} {z : Value} {k bytes : Nat} (hT : RowTyK P t e z k bytes) {base : Nat} {v : Value} {n : Nat} {xs : List Value} (hown : w.ownsRow base e k v n xs)
    {lo hi : Nat} {u : Value} {m : Nat} {news : List Value} (hu : Fs k w lo hi u m news) (h1 : ∀ x ∈ news, x.oneCell' = true) (h63 : n + m ≤ maxLen) (hbytes : (n + m) * bytes ≤ 140737488355328) (hbase : base ≤ w.heap.size) :
    ∃ v' w', (Builtin.append_ #[t, t] ty #[v, u]).run P w = .ok v' w' ∧ w'.ownsRow base e k v' (n + m) (xs ++ news) ∧ w.grownBy w' v.ownBlock := by
  obtain ⟨i, hi, hz, hs, hb⟩ := hT.info
  obtain ⟨h0, a, cap, rfl, g1, g2, g3, g4⟩ := hu
  cases a with
  | none =>
    have hc := g3 rfl
    subst hc
    obtain rfl : m = 0 := by omega
    have hn : news = [] := List.eq_nil_of_length_eq_zero (by simpa using h0)
    subst hn
    exact ⟨v, w, run_append_owned_none (w := w) base t ty e i k hT.sl hi v n xs hown, by simpa using hown, World.grownBy.refl _ _⟩
  | some ad =>
    obtain ⟨v', w', r1, r2, r3, _⟩ := run_append_own (P := P) w base t ty e i z k bytes hT.sl hi hz hs hb hT.cells hT.pos v n xs hown ad m cap news h0 (fun j u hj => (g4 ad rfl j u hj).2.2) h1 h63 hbytes hbase
    exact ⟨v', w', r1, r2, r3⟩
/-- An append, where the row lies afterwards: in its old block, or in a new one. -/
theorem append_blockK {P : Program} {w w' : World} {t ty e : TypeId} {z : Value} {k bytes : Nat} (hT : RowTyK P t e z k bytes) {base : Nat} {v v' : Value} {n : Nat} {xs : List Value} (hown : w.ownsRow base e k v n xs)
    {lo hi : Nat} {u : Value} {m : Nat} {news : List Value} (hu : Fs k w lo hi u m news) (h1 : ∀ x ∈ news, x.oneCell' = true) (h63 : n + m ≤ maxLen) (hbytes : (n + m) * bytes ≤ 140737488355328)
    (hr : (Builtin.append_ #[t, t] ty #[v, u]).run P w = .ok v' w') : v'.ownBlock = v.ownBlock ∨ v'.ownBlock = some w.heap.size := by
  obtain ⟨i, hi, hz, hs, hb⟩ := hT.info
  obtain ⟨h0, a, cap, rfl, g1, g2, g3, g4⟩ := hu
  cases a with
  | none =>
    have hc := g3 rfl
    subst hc
    obtain rfl : m = 0 := by omega
    rw [run_append_owned_none (w := w) base t ty e i k hT.sl hi v n xs hown] at hr
    simp only [Result.ok.injEq] at hr
    rw [← hr.1]
    exact .inl rfl
  | some ad =>
    have hnews : ∀ j u, news[j]? = some u → w.cell? (ad.add j) = some u := fun j u hj => (g4 ad rfl j u hj).2.2
    have hlen : n + m ≤ 9223372036854775807 := by unfold maxLen at h63; omega
    subst hs
    rcases hown.2 with ⟨rfl, rfl⟩ | ⟨g, cap', cur, rfl, hbg, hg, hnc, hcm, hcs, htake⟩
    · by_cases hm : m = 0
      · subst hm
        simp [Builtin.append_, run_underlying hT.sl, sizeOf, typeInfo, hi, Builtin.lenOf, Builtin.firstCells, loadCells, loadCellsFrom] at hr
        rw [← hr.1]
        exact .inl rfl
      · have h2 := run_append_nil (P := P) w t ty e i z hT.sl hi hz ad m cap news h0 hnews (by omega) (by omega) (by rw [hb]; have hb' := hbytes; simp only [Nat.zero_add] at hb'; omega)
        rw [h2] at hr
        simp only [Result.ok.injEq] at hr
        rw [← hr.1]
        exact .inr rfl
    · by_cases hroom : n + m ≤ cap'
      · have h2 := run_append_room (P := P) w t ty e i hT.sl hi g n cap' cur hg ad m cap news h0 hnews h1 hroom (by rw [h0, hcs, ← Nat.add_mul]; exact Nat.mul_le_mul_right _ hroom)
        rw [h2] at hr
        simp only [Result.ok.injEq] at hr
        rw [← hr.1]
        exact .inl rfl
      · have holds : ∀ j u, xs[j]? = some u → w.cell? ((⟨g, 0, none⟩ : Addr).add j) = some u := hown.cells (g := g) rfl
        have h2 := run_append_grow (P := P) w t ty e i z hT.sl hi hz ⟨g, 0, none⟩ n cap' xs hown.1 holds ad m cap news h0 hnews (by omega) (by omega) (by rw [hb]; exact growslice_fits (by omega) hbytes)
        rw [h2] at hr
        simp only [Result.ok.injEq] at hr
        rw [← hr.1]
        exact .inr rfl

/-! ### Items -/
def itC (x : It) : List Value := x.i.map u8v ++ x.v.map u8v
def Full (l : List It) : Prop := ∀ x ∈ l, x.i.length = 32 ∧ x.v.length = 32
def itsC (l : List It) : List Value := l.flatMap itC
theorem itC_len {x : It} (h : x.i.length = 32 ∧ x.v.length = 32) : (itC x).length = 64 := by simp [itC, h.1, h.2]
theorem itsC_len : ∀ {l : List It}, Full l → (itsC l).length = l.length * 64
  | [], _ => by simp [itsC]
  | x :: l, h => by
    have h1 := itC_len (h x (List.mem_cons_self ..))
    have h2 := itsC_len (l := l) (fun y hy => h y (List.mem_cons_of_mem _ hy))
    unfold itsC at h2 ⊢
    simp only [List.flatMap_cons, List.length_append, List.length_cons, h1, h2]
    omega
theorem itsC_get : ∀ {l : List It}, Full l → ∀ {i : Nat} {x : It}, l[i]? = some x → ∀ {j : Nat} {c : Value}, (itC x)[j]? = some c → (itsC l)[i * 64 + j]? = some c
  | [], _, i, x, h, _, _, _ => by simp at h
  | y :: l, h, 0, x, hx, j, c, hc => by
    obtain rfl : y = x := by simpa using hx
    have hj : j < (itC y).length := (List.getElem?_eq_some_iff.1 hc).1
    unfold itsC
    rw [List.flatMap_cons, List.getElem?_append_left (by omega)]
    simpa using hc
  | y :: l, h, i + 1, x, hx, j, c, hc => by
    have h1 := itC_len (h y (List.mem_cons_self ..))
    have h2 := itsC_get (l := l) (fun z hz => h z (List.mem_cons_of_mem _ hz)) (i := i) (x := x) (by simpa using hx) hc
    unfold itsC at h2 ⊢
    rw [List.flatMap_cons, List.getElem?_append_right (by omega), h1, show (i + 1) * 64 + j - 64 = i * 64 + j by omega]
    exact h2
theorem itsC_append (a b : List It) : itsC (a ++ b) = itsC a ++ itsC b := by simp [itsC]
theorem itsC_one (l : List It) : ∀ x ∈ itsC l, x.oneCell' = true := by
  intro x hx
  unfold itsC at hx
  obtain ⟨y, _, hy⟩ := List.mem_flatMap.1 hx
  unfold itC at hy
  rcases List.mem_append.1 hy with h | h
  · exact u8v_one _ x h
  · exact u8v_one _ x h
/-- The []api.Item v reads as the items l. -/
def Its (w : World) (lo hi : Nat) (v : Value) (l : List It) : Prop := Full l ∧ Fs 64 w lo hi v l.length (itsC l)
/-- .. that the call owns. -/
def Ito (e : TypeId) (w : World) (base : Nat) (v : Value) (l : List It) : Prop := Full l ∧ w.ownsRow base e 64 v l.length (itsC l)
theorem Its.kept {S : Nat → Prop} {w w' : World} {lo hi : Nat} {v : Value} {l : List It} (h : Its w lo hi v l) (hk : Kept S w w') (hs : ∀ k, lo ≤ k → k < hi → ¬ S k) : Its w' lo hi v l := ⟨h.1, h.2.kept hk hs⟩
theorem Its.wider {w : World} {lo hi lo' hi' : Nat} {v : Value} {l : List It} (h : Its w lo hi v l) (h1 : lo' ≤ lo) (h2 : hi ≤ hi') : Its w lo' hi' v l := ⟨h.1, h.2.wider h1 h2⟩
theorem Its.nil (w : World) (lo hi : Nat) : Its w lo hi (.slice none 0 0) [] := ⟨fun _ h => by simp at h, Fs.nil ..⟩
theorem Ito.nil (e : TypeId) (w : World) (base : Nat) : Ito e w base (.slice none 0 0) [] := ⟨fun _ h => by simp at h, World.ownsRow_nil w base e 64⟩
theorem Ito.its {e : TypeId} {w : World} {base : Nat} {v : Value} {l : List It} (h : Ito e w base v l) {hi : Nat} (hh : w.heap.size ≤ hi) : Its w base hi v l := ⟨h.1, Fs.ofRow h.2 hh⟩
theorem Its.form {w : World} {lo hi : Nat} {v : Value} {l : List It} (h : Its w lo hi v l) : ∃ a cap, v = .slice a l.length cap ∧ l.length ≤ cap ∧ cap ≤ maxLen ∧ (a = none → cap = 0) := by
  obtain ⟨_, _, a, cap, hv, h1, h2, h3, _⟩ := h
  exact ⟨a, cap, hv, h1, h2, h3⟩
/-- The cells of one of them. -/
theorem Its.cells {w : World} {lo hi : Nat} {ad : Addr} {n cap : Nat} {l : List It} (h : Its w lo hi (.slice (some ad) n cap) l) {i : Nat} {x : It} (hx : l[i]? = some x) {j : Nat} {c : Value} (hc : (itC x)[j]? = some c) :
    lo ≤ ad.block ∧ ad.block < hi ∧ w.cell? (ad.add (i * 64 + j)) = some c := by
  obtain ⟨hf, _, a, cap', hv, _, _, _, h4⟩ := h
  cases hv
  exact h4 ad rfl _ c (itsC_get hf hx hc)
/-- One of them, loaded. -/
theorem Its.load {P : Program} {ty : TypeId} {w : World} {lo hi : Nat} {ad : Addr} {n cap : Nat} {l : List It} (h : Its w lo hi (.slice (some ad) n cap) l) (hT : AggTy P ty 64) {i : Nat} {x : It} (hx : l[i]? = some x) :
    (Instr.loadAt ty (.pointer (some (ad.add (i * 64))))).run P w = .ok (.agg (itC x).toArray) w := by
  have h64 : (itC x).length = 64 := itC_len (h.1 x (List.mem_of_getElem? hx))
  have hl := run_loadCells_list (P := P) w (ad.add (i * 64)) (itC x) (fun j v hv => by rw [add_add']; exact (h.cells hx hv).2.2)
  obtain ⟨d, hu, hd⟩ := hT.ag
  have hi := hT.size
  cases hq : P.info? ty with
  | none => simp [hq] at hi
  | some inf =>
    have hs : inf.size = (itC x).length := by rw [hq] at hi; simpa [h64] using hi
    have hagg : (isAgg ty).run P w = .ok true w := by
      unfold isAgg
      rw [Sem.run_bind, run_underlying hu w]
      cases d <;> simp_all [aggD]
    simp [Instr.loadAt, Instr.sureAddr, loadVar, Sem.run_bind, hagg, sizeOf, typeInfo, hq, hs, hl]
/-! ### Items of the call's own -/
theorem Ito.form {e : TypeId} {w : World} {base : Nat} {v : Value} {l : List It} (h : Ito e w base v l) : ∃ a cap, v = .slice a l.length cap := by
  rcases h.2.2 with ⟨rfl, h0⟩ | ⟨g, cap, cur, rfl, _⟩
  · exact ⟨none, 0, by rw [h0]⟩
  · exact ⟨_, _, rfl⟩
theorem Ito.kept {e : TypeId} {w w' : World} {base : Nat} {v : Value} {l : List It} {S : Nat → Prop} (h : Ito e w base v l) (hk : Kept S w w') (hs : ∀ k, v.ownBlock = some k → ¬ S k) : Ito e w' base v l := by
  refine ⟨h.1, h.2.1, ?_⟩
  rcases h.2.2 with h2 | ⟨g, cap, cur, hv, hb, hg, r⟩
  · exact .inl h2
  · refine .inr ⟨g, cap, cur, hv, hb, ?_, r⟩
    rw [hk.block g (lt_of_block hg) (hs g (by rw [hv]; rfl))]
    exact hg
theorem Ito.base {e : TypeId} {w : World} {base base' : Nat} {v : Value} {l : List It} (h : Ito e w base v l) (hb : base' ≤ base) : Ito e w base' v l := by
  refine ⟨h.1, h.2.1, ?_⟩
  rcases h.2.2 with h2 | ⟨g, cap, cur, hv, hg, r⟩
  · exact .inl h2
  · exact .inr ⟨g, cap, cur, hv, Nat.le_trans hb hg, r⟩
theorem Ito.own {e : TypeId} {w : World} {base : Nat} {v : Value} {l : List It} (h : Ito e w base v l) : ∀ k, v.ownBlock = some k → base ≤ k ∧ k < w.heap.size := World.ownsRow.lt h.2
theorem Ito.alloc {e : TypeId} {w : World} {base : Nat} {v : Value} {l : List It} (h : Ito e w base v l) (o : Obj) : Ito e (w.alloc o) base v l := ⟨h.1, World.ownsRow.alloc h.2 o⟩
/-- An append of items to items of the call's own. -/
theorem run_append_ito {P : Program} {w : World} {t ty e : TypeId} {z : Value} (hT : RowTyK P t e z 64 64) {base : Nat} {v : Value} {l : List It} (hown : Ito e w base v l) {lo hi : Nat} {u : Value} {m : List It} (hu : Its w lo hi u m)
    (h63 : l.length + m.length ≤ 1099511627776) (hbase : base ≤ w.heap.size) :
    ∃ a' n' c' w', (Builtin.append_ #[t, t] ty #[v, u]).run P w = .ok (.slice a' n' c') w' ∧ Ito e w' base (.slice a' n' c') (l ++ m) ∧ Kept (Of v) w w' ∧ (∀ k, (Value.slice a' n' c').ownBlock = some k → v.ownBlock = some k ∨ k = w.heap.size) := by
  obtain ⟨v', w', hr, r2, r3⟩ := run_append_fs (w := w) (ty := ty) hT hown.2 hu.2 (itsC_one m) (by unfold maxLen; omega) (by omega) hbase
  have hblk := append_blockK hT hown.2 hu.2 (itsC_one m) (by unfold maxLen; omega) (by omega) hr
  have hb : Ito e w' base v' (l ++ m) := ⟨fun x hx => (List.mem_append.1 hx).elim (hown.1 x) (hu.1 x), by rw [List.length_append, itsC_append]; exact r2⟩
  obtain ⟨a', cap', rfl⟩ := hb.form
  refine ⟨_, _, _, w', hr, hb, Kept.ofGrown r3, fun k hk => ?_⟩
  rcases hblk with h | h
  · left; rw [← h]; exact hk
  · right; rw [h] at hk; exact (Option.some.inj hk).symm
/-- A new row of one item ('append(a, x)'). -/
theorem Its.one (w : World) (t : TypeId) (x : It) (h : x.i.length = 32 ∧ x.v.length = 32) : Its (w.alloc (.cells (itC x).toArray t)) w.heap.size (w.heap.size + 1) (.slice (some ⟨w.heap.size, 0, none⟩) 1 1) [x] := by
  refine ⟨by simpa [Full] using h, by simp [itsC, itC_len h], some ⟨w.heap.size, 0, none⟩, 1, rfl, Nat.le_refl _, by unfold maxLen; omega, (fun h => by cases h), ?_⟩
  intro ad had i c hc
  simp only [Option.some.injEq] at had
  subst had
  refine ⟨Nat.le_refl _, by simp, ?_⟩
  rw [Addr.add_lit, Nat.zero_add, World.cell?_alloc_new]
  simpa [itsC] using hc
/-- Where they lie. -/
theorem Its.ne {w : World} {lo hi : Nat} {a : Option Addr} {n cap : Nat} {l : List It} (h : Its w lo hi (.slice a n cap) l) (hn : 0 < l.length) :
    ∃ b o, a = some ⟨b, o, none⟩ ∧ lo ≤ b ∧ b < hi ∧ b < w.heap.size ∧ ∀ (i : Nat) (x : It), l[i]? = some x → w.rangeAt b (o + i * 64) (itC x) := by
  obtain ⟨hf, hl, a', cap', hv, g1, g2, g3, g4⟩ := h
  injection hv with e1 e2 e3
  subst e1 e2 e3
  cases a with
  | none => have := g3 rfl; omega
  | some ad =>
    obtain ⟨b, o, sp⟩ := ad
    have h0 := g4 _ rfl 0 _ (List.getElem?_eq_getElem (by omega))
    have hsp : sp = none := by
      have h2 := h0.2.2
      simp only [Addr.add_zero'] at h2
      unfold World.cell? at h2
      split at h2
      · cases sp with
        | none => rfl
        | some s => simp at h2
      · cases h2
    subst hsp
    refine ⟨b, o, rfl, h0.1, h0.2.1, by simpa [add_block] using block_lt_of_cell h0.2.2, fun i x hx j c hc => ?_⟩
    have h1 := (g4 _ rfl _ c (itsC_get hf hx hc)).2.2
    rw [Addr.add_mid] at h1
    rw [Nat.add_assoc]
    exact h1
theorem rangeAt_take {w : World} {b o : Nat} {cs : List Value} (h : w.rangeAt b o cs) (n : Nat) : w.rangeAt b o (cs.take n) := fun j v hv => h j v (by
  rw [List.getElem?_take] at hv
  split at hv
  · exact hv
  · cases hv)
/-- An append of items, for the walk. -/
theorem wpList_append_ito {P : Program} {ops : Array Oper} {rest : List Oper} {o : Oper} {a : Act} {w : World} {Q : Exit → Act → World → Prop} (hgd : o.guard = none) (s x : Operand) (t : TypeId)
    (ho : o.op = .call { callee := .builtin .append, args := #[s, x], argTypes := #[t, t] }) {e : TypeId} {z : Value} (hT : RowTyK P t e z 64 64)
    {v : Value} (hs : a.eval s = v) {u : Value} (hx : a.eval x = u) {base : Nat} {l : List It} (hown : Ito e w base v l) {lo hi : Nat} {m : List It} (hu : Its w lo hi u m)
    (h63 : l.length + m.length ≤ 1099511627776) (hbase : base ≤ w.heap.size)
    (h : ∀ a' n' cap' w', Ito e w' base (.slice a' n' cap') (l ++ m) → Kept (Of v) w w' → (∀ k, (Value.slice a' n' cap').ownBlock = some k → v.ownBlock = some k ∨ k = w.heap.size) → wpList P ops Q rest (a.put o.dst (.slice a' n' cap')) w') : wpList P ops Q (o :: rest) a w := by
  refine wpList_plain hgd fun K hK' => ?_
  obtain ⟨a', n', c', w', hr, r2, r3, r4⟩ := run_append_ito (w := w) (ty := o.type) hT hown hu h63 hbase
  unfold Oper.wp
  simp only [execOp, ho, resolve, invoke, builtin, Sem.run_bind, Sem.run_pure, Result.andThen_ok, List.map_toArray, List.map_cons, List.map_nil, hs, hx, hr]
  exact hK' _ _ (h a' n' c' w' r2 r3 r4)
/-- Cells in the midst of a row, loaded. -/
theorem wpList_load_at {P : Program} {ops : Array Oper} {rest : List Oper} {op : Oper} {a : Act} {w : World} {Q : Exit → Act → World → Prop} (hgd : op.guard = none) (ty : TypeId) (x : Operand) (ho : op.op = .load ty x)
    {b o : Nat} (hx : a.eval x = .pointer (some ⟨b, o, none⟩)) {cs : List Value} (hc : w.rangeAt b o cs) (hT : AggTy P ty cs.length)
    (h : wpList P ops Q rest (a.put op.dst (.agg cs.toArray)) w) : wpList P ops Q (op :: rest) a w := by
  obtain ⟨d, hu, hd⟩ := hT.ag
  exact wpList_load_mid hgd ty x ho b o hx cs d hc hu (by cases d <;> first | rfl | exact hd) hT.size h
theorem fill_one (k : Nat) (z A : Array Value) (hz : z.size = k) (hA : A.size = k) : Instr.fill (fun i => some (i * k, k)) z [(0, .agg A)] = some A := by
  have ha := fold_put 0 A.toList 0 z (by simp; omega)
  have e1 : A.zipIdx.foldl (fun cs (c, j) => cs.setIfInBounds (0 + j) c) z = A := by
    rw [← Array.foldl_toList, Array.toList_zipIdx]
    refine ha.trans ?_
    apply Array.ext'
    simp [hA, hz]
  rw [fill_cons (v := .agg A) (off := 0) (size := k) (by simp) (show (Value.agg A).cells.size = k from hA) (by show 0 + A.size ≤ z.size; omega)]
  rw [show (Value.agg A).cells = A from rfl, e1]
  rfl
/-- A new row of one item, for the walk. -/
theorem wpList_one_item {P : Program} {ops : Array Oper} {rest : List Oper} {o : Oper} {a : Act} {w : World} {Q : Exit → Act → World → Prop} (hg : o.guard = none) (t : TypeId) (y : Operand) (ho : o.op = .buildSlice t 1 #[(0, y)])
    {e : TypeId} {z : Value} {k bytes : Nat} (hT : RowTyK P t e z k bytes) (hk : k ≤ 16777216) {A : Array Value} (hy : a.eval y = .agg A) (hA : A.size = k)
    (h : wpList P ops Q rest (a.put o.dst (.slice (some ⟨w.heap.size, 0, none⟩) 1 1)) (w.alloc (.cells A e))) : wpList P ops Q (o :: rest) a w := by
  obtain ⟨i, hi, hz, hs, hb⟩ := hT.info
  have hp := hT.pos
  refine wpList_buildSlice hg t e 1 #[(0, y)] ho A i z hT.sl hi hz (by omega) (by omega) ?_ h
  rw [hs, show ((#[(0, y)] : Array (Nat × Operand)).map fun (i, x) => (i, a.eval x)).toList = [(0, .agg A)] by simp [hy]]
  exact fill_one k _ A (by simp) hA
/-! ### One of them, stored over -/
theorem itsC_set : ∀ {l : List It}, Full l → ∀ {k : Nat} (x : It), k < l.length → x.i.length = 32 ∧ x.v.length = 32 → itsC (l.set k x) = (itsC l).take (k * 64) ++ itC x ++ (itsC l).drop (k * 64 + 64)
  | [], _, k, x, hk, _ => by simp at hk
  | y :: l, h, 0, x, _, hx => by
    have h1 := itC_len (h y (List.mem_cons_self ..))
    simp [itsC, List.drop_left' h1]
  | y :: l, h, k + 1, x, hk, hx => by
    have h1 := itC_len (h y (List.mem_cons_self ..))
    have h2 := itsC_set (l := l) (fun z hz => h z (List.mem_cons_of_mem _ hz)) (k := k) x (by simpa using hk) hx
    have t1 : (itC y).take ((k + 1) * 64) = itC y := List.take_of_length_le (by omega)
    have d1 : (itC y).drop ((k + 1) * 64 + 64) = [] := List.drop_of_length_le (by omega)
    unfold itsC at h2 ⊢
    rw [List.set_cons_succ, List.flatMap_cons, h2, List.flatMap_cons, List.take_append, List.drop_append, t1, d1, h1,
      show (k + 1) * 64 - 64 = k * 64 by omega, show (k + 1) * 64 + 64 - 64 = k * 64 + 64 by omega]
    simp
/-- One of the call's own items, stored over, for the walk. -/
theorem wpList_store_item {P : Program} {ops : Array Oper} {rest : List Oper} {op : Oper} {a : Act} {w : World} {Q : Exit → Act → World → Prop} (hgd : op.guard = none) (ty : TypeId) (x y : Operand) (ho : op.op = .store ty x y)
    {e : TypeId} {base g n cap : Nat} {l : List It} (hown : Ito e w base (.slice (some ⟨g, 0, none⟩) n cap) l) {k : Nat} (hk : k < l.length) {v : It} (hv : v.i.length = 32 ∧ v.v.length = 32)
    (hx : a.eval x = .pointer (some ⟨g, k * 64, none⟩)) (hy : a.eval y = .agg (itC v).toArray) (hT : AggTy P ty 64)
    (h : ∀ w', Ito e w' base (.slice (some ⟨g, 0, none⟩) n cap) (l.set k v) → Kept (Just g) w w' → wpList P ops Q rest (a.put op.dst undef) w') : wpList P ops Q (op :: rest) a w := by
  have h64 := itC_len hv
  obtain ⟨hf, hlen, h2⟩ := hown
  rcases h2 with ⟨h3, _⟩ | ⟨g', cap', cur, hvv, hb, hg, hnc, hcm, hcs, htake⟩
  · cases h3
  injection hvv with e1 e2 e3
  obtain rfl : g = g' := by simpa using e1
  subst e2 e3
  have hblk : Blk w g cur e := hg
  have hL := itsC_len hf
  have hfit : k * 64 + 64 ≤ cur.size := by omega
  refine wpList_store_mid hgd ty x y ho g (k * 64) (itC v).toArray hx hy (fun j hj => ?_) (by simpa [h64] using hT.size) (all_oneCell_toArray (fun c hc => itsC_one [v] c (by simpa [itsC] using hc))) ?_
  · simp only [List.size_toArray, h64] at hj
    refine ⟨?_, hblk.free _⟩
    rw [hblk.cell]
    simp [show k * 64 + j < cur.size by omega]
  · refine h _ ⟨?_, ?_, ?_⟩ (kept_setCells (S := Just g) (fun _ => rfl) _ _ _ (Kept.refl _ _))
    · intro z hz
      rcases List.mem_or_eq_of_mem_set hz with h | rfl
      · exact hf z h
      · exact hv
    · rw [itsC_len (fun z hz => by
        rcases List.mem_or_eq_of_mem_set hz with h | rfl
        · exact hf z h
        · exact hv)]
    · refine .inr ⟨g, cap, _, by simp, hb, Blk.setCells (itC v) (k * 64) w cur hblk (by omega), by simpa using hnc, hcm, ?_, ?_⟩
      · simp only [List.size_toArray, List.length_append, List.length_take, List.length_drop, Array.length_toList, h64]
        omega
      · rw [itsC_set hf v hk hv, ← htake, List.length_set]
        have q1 : (cur.toList.take (l.length * 64)).take (k * 64) = cur.toList.take (k * 64) := by rw [List.take_take, Nat.min_eq_left (by omega)]
        rw [q1, h64, List.append_assoc, List.take_append, List.append_assoc, List.take_of_length_le (by simp; omega)]
        congr 1
        rw [List.take_append, List.take_of_length_le (by simp [h64]; omega)]
        congr 1
        rw [List.take_drop]
        congr 2
        simp [h64]
        omega
/-! ### Cuts -/
theorem Fs.sliced {k : Nat} {w : World} {lo hi : Nat} {a : Option Addr} {n cap : Nat} {xs : List Value} (h : Fs k w lo hi (.slice a n cap) n xs) (l m : Nat) (hl : l ≤ m) (hm : m ≤ n) :
    Fs k w lo hi (.slice (if cap = l then a else a.map (·.add (l * k))) (m - l) (cap - l)) (m - l) ((xs.take (m * k)).drop (l * k)) := by
  obtain ⟨h0, a', cap', hv, g1, g2, g3, g4⟩ := h
  injection hv with e1 e2 e3
  subst e1 e3
  have h1 : l * k ≤ m * k := Nat.mul_le_mul_right _ hl
  have h2 : m * k ≤ n * k := Nat.mul_le_mul_right _ hm
  refine ⟨by rw [List.length_drop, List.length_take, h0, Nat.min_eq_left h2, Nat.sub_mul], _, cap - l, rfl, by omega, by omega, ?_, ?_⟩
  · intro hn
    have hnone : a = none := by
      by_cases hc : cap = l
      · rw [if_pos hc] at hn; exact hn
      · rw [if_neg hc] at hn; cases a with
        | none => rfl
        | some ad => simp at hn
    have := g3 hnone
    omega
  · intro ad had i x hx
    have hi : l * k + i < m * k ∧ xs[l * k + i]? = some x := by
      rw [List.getElem?_drop, List.getElem?_take] at hx
      split at hx
      · exact ⟨by assumption, hx⟩
      · cases hx
    have hne : ¬ cap = l := by
      intro e
      have : m ≤ l := by omega
      have := Nat.mul_le_mul_right k this
      omega
    rw [if_neg hne] at had
    cases a with
    | none => simp at had
    | some ad0 =>
      simp at had
      subst had
      obtain ⟨q1, q2, q3⟩ := g4 ad0 rfl (l * k + i) x hi.2
      rw [add_block, add_add']
      exact ⟨q1, q2, q3⟩
theorem itsC_take : ∀ {l : List It}, Full l → ∀ (m : Nat), itsC (l.take m) = (itsC l).take (m * 64)
  | [], _, m => by simp [itsC]
  | x :: l, _, 0 => by simp [itsC]
  | x :: l, h, m + 1 => by
    have h1 := itC_len (h x (List.mem_cons_self ..))
    have h2 := itsC_take (l := l) (fun z hz => h z (List.mem_cons_of_mem _ hz)) m
    have t1 : (itC x).take ((m + 1) * 64) = itC x := List.take_of_length_le (by omega)
    unfold itsC at h2 ⊢
    rw [List.take_succ_cons, List.flatMap_cons, h2, List.flatMap_cons, List.take_append, t1, h1, show (m + 1) * 64 - 64 = m * 64 by omega]
theorem itsC_drop : ∀ {l : List It}, Full l → ∀ (m : Nat), itsC (l.drop m) = (itsC l).drop (m * 64)
  | [], _, m => by simp [itsC]
  | x :: l, _, 0 => by simp [itsC]
  | x :: l, h, m + 1 => by
    have h1 := itC_len (h x (List.mem_cons_self ..))
    have h2 := itsC_drop (l := l) (fun z hz => h z (List.mem_cons_of_mem _ hz)) m
    have d1 : (itC x).drop ((m + 1) * 64) = [] := List.drop_of_length_le (by omega)
    unfold itsC at h2 ⊢
    rw [List.drop_succ_cons, h2, List.flatMap_cons, List.drop_append, d1, h1, show (m + 1) * 64 - 64 = m * 64 by omega]
    simp
/-- 's[l:h]' at items. -/
theorem Its.sliced {w : World} {lo hi : Nat} {a : Option Addr} {n cap : Nat} {xs : List It} (h : Its w lo hi (.slice a n cap) xs) (l m : Nat) (hl : l ≤ m) (hm : m ≤ n) :
    Its w lo hi (.slice (if cap = l then a else a.map (·.add (l * 64))) (m - l) (cap - l)) ((xs.take m).drop l) := by
  obtain ⟨a', c', hv, _⟩ := h.form
  injection hv with e1 e2 e3
  subst e2
  have hf : Full (xs.take m) := fun z hz => h.1 z (List.mem_of_mem_take hz)
  refine ⟨fun z hz => hf z (List.mem_of_mem_drop hz), ?_⟩
  have h1 := Fs.sliced h.2 l m hl hm
  rw [itsC_drop hf, itsC_take h.1]
  have e : ((xs.take m).drop l).length = m - l := by simp; omega
  rw [e]
  exact h1
theorem exec_one_item {P : Program} {o : Oper} {ev : Operand → Value} {w : World} (t : TypeId) (y : Operand) (ho : o.op = .buildSlice t 1 #[(0, y)])
    {e : TypeId} {z : Value} {k bytes : Nat} (hT : RowTyK P t e z k bytes) (hk : k ≤ 16777216) {A : Array Value} (hy : ev y = .agg A) (hA : A.size = k) :
    (execOp ev o).run P w = .ok (.value (.slice (some ⟨w.heap.size, 0, none⟩) 1 1)) (w.alloc (.cells A e)) := by
  obtain ⟨i, hi, hz, hs, hb⟩ := hT.info
  have hp := hT.pos
  have hr := run_buildSlice (P := P) w t e 1 #[(0, .agg A)] A i z hT.sl hi hz (by omega) (by omega) (by rw [hs]; exact fill_one k _ A (by simp) hA)
  unfold execOp
  simp only [ho, Sem.run_bind]
  rw [show (#[(0, y)] : Array (Nat × Operand)).map (fun (i, x) => (i, ev x)) = #[(0, .agg A)] by simp [hy]]
  rw [hr]
  rfl
end Go.Pm
namespace Go.Pm
open Go Go.RowKit

/-- Each piece has k cells. -/
def Each (k : Nat) (xs : List (List Value)) : Prop := ∀ x ∈ xs, x.length = k
theorem Each.nil (k : Nat) : Each k [] := fun _ h => by simp at h
theorem Each.one {k : Nat} {x : List Value} (h : x.length = k) : Each k [x] := fun y hy => by simp at hy; subst hy; exact h
theorem Each.append {k : Nat} {a b : List (List Value)} (ha : Each k a) (hb : Each k b) : Each k (a ++ b) := fun x hx => (List.mem_append.1 hx).elim (ha x) (hb x)
theorem Each.tail {k : Nat} {x : List Value} {a : List (List Value)} (h : Each k (x :: a)) : Each k a := fun y hy => h y (List.mem_cons_of_mem _ hy)
theorem Each.take {k : Nat} {a : List (List Value)} (h : Each k a) (n : Nat) : Each k (a.take n) := fun y hy => h y (List.mem_of_mem_take hy)
theorem Each.drop {k : Nat} {a : List (List Value)} (h : Each k a) (n : Nat) : Each k (a.drop n) := fun y hy => h y (List.mem_of_mem_drop hy)
theorem flat_len {k : Nat} : ∀ {xs : List (List Value)}, Each k xs → xs.flatten.length = xs.length * k
  | [], _ => by simp
  | x :: xs, h => by
    have h1 := h x (List.mem_cons_self ..)
    have h2 := flat_len h.tail
    simp only [List.flatten_cons, List.length_append, List.length_cons, h1, h2, Nat.add_mul]
    omega
theorem flat_get {k : Nat} : ∀ {xs : List (List Value)}, Each k xs → ∀ {i : Nat} {x : List Value}, xs[i]? = some x → ∀ {j : Nat} {c : Value}, x[j]? = some c → xs.flatten[i * k + j]? = some c
  | [], _, i, x, h, _, _, _ => by simp at h
  | y :: xs, h, 0, x, hx, j, c, hc => by
    obtain rfl : y = x := by simpa using hx
    have hj : j < y.length := (List.getElem?_eq_some_iff.1 hc).1
    rw [List.flatten_cons, List.getElem?_append_left (by omega)]
    simpa using hc
  | y :: xs, h, i + 1, x, hx, j, c, hc => by
    have h1 := h y (List.mem_cons_self ..)
    have h2 := flat_get h.tail (i := i) (x := x) (by simpa using hx) hc
    rw [List.flatten_cons, List.getElem?_append_right (by rw [h1, Nat.add_mul]; omega), h1, show (i + 1) * k + j - k = i * k + j by rw [Nat.add_mul]; omega]
    exact h2
theorem flat_take {k : Nat} : ∀ {xs : List (List Value)}, Each k xs → ∀ m, (xs.take m).flatten = xs.flatten.take (m * k)
  | [], _, m => by simp
  | x :: xs, _, 0 => by simp
  | x :: xs, h, m + 1 => by
    have h1 := h x (List.mem_cons_self ..)
    have h2 := flat_take h.tail m
    have e : (m + 1) * k = m * k + k := by rw [Nat.add_mul]; omega
    rw [List.take_succ_cons, List.flatten_cons, h2, List.flatten_cons, List.take_append, List.take_of_length_le (l := x) (by omega), h1, e, Nat.add_sub_cancel]
theorem flat_drop {k : Nat} : ∀ {xs : List (List Value)}, Each k xs → ∀ m, (xs.drop m).flatten = xs.flatten.drop (m * k)
  | [], _, m => by simp
  | x :: xs, _, 0 => by simp
  | x :: xs, h, m + 1 => by
    have h1 := h x (List.mem_cons_self ..)
    have h2 := flat_drop h.tail m
    have e : (m + 1) * k = m * k + k := by rw [Nat.add_mul]; omega
    rw [List.drop_succ_cons, h2, List.flatten_cons, List.drop_append, List.drop_of_length_le (l := x) (by omega), h1, e, Nat.add_sub_cancel, List.nil_append]

/-- The slice v holds the pieces xs; they lie in blocks from lo on, below hi. -/
def Ps (k : Nat) (w : World) (lo hi : Nat) (v : Value) (xs : List (List Value)) : Prop := Each k xs ∧ Fs k w lo hi v xs.length xs.flatten
/-- .. that the call owns. -/
def Po (k : Nat) (e : TypeId) (w : World) (base : Nat) (v : Value) (xs : List (List Value)) : Prop := Each k xs ∧ w.ownsRow base e k v xs.length xs.flatten
theorem Ps.kept {k : Nat} {S : Nat → Prop} {w w' : World} {lo hi : Nat} {v : Value} {xs : List (List Value)} (h : Ps k w lo hi v xs) (hk : Kept S w w') (hs : ∀ k, lo ≤ k → k < hi → ¬ S k) : Ps k w' lo hi v xs := ⟨h.1, h.2.kept hk hs⟩
theorem Ps.wider {k : Nat} {w : World} {lo hi lo' hi' : Nat} {v : Value} {xs : List (List Value)} (h : Ps k w lo hi v xs) (h1 : lo' ≤ lo) (h2 : hi ≤ hi') : Ps k w lo' hi' v xs := ⟨h.1, h.2.wider h1 h2⟩
theorem Ps.lt {k : Nat} {w : World} {lo hi : Nat} {v : Value} {xs : List (List Value)} (h : Ps k w lo hi v xs) : Ps k w lo (min hi w.heap.size) v xs := ⟨h.1, h.2.lt⟩
theorem Ps.nil (k : Nat) (w : World) (lo hi : Nat) : Ps k w lo hi (.slice none 0 0) [] := ⟨Each.nil k, Fs.nil ..⟩
theorem Po.nil (k : Nat) (e : TypeId) (w : World) (base : Nat) : Po k e w base (.slice none 0 0) [] := ⟨Each.nil k, World.ownsRow_nil w base e k⟩
theorem Po.ps {k : Nat} {e : TypeId} {w : World} {base : Nat} {v : Value} {xs : List (List Value)} (h : Po k e w base v xs) {hi : Nat} (hh : w.heap.size ≤ hi) : Ps k w base hi v xs := ⟨h.1, Fs.ofRow h.2 hh⟩
theorem Ps.form {k : Nat} {w : World} {lo hi : Nat} {v : Value} {xs : List (List Value)} (h : Ps k w lo hi v xs) : ∃ a cap, v = .slice a xs.length cap ∧ xs.length ≤ cap ∧ cap ≤ 9223372036854775807 ∧ (a = none → cap = 0) := by
  obtain ⟨_, _, a, cap, hv, h1, h2, h3, _⟩ := h
  exact ⟨a, cap, hv, h1, h2, h3⟩
theorem Po.form {k : Nat} {e : TypeId} {w : World} {base : Nat} {v : Value} {xs : List (List Value)} (h : Po k e w base v xs) : ∃ a cap, v = .slice a xs.length cap := by
  rcases h.2.2 with ⟨rfl, h0⟩ | ⟨g, cap, cur, rfl, _⟩
  · exact ⟨none, 0, by rw [h0]⟩
  · exact ⟨_, _, rfl⟩
theorem Po.kept {k : Nat} {e : TypeId} {w w' : World} {base : Nat} {v : Value} {xs : List (List Value)} {S : Nat → Prop} (h : Po k e w base v xs) (hk : Kept S w w') (hs : ∀ k, v.ownBlock = some k → ¬ S k) : Po k e w' base v xs := by
  refine ⟨h.1, h.2.1, ?_⟩
  rcases h.2.2 with h2 | ⟨g, cap, cur, hv, hb, hg, r⟩
  · exact .inl h2
  · refine .inr ⟨g, cap, cur, hv, hb, ?_, r⟩
    rw [hk.block g (lt_of_block hg) (hs g (by rw [hv]; rfl))]
    exact hg
theorem Po.base {k : Nat} {e : TypeId} {w : World} {base base' : Nat} {v : Value} {xs : List (List Value)} (h : Po k e w base v xs) (hb : base' ≤ base) : Po k e w base' v xs := by
  refine ⟨h.1, h.2.1, ?_⟩
  rcases h.2.2 with h2 | ⟨g, cap, cur, hv, hg, r⟩
  · exact .inl h2
  · exact .inr ⟨g, cap, cur, hv, Nat.le_trans hb hg, r⟩
theorem Po.own {k : Nat} {e : TypeId} {w : World} {base : Nat} {v : Value} {xs : List (List Value)} (h : Po k e w base v xs) : ∀ k, v.ownBlock = some k → base ≤ k ∧ k < w.heap.size := World.ownsRow.lt h.2
theorem Po.alloc {k : Nat} {e : TypeId} {w : World} {base : Nat} {v : Value} {xs : List (List Value)} (h : Po k e w base v xs) (o : Obj) : Po k e (w.alloc o) base v xs := ⟨h.1, World.ownsRow.alloc h.2 o⟩
/-- Where they lie. -/
theorem Ps.ne {k : Nat} (hk : 0 < k) {w : World} {lo hi : Nat} {a : Option Addr} {n cap : Nat} {xs : List (List Value)} (h : Ps k w lo hi (.slice a n cap) xs) (hn : 0 < xs.length) :
    ∃ b o, a = some ⟨b, o, none⟩ ∧ lo ≤ b ∧ b < hi ∧ b < w.heap.size ∧ ∀ (i : Nat) (x : List Value), xs[i]? = some x → w.rangeAt b (o + i * k) x := by
  obtain ⟨hf, hl, a', cap', hv, g1, g2, g3, g4⟩ := h
  injection hv with e1 e2 e3
  subst e1 e2 e3
  cases a with
  | none => have := g3 rfl; omega
  | some ad =>
    obtain ⟨b, o, sp⟩ := ad
    have hp : 0 < xs.flatten.length := by rw [hl]; exact Nat.mul_pos hn hk
    have h0 := g4 _ rfl 0 _ (List.getElem?_eq_getElem hp)
    have hsp : sp = none := by
      have h2 := h0.2.2
      simp only [Addr.add_zero'] at h2
      unfold World.cell? at h2
      split at h2
      · cases sp with
        | none => rfl
        | some s => simp at h2
      · cases h2
    subst hsp
    refine ⟨b, o, rfl, h0.1, h0.2.1, by simpa [add_block] using block_lt_of_cell h0.2.2, fun i x hx j c hc => ?_⟩
    have h1 := (g4 _ rfl _ c (flat_get hf hx hc)).2.2
    rw [Addr.add_mid] at h1
    rw [Nat.add_assoc]
    exact h1
/-- An append of pieces to pieces of the call's own. -/
theorem run_append_po {P : Program} {w : World} {t ty e : TypeId} {z : Value} {k bytes : Nat} (hT : RowTyK P t e z k bytes) {base : Nat} {v : Value} {l : List (List Value)} (hown : Po k e w base v l) {lo hi : Nat} {u : Value} {m : List (List Value)} (hu : Ps k w lo hi u m)
    (h1 : ∀ x ∈ m, ∀ c ∈ x, c.oneCell' = true) (h63 : l.length + m.length ≤ 1099511627776) (hb : bytes ≤ 128) (hbase : base ≤ w.heap.size) :
    ∃ a' n' c' w', (Builtin.append_ #[t, t] ty #[v, u]).run P w = .ok (.slice a' n' c') w' ∧ Po k e w' base (.slice a' n' c') (l ++ m) ∧ Kept (Of v) w w' ∧ (∀ k, (Value.slice a' n' c').ownBlock = some k → v.ownBlock = some k ∨ k = w.heap.size) := by
  have hone : ∀ x ∈ m.flatten, x.oneCell' = true := fun x hx => by
    obtain ⟨y, hy, hxy⟩ := List.mem_flatten.1 hx
    exact h1 y hy x hxy
  have hbb : (l.length + m.length) * bytes ≤ 140737488355328 := Nat.le_trans (Nat.mul_le_mul h63 hb) (by decide)
  obtain ⟨v', w', hr, r2, r3⟩ := run_append_fs (w := w) (ty := ty) hT hown.2 hu.2 hone (by unfold maxLen; omega) hbb hbase
  have hblk := append_blockK hT hown.2 hu.2 hone (by unfold maxLen; omega) hbb hr
  have hb : Po k e w' base v' (l ++ m) := ⟨hown.1.append hu.1, by rw [List.length_append, List.flatten_append]; exact r2⟩
  obtain ⟨a', cap', rfl⟩ := hb.form
  refine ⟨_, _, _, w', hr, hb, Kept.ofGrown r3, fun k hk => ?_⟩
  rcases hblk with h | h
  · left; rw [← h]; exact hk
  · right; rw [h] at hk; exact (Option.some.inj hk).symm
/-- .. for the walk. -/
theorem wpList_append_po {P : Program} {ops : Array Oper} {rest : List Oper} {o : Oper} {a : Act} {w : World} {Q : Exit → Act → World → Prop} (hgd : o.guard = none) (s x : Operand) (t : TypeId)
    (ho : o.op = .call { callee := .builtin .append, args := #[s, x], argTypes := #[t, t] }) {e : TypeId} {z : Value} {k bytes : Nat} (hT : RowTyK P t e z k bytes) (hb : bytes ≤ 128)
    {v : Value} (hs : a.eval s = v) {u : Value} (hx : a.eval x = u) {base : Nat} {l : List (List Value)} (hown : Po k e w base v l) {lo hi : Nat} {m : List (List Value)} (hu : Ps k w lo hi u m)
    (h1 : ∀ x ∈ m, ∀ c ∈ x, c.oneCell' = true) (h63 : l.length + m.length ≤ 1099511627776) (hbase : base ≤ w.heap.size)
    (h : ∀ a' n' cap' w', Po k e w' base (.slice a' n' cap') (l ++ m) → Kept (Of v) w w' → (∀ k, (Value.slice a' n' cap').ownBlock = some k → v.ownBlock = some k ∨ k = w.heap.size) → wpList P ops Q rest (a.put o.dst (.slice a' n' cap')) w') : wpList P ops Q (o :: rest) a w := by
  refine wpList_plain hgd fun K hK' => ?_
  obtain ⟨a', n', c', w', hr, r2, r3, r4⟩ := run_append_po (w := w) (ty := o.type) hT hown hu h1 h63 hb hbase
  unfold Oper.wp
  simp only [execOp, ho, resolve, invoke, builtin, Sem.run_bind, Sem.run_pure, Result.andThen_ok, List.map_toArray, List.map_cons, List.map_nil, hs, hx, hr]
  exact hK' _ _ (h a' n' c' w' r2 r3 r4)
/-- .. in a drawn region. -/
theorem gives_append_po {P : Program} {o : Oper} {a : Act} {w : World} {X : Value → World → Prop} (s x : Operand) (t : TypeId)
    (ho : o.op = .call { callee := .builtin .append, args := #[s, x], argTypes := #[t, t] }) {e : TypeId} {z : Value} {k bytes : Nat} (hT : RowTyK P t e z k bytes) (hb : bytes ≤ 128)
    {v : Value} (hs : a.eval s = v) {u : Value} (hx : a.eval x = u) {base : Nat} {l : List (List Value)} (hown : Po k e w base v l) {lo hi : Nat} {m : List (List Value)} (hu : Ps k w lo hi u m)
    (h1 : ∀ x ∈ m, ∀ c ∈ x, c.oneCell' = true) (h63 : l.length + m.length ≤ 1099511627776) (hbase : base ≤ w.heap.size)
    (h : ∀ a' n' cap' w', Po k e w' base (.slice a' n' cap') (l ++ m) → Kept (Of v) w w' → (∀ k, (Value.slice a' n' cap').ownBlock = some k → v.ownBlock = some k ∨ k = w.heap.size) → X (.slice a' n' cap') w') : Gives P o a w X := by
  obtain ⟨a', n', c', w', hr, r2, r3, r4⟩ := run_append_po (w := w) (ty := o.type) hT hown hu h1 h63 hb hbase
  unfold Gives
  simp only [execOp, ho, resolve, invoke, builtin, Sem.run_bind, Sem.run_pure, Result.andThen_ok, List.map_toArray, List.map_cons, List.map_nil, hs, hx, hr]
  exact h a' n' c' w' r2 r3 r4
/-- A new row of one piece. -/
theorem Ps.one (k : Nat) (w : World) (t : TypeId) (x : List Value) (h : x.length = k) : Ps k (w.alloc (.cells x.toArray t)) w.heap.size (w.heap.size + 1) (.slice (some ⟨w.heap.size, 0, none⟩) 1 1) [x] := by
  refine ⟨Each.one h, by simp [h], some ⟨w.heap.size, 0, none⟩, 1, rfl, Nat.le_refl _, by unfold maxLen; omega, (fun h => by cases h), ?_⟩
  intro ad had i c hc
  simp only [Option.some.injEq] at had
  subst had
  refine ⟨Nat.le_refl _, by simp, ?_⟩
  rw [Addr.add_lit, Nat.zero_add, World.cell?_alloc_new]
  simpa using hc
/-- .. that the call owns. -/
theorem Po.one (k : Nat) (w : World) (t : TypeId) (x : List Value) (h : x.length = k) : Po k t (w.alloc (.cells x.toArray t)) w.heap.size (.slice (some ⟨w.heap.size, 0, none⟩) 1 1) [x] := by
  refine ⟨Each.one h, by simp [h], .inr ⟨w.heap.size, 1, x.toArray, rfl, Nat.le_refl _, heap_alloc_new w _, by simp, by unfold maxLen; omega, by simp [h], ?_⟩⟩
  simp [← h]
/-- 's[l:h]' at pieces. -/
theorem Ps.sliced {k : Nat} {w : World} {lo hi : Nat} {a : Option Addr} {n cap : Nat} {xs : List (List Value)} (h : Ps k w lo hi (.slice a n cap) xs) (l m : Nat) (hl : l ≤ m) (hm : m ≤ n) :
    Ps k w lo hi (.slice (if cap = l then a else a.map (·.add (l * k))) (m - l) (cap - l)) ((xs.take m).drop l) := by
  obtain ⟨a', c', hv, _⟩ := h.form
  injection hv with e1 e2 e3
  subst e2
  refine ⟨(h.1.take m).drop l, ?_⟩
  have h1 := Fs.sliced h.2 l m hl hm
  rw [flat_drop (h.1.take m), flat_take h.1]
  have e : ((xs.take m).drop l).length = m - l := by simp; omega
  rw [e]
  exact h1
/-- One of the pieces, loaded, in a drawn region or not: its cells. -/
theorem Ps.at {k : Nat} (hk : 0 < k) {w : World} {lo hi : Nat} {a : Option Addr} {n cap : Nat} {xs : List (List Value)} (h : Ps k w lo hi (.slice a n cap) xs) {i : Nat} (hi' : i < xs.length) :
    ∃ b o, a = some ⟨b, o, none⟩ ∧ w.rangeAt b (o + i * k) xs[i] := by
  obtain ⟨b, o, rfl, _, _, _, hr⟩ := h.ne hk (by omega)
  exact ⟨b, o, rfl, hr i _ (List.getElem?_eq_getElem hi')⟩

/-! ### Hashes -/
def hsC (hs : List (List UInt8)) : List (List Value) := hs.map (·.map u8v)
/-- Each has 32 bytes. -/
def H32 (hs : List (List UInt8)) : Prop := ∀ h ∈ hs, h.length = 32
theorem H32.nil : H32 [] := fun _ h => by simp at h
theorem H32.one {h : List UInt8} (hl : h.length = 32) : H32 [h] := fun y hy => by simp at hy; subst hy; exact hl
theorem H32.append {a b : List (List UInt8)} (ha : H32 a) (hb : H32 b) : H32 (a ++ b) := fun x hx => (List.mem_append.1 hx).elim (ha x) (hb x)
theorem H32.cons {h : List UInt8} {b : List (List UInt8)} (ha : h.length = 32) (hb : H32 b) : H32 (h :: b) := fun x hx => (List.mem_cons.1 hx).elim (fun e => e ▸ ha) (hb x)
theorem H32.head {h : List UInt8} {b : List (List UInt8)} (hb : H32 (h :: b)) : h.length = 32 := hb _ (List.mem_cons_self ..)
theorem H32.tail {h : List UInt8} {b : List (List UInt8)} (hb : H32 (h :: b)) : H32 b := fun y hy => hb y (List.mem_cons_of_mem _ hy)
theorem H32.take {a : List (List UInt8)} (h : H32 a) (n : Nat) : H32 (a.take n) := fun y hy => h y (List.mem_of_mem_take hy)
theorem hsC_each {hs : List (List UInt8)} (h : H32 hs) : Each 32 (hsC hs) := fun x hx => by
  obtain ⟨y, hy, rfl⟩ := List.mem_map.1 hx
  rw [List.length_map]
  exact h y hy
theorem hsC_len (hs : List (List UInt8)) : (hsC hs).length = hs.length := List.length_map _
theorem hsC_one (hs : List (List UInt8)) : ∀ x ∈ hsC hs, ∀ c ∈ x, c.oneCell' = true := fun x hx c hc => by
  obtain ⟨y, _, rfl⟩ := List.mem_map.1 hx
  exact u8v_one y c hc
theorem hsC_append (a b : List (List UInt8)) : hsC (a ++ b) = hsC a ++ hsC b := List.map_append
theorem hsC_snoc (a : List (List UInt8)) (h : List UInt8) : hsC (a ++ [h]) = hsC a ++ [h.map u8v] := List.map_append
/-- The []api.Hash v reads as the hashes hs. -/
abbrev Hs (w : World) (lo hi : Nat) (v : Value) (hs : List (List UInt8)) : Prop := H32 hs ∧ Ps 32 w lo hi v (hsC hs)
/-- .. that the call owns. -/
abbrev Ho (e : TypeId) (w : World) (base : Nat) (v : Value) (hs : List (List UInt8)) : Prop := H32 hs ∧ Po 32 e w base v (hsC hs)
theorem Hs.kept {S : Nat → Prop} {w w' : World} {lo hi : Nat} {v : Value} {hs : List (List UInt8)} (h : Hs w lo hi v hs) (hk : Kept S w w') (hh : ∀ k, lo ≤ k → k < hi → ¬ S k) : Hs w' lo hi v hs := ⟨h.1, h.2.kept hk hh⟩
theorem Hs.nil (w : World) (lo hi : Nat) : Hs w lo hi (.slice none 0 0) [] := ⟨H32.nil, Ps.nil ..⟩
theorem Ho.nil (e : TypeId) (w : World) (base : Nat) : Ho e w base (.slice none 0 0) [] := ⟨H32.nil, Po.nil ..⟩
theorem Ho.kept {e : TypeId} {w w' : World} {base : Nat} {v : Value} {hs : List (List UInt8)} {S : Nat → Prop} (h : Ho e w base v hs) (hk : Kept S w w') (hh : ∀ k, v.ownBlock = some k → ¬ S k) : Ho e w' base v hs := ⟨h.1, h.2.kept hk hh⟩
theorem Ho.base {e : TypeId} {w : World} {base base' : Nat} {v : Value} {hs : List (List UInt8)} (h : Ho e w base v hs) (hb : base' ≤ base) : Ho e w base' v hs := ⟨h.1, h.2.base hb⟩
theorem Ho.hs {e : TypeId} {w : World} {base : Nat} {v : Value} {hs : List (List UInt8)} (h : Ho e w base v hs) {hi : Nat} (hh : w.heap.size ≤ hi) : Hs w base hi v hs := ⟨h.1, h.2.ps hh⟩
theorem Hs.form {w : World} {lo hi : Nat} {v : Value} {hs : List (List UInt8)} (h : Hs w lo hi v hs) : ∃ a cap, v = .slice a hs.length cap ∧ hs.length ≤ cap ∧ cap ≤ 9223372036854775807 ∧ (a = none → cap = 0) := by
  have := h.2.form
  rwa [hsC_len] at this
theorem Ho.form {e : TypeId} {w : World} {base : Nat} {v : Value} {hs : List (List UInt8)} (h : Ho e w base v hs) : ∃ a cap, v = .slice a hs.length cap := by
  have := h.2.form
  rwa [hsC_len] at this
/-- One of them. -/
theorem Hs.at {w : World} {lo hi : Nat} {a : Option Addr} {n cap : Nat} {hs : List (List UInt8)} (h : Hs w lo hi (.slice a n cap) hs) {i : Nat} (hi' : i < hs.length) :
    ∃ b o, a = some ⟨b, o, none⟩ ∧ w.rangeAt b (o + i * 32) (hs[i].map u8v) := by
  obtain ⟨b, o, h1, h2⟩ := h.2.at (by decide) (i := i) (by rw [hsC_len]; exact hi')
  refine ⟨b, o, h1, ?_⟩
  simpa [hsC] using h2
theorem Hs.lo {w : World} {lo hi : Nat} {a : Option Addr} {n cap : Nat} {hs : List (List UInt8)} (h : Hs w lo hi (.slice a n cap) hs) (hn : 0 < hs.length) :
    ∃ b o, a = some ⟨b, o, none⟩ ∧ lo ≤ b ∧ b < hi ∧ b < w.heap.size ∧ ∀ i (hi' : i < hs.length), w.rangeAt b (o + i * 32) (hs[i].map u8v) := by
  obtain ⟨b, o, h1, h2, h3, h4, h5⟩ := h.2.ne (by decide) (by rw [hsC_len]; exact hn)
  refine ⟨b, o, h1, h2, h3, h4, fun i hi' => h5 i _ ?_⟩
  simp [hsC, List.getElem?_eq_getElem hi']
end Go.Pm
namespace Go.Pm
open Go Go.RowKit
structure Pn where
  u : Req
  tick : Int
  seq : Int
  sync : Bool
abbrev penC (x : Pn) : List Value := [.string x.u.n, .int .i64 x.u.v, .int .u64 (x.u.k : Int), .int .i64 x.u.c, .int .u64 (x.u.r : Int), .int .u64 (x.u.s : Int), .int .i64 x.tick, .int .i64 x.seq, .bool x.sync]
abbrev reqC (u : Req) : List Value := [.string u.n, .int .i64 u.v, .int .u64 (u.k : Int), .int .i64 u.c, .int .u64 (u.r : Int), .int .u64 (u.s : Int)]
def pensC (l : List Pn) : List (List Value) := l.map penC
theorem pensC_len (l : List Pn) : (pensC l).length = l.length := List.length_map _
theorem pensC_at (l : List Pn) (i : Nat) (h : i < l.length) : (pensC l)[i]? = some (penC l[i]) := by simp [pensC, h]
theorem pensC_app (a b : List Pn) : pensC (a ++ b) = pensC a ++ pensC b := List.map_append
theorem pensC_each (l : List Pn) : Each 9 (pensC l) := fun x hx => by
  obtain ⟨y, _, rfl⟩ := List.mem_map.1 hx
  rfl
theorem penC_one (x : Pn) : ∀ c ∈ penC x, c.oneCell' = true := by simp [Value.oneCell']
theorem pensC_one (l : List Pn) : ∀ x ∈ pensC l, ∀ c ∈ x, c.oneCell' = true := fun x hx => by
  obtain ⟨y, _, rfl⟩ := List.mem_map.1 hx
  exact penC_one y
/-- A row of pendings: where each one's parts lie. -/
theorem Ps.pen {w : World} {lo hi : Nat} {a : Option Addr} {n cap : Nat} {l : List Pn} (h : Ps 9 w lo hi (.slice a n cap) (pensC l)) (hn : 0 < l.length) :
    ∃ b o, a = some ⟨b, o, none⟩ ∧ b < w.heap.size ∧ ∀ i (hi : i < l.length), w.rangeAt b (o + i * 9) (penC l[i]) ∧ w.rangeAt b (o + i * 9) (reqC l[i].u) ∧ w.cell? ⟨b, o + i * 9 + 6, none⟩ = some (.int .i64 l[i].tick) ∧ w.cell? ⟨b, o + i * 9 + 7, none⟩ = some (.int .i64 l[i].seq) ∧ w.cell? ⟨b, o + i * 9 + 8, none⟩ = some (.bool l[i].sync) := by
  obtain ⟨b, o, rfl, _, _, h3, hr⟩ := h.ne (by decide) (by rw [pensC_len]; exact hn)
  refine ⟨b, o, rfl, h3, fun i hi => ?_⟩
  have h1 := hr i _ (pensC_at l i hi)
  refine ⟨h1, fun j v hj => h1 j v ?_, h1 6 _ rfl, h1 7 _ rfl, h1 8 _ rfl⟩
  match j, hj with
  | 0, hj => exact hj
  | 1, hj => exact hj
  | 2, hj => exact hj
  | 3, hj => exact hj
  | 4, hj => exact hj
  | 5, hj => exact hj
  | j + 6, hj => simp at hj
/-- The requests' bounds: their signatures are words. -/
def PnFits (l : List Pn) : Prop := ∀ x ∈ l, x.u.r < 18446744073709551616 ∧ x.u.s < 18446744073709551616
/-- The i-th record behind a base of number s. -/
def recP (s : Int) (i : Nat) (x : Pn) : Rec := ⟨2, s + 1 + i, 0, 0, x.u, x.tick, 0⟩
def recB (gen s : Int) (n : Nat) : Rec := ⟨1, s, gen, n, Req.none, 0, 0⟩
/-- All records, from the i-th on. -/
def recsP (s : Int) : Nat → List Pn → List Rec
  | _, [] => []
  | i, x :: l => recP s i x :: recsP s (i + 1) l
theorem recsP_len (s : Int) : ∀ (l : List Pn) (i : Nat), (recsP s i l).length = l.length
  | [], _ => rfl
  | x :: l, i => by rw [recsP, List.length_cons, recsP_len s l (i + 1), List.length_cons]
theorem recsP_app (s : Int) : ∀ (l m : List Pn) (i : Nat), recsP s i (l ++ m) = recsP s i l ++ recsP s (i + l.length) m
  | [], m, i => by simp [recsP]
  | x :: l, m, i => by
    rw [List.cons_append, recsP, recsP, recsP_app s l m (i + 1), List.cons_append, List.length_cons, show i + 1 + l.length = i + (l.length + 1) by omega]
def allR (l : List Rec) : Bool := l.all rightJ
def joinR (l : List Rec) : List UInt8 := (l.map putJL).flatten
/-- Base. -/
def baseF (gen s : Int) (l : List Pn) : List UInt8 := if rightJ (recB gen s l.length) && allR (recsP s 0 l) then putJL (recB gen s l.length) ++ joinR (recsP s 0 l) else []
theorem take_snoc {α : Type} (l : List α) (i : Nat) (h : i < l.length) : l.take (i + 1) = l.take i ++ [l[i]] := by rw [List.take_succ_eq_append_getElem h]
theorem recsP_take (s : Int) (l : List Pn) (i : Nat) (h : i < l.length) : recsP s 0 (l.take (i + 1)) = recsP s 0 (l.take i) ++ [recP s i l[i]] := by
  rw [take_snoc l i h, recsP_app, List.length_take, Nat.min_eq_left (Nat.le_of_lt h), Nat.zero_add]
  rfl
theorem allR_app (a b : List Rec) : allR (a ++ b) = (allR a && allR b) := List.all_append
theorem joinR_app (a b : List Rec) : joinR (a ++ b) = joinR a ++ joinR b := by simp [joinR]
theorem allR_take {s : Int} {l : List Pn} {i : Nat} (h : i < l.length) (hb : rightJ (recP s i l[i]) = false) : allR (recsP s 0 l) = false := by
  have e : l = l.take (i + 1) ++ l.drop (i + 1) := (List.take_append_drop _ _).symm
  rw [e, recsP_app, allR_app, recsP_take s l i h, allR_app]
  simp [allR, hb]
theorem joinR_len (l : List Rec) : (joinR l).length ≤ 109 * l.length := by
  unfold joinR
  induction l with
  | nil => simp
  | cons x l ih =>
    rw [List.map_cons, List.flatten_cons, List.length_append, List.length_cons]
    have := putJL_len x
    omega
theorem recB_right {gen s : Int} {n : Nat} (h : rightJ (recB gen s n) = true) : 0 ≤ s ∧ s ≤ 1152921504606846976 ∧ n ≤ 32 := by
  have h1 := (rightJ_iff _).1 h
  simp only [recB, Rec.mk.injEq] at h1
  rcases h1 with ⟨h0, h1 | h1 | h1⟩
  · exact ⟨h0.1, h0.2, by omega⟩
  · exact absurd h1.1.1 (by decide)
  · exact absurd h1.1.1 (by decide)
end Go.Pm
namespace Go.Pm
open Go Go.RowKit
theorem readQ_w15 (l : List UInt8) : (readQ l).r < 18446744073709551616 ∧ (readQ l).s < 18446744073709551616 := by
  unfold readQ
  split
  · exact ⟨St.nat_lt _, St.nat_lt _⟩
  · exact ⟨by decide, by decide⟩
theorem candJ_w15 (K S : Int) (L : List UInt8) : (candJ K S L).u.r < 18446744073709551616 ∧ (candJ K S L).u.s < 18446744073709551616 := by
  have h0 : Req.none.r < 18446744073709551616 ∧ Req.none.s < 18446744073709551616 := ⟨by decide, by decide⟩
  unfold candJ
  split
  · exact h0
  · split
    · exact readQ_w15 _
    · exact h0
/-- What is read is right. -/
theorem readJ_yes {b : List UInt8} (h : (readJ b).e = 0) : (readF b).e = 0 ∧ okJ (readF b).kind (readF b).seq (readF b).body = true ∧ readJ b = ⟨candJ (readF b).kind (readF b).seq (readF b).body, (readF b).n, 0⟩ := by
  unfold readJ at h ⊢
  by_cases h1 : (readF b).e = 0
  · rw [if_pos h1] at h ⊢
    by_cases h2 : okJ (readF b).kind (readF b).seq (readF b).body = true
    · rw [if_pos h2]
      exact ⟨h1, h2, rfl⟩
    · rw [if_neg h2] at h
      exact absurd h (by decide)
  · rw [if_neg h1] at h
    exact absurd h h1
theorem readJ_n {b : List UInt8} (h : (readJ b).e = 0) : 21 ≤ (readJ b).n ∧ (readJ b).n ≤ b.length := by
  obtain ⟨h1, _, h3⟩ := readJ_yes h
  have := readF_take h1
  rw [h3]
  simp only
  omega
theorem right_fits {r : Rec} (h : rightJ r = true) (hw : r.u.r < 18446744073709551616 ∧ r.u.s < 18446744073709551616) : r.Fits := by
  have i0 : inI 0 := ⟨by decide, by decide⟩
  have hn : Req.none.Fits := ⟨i0, by decide, i0, by decide, by decide⟩
  obtain ⟨hs, h | h | h⟩ := (rightJ_iff r).1 h
  · rw [h.1]
    exact ⟨⟨by simp, by simp⟩, ⟨by simp only; omega, by simp only; omega⟩, ⟨by simp only; omega, by simp only; omega⟩, ⟨by simp only; omega, by simp only; omega⟩, hn, i0, i0⟩
  · have hr := (rightB_iff _ _ _ _).1 h.2.1
    have h61 : prime61 = 2305843009213693951 := rfl
    rw [h.1]
    exact ⟨⟨by simp, by simp⟩, ⟨by simp only; omega, by simp only; omega⟩, i0, i0, ⟨⟨by simp only; omega, by simp only; omega⟩, by simp only; omega, ⟨by simp only; omega, by simp only; omega⟩, hw.1, hw.2⟩, ⟨by simp only; omega, by simp only; omega⟩, i0⟩
  · rw [h.1]
    exact ⟨⟨by simp, by simp⟩, ⟨by simp only; omega, by simp only; omega⟩, i0, i0, hn, i0, ⟨by simp only; omega, by simp only; omega⟩⟩
theorem readJ_right {b : List UInt8} (h : (readJ b).e = 0) : rightJ (readJ b).r = true ∧ (readJ b).r.Fits := by
  obtain ⟨_, h2, h3⟩ := readJ_yes h
  rw [h3]
  have hr : rightJ (candJ (readF b).kind (readF b).seq (readF b).body) = true := by
    unfold okJ at h2
    rw [Bool.and_eq_true] at h2
    exact h2.1
  exact ⟨hr, right_fits hr (candJ_w15 _ _ _)⟩
/-- What is read hangs on its own bytes alone. -/
theorem readJ_same {b c : List UInt8} (h : (readJ b).e = 0) (hc : c.take (readJ b).n = b.take (readJ b).n) : readJ c = readJ b := by
  obtain ⟨h1, h2, h3⟩ := readJ_yes h
  obtain ⟨q0, q1, q2, q3, q4, q5, q6, q7⟩ := readF_take h1
  have hn : (readJ b).n = (readF b).n := by rw [h3]
  rw [hn, q0] at hc
  have e : c = putF (readF b).kind (readF b).seq (readF b).body ++ c.drop (readF b).n := by
    rw [← hc, List.take_append_drop]
  have hF : readF c = readF b := by
    rw [e, read_putF _ _ _ _ q4 q5 q6 q7 q1]
    have hx : ∀ x : Fr, x.e = 0 → x.n = 21 + x.body.length → (⟨x.kind, x.seq, x.body, 21 + x.body.length, 0⟩ : Fr) = x := by
      rintro ⟨_, _, _, n, e⟩ g1 g2
      simp only at g1 g2
      rw [g1, g2]
    exact hx _ h1 q2
  unfold readJ
  rw [hF]
theorem readJ_take {b : List UInt8} {k : Nat} (h : (readJ b).e = 0) (hk : (readJ b).n ≤ k) : readJ (b.take k) = readJ b :=
  readJ_same h (by rw [List.take_take, Nat.min_eq_left hk])
theorem readJ_whole {b : List UInt8} {k : Nat} (h : (readJ (b.take k)).e = 0) : readJ (b.take k) = readJ b :=
  (readJ_same (c := b) h (by
    have := (readJ_n h).2
    rw [List.length_take] at this
    rw [List.take_take, Nat.min_eq_left (by omega)])).symm
theorem readJ_zero {b : List UInt8} (h : bAt b 4 = 0) : ¬ (readJ b).e = 0 := fun he => by
  have h1 := (readJ_yes he).1
  have := readF_take h1
  unfold readF at h1
  by_cases hl : b.length < 13
  · rw [if_pos hl] at h1
    exact absurd h1 (by decide)
  · rw [if_neg hl, if_pos (.inr (.inl h))] at h1
    exact absurd h1 (by decide)
theorem readJ_nil : ¬ (readJ []).e = 0 := readJ_zero rfl
/-- May a record of number q come behind one of number p? -/
def nextJ (p : Option Int) (q : Int) : Bool := match p with
  | none => true
  | some s => decide (q = s + 1)
/-- Does a record that may come there stand at the beginning? -/
abbrev goesJ (p : Option Int) (b : List UInt8) : Prop := (readJ b).e = 0 ∧ nextJ p (readJ b).r.seq = true
def scanN : Nat → Option Int → List UInt8 → List Rec
  | 0, _, _ => []
  | f + 1, p, b => if goesJ p b then (readJ b).r :: scanN f (some (readJ b).r.seq) (b.drop (readJ b).n) else []
/-- The records of a journal, behind one of number p. -/
def scanR (p : Option Int) (b : List UInt8) : List Rec := scanN b.length p b
theorem scanN_fuel : ∀ (f g : Nat) (p : Option Int) (b : List UInt8), b.length ≤ f → b.length ≤ g → scanN f p b = scanN g p b
  | 0, 0, _, _, _, _ => rfl
  | 0, g + 1, p, b, hf, _ => by
    obtain rfl : b = [] := List.eq_nil_of_length_eq_zero (by omega)
    show [] = if goesJ p [] then _ else []
    rw [if_neg (fun h => readJ_nil h.1)]
  | f + 1, 0, p, b, _, hg => by
    obtain rfl : b = [] := List.eq_nil_of_length_eq_zero (by omega)
    show (if goesJ p [] then _ else []) = []
    rw [if_neg (fun h => readJ_nil h.1)]
  | f + 1, g + 1, p, b, hf, hg => by
    rw [scanN, scanN]
    by_cases h : goesJ p b
    · have hn := readJ_n h.1
      rw [if_pos h, if_pos h, scanN_fuel f g _ _ (by rw [List.length_drop]; omega) (by rw [List.length_drop]; omega)]
    · rw [if_neg h, if_neg h]
theorem scanR_step (p : Option Int) (b : List UInt8) : scanR p b = if goesJ p b then (readJ b).r :: scanR (some (readJ b).r.seq) (b.drop (readJ b).n) else [] := by
  unfold scanR
  rw [scanN_fuel b.length (b.length + 1) p b (Nat.le_refl _) (Nat.le_succ _), scanN]
  by_cases h : goesJ p b
  · have hn := readJ_n h.1
    rw [if_pos h, if_pos h, scanN_fuel b.length (b.drop (readJ b).n).length _ _ (by rw [List.length_drop]; omega) (Nat.le_refl _)]
  · rw [if_neg h, if_neg h]
theorem scanR_go {p : Option Int} {b : List UInt8} (h : goesJ p b) : scanR p b = (readJ b).r :: scanR (some (readJ b).r.seq) (b.drop (readJ b).n) := by rw [scanR_step, if_pos h]
theorem scanR_end {p : Option Int} {b : List UInt8} (h : ¬ goesJ p b) : scanR p b = [] := by rw [scanR_step, if_neg h]
/-- Where the i-th record begins. -/
def atJ (b : List UInt8) : Nat → Nat
  | 0 => 0
  | i + 1 => (readJ b).n + atJ (b.drop (readJ b).n) i
/-- How many bytes the records have. -/
def scanC (p : Option Int) (b : List UInt8) : Nat := atJ b (scanR p b).length
theorem scanC_go {p : Option Int} {b : List UInt8} (h : goesJ p b) : scanC p b = (readJ b).n + scanC (some (readJ b).r.seq) (b.drop (readJ b).n) := by
  unfold scanC
  rw [scanR_go h, List.length_cons, atJ]
theorem scanC_end {p : Option Int} {b : List UInt8} (h : ¬ goesJ p b) : scanC p b = 0 := by
  unfold scanC
  rw [scanR_end h]
  rfl
theorem atJ_next (b : List UInt8) : ∀ i, atJ b (i + 1) = atJ b i + (readJ (b.drop (atJ b i))).n := by
  intro i
  induction i generalizing b with
  | zero => simp [atJ]
  | succ i ih =>
    rw [atJ, ih, atJ, List.drop_drop]
    omega
theorem atJ_le : ∀ (i : Nat) (p : Option Int) (b : List UInt8), i ≤ (scanR p b).length → atJ b i ≤ b.length
  | 0, _, _, _ => Nat.zero_le _
  | i + 1, p, b, h => by
    by_cases hg : goesJ p b
    · rw [scanR_go hg, List.length_cons] at h
      have h1 := atJ_le i _ _ (Nat.le_of_succ_le_succ h)
      have hn := readJ_n hg.1
      rw [List.length_drop] at h1
      rw [atJ]
      omega
    · rw [scanR_end hg] at h
      exact absurd h (Nat.not_succ_le_zero _)
theorem scanC_le (p : Option Int) (b : List UInt8) : scanC p b ≤ b.length := atJ_le _ p b (Nat.le_refl _)
theorem atJ_many : ∀ (i : Nat) (p : Option Int) (b : List UInt8), i ≤ (scanR p b).length → 21 * i ≤ atJ b i
  | 0, _, _, _ => Nat.zero_le _
  | i + 1, p, b, h => by
    by_cases hg : goesJ p b
    · rw [scanR_go hg, List.length_cons] at h
      have h1 := atJ_many i _ _ (Nat.le_of_succ_le_succ h)
      have hn := readJ_n hg.1
      rw [atJ]
      omega
    · rw [scanR_end hg] at h
      exact absurd h (Nat.not_succ_le_zero _)
theorem scanR_len (p : Option Int) (b : List UInt8) : 21 * (scanR p b).length ≤ b.length := Nat.le_trans (atJ_many _ p b (Nat.le_refl _)) (scanC_le p b)
theorem scanR_fits : ∀ (n : Nat) (p : Option Int) (b : List UInt8), b.length ≤ n → ∀ r ∈ scanR p b, rightJ r = true ∧ r.Fits
  | n, p, b, hn, r, hr => by
    by_cases hg : goesJ p b
    · rw [scanR_go hg] at hr
      have hb := readJ_n hg.1
      rcases List.mem_cons.1 hr with rfl | hr
      · exact readJ_right hg.1
      · match n, hn with
        | 0, hn => exact absurd hb (by omega)
        | n + 1, hn => exact scanR_fits n _ _ (by rw [List.length_drop]; omega) r hr
    · rw [scanR_end hg] at hr
      cases hr
/-- The number of the last one. -/
def lastS (p : Option Int) (l : List Rec) : Option Int := match l.getLast? with
  | none => p
  | some r => some r.seq
theorem lastS_snoc (p : Option Int) (l : List Rec) (r : Rec) : lastS p (l ++ [r]) = some r.seq := by unfold lastS; rw [List.getLast?_concat]
/-- What is so while a journal is read: l has been told, of at bytes. -/
structure ScanAt (b : List UInt8) (l : List Rec) (at_ : Nat) : Prop where
  list : scanR none b = l ++ scanR (lastS none l) (b.drop at_)
  size : scanC none b = at_ + scanC (lastS none l) (b.drop at_)
  le : at_ ≤ b.length
  many : 21 * l.length ≤ at_
  fits : ∀ r ∈ l, rightJ r = true ∧ r.Fits
theorem ScanAt.zero (b : List UInt8) : ScanAt b [] 0 := ⟨rfl, by rw [Nat.zero_add]; rfl, Nat.zero_le _, Nat.le_refl _, fun _ h => by cases h⟩
theorem ScanAt.next {b : List UInt8} {l : List Rec} {at_ : Nat} (h : ScanAt b l at_) (hg : goesJ (lastS none l) (b.drop at_)) : ScanAt b (l ++ [(readJ (b.drop at_)).r]) (at_ + (readJ (b.drop at_)).n) := by
  have hn := readJ_n hg.1
  rw [List.length_drop] at hn
  have hle := h.le
  have hm := h.many
  refine ⟨?_, ?_, by omega, by rw [List.length_append]; simp only [List.length_cons, List.length_nil]; omega, ?_⟩
  · rw [h.list, scanR_go hg, lastS_snoc, List.append_assoc, List.drop_drop]
    rfl
  · rw [h.size, scanC_go hg, lastS_snoc, List.drop_drop, Nat.add_assoc]
  · intro r hr
    rcases List.mem_append.1 hr with hr | hr
    · exact h.fits r hr
    · rw [List.mem_singleton.1 hr]
      exact readJ_right hg.1
theorem ScanAt.done {b : List UInt8} {l : List Rec} {at_ : Nat} (h : ScanAt b l at_) (hg : ¬ goesJ (lastS none l) (b.drop at_)) : l = scanR none b ∧ at_ = scanC none b := by
  rw [h.list, h.size, scanR_end hg, scanC_end hg]
  simp
/-! ### Journals that are cut, journals with holes -/
/-- Whatever has the same bytes up to the i-th record has the same records up to it. -/
theorem scan_upto : ∀ (i : Nat) (p : Option Int) (a c : List UInt8), i ≤ (scanR p a).length → c.take (atJ a i) = a.take (atJ a i) →
    ∃ q, scanR p c = (scanR p a).take i ++ scanR q (c.drop (atJ a i)) ∧ scanC p c = atJ a i + scanC q (c.drop (atJ a i))
  | 0, p, a, c, _, _ => ⟨p, rfl, by show _ = 0 + scanC p c; rw [Nat.zero_add]⟩
  | i + 1, p, a, c, h, hc => by
    by_cases hg : goesJ p a
    · have hn := readJ_n hg.1
      rw [scanR_go hg, List.length_cons] at h
      rw [atJ] at hc ⊢
      have h1 : c.take (readJ a).n = a.take (readJ a).n := by
        have := congrArg (List.take (readJ a).n) hc
        rwa [List.take_take, List.take_take, Nat.min_eq_left (Nat.le_add_right _ _)] at this
      have hr := readJ_same hg.1 h1
      have hgc : goesJ p c := by unfold goesJ; rw [hr]; exact hg
      have h2 : (c.drop (readJ a).n).take (atJ (a.drop (readJ a).n) i) = (a.drop (readJ a).n).take (atJ (a.drop (readJ a).n) i) := by
        have := congrArg (List.drop (readJ a).n) hc
        rwa [List.drop_take, List.drop_take, Nat.add_sub_cancel_left] at this
      obtain ⟨q, e1, e2⟩ := scan_upto i (some (readJ a).r.seq) (a.drop (readJ a).n) (c.drop (readJ a).n) (Nat.le_of_succ_le_succ h) h2
      refine ⟨q, ?_, ?_⟩
      · rw [scanR_go hgc, hr, e1, scanR_go hg, List.take_succ_cons, List.drop_drop, List.cons_append]
      · rw [scanC_go hgc, hr, e2, List.drop_drop, Nat.add_assoc]
    · rw [scanR_end hg] at h
      exact absurd h (Nat.not_succ_le_zero _)
/-- A journal that is cut: its records are the first ones, and all where none was cut off. -/
theorem scan_take : ∀ (n : Nat) (p : Option Int) (b : List UInt8) (k : Nat), b.length ≤ n → scanR p (b.take k) = (scanR p b).take (scanR p (b.take k)).length ∧ (scanC p b ≤ k → scanR p (b.take k) = scanR p b) ∧ atJ (b.take k) (scanR p (b.take k)).length = atJ b (scanR p (b.take k)).length
  | n, p, b, k, hn => by
    by_cases hg : goesJ p (b.take k)
    · have hr := readJ_whole hg.1
      have hgb : goesJ p b := by unfold goesJ; rw [← hr]; exact hg
      have hb := readJ_n hgb.1
      have hk := (readJ_n hg.1).2
      rw [hr, List.length_take] at hk
      match n, hn with
      | 0, hn => exact absurd hb (by omega)
      | n + 1, hn =>
        obtain ⟨i1, i2, i3⟩ := scan_take n (some (readJ b).r.seq) (b.drop (readJ b).n) (k - (readJ b).n) (by rw [List.length_drop]; omega)
        have ed : (b.take k).drop (readJ b).n = (b.drop (readJ b).n).take (k - (readJ b).n) := List.drop_take
        have e1 : scanR p (b.take k) = (readJ b).r :: scanR (some (readJ b).r.seq) ((b.drop (readJ b).n).take (k - (readJ b).n)) := by rw [scanR_go hg, hr, ed]
        refine ⟨?_, fun hc => ?_, ?_⟩
        · rw [e1, List.length_cons, scanR_go hgb, List.take_succ_cons, ← i1]
        · rw [scanC_go hgb] at hc
          rw [e1, scanR_go hgb, i2 (by omega)]
        · rw [e1, List.length_cons, atJ, atJ, hr, ed, i3]
    · rw [scanR_end hg]
      refine ⟨by simp, fun hc => ?_, rfl⟩
      by_cases hgb : goesJ p b
      · rw [scanC_go hgb] at hc
        have hr := readJ_take hgb.1 (k := k) (by omega)
        exact absurd (show goesJ p (b.take k) by unfold goesJ; rw [hr]; exact hgb) hg
      · exact (scanR_end hgb).symm
/-! ### Which lists are whole -/
def pnOf (r : Rec) : Pn := ⟨r.u, r.tick, r.seq, true⟩
def pendsF (l : List Rec) : List Pn := (l.filter (fun r => decide (r.kind = 2))).map pnOf
structure Wh where
  gen : Int
  l : List Pn
  ok : Bool
def wholeB (r : Rec) (l : List Rec) : Bool := decide (r.kind = 1) && decide (r.count ≤ (l.length : Int)) && (l.take r.count.toNat).all (fun x => decide (x.kind = 2))
def wholeF : List Rec → Wh
  | [] => ⟨0, [], false⟩
  | r :: l => if wholeB r l = true then ⟨r.gen, pendsF l, true⟩ else ⟨0, [], false⟩
theorem wholeF_cons (r : Rec) (l : List Rec) : wholeF (r :: l) = if wholeB r l = true then ⟨r.gen, pendsF l, true⟩ else ⟨0, [], false⟩ := rfl
structure Ch where
  f : Int
  ok : Bool
def chooseF (a b : List UInt8) : Ch :=
  if (wholeF (scanR none b)).ok = true ∧ ((wholeF (scanR none a)).ok = false ∨ (wholeF (scanR none a)).gen < (wholeF (scanR none b)).gen) then ⟨1, true⟩ else ⟨0, (wholeF (scanR none a)).ok⟩
theorem pendsF_snoc (l : List Rec) (r : Rec) : pendsF (l ++ [r]) = pendsF l ++ (if r.kind = 2 then [pnOf r] else []) := by
  unfold pendsF
  rw [List.filter_append, List.map_append]
  by_cases h : r.kind = 2
  · rw [if_pos h]; simp [h]
  · rw [if_neg h]; simp [h]
theorem pendsF_len (l : List Rec) : (pendsF l).length ≤ l.length := by
  unfold pendsF
  rw [List.length_map]
  exact List.length_filter_le _ _
theorem pendsF_in {l : List Rec} (h : ∀ r ∈ l, r.Fits) : ∀ x ∈ pendsF l, x.u.Fits ∧ inI x.tick := fun x hx => by
  obtain ⟨r, hr, rfl⟩ := List.mem_map.1 hx
  have := h r (List.mem_filter.1 hr).1
  exact ⟨this.2.2.2.2.1, this.2.2.2.2.2.1⟩
/-! ### A journal laid anew -/
theorem scan_put {r : Rec} {p : Option Int} (t : List UInt8) (h : rightJ r = true) (hw : r.u.r < 18446744073709551616 ∧ r.u.s < 18446744073709551616) (hp : nextJ p r.seq = true) : scanR p (putJL r ++ t) = r :: scanR (some r.seq) t := by
  have e := read_putJ t h hw
  have hl : (putJL r).length = 21 + (bodyJ r).length := putJ_len h
  have hg : goesJ p (putJL r ++ t) := by unfold goesJ; rw [e]; exact ⟨rfl, hp⟩
  rw [scanR_go hg, e]
  simp only
  rw [List.drop_left' hl]
theorem scan_recs {s : Int} : ∀ (l : List Pn) (i : Nat) (t : List UInt8), allR (recsP s i l) = true → PnFits l → ∃ q, scanR (some (s + i)) (joinR (recsP s i l) ++ t) = recsP s i l ++ scanR q t ∧ q = some (s + ((i + l.length : Nat) : Int))
  | [], i, t, _, _ => ⟨_, rfl, by simp⟩
  | x :: l, i, t, h, hf => by
    rw [recsP, allR, List.all_cons, Bool.and_eq_true] at h
    have hj : joinR (recsP s i (x :: l)) = putJL (recP s i x) ++ joinR (recsP s (i + 1) l) := by simp [recsP, joinR]
    obtain ⟨q, e, hq⟩ := scan_recs l (i + 1) t h.2 (fun y hy => hf y (List.mem_cons_of_mem _ hy))
    refine ⟨q, ?_, by rw [hq, List.length_cons]; congr 2; omega⟩
    rw [hj, List.append_assoc, scan_put _ h.1 (hf x (List.mem_cons_self ..)) (by show decide ((recP s i x).seq = s + (i : Int) + 1) = true; rw [decide_eq_true_eq]; show s + 1 + (i : Int) = _; omega), recsP, List.cons_append]
    have e2 : (recP s i x).seq = s + ((i + 1 : Nat) : Int) := by simp only [recP]; omega
    rw [e2, e]
/-- A journal that is laid anew, and whatever stands behind it. -/
theorem scan_base {gen s : Int} {l : List Pn} (t : List UInt8) (h0 : rightJ (recB gen s l.length) = true) (h : allR (recsP s 0 l) = true) (hf : PnFits l) : ∃ q, scanR none (baseF gen s l ++ t) = recB gen s l.length :: (recsP s 0 l ++ scanR q t) := by
  have e : baseF gen s l = putJL (recB gen s l.length) ++ joinR (recsP s 0 l) := by unfold baseF; rw [h0, h]; rfl
  have hw : (recB gen s l.length).u.r < 18446744073709551616 ∧ (recB gen s l.length).u.s < 18446744073709551616 := ⟨by show (0 : Nat) < _; decide, by show (0 : Nat) < _; decide⟩
  rw [e, List.append_assoc, scan_put _ h0 hw rfl]
  obtain ⟨q, e2, _⟩ := scan_recs l 0 t h hf
  refine ⟨q, ?_⟩
  have e3 : (recB gen s l.length).seq = s + ((0 : Nat) : Int) := by simp [recB]
  rw [e3, e2]
theorem recsP_kinds (s : Int) : ∀ (l : List Pn) (i : Nat), ∀ x ∈ recsP s i l, x.kind = 2
  | [], _, _, hx => by cases hx
  | y :: l, i, x, hx => by
    rw [recsP] at hx
    rcases List.mem_cons.1 hx with rfl | hx
    · rfl
    · exact recsP_kinds s l (i + 1) x hx
theorem whole_base {gen s : Int} {l : List Pn} (m : List Rec) : (wholeF (recB gen s l.length :: (recsP s 0 l ++ m))).ok = true ∧ (wholeF (recB gen s l.length :: (recsP s 0 l ++ m))).gen = gen := by
  have hb : wholeB (recB gen s l.length) (recsP s 0 l ++ m) = true := by
    unfold wholeB
    have e : (recB gen s l.length).count.toNat = (recsP s 0 l).length := by rw [recsP_len]; simp [recB]
    rw [e, List.take_left' rfl]
    have e2 : (recB gen s l.length).count = (l.length : Int) := rfl
    rw [e2, List.length_append, recsP_len]
    have e3 : (recsP s 0 l).all (fun x => decide (x.kind = 2)) = true := List.all_eq_true.2 (fun x hx => by rw [recsP_kinds s l 0 x hx]; rfl)
    rw [e3]
    simp [recB]
    omega
  rw [wholeF_cons, if_pos hb]
  exact ⟨rfl, rfl⟩
theorem whole_cut {gen s : Int} {l : List Pn} {m : List Rec} (k : Nat) (hk : k < (recB gen s l.length :: recsP s 0 l).length) (hm : m = (recB gen s l.length :: recsP s 0 l).take k) : (wholeF m).ok = false ∧ (wholeF m).gen = 0 := by
  rw [List.length_cons, recsP_len] at hk
  match k, hm with
  | 0, hm => rw [hm]; exact ⟨rfl, rfl⟩
  | k + 1, hm =>
    rw [hm, List.take_succ_cons]
    have hb : ¬ wholeB (recB gen s l.length) ((recsP s 0 l).take k) = true := by
      unfold wholeB
      rw [List.length_take, recsP_len]
      have e2 : (recB gen s l.length).count = (l.length : Int) := rfl
      rw [e2]
      have : decide ((l.length : Int) ≤ ((min k l.length : Nat) : Int)) = false := by
        rw [decide_eq_false_iff_not]
        omega
      rw [this]
      simp
    rw [wholeF_cons, if_neg hb]
    exact ⟨rfl, rfl⟩
end Go.Pm
namespace Go.Pm
open Go Go.RowKit
theorem bytes_ext {a b : ByteArray} : a = b ↔ a.data.toList = b.data.toList := by
  obtain ⟨⟨x⟩⟩ := a
  obtain ⟨⟨y⟩⟩ := b
  simp
theorem toList_iff {a b : ByteArray} : a.toList = b.toList ↔ a = b := by
  rw [bytes_ext, ByteArray.toList_eq, ByteArray.toList_eq]
theorem take_eq_step {α : Type} {l m : List α} {i : Nat} (h : l.take i = m.take i) (hl : i < l.length) (hm : i < m.length) (he : l[i] = m[i]) : l.take (i + 1) = m.take (i + 1) := by
  rw [List.take_succ_eq_append_getElem hl, List.take_succ_eq_append_getElem hm, h, he]
theorem eqF_nil {P : Program} {w : World} {xs ys : Array Value} {d : Nat} {fs : List Field} (h : fs.map (fun f => (f.name == "_", f.type, f.offset)) = []) : (Op.eqFields d xs ys fs).run P w = .ok true w := by
  obtain rfl := List.map_eq_nil_iff.1 h
  simp [Op.eqFields]
theorem eqF_step {P : Program} {w : World} {xs ys : Array Value} {d : Nat} {fs : List Field} {t : TypeId} {o : Nat} {rest : List (Bool × TypeId × Nat)} (h : fs.map (fun f => (f.name == "_", f.type, f.offset)) = (false, t, o) :: rest)
    {a b : Value} {r c : Bool} (pa : (part t xs o).run P w = .ok a w) (pb : (part t ys o).run P w = .ok b w) (he : (Op.equalIn d t a b).run P w = .ok r w)
    (hc : ∀ gs : List Field, gs.map (fun f => (f.name == "_", f.type, f.offset)) = rest → (Op.eqFields d xs ys gs).run P w = .ok c w) : (Op.eqFields d xs ys fs).run P w = .ok (r && c) w := by
  match fs, h with
  | f :: gs, h =>
    simp only [List.map_cons, List.cons.injEq, Prod.mk.injEq, beq_eq_false_iff_ne] at h
    obtain ⟨⟨f1, f2, f3⟩, g⟩ := h
    cases r <;> simp only [Op.eqFields, f1, ne_eq, not_false_eq_true, if_true, f2, f3, Sem.run_bind, pa, pb, he, Result.andThen_ok, Sem.run_pure, Bool.not_true, Bool.not_false, Bool.false_eq_true, if_false, hc gs g, Bool.true_and, Bool.false_and]
theorem part_agg {P : Program} {w : World} {xs : Array Value} {t : TypeId} {o n : Nat} (ha : ∀ w, (isAgg t).run P w = .ok true w) (hs : ∀ w, (sizeOf t).run P w = .ok n w) : (part t xs o).run P w = .ok (.agg (xs.extract o (o + n))) w := by
  simp only [part, Sem.run_bind, ha, hs, Result.andThen_ok, if_true, Sem.run_pure]
theorem part_one {P : Program} {w : World} {xs : Array Value} {t : TypeId} {o : Nat} {v : Value} (ha : ∀ w, (isAgg t).run P w = .ok false w) (h : xs[o]? = some v) : (part t xs o).run P w = .ok v w := by
  simp only [part, Sem.run_bind, ha, Result.andThen_ok, Bool.false_eq_true, if_false, h, Sem.run_pure]
end Go.Pm
namespace Go.Pm
open Go Go.RowKit
def reqEq (p q : Req) : Bool := (p.n.toList == q.n.toList) && ((p.v == q.v) && (((p.k : Int) == (q.k : Int)) && ((p.c == q.c) && ((((p.r : Int) == (q.r : Int)) && (((p.s : Int) == (q.s : Int)) && true)) && true))))
def recEq (p q : Rec) : Bool := (p.kind == q.kind) && ((p.seq == q.seq) && ((p.gen == q.gen) && ((p.count == q.count) && (reqEq p.u q.u && ((p.tick == q.tick) && ((p.epoch == q.epoch) && true))))))
theorem reqEq_iff (p q : Req) : reqEq p q = true ↔ p = q := by
  obtain ⟨n, v, k, c, r, s⟩ := p
  obtain ⟨n', v', k', c', r', s'⟩ := q
  unfold reqEq
  simp only [Bool.and_eq_true, beq_iff_eq, Req.mk.injEq, and_true, Int.natCast_inj, toList_iff]
theorem recEq_iff (p q : Rec) : recEq p q = true ↔ p = q := by
  obtain ⟨k, s, g, c, u, t, e⟩ := p
  obtain ⟨k', s', g', c', u', t', e'⟩ := q
  unfold recEq
  simp only [Bool.and_eq_true, beq_iff_eq, Rec.mk.injEq, and_true, reqEq_iff]
theorem recEq_self (p : Rec) : recEq p p = true := (recEq_iff p p).2 rfl
theorem reqEq_self (p : Req) : reqEq p p = true := (reqEq_iff p p).2 rfl
def Req.C (q : Req) : Array Value := #[.string q.n, .int .i64 q.v, .int .u64 (q.k : Int), .int .i64 q.c, .int .u64 (q.r : Int), .int .u64 (q.s : Int)]
theorem Rec.C_u (r : Rec) : r.C.extract 4 (4 + 6) = r.u.C := rfl
theorem Req.C_sig (q : Req) : q.C.extract 4 (4 + 2) = #[.int .u64 (q.r : Int), .int .u64 (q.s : Int)] := rfl
end Go.Pm
namespace Go.Proofs.Ytbebpnanhkcngaa
open Go.RowKit Go.Pm
namespace Jq
theorem uRec : Try.prog.underlying 45 = some (.struct (Try.prog.fieldsOf 45)) := by kernel_rfl
theorem uUpd : Try.prog.underlying 43 = some (.struct (Try.prog.fieldsOf 43)) := by kernel_rfl
theorem uSig : Try.prog.underlying 41 = some (.struct (Try.prog.fieldsOf 41)) := by kernel_rfl
theorem fRec : (Try.prog.fieldsOf 45).toList.map (fun f => (f.name == "_", f.type, f.offset)) = [(false, 3, 0), (false, 2, 1), (false, 2, 2), (false, 3, 3), (false, 43, 4), (false, 2, 10), (false, 3, 11)] := by kernel_rfl
theorem fUpd : (Try.prog.fieldsOf 43).toList.map (fun f => (f.name == "_", f.type, f.offset)) = [(false, 9, 0), (false, 3, 1), (false, 39, 2), (false, 3, 3), (false, 41, 4)] := by kernel_rfl
theorem fSig : (Try.prog.fieldsOf 41).toList.map (fun f => (f.name == "_", f.type, f.offset)) = [(false, 39, 0), (false, 39, 1)] := by kernel_rfl
theorem hRec : Try.prog.stoodInHeld 45 = false := by kernel_rfl
theorem hUpd : Try.prog.stoodInHeld 43 = false := by kernel_rfl
theorem hSig : Try.prog.stoodInHeld 41 = false := by kernel_rfl
theorem gInt : ∀ w, (isAgg 3).run Try.prog w = .ok false w := fun _ => by kernel_rfl
theorem gInt64 : ∀ w, (isAgg 2).run Try.prog w = .ok false w := fun _ => by kernel_rfl
theorem gU64 : ∀ w, (isAgg 39).run Try.prog w = .ok false w := fun _ => by kernel_rfl
theorem gStr : ∀ w, (isAgg 9).run Try.prog w = .ok false w := fun _ => by kernel_rfl
theorem gUpd : ∀ w, (isAgg 43).run Try.prog w = .ok true w := fun _ => by kernel_rfl
theorem gSig : ∀ w, (isAgg 41).run Try.prog w = .ok true w := fun _ => by kernel_rfl
theorem sUpd : ∀ w, (sizeOf 43).run Try.prog w = .ok 6 w := fun _ => by kernel_rfl
theorem sSig : ∀ w, (sizeOf 41).run Try.prog w = .ok 2 w := fun _ => by kernel_rfl
theorem nInt : Try.prog.underlying 3 = some (.int .i64) := by kernel_rfl
theorem nInt64 : Try.prog.underlying 2 = some (.int .i64) := by kernel_rfl
theorem nU64 : Try.prog.underlying 39 = some (.int .u64) := by kernel_rfl
theorem nStr : Try.prog.underlying 9 = some .string := by kernel_rfl
theorem equalIn_req (p q : Req) (d : Nat) (w : World) : (Op.equalIn (d + 3) 43 (.agg p.C) (.agg q.C)).run Try.prog w = .ok (reqEq p q) w := by
  rw [run_equalIn_struct w (d + 2) 43 _ _ uUpd hUpd]
  refine eqF_step fUpd (part_one gStr rfl) (part_one gStr rfl) (run_equalIn_string w (d + 1) _ _ _ nStr) fun gs h1 => ?_
  refine eqF_step h1 (part_one gInt rfl) (part_one gInt rfl) (run_equalIn_int w (d + 1) _ _ _ _ _ nInt) fun gs h2 => ?_
  refine eqF_step h2 (part_one gU64 rfl) (part_one gU64 rfl) (run_equalIn_int w (d + 1) _ _ _ _ _ nU64) fun gs h3 => ?_
  refine eqF_step h3 (part_one gInt rfl) (part_one gInt rfl) (run_equalIn_int w (d + 1) _ _ _ _ _ nInt) fun gs h4 => ?_
  refine eqF_step h4 (part_agg gSig sSig) (part_agg gSig sSig) ?_ fun gs h5 => eqF_nil h5
  rw [Req.C_sig, Req.C_sig, run_equalIn_struct w (d + 1) 41 _ _ uSig hSig]
  refine eqF_step fSig (part_one gU64 rfl) (part_one gU64 rfl) (run_equalIn_int w d _ _ _ _ _ nU64) fun gs h1 => ?_
  exact eqF_step h1 (part_one gU64 rfl) (part_one gU64 rfl) (run_equalIn_int w d _ _ _ _ _ nU64) fun gs h2 => eqF_nil h2
theorem equalIn_rec (p q : Rec) (w : World) : (Op.equalIn 10000 45 (.agg p.C) (.agg q.C)).run Try.prog w = .ok (recEq p q) w := by
  rw [run_equalIn_struct w 9999 45 _ _ uRec hRec]
  refine eqF_step fRec (part_one gInt rfl) (part_one gInt rfl) (run_equalIn_int w 9998 _ _ _ _ _ nInt) fun gs h1 => ?_
  refine eqF_step h1 (part_one gInt64 rfl) (part_one gInt64 rfl) (run_equalIn_int w 9998 _ _ _ _ _ nInt64) fun gs h2 => ?_
  refine eqF_step h2 (part_one gInt64 rfl) (part_one gInt64 rfl) (run_equalIn_int w 9998 _ _ _ _ _ nInt64) fun gs h3 => ?_
  refine eqF_step h3 (part_one gInt rfl) (part_one gInt rfl) (run_equalIn_int w 9998 _ _ _ _ _ nInt) fun gs h4 => ?_
  refine eqF_step h4 (part_agg gUpd sUpd) (part_agg gUpd sUpd) (by rw [Rec.C_u, Rec.C_u]; exact equalIn_req p.u q.u 9996 w) fun gs h5 => ?_
  refine eqF_step h5 (part_one gInt64 rfl) (part_one gInt64 rfl) (run_equalIn_int w 9998 _ _ _ _ _ nInt64) fun gs h6 => ?_
  exact eqF_step h6 (part_one gInt rfl) (part_one gInt rfl) (run_equalIn_int w 9998 _ _ _ _ _ nInt) fun gs h7 => eqF_nil h7
theorem eqRec (p q : Rec) (w : World) : (binOp .eql 45 (.agg p.C) (.agg q.C)).run Try.prog w = .ok (.bool (recEq p q)) w := by
  rw [run_eql_struct, equalIn_rec]; rfl
theorem neqRec (p q : Rec) (w : World) : (binOp .neq 45 (.agg p.C) (.agg q.C)).run Try.prog w = .ok (.bool (!recEq p q)) w := by
  rw [run_neq_struct, equalIn_rec]; rfl
theorem neqReq (p q : Req) (w : World) : (binOp .neq 43 (.agg p.C) (.agg q.C)).run Try.prog w = .ok (.bool (!reqEq p q)) w := by
  rw [run_neq_struct, equalIn_req p q 9997]; rfl
end Jq
end Go.Proofs.Ytbebpnanhkcngaa
namespace Go.Proofs.Ytbebpnanhkcngaa
open Go.RowKit Go.Pm
namespace Sg
theorem num_end (h : List UInt8) : leV (h.take 8) % 2305843009213693950 = (numB h : Nat) := by
  unfold numB
  rw [Int.natCast_emod, leV_nat, leV_take]
  rfl

/-- A signature. -/
abbrev sigV (r s : Nat) : Value := .agg #[.int .u64 r, .int .u64 s]

theorem AggTy.of {P : Program} {t : TypeId} {n : Nat} (h : (P.underlying t).map aggD = some true) (h2 : (P.info? t).map (·.size) = some n) : AggTy P t n := by
  cases hu : P.underlying t with
  | none => rw [hu] at h; cases h
  | some d => rw [hu] at h; exact ⟨⟨d, hu, by simpa using h⟩, h2⟩
theorem aSig : AggTy Try.prog 41 2 := AggTy.of (by kernel_rfl) (by kernel_rfl)
theorem sig_all (r s : Nat) : (#[.int .u64 (r : Int), .int .u64 (s : Int)] : Array Value).all (·.oneCell') = true := by simp [Value.oneCell']

/-- A signature's bytes. -/
def sigB (r s : Nat) : List UInt8 := leB r ++ leB s
theorem sigB_len (r s : Nat) : (sigB r s).length = 16 := by simp [sigB, leB_length]

end Sg
end Go.Proofs.Ytbebpnanhkcngaa
namespace Go.Pm
open Go Go.RowKit
def recC (r : Rec) : List Value := r.C.toList
def recsC (l : List Rec) : List (List Value) := l.map recC
theorem recsC_len (l : List Rec) : (recsC l).length = l.length := List.length_map _
theorem recsC_at (l : List Rec) (i : Nat) (h : i < l.length) : (recsC l)[i]? = some (recC l[i]) := by simp [recsC, h]
theorem recsC_app (a b : List Rec) : recsC (a ++ b) = recsC a ++ recsC b := List.map_append
theorem recsC_each (l : List Rec) : Each 12 (recsC l) := fun x hx => by
  obtain ⟨y, _, rfl⟩ := List.mem_map.1 hx
  rfl
theorem recC_one (r : Rec) : ∀ c ∈ recC r, c.oneCell' = true := by simp [recC, Rec.C, Value.oneCell']
theorem Ps.rec {w : World} {lo hi : Nat} {a : Option Addr} {n cap : Nat} {l : List Rec} (h : Ps 12 w lo hi (.slice a n cap) (recsC l)) (hn : 0 < l.length) :
    ∃ b o, a = some ⟨b, o, none⟩ ∧ b < w.heap.size ∧ ∀ i (hi : i < l.length), w.rangeAt b (o + i * 12) (recC l[i]) := by
  obtain ⟨b, o, rfl, _, _, h3, hr⟩ := h.ne (by decide) (by rw [recsC_len]; exact hn)
  exact ⟨b, o, rfl, h3, fun i hi => hr i _ (recsC_at l i hi)⟩
instance : DecidableEq Rec := fun a b => decidable_of_iff (recEq a b = true) (recEq_iff a b)
/-- Are two rows of records the same? -/
def recsEq (l m : List Rec) : Bool := decide (l = m)
end Go.Pm
namespace Go.Proofs.Ytbebpnanhkcngaa
open Go.RowKit Go.Pm
namespace Hr
theorem aRec : AggTy Try.prog 45 12 := Sg.AggTy.of (by kernel_rfl) (by kernel_rfl)
set_option maxRecDepth 100000 in
set_option maxHeartbeats 4000000 in
/-- postmarkhelp.Records. -/
theorem records (v v' : Value) (lo hi lo' hi' : Nat) (l m : List Rec) (w : World) (hv : Ps 12 w lo hi v (recsC l)) (hv' : Ps 12 w lo' hi' v' (recsC m)) (hln : l.length ≤ 1099511627776) :
    Calls Try.prog 12 #[v, v'] w fun e w' => e = .returned (.bool (recsEq l m)) ∧ Kept None w w' := by
  obtain ⟨av, nv, cv, rfl, hnv⟩ : ∃ a n c, v = .slice a n c ∧ n = l.length := by
    obtain ⟨a, c, h, _⟩ := hv.form
    rw [recsC_len] at h
    exact ⟨a, _, c, h, rfl⟩
  obtain ⟨au, nu, cu, rfl, hnu⟩ : ∃ a n c, v' = .slice a n c ∧ n = m.length := by
    obtain ⟨a, c, h, _⟩ := hv'.form
    rw [recsC_len] at h
    exact ⟨a, _, c, h, rfl⟩
  subst hnv hnu
  have HV := hid hv
  have HU := hid hv'
  have HN := hid hln
  clear hv hv' hln
  by_cases hlen : l.length = m.length
  · have d1 : ((l.length : Int) == (m.length : Int)) = true := by simp; omega
    have HL := hid hlen
    obtain ⟨n, hn⟩ : ∃ n, n = l.length := ⟨_, rfl⟩
    have hm : m.length = n := by omega
    rw [hm, ← hn]
    have HNN := hid (And.intro hn hm)
    clear hlen hn hm d1
    go_enter Try.func12, Try.ntmps12
    go_wp2_with fail
    go_loopg [5] n (fun kx s5 wr => ∃ i : Nat, s5 = .int .i64 (i : Int) ∧ i ≤ n ∧ n - i ≤ kx ∧ Hid (l.take i = m.take i) ∧ Hid (Kept None w wr))
    case atStart => exact ⟨0, rfl, Nat.zero_le _, Nat.le_refl _, hid rfl, hid (Kept.refl _ _)⟩
    case round =>
    obtain ⟨i, rfl, hi, hix, HE, HS⟩ := hrel
    by_cases hlt : i < n
    · have hlt' : decide ((i : Int) < (n : Int)) = true := by simpa using hlt
      have hlb : (i : Int) < (n : Int) := Int.ofNat_lt.mpr hlt
      have il : i < l.length := by rw [← HNN.out.1]; exact hlt
      have im : i < m.length := by rw [HNN.out.2]; exact hlt
      obtain ⟨b, o, rfl, _, h1⟩ := (HV.out.kept HS.out (fun _ _ _ h => h)).rec (by omega)
      obtain ⟨b', o', rfl, _, h2⟩ := (HU.out.kept HS.out (fun _ _ _ h => h)).rec (by omega)
      have r1 := h1 i il
      have r2 := h2 i im
      obtain ⟨x, hx⟩ : ∃ x, x = l[i] := ⟨_, rfl⟩
      obtain ⟨y, hy⟩ : ∃ y, y = m[i] := ⟨_, rfl⟩
      rw [← hx] at r1
      rw [← hy] at r2
      have HR1 := hid (fun W (hW : Kept None wr W) => rangeAt_kept r1 hW)
      have HR2 := hid (fun W (hW : Kept None wr W) => rangeAt_kept r2 hW)
      have hneq := fun W => Jq.neqRec x y W
      obtain ⟨B, hB⟩ : ∃ B, B = recEq x y := ⟨_, rfl⟩
      rw [← hB] at hneq
      have HNQ := hid (show ∀ W, (binOp .neq 45 (.agg (recC x).toArray) (.agg (recC y).toArray)).run Try.prog W = .ok (.bool (!B)) W from hneq)
      have aX : AggTy Try.prog 45 (recC x).length := aRec
      have aY : AggTy Try.prog 45 (recC y).length := aRec
      have HXY := hid (And.intro hx (And.intro hy hB))
      clear h1 h2 r1 r2 hx hy hB hneq
      go_wp2_with fail
      refine wp_region_kn wr [] Go.Pm.Steady.nil (Kept.refl _ _) (by kernel_rfl) (by kernel_rfl) (by kernel_rfl) ?_
      iterate 9 (refine wpPar_pure rfl (by rfl) _ (fun W hW => by
          have hnq := HNQ.out
          first | exact exec_load_at rfl rfl (HR1.out W hW) aX | exact exec_load_at rfl rfl (HR2.out W hW) aY | (go_simp; exact rfl)) ?_; simp only [Act.put, List.setIfInBounds_toArray, List.set_cons_zero, List.set_cons_succ])
      refine wpPar_nil (fun w2 hW hG => ?_)
      have K2 := hid (HS.out.trans hW)
      clear hG hW
      cases B with
      | true =>
        have HE2 : Hid (l.take (i + 1) = m.take (i + 1)) := hid (take_eq_step HE.out il im (by
          have h := (recEq_iff x y).1 HXY.out.2.2.symm
          rw [← HXY.out.1, ← HXY.out.2.1, h]))
        have hw : wrap64 ((i : Int) + 1) = ((i + 1 : Nat) : Int) := by have := HN.out; unfold wrap64; omega
        have HW := hid hw
        clear hw
        go_wp2
        go_roundg (n - (i + 1))
        case measure => omega
        case rel => exact ⟨i + 1, by rw [HW.out], hlt, Nat.le_refl _, HE2, K2⟩
      | false =>
        have hfin : recsEq l m = false := by
          unfold recsEq
          rw [decide_eq_false_iff_not]
          intro h
          have h1 : x = y := by
            rw [HXY.out.1, HXY.out.2.1]
            simp only [h]
          have := (recEq_iff x y).2 h1
          rw [← HXY.out.2.2] at this
          cases this
        have HF := hid hfin
        clear hfin
        go_wp2
        go_ret
        rw [HF.out]
        exact ⟨rfl, K2.out⟩
    · have hlt' : decide ((i : Int) < (n : Int)) = false := by simpa using hlt
      obtain rfl : i = n := by omega
      have hfin : recsEq l m = true := by
        have h := HE.out
        rw [List.take_of_length_le (by rw [← HNN.out.1]; exact Nat.le_refl _), List.take_of_length_le (by rw [HNN.out.2]; exact Nat.le_refl _)] at h
        unfold recsEq
        rw [h]
        simp
      have HF := hid hfin
      clear hlt hi hix hfin
      go_wp2
      go_ret
      rw [HF.out]
      exact ⟨rfl, HS.out⟩
  · have d1 : ((l.length : Int) == (m.length : Int)) = false := by simp; omega
    have hfin : recsEq l m = false := by
      unfold recsEq
      rw [decide_eq_false_iff_not]
      exact fun h => hlen (congrArg List.length h)
    have HF := hid hfin
    clear hfin
    go_enter Try.func12, Try.ntmps12
    go_wp2
    go_ret
    rw [HF.out]
    exact ⟨rfl, Kept.refl _ _⟩
end Hr
end Go.Proofs.Ytbebpnanhkcngaa
namespace Go.Proofs.Ytbebpnanhkcngaa
open Go.RowKit Go.Pm
namespace Sn
def RecordsC : Prop := ∀ (v : Value) (lo hi : Nat) (b : List UInt8) (w : World), Bs w lo hi v b → b.length ≤ 1000000000 →
    Calls Try.prog 10 #[v] w fun e w' => ∃ u, e = .returned (.tuple #[u, .int .i64 (scanC none b : Int)]) ∧ Kept None w w' ∧ Ps 12 w' 0 w'.heap.size u (recsC (scanR none b))
def WholeC : Prop := ∀ (v : Value) (lo hi : Nat) (l : List Rec) (w : World), Ps 12 w lo hi v (recsC l) → (∀ r ∈ l, r.Fits) → l.length ≤ 1000000000 →
    Calls Try.prog 13 #[v] w fun e w' => ∃ u, e = .returned (.tuple #[.int .i64 (wholeF l).gen, u, .bool (wholeF l).ok]) ∧ Kept None w w' ∧ Ps 9 w' 0 w'.heap.size u (pensC (wholeF l).l)
def ChooseC : Prop := ∀ (v v' : Value) (lo hi lo' hi' : Nat) (a b : List UInt8) (w : World), Bs w lo hi v a → Bs w lo' hi' v' b → a.length ≤ 1000000000 → b.length ≤ 1000000000 →
    Calls Try.prog 16 #[v, v'] w fun e w' => e = .returned (.tuple #[.int .i64 (chooseF a b).f, .bool (chooseF a b).ok]) ∧ Kept None w w'
end Sn
end Go.Proofs.Ytbebpnanhkcngaa
