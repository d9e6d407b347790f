/- Texts joined: LowByt, NmA, Frame13, Jrn14, Tree6, ItemA6, SetCl, Rows6, Pcs7, Pn14, JrnB14, JrnC14, EqF, EqR14, SgTy, LowBin, EntA, UpRight, Known14, Kn16. -/
import Derived.Test.YtpbkdeljhehkdaaProg
import Derived.Test.YtpbkdeljhehkdaaPk1
import Derived.Lib.SlBytesConst
import Derived.Deep.MidRow
import Derived.BigQuiet
import Derived.Laws.Tables
import Derived.Laws.OwnMore
import Derived.Great.BuildSlice
namespace Go.Proofs.Ytpbkdeljhehkdaa
open Go.RowKit Go.Pm

theorem tBytes : Try.prog.underlying 29 = some (.slice (Try.prog.elem 29)) := by kernel_rfl
theorem tBytes' : Try.prog.underlying 29 = some (.slice 5) := by kernel_rfl
theorem tByte : Try.prog.underlying 5 = some (.int .u8) := by kernel_rfl
theorem tString : Try.prog.underlying 9 = some .string := by kernel_rfl
theorem zBytes : ∀ W, (sizeOf (Try.prog.elem 29)).run Try.prog W = .ok 1 W := fun _ => by kernel_rfl
theorem infoByte : (Try.prog.info? 5).map (fun i => (i.zero, i.size, i.bytes)) = some (some (.int .u8 0), 1, 1) := by kernel_rfl
theorem rtBytes : RowTy Try.prog 29 5 (.int .u8 0) 1 := ⟨by kernel_rfl, info_parts infoByte, rfl⟩
/-- Bytes that the call owns. -/
abbrev Ob (w : World) (base : Nat) (v : Value) (l : List UInt8) : Prop := Bo 5 w base v l


theorem cvBytes {w : World} {lo hi : Nat} {v : Value} {l : List UInt8} (h : Bs w lo hi v l) : (convert 29 9 v).run Try.prog w = .ok (.string ⟨l.toArray⟩) w := run_string_bs tBytes' tByte tString h

/-- '[]byte("..")' of a constant. -/
theorem constBytes (w : World) (C : Array Value) (n c g : Nat) (hg : g = w.heap.size) : (convert 29 29 (.slice (some ⟨g, 0, none⟩) n c)).run Try.prog (w.alloc (.cells C 5)) = .ok (.slice (some ⟨g, 0, none⟩) n c) (w.alloc (.cells C 5 (C.size, C.size + 1))) := by
  subst hg; exact Lib.run_convert_bytes_const w 29 5 C n c tBytes' tByte

end Go.Proofs.Ytpbkdeljhehkdaa
namespace Go.Pm
open Go Go.RowKit
theorem rangeAt_kept {w w' : World} {b o : Nat} {cs : List Value} (h : w.rangeAt b o cs) (hk : Kept None w w') : w'.rangeAt b o cs := fun j v hv => by
  have h1 := h j v hv
  rw [hk.cell (block_lt_of_cell h1) (fun h => h)]
  exact h1
/-- A load, of a known range. -/
theorem exec_load_at {P : Program} {o : Oper} {ev : Operand → Value} {W : World} {ty : TypeId} {x : Operand} {b off : Nat} {cs : List Value} (ho : o.op = .load ty x) (hx : ev x = .pointer (some ⟨b, off, none⟩)) (hc : W.rangeAt b off cs) (hT : AggTy P ty cs.length) : (execOp ev o).run P W = .ok (.value (.agg cs.toArray)) W := by
  obtain ⟨d, hu, hd⟩ := hT.ag
  unfold execOp
  simp only [ho, hx, Instr.loadAt, Instr.sureAddr, Sem.run_bind, Sem.run_pure, Result.andThen_ok, run_loadVar_mid W b off ty cs d hc hu (by cases d <;> first | rfl | exact hd) hT.size]
theorem Calls.nm {P : Program} {f : FuncId} {args : Array Value} {w : World} {K : Ending → World → Prop} (h : ∀ w1, w1 = w → Calls P f args w1 K) : Calls P f args w K := h w rfl
theorem wp_nm {P : Program} {c : Code} {Q : Exit → Act → World → Prop} {a : Act} {w : World} (h : ∀ w1, w1 = w → c.wp P Q a w1) : c.wp P Q a w := h w rfl
theorem wpList_nm {P : Program} {ops : Array Oper} {l : List Oper} {Q : Exit → Act → World → Prop} {a : Act} {w : World} (h : ∀ w1, w1 = w → wpList P ops Q l a w1) : wpList P ops Q l a w := h w rfl
theorem u8v_all' (l : List UInt8) : (l.map u8v).toArray.all (·.oneCell') = true := by
  rw [Array.all_eq_true']
  intro x hx
  exact u8v_one l x (by simpa using hx)
/-- A store to a new block touches nothing that was there. -/
theorem Kept.fresh {w w' : World} {o : Obj} (k : Kept (Just w.heap.size) (w.alloc o) w') : Kept None w w' := ((Kept.refl None w).alloc o).then k (fun i hi h => by have h : i = w.heap.size := h; omega)
/-- A new block, its size alone. -/
theorem Blk.any {w : World} {g n : Nat} {cs : Array Value} {t : TypeId} (h : Blk w g cs t) (hs : cs.size = n) : ∃ z : Array Value, z.size = n ∧ Blk w g z t := ⟨cs, hs, h⟩
/-- Cells in the midst of a row, loaded, guarded or not. -/
theorem wpList_load_wr {P : Program} {ops : Array Oper} {rest : List Oper} {o : Oper} {a : Act} {w : World} {Q : Exit → Act → World → Prop} (hw : Region.wanted o (yielded ops a.tmps) = true) {ty : TypeId} {x : Operand} (ho : o.op = .load ty x)
    {b off : Nat} (hx : a.eval x = .pointer (some ⟨b, off, none⟩)) {cs : List Value} (hc : w.rangeAt b off cs) (hT : AggTy P ty cs.length)
    (h : wpList P ops Q rest (a.put o.dst (.agg cs.toArray)) w) : wpList P ops Q (o :: rest) a w :=
  BigFrame.wpList_want hw fun K hK => by
    unfold Oper.wp
    rw [exec_load_at ho hx hc hT]
    exact hK _ _ h
theorem wpList_load_bw {P : Program} {ops : Array Oper} {rest : List Oper} {o : Oper} {a : Act} {w : World} {Q : Exit → Act → World → Prop} (hw : Region.wanted o (yielded ops a.tmps) = true) {ty : TypeId} {x : Operand} (ho : o.op = .load ty x)
    {g : Nat} (hx : a.eval x = .pointer (some ⟨g, 0, none⟩)) {t : TypeId} {cs : Array Value} (hb : Blk w g cs t) (hT : AggTy P ty cs.size)
    (h : wpList P ops Q rest (a.put o.dst (.agg cs)) w) : wpList P ops Q (o :: rest) a w :=
  BigFrame.wpList_want hw fun K hK => by
    unfold Oper.wp
    rw [exec_load_blk ty x ho hx hb hT]
    exact hK _ _ h
theorem Blk.rg {w : World} {g : Nat} {cs : Array Value} {t : TypeId} (h : Blk w g cs t) : w.rangeAt g 0 cs.toList := fun j c hj => by rw [Nat.zero_add, h.cell]; simpa using hj
/-- It makes a block of so many noughts. -/
abbrev Fct.room (k : Nat) (lo n : Nat) (t : TypeId) (uses : List Nat := []) : Fct := { k := k, uses := uses, pure := fun u => ∃ g, u = .pointer (some ⟨g, 0, none⟩), fact := fun u W => ∃ g z, u = .pointer (some ⟨g, 0, none⟩) ∧ lo ≤ g ∧ z.size = n ∧ Blk W g z t }
theorem Steady.room {l : List Fct} {k : Nat} {us : List Nat} {lo n : Nat} {t : TypeId} (h : Steady l) : Steady (.room k lo n t us :: l) := .cons ⟨_, 0, rfl⟩ (fun _ _ _ hk ⟨g, z, h1, h2, h3, h4⟩ => ⟨g, z, h1, h2, h3, h4.kept hk (fun h => h)⟩) h
end Go.Pm
namespace Go.Pm
open Go Go.RowKit
def le4 (n : Int) : List UInt8 := [byteOf n, byteOf (n / 256), byteOf (n / 65536), byteOf (n / 16777216)]
def le4V (l : List UInt8) : Int := bAt l 0 + bAt l 1 * 256 + bAt l 2 * 65536 + bAt l 3 * 16777216
/-- A frame's mark. -/
def markF (k s : Int) (b : List UInt8) : List UInt8 := (sumB (textB 102 [[byteOf k], leB s, b])).take 8
def putF (k s : Int) (b : List UInt8) : List UInt8 := le4 b.length ++ [byteOf k] ++ leB s ++ b ++ markF k s b
def putFE (k s : Int) (b : List UInt8) : Int := if k < 1 ∨ 255 < k ∨ s < 0 then 23 else if 4096 < b.length then 22 else 0
def putFL (k s : Int) (b : List UInt8) : List UInt8 := if putFE k s b = 0 then putF k s b else []
structure Fr where
  kind : Int
  seq : Int
  body : List UInt8
  n : Nat
  e : Int
def readF (b : List UInt8) : Fr :=
  if b.length < 13 then ⟨0, 0, [], 0, 21⟩
  else if 4096 < le4V b ∨ bAt b 4 = 0 ∨ 9223372036854775807 < leV (b.drop 5) then ⟨0, 0, [], 0, 20⟩
  else if (b.length : Int) < 21 + le4V b then ⟨0, 0, [], 0, 21⟩
  else if markF (bAt b 4) (leV (b.drop 5)) ((b.drop 13).take (le4V b).toNat) = (b.drop (13 + (le4V b).toNat)).take 8 then ⟨bAt b 4, leV (b.drop 5), (b.drop 13).take (le4V b).toNat, 21 + (le4V b).toNat, 0⟩
  else ⟨0, 0, [], 0, 24⟩
theorem le4V_ge (l : List UInt8) : 0 ≤ le4V l := by
  have := bAt_ge l 0
  have := bAt_ge l 1
  have := bAt_ge l 2
  have := bAt_ge l 3
  unfold le4V
  omega
theorem le4V_lt (l : List UInt8) : le4V l < 4294967296 := by
  have := bAt_lt l 0
  have := bAt_lt l 1
  have := bAt_lt l 2
  have := bAt_lt l 3
  unfold le4V
  omega
theorem le4_length (n : Int) : (le4 n).length = 4 := rfl
theorem markF_len (k s : Int) (b : List UInt8) : (markF k s b).length = 8 := by simp [markF, sumB_len]
theorem putF_len (k s : Int) (b : List UInt8) : (putF k s b).length = 21 + b.length := by
  simp [putF, le4_length, leB_length, markF_len]
  omega
theorem le4V_le4 (n : Int) (h0 : 0 ≤ n) (h1 : n < 4294967296) (r : List UInt8) : le4V (le4 n ++ r) = n := by
  show ((Go.Pm.byteOf n).toNat : Int) + ((Go.Pm.byteOf (n / 256)).toNat : Int) * 256 + ((Go.Pm.byteOf (n / 65536)).toNat : Int) * 65536 + ((Go.Pm.byteOf (n / 16777216)).toNat : Int) * 16777216 = n
  rw [byteOf_toNat, byteOf_toNat, byteOf_toNat, byteOf_toNat]
  omega
/-- A frame, and whatever stands behind it, reads as the frame. -/
theorem read_putF (k s : Int) (b r : List UInt8) (k0 : 1 ≤ k) (k1 : k ≤ 255) (s0 : 0 ≤ s) (s1 : s ≤ 9223372036854775807) (hb : b.length ≤ 4096) : readF (putF k s b ++ r) = ⟨k, s, b, 21 + b.length, 0⟩ := by
  have e0 : putF k s b ++ r = le4 b.length ++ ([Go.Pm.byteOf k] ++ (leB s ++ (b ++ (markF k s b ++ r)))) := by simp [putF]
  have hM : le4V (putF k s b ++ r) = (b.length : Int) := by rw [e0]; exact le4V_le4 _ (by omega) (by omega) _
  have hK : bAt (putF k s b ++ r) 4 = k := by
    rw [e0]
    show ((Go.Pm.byteOf k).toNat : Int) = k
    rw [byteOf_toNat]
    omega
  have d5 : (putF k s b ++ r).drop 5 = leB s ++ (b ++ (markF k s b ++ r)) := by
    rw [e0, ← List.append_assoc]
    exact List.drop_left' (by simp [le4_length])
  have hS : leV ((putF k s b ++ r).drop 5) = s := by rw [d5]; exact leV_leB s s0 (by omega) _
  have d13 : (putF k s b ++ r).drop 13 = b ++ (markF k s b ++ r) := by
    rw [e0, ← List.append_assoc, ← List.append_assoc]
    exact List.drop_left' (by simp [le4_length, leB_length])
  have dB : (putF k s b ++ r).drop (13 + b.length) = markF k s b ++ r := by
    rw [← List.drop_drop, d13]
    exact List.drop_left' rfl
  have hl : (putF k s b ++ r).length = 21 + b.length + r.length := by rw [List.length_append, putF_len]
  have tB : ((putF k s b ++ r).drop 13).take b.length = b := by rw [d13]; exact List.take_left' rfl
  have tM : ((putF k s b ++ r).drop (13 + b.length)).take 8 = markF k s b := by rw [dB]; exact List.take_left' (markF_len _ _ _)
  unfold readF
  rw [if_neg (by omega), if_neg (by rw [hM, hK, hS]; omega), if_neg (by rw [hM, hl]; omega), hM, hK, hS, Int.toNat_natCast, tB, tM, if_pos rfl]
theorem readF_body (b : List UInt8) : (readF b).e ≠ 0 → (readF b).body = [] := by
  unfold readF
  split
  · exact fun _ => rfl
  · split
    · exact fun _ => rfl
    · split
      · exact fun _ => rfl
      · split
        · exact fun h => absurd rfl h
        · exact fun _ => rfl
/-- What readF says, in numbers. -/
theorem readF_bad {b : List UInt8} {M K S : Nat} (hl : ¬ b.length < 13) (e : le4V b = (M : Int) ∧ bAt b 4 = (K : Int) ∧ leV (b.drop 5) = (S : Int)) (h : 4096 < M ∨ K = 0 ∨ 9223372036854775807 < S) : readF b = ⟨0, 0, [], 0, 20⟩ := by
  unfold readF
  rw [if_neg hl, if_pos (by rw [e.1, e.2.1, e.2.2]; omega)]
theorem readF_short {b : List UInt8} {M K S : Nat} (hl : ¬ b.length < 13) (e : le4V b = (M : Int) ∧ bAt b 4 = (K : Int) ∧ leV (b.drop 5) = (S : Int)) (h : ¬ (4096 < M ∨ K = 0 ∨ 9223372036854775807 < S)) (hs : b.length < 21 + M) : readF b = ⟨0, 0, [], 0, 21⟩ := by
  unfold readF
  rw [if_neg hl, if_neg (by rw [e.1, e.2.1, e.2.2]; omega), if_pos (by rw [e.1]; omega)]
theorem readF_sum {b : List UInt8} {M K S : Nat} (hl : ¬ b.length < 13) (e : le4V b = (M : Int) ∧ bAt b 4 = (K : Int) ∧ leV (b.drop 5) = (S : Int)) (h : ¬ (4096 < M ∨ K = 0 ∨ 9223372036854775807 < S)) (hs : ¬ b.length < 21 + M) (hm : ¬ markF K S ((b.drop 13).take M) = (b.drop (13 + M)).take 8) : readF b = ⟨0, 0, [], 0, 24⟩ := by
  unfold readF
  rw [if_neg hl, if_neg (by rw [e.1, e.2.1, e.2.2]; omega), if_neg (by rw [e.1]; omega), if_neg (by rw [e.1, e.2.1, e.2.2, Int.toNat_natCast]; exact hm)]
theorem readF_ok {b : List UInt8} {M K S : Nat} (hl : ¬ b.length < 13) (e : le4V b = (M : Int) ∧ bAt b 4 = (K : Int) ∧ leV (b.drop 5) = (S : Int)) (h : ¬ (4096 < M ∨ K = 0 ∨ 9223372036854775807 < S)) (hs : ¬ b.length < 21 + M) (hm : markF K S ((b.drop 13).take M) = (b.drop (13 + M)).take 8) : readF b = ⟨K, S, (b.drop 13).take M, 21 + M, 0⟩ := by
  unfold readF
  rw [if_neg hl, if_neg (by rw [e.1, e.2.1, e.2.2]; omega), if_neg (by rw [e.1]; omega), if_pos (by rw [e.1, e.2.1, e.2.2, Int.toNat_natCast]; exact hm), e.1, e.2.1, e.2.2, Int.toNat_natCast]
end Go.Pm
namespace Go.Pm
open Go Go.RowKit
/-- A record. -/
structure Rec where
  kind : Int
  seq : Int
  gen : Int
  count : Int
  u : Req
  tick : Int
  epoch : Int
def Rec.none : Rec := ⟨0, 0, 0, 0, Req.none, 0, 0⟩
def Rec.C (r : Rec) : Array Value := #[.int .i64 r.kind, .int .i64 r.seq, .int .i64 r.gen, .int .i64 r.count, .string r.u.n, .int .i64 r.u.v, .int .u64 (r.u.k : Int), .int .i64 r.u.c, .int .u64 (r.u.r : Int), .int .u64 (r.u.s : Int), .int .i64 r.tick, .int .i64 r.epoch]
abbrev Rec.V (r : Rec) : Value := .agg r.C
/-- No request at all. -/
def Req.no (q : Req) : Bool := decide (q.n.size = 0) && decide (q.v = 0) && decide (q.k = 0) && decide (q.c = 0) && decide (q.r = 0) && decide (q.s = 0)
/-- The fields of a request are numbers of their types. -/
def Req.Fits (q : Req) : Prop := (-9223372036854775808 ≤ q.v ∧ q.v < 9223372036854775808) ∧ q.k < 18446744073709551616 ∧ (-9223372036854775808 ≤ q.c ∧ q.c < 9223372036854775808) ∧ q.r < 18446744073709551616 ∧ q.s < 18446744073709551616
def inI (x : Int) : Prop := -9223372036854775808 ≤ x ∧ x < 9223372036854775808
def Rec.Fits (r : Rec) : Prop := inI r.kind ∧ inI r.seq ∧ inI r.gen ∧ inI r.count ∧ r.u.Fits ∧ inI r.tick ∧ inI r.epoch
def baseJ (r : Rec) : Bool := decide (r.kind = 1) && r.u.no && decide (r.tick = 0) && decide (r.epoch = 0) && decide (0 ≤ r.gen) && decide (r.gen ≤ 1152921504606846976) && decide (0 ≤ r.count) && decide (r.count ≤ 32)
def pendJ (r : Rec) : Bool := decide (r.kind = 2) && decide (r.gen = 0) && decide (r.count = 0) && decide (r.epoch = 0) && r.u.right && decide (0 ≤ r.tick) && decide (r.tick ≤ 1152921504606846976)
def doneJ (r : Rec) : Bool := decide (r.kind = 3) && decide (r.gen = 0) && decide (r.count = 0) && r.u.no && decide (r.tick = 0) && decide (1 ≤ r.epoch) && decide (r.epoch ≤ 1073741824)
def seqJ (r : Rec) : Bool := decide (0 ≤ r.seq) && decide (r.seq ≤ 1152921504606846976)
/-- Right. -/
def rightJ (r : Rec) : Bool := seqJ r && (baseJ r || pendJ r || doneJ r)
def reqB (q : Req) : List UInt8 := putB q.n q.v q.k q.c q.r q.s
/-- A record's body. -/
def bodyJ (r : Rec) : List UInt8 := if r.kind = 1 then leB r.gen ++ leB r.count else if r.kind = 2 then leB r.tick ++ reqB r.u else leB r.epoch
def putJE (r : Rec) : Int := if rightJ r then 0 else 23
def putJL (r : Rec) : List UInt8 := if rightJ r then putF r.kind r.seq (bodyJ r) else []
/-- The one record that a body can be of. -/
def candJ (k s : Int) (b : List UInt8) : Rec :=
  if k = 1 then ⟨k, s, leV b, leV (b.drop 8), Req.none, 0, 0⟩
  else if k = 2 then ⟨k, s, 0, 0, readQ (b.drop 8), leV b, 0⟩
  else ⟨k, s, 0, 0, Req.none, 0, leV b⟩
def okJ (k s : Int) (b : List UInt8) : Bool := rightJ (candJ k s b) && decide (bodyJ (candJ k s b) = b)
structure Rd14 where
  r : Rec
  n : Nat
  e : Int
def readJ (b : List UInt8) : Rd14 :=
  if (readF b).e = 0 then (if okJ (readF b).kind (readF b).seq (readF b).body then ⟨candJ (readF b).kind (readF b).seq (readF b).body, (readF b).n, 0⟩ else ⟨Rec.none, 0, 20⟩) else ⟨Rec.none, 0, (readF b).e⟩

theorem Rec.C_size (r : Rec) : r.C.size = 12 := rfl
theorem Rec.C_one (r : Rec) : r.C.all (·.oneCell') = true := by simp [Rec.C]; exact ⟨rfl, rfl, rfl, rfl, rfl, rfl, rfl, rfl, rfl, rfl, rfl, rfl⟩
theorem Req.no_iff (q : Req) : q.no = true ↔ q = Req.none := by
  unfold Req.no
  simp only [Bool.and_eq_true, decide_eq_true_eq]
  constructor
  · rintro ⟨⟨⟨⟨⟨h1, h2⟩, h3⟩, h4⟩, h5⟩, h6⟩
    obtain ⟨⟨d⟩, v, k, c, r, s⟩ := q
    have : d = #[] := Array.eq_empty_of_size_eq_zero h1
    simp only at h2 h3 h4 h5 h6
    subst h2 h3 h4 h5 h6 this
    rfl
  · rintro rfl
    exact ⟨⟨⟨⟨⟨rfl, rfl⟩, rfl⟩, rfl⟩, rfl⟩, rfl⟩
theorem baseJ_iff (r : Rec) : baseJ r = true ↔ r = ⟨1, r.seq, r.gen, r.count, Req.none, 0, 0⟩ ∧ 0 ≤ r.gen ∧ r.gen ≤ 1152921504606846976 ∧ 0 ≤ r.count ∧ r.count ≤ 32 := by
  unfold baseJ
  simp only [Bool.and_eq_true, decide_eq_true_eq, Req.no_iff]
  obtain ⟨k, s, g, c, u, t, e⟩ := r
  simp only [Rec.mk.injEq, true_and, and_assoc]
theorem pendJ_iff (r : Rec) : pendJ r = true ↔ r = ⟨2, r.seq, 0, 0, r.u, r.tick, 0⟩ ∧ r.u.right = true ∧ 0 ≤ r.tick ∧ r.tick ≤ 1152921504606846976 := by
  unfold pendJ
  simp only [Bool.and_eq_true, decide_eq_true_eq]
  obtain ⟨k, s, g, c, u, t, e⟩ := r
  simp only [Rec.mk.injEq, true_and, and_assoc]
theorem doneJ_iff (r : Rec) : doneJ r = true ↔ r = ⟨3, r.seq, 0, 0, Req.none, 0, r.epoch⟩ ∧ 1 ≤ r.epoch ∧ r.epoch ≤ 1073741824 := by
  unfold doneJ
  simp only [Bool.and_eq_true, decide_eq_true_eq, Req.no_iff]
  obtain ⟨k, s, g, c, u, t, e⟩ := r
  simp only [Rec.mk.injEq, true_and, and_true, and_assoc]
theorem rightJ_iff (r : Rec) : rightJ r = true ↔ (0 ≤ r.seq ∧ r.seq ≤ 1152921504606846976) ∧ ((r = ⟨1, r.seq, r.gen, r.count, Req.none, 0, 0⟩ ∧ 0 ≤ r.gen ∧ r.gen ≤ 1152921504606846976 ∧ 0 ≤ r.count ∧ r.count ≤ 32) ∨ (r = ⟨2, r.seq, 0, 0, r.u, r.tick, 0⟩ ∧ r.u.right = true ∧ 0 ≤ r.tick ∧ r.tick ≤ 1152921504606846976) ∨ (r = ⟨3, r.seq, 0, 0, Req.none, 0, r.epoch⟩ ∧ 1 ≤ r.epoch ∧ r.epoch ≤ 1073741824)) := by
  unfold rightJ seqJ
  rw [Bool.and_eq_true, Bool.or_eq_true, Bool.or_eq_true, baseJ_iff, pendJ_iff, doneJ_iff, Bool.and_eq_true, decide_eq_true_eq, decide_eq_true_eq, or_assoc]
theorem rightJ_kind {r : Rec} (h : rightJ r = true) : 1 ≤ r.kind ∧ r.kind ≤ 3 := by
  rcases (rightJ_iff r).1 h with ⟨_, h | h | h⟩
  · have : r.kind = 1 := by rw [h.1]
    omega
  · have : r.kind = 2 := by rw [h.1]
    omega
  · have : r.kind = 3 := by rw [h.1]
    omega
theorem reqB_len (q : Req) (h : q.right = true) : (reqB q).length ≤ 80 := by
  unfold reqB
  rw [putB_len]
  have := ((rightB_iff _ _ _ _).1 h).1
  omega
theorem bodyJ_len {r : Rec} (h : rightJ r = true) : (bodyJ r).length ≤ 88 := by
  rcases (rightJ_iff r).1 h with ⟨_, h | h | h⟩
  · unfold bodyJ; rw [h.1]; simp [leB_length]
  · unfold bodyJ
    have hk : r.kind = 2 := by rw [h.1]
    rw [if_neg (by omega), if_pos hk, List.length_append, leB_length]
    have := reqB_len r.u h.2.1
    omega
  · unfold bodyJ; rw [h.1]; simp [leB_length]
theorem putJ_len {r : Rec} (h : rightJ r = true) : (putJL r).length = 21 + (bodyJ r).length := by
  unfold putJL
  rw [if_pos h, putF_len]
theorem putJL_len (r : Rec) : (putJL r).length ≤ 109 := by
  by_cases h : rightJ r = true
  · rw [putJ_len h]; have := bodyJ_len h; omega
  · unfold putJL; rw [if_neg h]; decide
/-- A body is of the record that it was made of. -/
theorem candJ_body {r : Rec} (h : rightJ r = true) (hf : r.u.r < 18446744073709551616 ∧ r.u.s < 18446744073709551616) : candJ r.kind r.seq (bodyJ r) = r := by
  rcases (rightJ_iff r).1 h with ⟨_, h | h | h⟩
  · have hk : r.kind = 1 := by rw [h.1]
    have hb : bodyJ r = leB r.gen ++ leB r.count := by unfold bodyJ; rw [if_pos hk]
    have e1 : leV (bodyJ r) = r.gen := by rw [hb]; exact leV_leB _ (by omega) (by omega) _
    have e2 : leV ((bodyJ r).drop 8) = r.count := by
      rw [hb, List.drop_left' (leB_length _)]
      have := leV_leB r.count (by omega) (by omega) []
      rwa [List.append_nil] at this
    unfold candJ
    rw [if_pos hk, e1, e2, hk]
    exact h.1.symm
  · have hk : r.kind = 2 := by rw [h.1]
    have hb : bodyJ r = leB r.tick ++ reqB r.u := by unfold bodyJ; rw [if_neg (by omega), if_pos hk]
    have e1 : leV (bodyJ r) = r.tick := by rw [hb]; exact leV_leB _ (by omega) (by omega) _
    have e2 : (bodyJ r).drop 8 = reqB r.u := by rw [hb, List.drop_left' (leB_length _)]
    have e3 := (read_put r.u.n r.u.v r.u.k r.u.c r.u.r r.u.s h.2.1 hf.1 hf.2).2
    unfold candJ
    rw [if_neg (by omega), if_pos hk, e1, e2, hk]
    have e4 : readQ (reqB r.u) = r.u := e3
    rw [e4]
    exact h.1.symm
  · have hk : r.kind = 3 := by rw [h.1]
    have hb : bodyJ r = leB r.epoch := by unfold bodyJ; rw [if_neg (by omega), if_neg (by omega)]
    have e1 : leV (bodyJ r) = r.epoch := by
      rw [hb]
      have := leV_leB r.epoch (by omega) (by omega) []
      rwa [List.append_nil] at this
    unfold candJ
    rw [if_neg (by omega), if_neg (by omega), e1, hk]
    exact h.1.symm
/-- A record, and whatever stands behind it, reads as the record. -/
theorem read_putJ {r : Rec} (t : List UInt8) (h : rightJ r = true) (hf : r.u.r < 18446744073709551616 ∧ r.u.s < 18446744073709551616) : readJ (putJL r ++ t) = ⟨r, 21 + (bodyJ r).length, 0⟩ := by
  have hk := rightJ_kind h
  have hs := ((rightJ_iff r).1 h).1
  have hl := bodyJ_len h
  have e := read_putF r.kind r.seq (bodyJ r) t hk.1 (by omega) hs.1 (by omega) (by omega)
  have e2 : putJL r = putF r.kind r.seq (bodyJ r) := by unfold putJL; rw [if_pos h]
  have e3 := candJ_body h hf
  unfold readJ
  rw [e2, e]
  simp only [if_pos]
  rw [if_pos (by unfold okJ; rw [e3, h]; simp), e3]
theorem byteOf_of (b : UInt8) : Go.Pm.byteOf (b.toNat : Int) = b := by
  apply UInt8.toNat_inj.1
  have h1 := byteOf_toNat (b.toNat : Int)
  have h2 := b.toNat_lt
  omega
theorem byteOf_u (b : UInt8) (x : Int) (h : x % 256 = (b.toNat : Int)) : Go.Pm.byteOf x = b := by
  rw [← byteOf_mod, h]
  exact byteOf_of b
theorem byte_of (b : List UInt8) (h : 4 < b.length) : [Go.Pm.byteOf (bAt b 4)] = (b.drop 4).take 1 := by
  match b, h with
  | a :: c :: d :: e :: f :: r, _ => exact congrArg (· :: []) (byteOf_of f)
theorem le4_of (b : List UInt8) (h : 4 ≤ b.length) : b.take 4 = le4 (le4V b) := by
  match b, h with
  | a :: c :: d :: e :: r, _ =>
    have e0 : le4V (a :: c :: d :: e :: r) = (a.toNat : Int) + (c.toNat : Int) * 256 + (d.toNat : Int) * 65536 + (e.toNat : Int) * 16777216 := rfl
    have ha := a.toNat_lt
    have hc := c.toNat_lt
    have hd := d.toNat_lt
    have he := e.toNat_lt
    rw [e0]
    unfold le4
    rw [byteOf_u a _ (by omega), byteOf_u c _ (by omega), byteOf_u d _ (by omega), byteOf_u e _ (by omega)]
    rfl
theorem leB_of (b : List UInt8) (h : 8 ≤ b.length) : leB (leV b) = b.take 8 := by
  match b, h with
  | a :: c :: d :: e :: f :: g :: i :: j :: r, _ =>
    have e0 : leV (a :: c :: d :: e :: f :: g :: i :: j :: r) = (a.toNat : Int) + (c.toNat : Int) * 256 + (d.toNat : Int) * 65536 + (e.toNat : Int) * 16777216 + (f.toNat : Int) * 4294967296 + (g.toNat : Int) * 1099511627776 + (i.toNat : Int) * 281474976710656 + (j.toNat : Int) * 72057594037927936 := rfl
    have ha := a.toNat_lt
    have hc := c.toNat_lt
    have hd := d.toNat_lt
    have he := e.toNat_lt
    have hf := f.toNat_lt
    have hg := g.toNat_lt
    have hi := i.toNat_lt
    have hj := j.toNat_lt
    rw [e0]
    unfold leB
    rw [byteOf_u a _ (by omega), byteOf_u c _ (by omega), byteOf_u d _ (by omega), byteOf_u e _ (by omega), byteOf_u f _ (by omega), byteOf_u g _ (by omega), byteOf_u i _ (by omega), byteOf_u j _ (by omega)]
    rfl
/-- What readF took is the frame itself. -/
theorem readF_take {b : List UInt8} (h : (readF b).e = 0) : b.take (readF b).n = putF (readF b).kind (readF b).seq (readF b).body ∧ (readF b).body.length ≤ 4096 ∧ (readF b).n = 21 + (readF b).body.length ∧ (readF b).n ≤ b.length ∧ 1 ≤ (readF b).kind ∧ (readF b).kind ≤ 255 ∧ 0 ≤ (readF b).seq ∧ (readF b).seq ≤ 9223372036854775807 := by
  unfold readF at h ⊢
  by_cases h1 : b.length < 13
  · rw [if_pos h1] at h; exact absurd h (by decide)
  rw [if_neg h1] at h ⊢
  by_cases h2 : 4096 < le4V b ∨ bAt b 4 = 0 ∨ 9223372036854775807 < leV (b.drop 5)
  · rw [if_pos h2] at h; exact absurd h (by decide)
  rw [if_neg h2] at h ⊢
  by_cases h3 : (b.length : Int) < 21 + le4V b
  · rw [if_pos h3] at h; exact absurd h (by decide)
  rw [if_neg h3] at h ⊢
  by_cases h4n : ¬ markF (bAt b 4) (leV (b.drop 5)) ((b.drop 13).take (le4V b).toNat) = (b.drop (13 + (le4V b).toNat)).take 8
  · rw [if_neg h4n] at h; exact absurd h (by decide)
  have h4 := Classical.not_not.1 h4n
  rw [if_pos h4]
  have g0 := le4V_ge b
  have g1 := bAt_ge b 4
  have g2 := bAt_lt b 4
  have g3 := leV_ge (b.drop 5)
  obtain ⟨M, hM⟩ : ∃ M : Nat, M = (le4V b).toNat := ⟨_, rfl⟩
  have eM : le4V b = (M : Int) := by rw [hM, Int.toNat_of_nonneg g0]
  rw [← hM] at h4 ⊢
  have hM4 : M ≤ 4096 := by omega
  have hlen : 21 + M ≤ b.length := by omega
  have hbl : ((b.drop 13).take M).length = M := by rw [List.length_take, List.length_drop]; omega
  refine ⟨?_, by simp only; omega, by simp only; omega, hlen, by simp only; omega, by simp only; omega, g3, by simp only; omega⟩
  simp only
  unfold putF
  rw [hbl, h4]
  have eL : le4 (M : Int) = b.take 4 := by
    rw [← eM]
    exact (le4_of b (by omega)).symm
  have eK : [Go.Pm.byteOf (bAt b 4)] = (b.drop 4).take 1 := byte_of b (by omega)
  have eS : leB (leV (b.drop 5)) = (b.drop 5).take 8 := leB_of (b.drop 5) (by rw [List.length_drop]; omega)
  rw [eL, eK, eS]
  have q : ∀ (l : List UInt8) (i j : Nat), l.take i ++ (l.drop i).take j = l.take (i + j) := fun l i j => (List.take_add ..).symm
  rw [q, q, q, q]
  congr 1
  omega
end Go.Pm
namespace Go.Pm
open Go Go.RowKit

/-! ### The order of bytes -/
theorem less_irrefl : ∀ a : List UInt8, Op.bytesLess a a = false
  | [] => rfl
  | x :: a => by
    unfold Op.bytesLess
    rw [less_irrefl a]
    simp
theorem less_trans : ∀ {a b c : List UInt8}, Op.bytesLess a b = true → Op.bytesLess b c = true → Op.bytesLess a c = true
  | _, [], _, h, _ => by cases ‹List UInt8› <;> simp [Op.bytesLess] at h
  | _, _ :: _, [], _, h => by simp [Op.bytesLess] at h
  | [], _ :: _, _ :: _, _, _ => rfl
  | x :: a, y :: b, z :: c, h1, h2 => by
    unfold Op.bytesLess at h1 h2 ⊢
    simp only [Bool.or_eq_true, Bool.and_eq_true, decide_eq_true_eq, beq_iff_eq] at h1 h2 ⊢
    rcases h1 with h1 | ⟨rfl, h1⟩
    · rcases h2 with h2 | ⟨rfl, h2⟩
      · exact .inl (UInt8.lt_trans h1 h2)
      · exact .inl h1
    · rcases h2 with h2 | ⟨rfl, h2⟩
      · exact .inl h2
      · exact .inr ⟨rfl, less_trans h1 h2⟩
theorem less_total : ∀ a b : List UInt8, Op.bytesLess a b = true ∨ a = b ∨ Op.bytesLess b a = true
  | [], [] => .inr (.inl rfl)
  | [], _ :: _ => .inl rfl
  | _ :: _, [] => .inr (.inr rfl)
  | x :: a, y :: b => by
    unfold Op.bytesLess
    simp only [Bool.or_eq_true, Bool.and_eq_true, decide_eq_true_eq, beq_iff_eq]
    by_cases hxy : x = y
    · subst hxy
      rcases less_total a b with h | h | h
      · exact .inl (.inr ⟨rfl, h⟩)
      · exact .inr (.inl (by rw [h]))
      · exact .inr (.inr (.inr ⟨rfl, h⟩))
    · rcases UInt8.lt_or_lt_of_ne hxy with h | h
      · exact .inl (.inl h)
      · exact .inr (.inr (.inl h))
theorem less_asymm {a b : List UInt8} (h : Op.bytesLess a b = true) : Op.bytesLess b a = false := by
  cases h2 : Op.bytesLess b a with
  | false => rfl
  | true => have := less_trans h h2; rw [less_irrefl] at this; cases this
theorem less_ne {a b : List UInt8} (h : Op.bytesLess a b = true) : a ≠ b := fun e => by subst e; rw [less_irrefl] at h; cases h

/-! ### Items -/
structure It where
  i : List UInt8
  v : List UInt8
  deriving DecidableEq
/-- Strictly rising. -/
def Srt (l : List It) : Prop := l.Pairwise (fun a b => Op.bytesLess a.i b.i = true)
/-- An item, into its place. -/
def insI (x : It) : List It → List It
  | [] => [x]
  | y :: l => if Op.bytesLess y.i x.i then y :: insI x l else if y.i = x.i then x :: l else x :: y :: l
/-- Set, of all items one behind another. -/
def setI (l : List It) : List It := l.foldl (fun out x => insI x out) []
theorem mem_insI {x z : It} : ∀ {l : List It}, Srt l → (z ∈ insI x l ↔ z = x ∨ z ∈ l ∧ z.i ≠ x.i)
  | [], _ => by simp [insI]
  | y :: l, h => by
    obtain ⟨hy, hl⟩ := List.pairwise_cons.1 h
    unfold insI
    split
    · rename_i h1
      rw [List.mem_cons, mem_insI hl, List.mem_cons]
      have hne := less_ne h1
      constructor
      · rintro (rfl | rfl | ⟨h2, h3⟩)
        · exact .inr ⟨.inl rfl, hne⟩
        · exact .inl rfl
        · exact .inr ⟨.inr h2, h3⟩
      · rintro (rfl | ⟨rfl | h2, h3⟩)
        · exact .inr (.inl rfl)
        · exact .inl rfl
        · exact .inr (.inr ⟨h2, h3⟩)
    · rename_i h1
      have out : ∀ w ∈ l, ¬ w.i = x.i ∨ False := fun w hw => by
        left
        intro e
        have h2 := hy w hw
        rcases less_total y.i x.i with h3 | h3 | h3
        · exact h1 h3
        · rw [e, ← h3, less_irrefl] at h2; cases h2
        · rw [e] at h2; exact h1 h2
      split
      · rename_i h2
        rw [List.mem_cons, List.mem_cons]
        constructor
        · rintro (rfl | h3)
          · exact .inl rfl
          · exact .inr ⟨.inr h3, (out z h3).elim id False.elim⟩
        · rintro (rfl | ⟨rfl | h3, h4⟩)
          · exact .inl rfl
          · exact absurd h2 h4
          · exact .inr h3
      · rename_i h2
        rw [List.mem_cons, List.mem_cons]
        constructor
        · rintro (rfl | rfl | h3)
          · exact .inl rfl
          · exact .inr ⟨.inl rfl, h2⟩
          · exact .inr ⟨.inr h3, (out z h3).elim id False.elim⟩
        · rintro (rfl | ⟨h3, _⟩)
          · exact .inl rfl
          · exact .inr h3
theorem srt_insI (x : It) : ∀ {l : List It}, Srt l → Srt (insI x l)
  | [], _ => by simp [insI, Srt]
  | y :: l, h => by
    obtain ⟨hy, hl⟩ := List.pairwise_cons.1 h
    unfold insI
    split
    · rename_i h1
      refine List.pairwise_cons.2 ⟨fun z hz => ?_, srt_insI x hl⟩
      rcases (mem_insI hl).1 hz with rfl | ⟨h2, _⟩
      · exact h1
      · exact hy z h2
    · rename_i h1
      split
      · rename_i h2
        exact List.pairwise_cons.2 ⟨fun z hz => by rw [← h2]; exact hy z hz, hl⟩
      · rename_i h2
        have h3 : Op.bytesLess x.i y.i = true := by
          rcases less_total y.i x.i with h | h | h
          · exact absurd h h1
          · exact absurd h h2
          · exact h
        refine List.pairwise_cons.2 ⟨fun z hz => ?_, h⟩
        rcases List.mem_cons.1 hz with rfl | hz
        · exact h3
        · exact less_trans h3 (hy z hz)
theorem srt_fold (l : List It) : ∀ {o : List It}, Srt o → Srt (l.foldl (fun out x => insI x out) o) := by
  induction l with
  | nil => exact fun h => h
  | cons x l ih => exact fun h => ih (srt_insI x h)
theorem srt_setI (l : List It) : Srt (setI l) := srt_fold l List.Pairwise.nil
/-- The last one of an index. -/
def lastI (l : List It) (i : List UInt8) : Option It := l.reverse.find? (fun x => decide (x.i = i))
theorem lastI_snoc (l : List It) (x : It) (i : List UInt8) : lastI (l ++ [x]) i = if x.i = i then some x else lastI l i := by
  unfold lastI
  rw [List.reverse_append, List.reverse_singleton, List.singleton_append, List.find?_cons]
  by_cases h : x.i = i
  · simp [h]
  · simp [h]
theorem setI_snoc (l : List It) (x : It) : setI (l ++ [x]) = insI x (setI l) := by
  unfold setI
  rw [List.foldl_append]
  rfl
/-- Just the last ones are in it. -/
theorem mem_setI (z : It) (l : List It) : z ∈ setI l ↔ lastI l z.i = some z := by
  suffices h : ∀ r : List It, z ∈ setI r.reverse ↔ lastI r.reverse z.i = some z by
    have := h l.reverse
    rwa [List.reverse_reverse] at this
  intro r
  induction r with
  | nil => simp [setI, lastI]
  | cons x r ih =>
    rw [List.reverse_cons, setI_snoc, mem_insI (srt_setI _), lastI_snoc]
    by_cases h : x.i = z.i
    · rw [if_pos h]
      constructor
      · rintro (rfl | ⟨_, h2⟩)
        · rfl
        · exact absurd h.symm h2
      · intro h2
        exact .inl (Option.some.inj h2).symm
    · rw [if_neg h, ← ih]
      constructor
      · rintro (rfl | ⟨h2, _⟩)
        · exact absurd rfl h
        · exact h2
      · exact fun h2 => .inr ⟨h2, fun e => h e.symm⟩
/-- What rises and has the same items is the same. -/
theorem srt_ext : ∀ {a b : List It}, Srt a → Srt b → (∀ z, z ∈ a ↔ z ∈ b) → a = b
  | [], [], _, _, _ => rfl
  | [], y :: b, _, _, h => by have := (h y).2 (List.mem_cons_self ..); cases this
  | x :: a, [], _, _, h => by have := (h x).1 (List.mem_cons_self ..); cases this
  | x :: a, y :: b, ha, hb, h => by
    obtain ⟨hx, ha'⟩ := List.pairwise_cons.1 ha
    obtain ⟨hy, hb'⟩ := List.pairwise_cons.1 hb
    have hxy : x = y := by
      rcases List.mem_cons.1 ((h x).1 (List.mem_cons_self ..)) with h1 | h1
      · exact h1
      · rcases List.mem_cons.1 ((h y).2 (List.mem_cons_self ..)) with h2 | h2
        · exact h2.symm
        · have h3 := hy x h1
          have h4 := hx y h2
          rw [less_asymm h3] at h4
          cases h4
    subst hxy
    rw [srt_ext ha' hb' fun z => ?_]
    constructor
    · intro hz
      rcases List.mem_cons.1 ((h z).1 (List.mem_cons_of_mem _ hz)) with rfl | h1
      · have h3 := hx z hz; rw [less_irrefl] at h3; cases h3
      · exact h1
    · intro hz
      rcases List.mem_cons.1 ((h z).2 (List.mem_cons_of_mem _ hz)) with rfl | h1
      · have h3 := hy z hz; rw [less_irrefl] at h3; cases h3
      · exact h1
/-- Whatever rises and has just the last ones is the Set. -/
theorem set_is {l s : List It} (h : Srt s) (hm : ∀ z, z ∈ s ↔ lastI l z.i = some z) : s = setI l :=
  srt_ext h (srt_setI l) fun z => (hm z).trans (mem_setI z l).symm
theorem srt_one {l : List It} (h : Srt l) {a b : It} (ha : a ∈ l) (hb : b ∈ l) (hi : a.i = b.i) : a = b := by
  induction l with
  | nil => cases ha
  | cons x l ih =>
    obtain ⟨hx, hl⟩ := List.pairwise_cons.1 h
    rcases List.mem_cons.1 ha with ha1 | ha1 <;> rcases List.mem_cons.1 hb with hb1 | hb1
    · rw [ha1, hb1]
    · have := hx b hb1; rw [← ha1, hi, less_irrefl] at this; cases this
    · have := hx a ha1; rw [← hb1, hi, less_irrefl] at this; cases this
    · exact ih hl ha1 hb1
theorem find_some {l : List It} {i : List UInt8} {z : It} (h : lastI l i = some z) : z ∈ l ∧ z.i = i := by
  unfold lastI at h
  exact ⟨List.mem_reverse.1 (List.mem_of_find?_eq_some h), by simpa using List.find?_some h⟩
/-- Of a rising list each is the last one of its index. -/
theorem last_srt {l : List It} (h : Srt l) (z : It) : lastI l z.i = some z ↔ z ∈ l := by
  constructor
  · exact fun h2 => (find_some h2).1
  · intro hz
    cases hf : lastI l z.i with
    | none =>
      unfold lastI at hf
      have := List.find?_eq_none.1 hf z (List.mem_reverse.2 hz)
      simp at this
    | some y =>
      obtain ⟨h1, h2⟩ := find_some hf
      rw [srt_one h h1 hz h2]
/-- The Set of a rising list is the list. -/
theorem set_srt {l : List It} (h : Srt l) : setI l = l := (set_is h fun z => (last_srt h z).symm).symm

/-- Where no two unlike ones have one index, each is the last one of it. -/
theorem last_one {l : List It} (h : ∀ a ∈ l, ∀ b ∈ l, a.i = b.i → a = b) (z : It) : lastI l z.i = some z ↔ z ∈ l := by
  constructor
  · exact fun h2 => (find_some h2).1
  · intro hz
    cases hf : lastI l z.i with
    | none =>
      unfold lastI at hf
      have := List.find?_eq_none.1 hf z (List.mem_reverse.2 hz)
      simp at this
    | some y =>
      obtain ⟨h1, h2⟩ := find_some hf
      rw [h y h1 z hz h2]
/-- The same items in whatever order, as often as may be: the same Set. -/
theorem set_like {l s : List It} (hs : Srt s) (h : ∀ z, z ∈ l ↔ z ∈ s) : setI l = s :=
  (set_is hs fun z => (h z).symm.trans (last_one (fun _ ha _ hb hi => srt_one hs ((h _).1 ha) ((h _).1 hb) hi) z).symm).symm

/-! ### Bits and roots -/
/-- A hash's bit. -/
def bitI (h : List UInt8) (j : Nat) : Nat := (h.getD (j / 8) 0).toNat / 2 ^ (7 - j % 8) % 2
theorem bitI_two (h : List UInt8) (j : Nat) : bitI h j = 0 ∨ bitI h j = 1 := by unfold bitI; omega
theorem byte_bits {a b : Nat} (ha : a < 256) (hb : b < 256) (h : ∀ k, k < 8 → a / 2 ^ (7 - k) % 2 = b / 2 ^ (7 - k) % 2) : a = b := by
  have h0 := h 0 (by decide)
  have h1 := h 1 (by decide)
  have h2 := h 2 (by decide)
  have h3 := h 3 (by decide)
  have h4 := h 4 (by decide)
  have h5 := h 5 (by decide)
  have h6 := h 6 (by decide)
  have h7 := h 7 (by decide)
  simp only [Nat.sub_zero, show (2 : Nat) ^ 7 = 128 by decide, show (2 : Nat) ^ (7 - 1) = 64 by decide, show (2 : Nat) ^ (7 - 2) = 32 by decide, show (2 : Nat) ^ (7 - 3) = 16 by decide, show (2 : Nat) ^ (7 - 4) = 8 by decide, show (2 : Nat) ^ (7 - 5) = 4 by decide, show (2 : Nat) ^ (7 - 6) = 2 by decide, show (2 : Nat) ^ (7 - 7) = 1 by decide] at h0 h1 h2 h3 h4 h5 h6 h7
  omega
/-- Hashes of like bits are the same. -/
theorem bits_ext {a b : List UInt8} (ha : a.length = 32) (hb : b.length = 32) (h : ∀ j, j < 256 → bitI a j = bitI b j) : a = b := by
  refine List.ext_getElem (by omega) fun n h1 h2 => ?_
  apply UInt8.toNat_inj.1
  refine byte_bits (UInt8.toNat_lt _) (UInt8.toNat_lt _) fun k hk => ?_
  have hb' := h (8 * n + k) (by omega)
  unfold bitI at hb'
  rw [show (8 * n + k) / 8 = n by omega, show (8 * n + k) % 8 = k by omega] at hb'
  simpa [List.getD, List.getElem?_eq_getElem h1, List.getElem?_eq_getElem h2] using hb'
/-- All agree on the bits ahead of a place. -/
def Agree (l : List It) (j : Nat) : Prop := ∀ a ∈ l, ∀ b ∈ l, ∀ k, k < j → bitI a.i k = bitI b.i k
def Len (l : List It) : Prop := ∀ a ∈ l, a.i.length = 32 ∧ a.v.length = 32
/-- Two of them agree on fewer than all bits. -/
theorem agree_lt {l : List It} (h : Srt l) (hl : Len l) {j : Nat} (ha : Agree l j) (h2 : 2 ≤ l.length) : j < 256 := by
  match l, h2 with
  | x :: y :: l, _ =>
    rcases Nat.lt_or_ge j 256 with h3 | h3
    · exact h3
    · exfalso
      have hx : x ∈ x :: y :: l := List.mem_cons_self ..
      have hy : y ∈ x :: y :: l := List.mem_cons_of_mem _ (List.mem_cons_self ..)
      have he := bits_ext (hl x hx).1 (hl y hy).1 fun k hk => ha x hx y hy k (by omega)
      have := (List.pairwise_cons.1 h).1 y (List.mem_cons_self ..)
      rw [he, less_irrefl] at this
      cases this
/-- The half of those whose bit is b. -/
def half (l : List It) (j b : Nat) : List It := l.filter (fun x => bitI x.i j == b)
theorem mem_half {l : List It} {j b : Nat} {x : It} : x ∈ half l j b ↔ x ∈ l ∧ bitI x.i j = b := by unfold half; rw [List.mem_filter, beq_iff_eq]
theorem srt_half {l : List It} (h : Srt l) (j b : Nat) : Srt (half l j b) := List.Pairwise.filter _ h
theorem len_half {l : List It} (h : Len l) (j b : Nat) : Len (half l j b) := fun a ha => h a (mem_half.1 ha).1
theorem agree_half {l : List It} {j : Nat} (h : Agree l j) (b : Nat) : Agree (half l j b) (j + 1) := fun x hx y hy k hk => by
  obtain ⟨h1, h2⟩ := mem_half.1 hx
  obtain ⟨h3, h4⟩ := mem_half.1 hy
  by_cases he : k = j
  · subst he; rw [h2, h4]
  · exact h x h1 y h3 k (by omega)
def leafH (x : It) : List UInt8 := sumB (textB 108 [x.i, x.v])
def nodeH (a b : List UInt8) : List UInt8 := sumB (textB 110 [a, b])
def emptyH : List UInt8 := sumB (textB 122 [])
/-- The root of what rises, from a place on; 'f': so many levels at most. -/
def rootI : Nat → List It → Nat → List UInt8
  | _, [], _ => emptyH
  | _, [x], _ => leafH x
  | 0, _ :: _ :: _, _ => []
  | f + 1, x :: y :: l, j => nodeH (rootI f (half (x :: y :: l) j 0) (j + 1)) (rootI f (half (x :: y :: l) j 1) (j + 1))
/-- Root. -/
def rootOf (l : List It) : List UInt8 := rootI 256 (setI l) 0
/-- More levels than there are bits change nothing. -/
theorem rootI_more : ∀ (f : Nat) {l : List It} {j : Nat}, Srt l → Len l → Agree l j → 256 ≤ f + j → ∀ e, rootI (f + e) l j = rootI f l j
  | f, [], j, _, _, _, _, e => by cases f <;> cases e <;> rfl
  | f, [x], j, _, _, _, _, e => by cases f <;> cases e <;> rfl
  | 0, x :: y :: l, j, h, hl, ha, hf, e => absurd (agree_lt h hl ha (by simp)) (by omega)
  | f + 1, x :: y :: l, j, h, hl, ha, hf, e => by
    rw [show f + 1 + e = (f + e) + 1 by omega]
    show nodeH _ _ = nodeH _ _
    rw [rootI_more f (srt_half h j 0) (len_half hl j 0) (agree_half ha 0) (by omega) e, rootI_more f (srt_half h j 1) (len_half hl j 1) (agree_half ha 1) (by omega) e]
/-- A root of two or more is that of both halves. -/
theorem root_halves {l : List It} (h : Srt l) (h2 : 2 ≤ l.length) : rootOf l = nodeH (rootI 255 (half l 0 0) 1) (rootI 255 (half l 0 1) 1) := by
  unfold rootOf
  rw [set_srt h]
  match l, h2 with
  | x :: y :: l, _ => rfl
theorem rootI_len : ∀ (f : Nat) {l : List It} {j : Nat}, Srt l → Len l → Agree l j → 256 ≤ f + j → (rootI f l j).length = 32
  | f, [], j, _, _, _, _ => by cases f <;> exact sumB_len _
  | f, [x], j, _, _, _, _ => by cases f <;> exact sumB_len _
  | 0, x :: y :: l, j, h, hl, ha, hf => absurd (agree_lt h hl ha (by simp)) (by omega)
  | f + 1, x :: y :: l, j, h, hl, ha, hf => sumB_len _
end Go.Pm
namespace Go.Pm
open Go Go.RowKit

theorem fold_put (off : Nat) : ∀ (l : List Value) (k : Nat) (cs : Array Value), off + k + l.length ≤ cs.size →
    (l.zipIdx k).foldl (fun cs (p : Value × Nat) => cs.setIfInBounds (off + p.2) p.1) cs = (cs.toList.take (off + k) ++ l ++ cs.toList.drop (off + k + l.length)).toArray
  | [], k, cs, h => by simp
  | v :: l, k, cs, h => by
    simp only [List.length_cons] at h
    rw [List.zipIdx_cons, List.foldl_cons, fold_put off l (k + 1) _ (by simp; omega)]
    apply Array.ext'
    simp only [Array.toList_setIfInBounds, List.length_cons]
    have h1 : (cs.toList.set (off + k) v).take (off + (k + 1)) = cs.toList.take (off + k) ++ [v] := by
      rw [show off + (k + 1) = off + k + 1 by omega, List.take_succ_eq_append_getElem (by simp; omega), List.getElem_set_self, List.take_set_of_le (Nat.le_refl _)]
    have h2 : (cs.toList.set (off + k) v).drop (off + (k + 1) + l.length) = cs.toList.drop (off + k + (l.length + 1)) := by
      rw [List.drop_set_of_lt (by omega)]
      congr 1
      omega
    rw [h1, h2]
    simp
theorem fill_cons {place : Nat → Option (Nat × Nat)} {cells : Array Value} {i : Nat} {v : Value} {rest : List (Nat × Value)} {off size : Nat} (h : place i = some (off, size)) (h1 : v.cells.size = size) (h2 : off + v.cells.size ≤ cells.size) :
    Instr.fill place cells ((i, v) :: rest) = Instr.fill place (v.cells.zipIdx.foldl (fun cs (c, j) => cs.setIfInBounds (off + j) c) cells) rest := by
  conv => lhs; unfold Instr.fill
  rw [h]
  simp only
  rw [if_neg]
  simp [h1]
  omega
theorem fill_two (z A B : Array Value) (hz : z.size = 64) (hA : A.size = 32) (hB : B.size = 32) : Instr.fill (fun i => #[(0, 32), (32, 32)][i]?) z [(0, .agg A), (1, .agg B)] = some (A ++ B) := by
  have ha := fold_put 0 A.toList 0 z (by simp; omega)
  have hb := fold_put 32 B.toList 0 (A ++ (z.toList.drop 32).toArray) (by simp; omega)
  have e1 : A.zipIdx.foldl (fun cs (c, j) => cs.setIfInBounds (0 + j) c) z = A ++ (z.toList.drop 32).toArray := by
    rw [← Array.foldl_toList, Array.toList_zipIdx]
    refine ha.trans ?_
    apply Array.ext'
    simp [hA]
  have e2 : B.zipIdx.foldl (fun cs (c, j) => cs.setIfInBounds (32 + j) c) (A ++ (z.toList.drop 32).toArray) = A ++ B := by
    rw [← Array.foldl_toList, Array.toList_zipIdx]
    refine hb.trans ?_
    apply Array.ext'
    have h1 : (A.toList ++ z.toList.drop 32).take 32 = A.toList := List.take_left' (by simpa using hA)
    have h2 : (A.toList ++ z.toList.drop 32).drop 64 = [] := List.drop_eq_nil_of_le (by simp; omega)
    simp [hB, h1, h2]
  rw [fill_cons (v := .agg A) (off := 0) (size := 32) rfl (show (Value.agg A).cells.size = 32 from hA) (by show 0 + A.size ≤ z.size; omega)]
  rw [show (Value.agg A).cells = A from rfl, e1]
  rw [fill_cons (v := .agg B) (off := 32) (size := 32) rfl (show (Value.agg B).cells.size = 32 from hB) (by show 32 + B.size ≤ _; simp; omega)]
  rw [show (Value.agg B).cells = B from rfl, e2]
  rfl
theorem aggOf {P : Program} {t : TypeId} {n : Nat} (h : (P.underlying t).map aggD = some true) (h2 : (P.info? t).map (·.size) = some n) : AggTy P t n := by
  cases hu : P.underlying t with
  | none => rw [hu] at h; cases h
  | some d => rw [hu] at h; exact ⟨⟨d, hu, by simpa using h⟩, h2⟩
theorem run_execOp_build {P : Program} {ρ : Operand → Value} {o : Oper} {w : World} {t : TypeId} {parts : Array (Nat × Operand)} {v : Value} (ho : o.op = .build t parts)
    (h : (Instr.build t (parts.map fun (i, x) => (i, ρ x))).run P w = .ok v w) : (execOp ρ o).run P w = .ok (.value v) w := by
  unfold execOp
  simp only [ho, Sem.run_bind, h, Result.andThen_ok]
  rfl
end Go.Pm
namespace Go.Pm
open Go Go.RowKit
theorem kept_setCells {S : Nat → Prop} {a : World} {b : Nat} (hb : b < a.heap.size → S b) : ∀ (cs : List Value) (o : Nat) (w : World), Kept S a w → Kept S a (w.setCells b o cs)
  | [], _, _, h => h
  | c :: cs, o, _w, h => kept_setCells hb cs (o + 1) _ (h.setCell (p := ⟨b, o, none⟩) hb c)
theorem Blk.setCells {g : Nat} {t : TypeId} : ∀ (cs : List Value) (o : Nat) (w : World) (cur : Array Value), Blk w g cur t → o + cs.length ≤ cur.size →
    Blk (w.setCells g o cs) g (cur.toList.take o ++ cs ++ cur.toList.drop (o + cs.length)).toArray t
  | [], o, w, cur, h, _ => by simpa [World.setCells] using h
  | c :: cs, o, w, cur, h, hl => by
    simp only [List.length_cons] at hl
    have h1 := Blk.setCells cs (o + 1) (w.setCell ⟨g, o, none⟩ c) (cur.setIfInBounds o c) (h.set o c) (by simp; omega)
    rw [World.setCells]
    have e : (cur.setIfInBounds o c).toList.take (o + 1) ++ cs ++ (cur.setIfInBounds o c).toList.drop (o + 1 + cs.length) = cur.toList.take o ++ c :: cs ++ cur.toList.drop (o + (cs.length + 1)) := by
      rw [Array.toList_setIfInBounds, List.take_succ_eq_append_getElem (by simp; omega), List.getElem_set_self, List.take_set_of_le (Nat.le_refl _), List.drop_set_of_lt (by omega)]
      simp [Nat.add_assoc, Nat.add_comm 1 cs.length]
    rw [e] at h1
    simpa using h1
/-- A struct, stored into the midst of a block. -/
theorem wpList_store_agg {P : Program} {ops : Array Oper} {rest : List Oper} {o : Oper} {a : Act} {w : World} {Q : Exit → Act → World → Prop} (hgd : o.guard = none) (ty : TypeId) (x y : Operand) (ho : o.op = .store ty x y)
    {g off : Nat} {cur xs : List Value} {t : TypeId} (hx : a.eval x = .pointer (some ⟨g, off, none⟩)) (hy : a.eval y = .agg xs.toArray) (hb : Blk w g cur.toArray t) (hT : (P.info? ty).map (·.size) = some xs.length) (h1 : xs.toArray.all (·.oneCell') = true)
    (hoff : off + xs.length ≤ cur.length)
    (hk : ∀ w', Blk w' g (cur.take off ++ xs ++ cur.drop (off + xs.length)).toArray t → Kept (Just g) w w' → wpList P ops Q rest (a.put o.dst undef) w') : wpList P ops Q (o :: rest) a w := by
  refine wpList_store_mid hgd ty x y ho g off xs.toArray hx hy (fun j hj => ?_) (by simpa using hT) h1 ?_
  · simp only [List.size_toArray] at hj
    refine ⟨?_, hb.free _⟩
    rw [hb.cell]
    simp [show off + j < cur.length by omega]
  · refine hk _ ?_ (kept_setCells (S := Just g) (fun _ => rfl) _ _ _ (Kept.refl _ _))
    have hs := Blk.setCells xs off w cur.toArray hb (by simpa using hoff)
    simpa using hs
/-- A region of which the head is walked by what is said upfront. -/
theorem wp_region_kn_tail {P : Program} {id : Nat} {Q : Exit → Act → World → Prop} {a : Act} {w : World} {ops : List Oper} (n : Nat) (w0 : World) (l : List Fct) (hs : Steady l) (hk : Kept None w0 w) (hm : P.follows .mixedOrders = true) (hB : Region.lexTailB .any ops.toArray n = true) (hok : (planOf (Kept None w0) l).ok .any ops.toArray = true)
    (h : wpPar P (planOf (Kept None w0) l) ops.toArray (fun a' w' => wpList P ops.toArray Q (ops.drop n) a' w') 0 (ops.take n) a (starts (planOf (Kept None w0) l) [])) : (Code.region id ops.toArray true).wp P Q a w :=
  wp_region_plan_tail n (Kept None w0) l [] hm hB hok rfl hs.pure hk.drew (fun j hj => by cases hj) h
end Go.Pm
namespace Go.Pm
open Go Go.RowKit

/-- The slice value v holds n pieces of k cells, which read as the cells xs; they lie in blocks from lo on, below hi. -/
def Fs (k : Nat) (w : World) (lo hi : Nat) (v : Value) (n : Nat) (xs : List Value) : Prop :=
  xs.length = n * k ∧ ∃ a cap, v = .slice a n cap ∧ n ≤ cap ∧ cap ≤ maxLen ∧ (a = none → cap = 0) ∧ ∀ ad, a = some ad → ∀ i x, xs[i]? = some x → lo ≤ ad.block ∧ ad.block < hi ∧ w.cell? (ad.add i) = some x
theorem Fs.kept {k : Nat} {S : Nat → Prop} {w w' : World} {lo hi : Nat} {v : Value} {n : Nat} {xs : List Value} (h : Fs k w lo hi v n xs) (hk : Kept S w w') (hs : ∀ k, lo ≤ k → k < hi → ¬ S k) : Fs k w' lo hi v n xs := by
  obtain ⟨h0, a, cap, hv, h1, h2, h3, h4⟩ := h
  refine ⟨h0, a, cap, hv, h1, h2, h3, fun ad had i x hx => ?_⟩
  obtain ⟨q1, q2, q3⟩ := h4 ad had i x hx
  refine ⟨q1, q2, ?_⟩
  rw [hk.cell (block_lt_of_cell q3) (by rw [add_block]; exact hs _ q1 q2)]
  exact q3
theorem Fs.wider {k : Nat} {w : World} {lo hi lo' hi' : Nat} {v : Value} {n : Nat} {xs : List Value} (h : Fs k w lo hi v n xs) (h1 : lo' ≤ lo) (h2 : hi ≤ hi') : Fs k w lo' hi' v n xs := by
  obtain ⟨h0, a, cap, hv, g1, g2, g3, g4⟩ := h
  exact ⟨h0, a, cap, hv, g1, g2, g3, fun ad had i x hx => ⟨Nat.le_trans h1 (g4 ad had i x hx).1, Nat.lt_of_lt_of_le (g4 ad had i x hx).2.1 h2, (g4 ad had i x hx).2.2⟩⟩
theorem Fs.nil (k : Nat) (w : World) (lo hi : Nat) : Fs k w lo hi (.slice none 0 0) 0 [] := ⟨by simp, none, 0, rfl, Nat.le_refl _, Nat.zero_le _, fun _ => rfl, fun ad h => by cases h⟩
theorem Fs.lt {k : Nat} {w : World} {lo hi : Nat} {v : Value} {n : Nat} {xs : List Value} (h : Fs k w lo hi v n xs) : Fs k w lo (min hi w.heap.size) v n xs := by
  obtain ⟨h0, a, cap, hv, g1, g2, g3, g4⟩ := h
  refine ⟨h0, a, cap, hv, g1, g2, g3, fun ad had i x hx => ?_⟩
  obtain ⟨q1, q2, q3⟩ := g4 ad had i x hx
  have := block_lt_of_cell q3
  rw [add_block] at this
  exact ⟨q1, by omega, q3⟩
/-- A row that the call owns. -/
theorem Fs.ofRow {k : Nat} {w : World} {base : Nat} {e : TypeId} {v : Value} {n : Nat} {xs : List Value} (h : w.ownsRow base e k v n xs) {hi : Nat} (hh : w.heap.size ≤ hi) : Fs k w base hi v n xs := by
  obtain ⟨h1, h2⟩ := h
  rcases h2 with ⟨rfl, rfl⟩ | ⟨g, cap, cur, rfl, hb, hg, hnc, hcm, hcs, ht⟩
  · have : xs = [] := List.eq_nil_of_length_eq_zero (by simpa using h1)
    subst this
    exact Fs.nil k w _ _
  · refine ⟨h1, some ⟨g, 0, none⟩, cap, rfl, hnc, hcm, (fun h => by cases h), ?_⟩
    intro ad had i x hx
    simp at had
    subst had
    have hlt := lt_of_block hg
    refine ⟨hb, by show g < hi; omega, ?_⟩
    rw [Addr.add_lit, Nat.zero_add, cell_of_row w g i cur e (0, 0) hg]
    rw [← ht, List.getElem?_take] at hx
    split at hx
    · simpa using hx
    · cases hx
/-- What an append at pieces of k cells wants of the program. -/
structure RowTyK (P : Program) (t e : TypeId) (z : Value) (k bytes : Nat) : Prop where
  sl : P.underlying t = some (.slice e)
  info : ∃ i, P.info? e = some i ∧ i.zero = some z ∧ i.size = k ∧ i.bytes = bytes
  cells : z.cells.size = k
  pos : 0 < k
theorem run_append_fs {P : Program} {w : World} {t ty e : TypeId} {z : Value} {k bytes : Nat} (hT : RowTyK P t e z k bytes) {base : Nat} {v : Value} {n : Nat} {xs : List Value} (hown : w.ownsRow base e k v n xs)
    {lo hi : Nat} {u : Value} {m : Nat} {news : List Value} (hu : Fs k w lo hi u m news) (h1 : ∀ x ∈ news, x.oneCell' = true) (h63 : n + m ≤ maxLen) (hbytes : (n + m) * bytes ≤ 140737488355328) (hbase : base ≤ w.heap.size) :
    ∃ v' w', (Builtin.append_ #[t, t] ty #[v, u]).run P w = .ok v' w' ∧ w'.ownsRow base e k v' (n + m) (xs ++ news) ∧ w.grownBy w' v.ownBlock := by
  obtain ⟨i, hi, hz, hs, hb⟩ := hT.info
  obtain ⟨h0, a, cap, rfl, g1, g2, g3, g4⟩ := hu
  cases a with
  | none =>
    have hc := g3 rfl
    subst hc
    obtain rfl : m = 0 := by omega
    have hn : news = [] := List.eq_nil_of_length_eq_zero (by simpa using h0)
    subst hn
    exact ⟨v, w, run_append_owned_none (w := w) base t ty e i k hT.sl hi v n xs hown, by simpa using hown, World.grownBy.refl _ _⟩
  | some ad =>
    obtain ⟨v', w', r1, r2, r3, _⟩ := run_append_own (P := P) w base t ty e i z k bytes hT.sl hi hz hs hb hT.cells hT.pos v n xs hown ad m cap news h0 (fun j u hj => (g4 ad rfl j u hj).2.2) h1 h63 hbytes hbase
    exact ⟨v', w', r1, r2, r3⟩
/-- An append, where the row lies afterwards: in its old block, or in a new one. -/
theorem append_blockK {P : Program} {w w' : World} {t ty e : TypeId} {z : Value} {k bytes : Nat} (hT : RowTyK P t e z k bytes) {base : Nat} {v v' : Value} {n : Nat} {xs : List Value} (hown : w.ownsRow base e k v n xs)
    {lo hi : Nat} {u : Value} {m : Nat} {news : List Value} (hu : Fs k w lo hi u m news) (h1 : ∀ x ∈ news, x.oneCell' = true) (h63 : n + m ≤ maxLen) (hbytes : (n + m) * bytes ≤ 140737488355328)
    (hr : (Builtin.append_ #[t, t] ty #[v, u]).run P w = .ok v' w') : v'.ownBlock = v.ownBlock ∨ v'.ownBlock = some w.heap.size := by
  obtain ⟨i, hi, hz, hs, hb⟩ := hT.info
  obtain ⟨h0, a, cap, rfl, g1, g2, g3, g4⟩ := hu
  cases a with
  | none =>
    have hc := g3 rfl
    subst hc
    obtain rfl : m = 0 := by omega
    rw [run_append_owned_none (w := w) base t ty e i k hT.sl hi v n xs hown] at hr
    simp only [Result.ok.injEq] at hr
    rw [← hr.1]
    exact .inl rfl
  | some ad =>
    have hnews : ∀ j u, news[j]? = some u → w.cell? (ad.add j) = some u := fun j u hj => (g4 ad rfl j u hj).2.2
    have hlen : n + m ≤ 9223372036854775807 := by unfold maxLen at h63; omega
    subst hs
    rcases hown.2 with ⟨rfl, rfl⟩ | ⟨g, cap', cur, rfl, hbg, hg, hnc, hcm, hcs, htake⟩
    · by_cases hm : m = 0
      · subst hm
        simp [Builtin.append_, run_underlying hT.sl, sizeOf, typeInfo, hi, Builtin.lenOf, Builtin.firstCells, loadCells, loadCellsFrom] at hr
        rw [← hr.1]
        exact .inl rfl
      · have h2 := run_append_nil (P := P) w t ty e i z hT.sl hi hz ad m cap news h0 hnews (by omega) (by omega) (by rw [hb]; have hb' := hbytes; simp only [Nat.zero_add] at hb'; omega)
        rw [h2] at hr
        simp only [Result.ok.injEq] at hr
        rw [← hr.1]
        exact .inr rfl
    · by_cases hroom : n + m ≤ cap'
      · have h2 := run_append_room (P := P) w t ty e i hT.sl hi g n cap' cur hg ad m cap news h0 hnews h1 hroom (by rw [h0, hcs, ← Nat.add_mul]; exact Nat.mul_le_mul_right _ hroom)
        rw [h2] at hr
        simp only [Result.ok.injEq] at hr
        rw [← hr.1]
        exact .inl rfl
      · have holds : ∀ j u, xs[j]? = some u → w.cell? ((⟨g, 0, none⟩ : Addr).add j) = some u := hown.cells (g := g) rfl
        have h2 := run_append_grow (P := P) w t ty e i z hT.sl hi hz ⟨g, 0, none⟩ n cap' xs hown.1 holds ad m cap news h0 hnews (by omega) (by omega) (by rw [hb]; exact growslice_fits (by omega) hbytes)
        rw [h2] at hr
        simp only [Result.ok.injEq] at hr
        rw [← hr.1]
        exact .inr rfl

/-! ### Items -/
def itC (x : It) : List Value := x.i.map u8v ++ x.v.map u8v
def Full (l : List It) : Prop := ∀ x ∈ l, x.i.length = 32 ∧ x.v.length = 32
def itsC (l : List It) : List Value := l.flatMap itC
theorem itC_len {x : It} (h : x.i.length = 32 ∧ x.v.length = 32) : (itC x).length = 64 := by simp [itC, h.1, h.2]
theorem itsC_len : ∀ {l : List It}, Full l → (itsC l).length = l.length * 64
  | [], _ => by simp [itsC]
  | x :: l, h => by
    have h1 := itC_len (h x (List.mem_cons_self ..))
    have h2 := itsC_len (l := l) (fun y hy => h y (List.mem_cons_of_mem _ hy))
    unfold itsC at h2 ⊢
    simp only [List.flatMap_cons, List.length_append, List.length_cons, h1, h2]
    omega
theorem itsC_get : ∀ {l : List It}, Full l → ∀ {i : Nat} {x : It}, l[i]? = some x → ∀ {j : Nat} {c : Value}, (itC x)[j]? = some c → (itsC l)[i * 64 + j]? = some c
  | [], _, i, x, h, _, _, _ => by simp at h
  | y :: l, h, 0, x, hx, j, c, hc => by
    obtain rfl : y = x := by simpa using hx
    have hj : j < (itC y).length := (List.getElem?_eq_some_iff.1 hc).1
    unfold itsC
    rw [List.flatMap_cons, List.getElem?_append_left (by omega)]
    simpa using hc
  | y :: l, h, i + 1, x, hx, j, c, hc => by
    have h1 := itC_len (h y (List.mem_cons_self ..))
    have h2 := itsC_get (l := l) (fun z hz => h z (List.mem_cons_of_mem _ hz)) (i := i) (x := x) (by simpa using hx) hc
    unfold itsC at h2 ⊢
    rw [List.flatMap_cons, List.getElem?_append_right (by omega), h1, show (i + 1) * 64 + j - 64 = i * 64 + j by omega]
    exact h2
theorem itsC_append (a b : List It) : itsC (a ++ b) = itsC a ++ itsC b := by simp [itsC]
theorem itsC_one (l : List It) : ∀ x ∈ itsC l, x.oneCell' = true := by
  intro x hx
  unfold itsC at hx
  obtain ⟨y, _, hy⟩ := List.mem_flatMap.1 hx
  unfold itC at hy
  rcases List.mem_append.1 hy with h | h
  · exact u8v_one _ x h
  · exact u8v_one _ x h
/-- The []api.Item v reads as the items l. -/
def Its (w : World) (lo hi : Nat) (v : Value) (l : List It) : Prop := Full l ∧ Fs 64 w lo hi v l.length (itsC l)
/-- .. that the call owns. -/
def Ito (e : TypeId) (w : World) (base : Nat) (v : Value) (l : List It) : Prop := Full l ∧ w.ownsRow base e 64 v l.length (itsC l)
theorem Its.kept {S : Nat → Prop} {w w' : World} {lo hi : Nat} {v : Value} {l : List It} (h : Its w lo hi v l) (hk : Kept S w w') (hs : ∀ k, lo ≤ k → k < hi → ¬ S k) : Its w' lo hi v l := ⟨h.1, h.2.kept hk hs⟩
theorem Its.wider {w : World} {lo hi lo' hi' : Nat} {v : Value} {l : List It} (h : Its w lo hi v l) (h1 : lo' ≤ lo) (h2 : hi ≤ hi') : Its w lo' hi' v l := ⟨h.1, h.2.wider h1 h2⟩
theorem Its.nil (w : World) (lo hi : Nat) : Its w lo hi (.slice none 0 0) [] := ⟨fun _ h => by simp at h, Fs.nil ..⟩
theorem Ito.nil (e : TypeId) (w : World) (base : Nat) : Ito e w base (.slice none 0 0) [] := ⟨fun _ h => by simp at h, World.ownsRow_nil w base e 64⟩
theorem Ito.its {e : TypeId} {w : World} {base : Nat} {v : Value} {l : List It} (h : Ito e w base v l) {hi : Nat} (hh : w.heap.size ≤ hi) : Its w base hi v l := ⟨h.1, Fs.ofRow h.2 hh⟩
theorem Its.form {w : World} {lo hi : Nat} {v : Value} {l : List It} (h : Its w lo hi v l) : ∃ a cap, v = .slice a l.length cap ∧ l.length ≤ cap ∧ cap ≤ maxLen ∧ (a = none → cap = 0) := by
  obtain ⟨_, _, a, cap, hv, h1, h2, h3, _⟩ := h
  exact ⟨a, cap, hv, h1, h2, h3⟩
/-- The cells of one of them. -/
theorem Its.cells {w : World} {lo hi : Nat} {ad : Addr} {n cap : Nat} {l : List It} (h : Its w lo hi (.slice (some ad) n cap) l) {i : Nat} {x : It} (hx : l[i]? = some x) {j : Nat} {c : Value} (hc : (itC x)[j]? = some c) :
    lo ≤ ad.block ∧ ad.block < hi ∧ w.cell? (ad.add (i * 64 + j)) = some c := by
  obtain ⟨hf, _, a, cap', hv, _, _, _, h4⟩ := h
  cases hv
  exact h4 ad rfl _ c (itsC_get hf hx hc)
/-- One of them, loaded. -/
theorem Its.load {P : Program} {ty : TypeId} {w : World} {lo hi : Nat} {ad : Addr} {n cap : Nat} {l : List It} (h : Its w lo hi (.slice (some ad) n cap) l) (hT : AggTy P ty 64) {i : Nat} {x : It} (hx : l[i]? = some x) :
    (Instr.loadAt ty (.pointer (some (ad.add (i * 64))))).run P w = .ok (.agg (itC x).toArray) w := by
  have h64 : (itC x).length = 64 := itC_len (h.1 x (List.mem_of_getElem? hx))
  have hl := run_loadCells_list (P := P) w (ad.add (i * 64)) (itC x) (fun j v hv => by rw [add_add']; exact (h.cells hx hv).2.2)
  obtain ⟨d, hu, hd⟩ := hT.ag
  have hi := hT.size
  cases hq : P.info? ty with
  | none => simp [hq] at hi
  | some inf =>
    have hs : inf.size = (itC x).length := by rw [hq] at hi; simpa [h64] using hi
    have hagg : (isAgg ty).run P w = .ok true w := by
      unfold isAgg
      rw [Sem.run_bind, run_underlying hu w]
      cases d <;> simp_all [aggD]
    simp [Instr.loadAt, Instr.sureAddr, loadVar, Sem.run_bind, hagg, sizeOf, typeInfo, hq, hs, hl]
/-! ### Items of the call's own -/
theorem Ito.form {e : TypeId} {w : World} {base : Nat} {v : Value} {l : List It} (h : Ito e w base v l) : ∃ a cap, v = .slice a l.length cap := by
  rcases h.2.2 with ⟨rfl, h0⟩ | ⟨g, cap, cur, rfl, _⟩
  · exact ⟨none, 0, by rw [h0]⟩
  · exact ⟨_, _, rfl⟩
theorem Ito.kept {e : TypeId} {w w' : World} {base : Nat} {v : Value} {l : List It} {S : Nat → Prop} (h : Ito e w base v l) (hk : Kept S w w') (hs : ∀ k, v.ownBlock = some k → ¬ S k) : Ito e w' base v l := by
  refine ⟨h.1, h.2.1, ?_⟩
  rcases h.2.2 with h2 | ⟨g, cap, cur, hv, hb, hg, r⟩
  · exact .inl h2
  · refine .inr ⟨g, cap, cur, hv, hb, ?_, r⟩
    rw [hk.block g (lt_of_block hg) (hs g (by rw [hv]; rfl))]
    exact hg
theorem Ito.base {e : TypeId} {w : World} {base base' : Nat} {v : Value} {l : List It} (h : Ito e w base v l) (hb : base' ≤ base) : Ito e w base' v l := by
  refine ⟨h.1, h.2.1, ?_⟩
  rcases h.2.2 with h2 | ⟨g, cap, cur, hv, hg, r⟩
  · exact .inl h2
  · exact .inr ⟨g, cap, cur, hv, Nat.le_trans hb hg, r⟩
theorem Ito.own {e : TypeId} {w : World} {base : Nat} {v : Value} {l : List It} (h : Ito e w base v l) : ∀ k, v.ownBlock = some k → base ≤ k ∧ k < w.heap.size := World.ownsRow.lt h.2
theorem Ito.alloc {e : TypeId} {w : World} {base : Nat} {v : Value} {l : List It} (h : Ito e w base v l) (o : Obj) : Ito e (w.alloc o) base v l := ⟨h.1, World.ownsRow.alloc h.2 o⟩
/-- An append of items to items of the call's own. -/
theorem run_append_ito {P : Program} {w : World} {t ty e : TypeId} {z : Value} (hT : RowTyK P t e z 64 64) {base : Nat} {v : Value} {l : List It} (hown : Ito e w base v l) {lo hi : Nat} {u : Value} {m : List It} (hu : Its w lo hi u m)
    (h63 : l.length + m.length ≤ 1099511627776) (hbase : base ≤ w.heap.size) :
    ∃ a' n' c' w', (Builtin.append_ #[t, t] ty #[v, u]).run P w = .ok (.slice a' n' c') w' ∧ Ito e w' base (.slice a' n' c') (l ++ m) ∧ Kept (Of v) w w' ∧ (∀ k, (Value.slice a' n' c').ownBlock = some k → v.ownBlock = some k ∨ k = w.heap.size) := by
  obtain ⟨v', w', hr, r2, r3⟩ := run_append_fs (w := w) (ty := ty) hT hown.2 hu.2 (itsC_one m) (by unfold maxLen; omega) (by omega) hbase
  have hblk := append_blockK hT hown.2 hu.2 (itsC_one m) (by unfold maxLen; omega) (by omega) hr
  have hb : Ito e w' base v' (l ++ m) := ⟨fun x hx => (List.mem_append.1 hx).elim (hown.1 x) (hu.1 x), by rw [List.length_append, itsC_append]; exact r2⟩
  obtain ⟨a', cap', rfl⟩ := hb.form
  refine ⟨_, _, _, w', hr, hb, Kept.ofGrown r3, fun k hk => ?_⟩
  rcases hblk with h | h
  · left; rw [← h]; exact hk
  · right; rw [h] at hk; exact (Option.some.inj hk).symm
/-- A new row of one item ('append(a, x)'). -/
theorem Its.one (w : World) (t : TypeId) (x : It) (h : x.i.length = 32 ∧ x.v.length = 32) : Its (w.alloc (.cells (itC x).toArray t)) w.heap.size (w.heap.size + 1) (.slice (some ⟨w.heap.size, 0, none⟩) 1 1) [x] := by
  refine ⟨by simpa [Full] using h, by simp [itsC, itC_len h], some ⟨w.heap.size, 0, none⟩, 1, rfl, Nat.le_refl _, by unfold maxLen; omega, (fun h => by cases h), ?_⟩
  intro ad had i c hc
  simp only [Option.some.injEq] at had
  subst had
  refine ⟨Nat.le_refl _, by simp, ?_⟩
  rw [Addr.add_lit, Nat.zero_add, World.cell?_alloc_new]
  simpa [itsC] using hc
/-- Where they lie. -/
theorem Its.ne {w : World} {lo hi : Nat} {a : Option Addr} {n cap : Nat} {l : List It} (h : Its w lo hi (.slice a n cap) l) (hn : 0 < l.length) :
    ∃ b o, a = some ⟨b, o, none⟩ ∧ lo ≤ b ∧ b < hi ∧ b < w.heap.size ∧ ∀ (i : Nat) (x : It), l[i]? = some x → w.rangeAt b (o + i * 64) (itC x) := by
  obtain ⟨hf, hl, a', cap', hv, g1, g2, g3, g4⟩ := h
  injection hv with e1 e2 e3
  subst e1 e2 e3
  cases a with
  | none => have := g3 rfl; omega
  | some ad =>
    obtain ⟨b, o, sp⟩ := ad
    have h0 := g4 _ rfl 0 _ (List.getElem?_eq_getElem (by omega))
    have hsp : sp = none := by
      have h2 := h0.2.2
      simp only [Addr.add_zero'] at h2
      unfold World.cell? at h2
      split at h2
      · cases sp with
        | none => rfl
        | some s => simp at h2
      · cases h2
    subst hsp
    refine ⟨b, o, rfl, h0.1, h0.2.1, by simpa [add_block] using block_lt_of_cell h0.2.2, fun i x hx j c hc => ?_⟩
    have h1 := (g4 _ rfl _ c (itsC_get hf hx hc)).2.2
    rw [Addr.add_mid] at h1
    rw [Nat.add_assoc]
    exact h1
theorem rangeAt_take {w : World} {b o : Nat} {cs : List Value} (h : w.rangeAt b o cs) (n : Nat) : w.rangeAt b o (cs.take n) := fun j v hv => h j v (by
  rw [List.getElem?_take] at hv
  split at hv
  · exact hv
  · cases hv)
/-- An append of items, for the walk. -/
theorem wpList_append_ito {P : Program} {ops : Array Oper} {rest : List Oper} {o : Oper} {a : Act} {w : World} {Q : Exit → Act → World → Prop} (hgd : o.guard = none) (s x : Operand) (t : TypeId)
    (ho : o.op = .call { callee := .builtin .append, args := #[s, x], argTypes := #[t, t] }) {e : TypeId} {z : Value} (hT : RowTyK P t e z 64 64)
    {v : Value} (hs : a.eval s = v) {u : Value} (hx : a.eval x = u) {base : Nat} {l : List It} (hown : Ito e w base v l) {lo hi : Nat} {m : List It} (hu : Its w lo hi u m)
    (h63 : l.length + m.length ≤ 1099511627776) (hbase : base ≤ w.heap.size)
    (h : ∀ a' n' cap' w', Ito e w' base (.slice a' n' cap') (l ++ m) → Kept (Of v) w w' → (∀ k, (Value.slice a' n' cap').ownBlock = some k → v.ownBlock = some k ∨ k = w.heap.size) → wpList P ops Q rest (a.put o.dst (.slice a' n' cap')) w') : wpList P ops Q (o :: rest) a w := by
  refine wpList_plain hgd fun K hK' => ?_
  obtain ⟨a', n', c', w', hr, r2, r3, r4⟩ := run_append_ito (w := w) (ty := o.type) hT hown hu h63 hbase
  unfold Oper.wp
  simp only [execOp, ho, resolve, invoke, builtin, Sem.run_bind, Sem.run_pure, Result.andThen_ok, List.map_toArray, List.map_cons, List.map_nil, hs, hx, hr]
  exact hK' _ _ (h a' n' c' w' r2 r3 r4)
/-- Cells in the midst of a row, loaded. -/
theorem wpList_load_at {P : Program} {ops : Array Oper} {rest : List Oper} {op : Oper} {a : Act} {w : World} {Q : Exit → Act → World → Prop} (hgd : op.guard = none) (ty : TypeId) (x : Operand) (ho : op.op = .load ty x)
    {b o : Nat} (hx : a.eval x = .pointer (some ⟨b, o, none⟩)) {cs : List Value} (hc : w.rangeAt b o cs) (hT : AggTy P ty cs.length)
    (h : wpList P ops Q rest (a.put op.dst (.agg cs.toArray)) w) : wpList P ops Q (op :: rest) a w := by
  obtain ⟨d, hu, hd⟩ := hT.ag
  exact wpList_load_mid hgd ty x ho b o hx cs d hc hu (by cases d <;> first | rfl | exact hd) hT.size h
theorem fill_one (k : Nat) (z A : Array Value) (hz : z.size = k) (hA : A.size = k) : Instr.fill (fun i => some (i * k, k)) z [(0, .agg A)] = some A := by
  have ha := fold_put 0 A.toList 0 z (by simp; omega)
  have e1 : A.zipIdx.foldl (fun cs (c, j) => cs.setIfInBounds (0 + j) c) z = A := by
    rw [← Array.foldl_toList, Array.toList_zipIdx]
    refine ha.trans ?_
    apply Array.ext'
    simp [hA, hz]
  rw [fill_cons (v := .agg A) (off := 0) (size := k) (by simp) (show (Value.agg A).cells.size = k from hA) (by show 0 + A.size ≤ z.size; omega)]
  rw [show (Value.agg A).cells = A from rfl, e1]
  rfl
/-- A new row of one item, for the walk. -/
theorem wpList_one_item {P : Program} {ops : Array Oper} {rest : List Oper} {o : Oper} {a : Act} {w : World} {Q : Exit → Act → World → Prop} (hg : o.guard = none) (t : TypeId) (y : Operand) (ho : o.op = .buildSlice t 1 #[(0, y)])
    {e : TypeId} {z : Value} {k bytes : Nat} (hT : RowTyK P t e z k bytes) (hk : k ≤ 16777216) {A : Array Value} (hy : a.eval y = .agg A) (hA : A.size = k)
    (h : wpList P ops Q rest (a.put o.dst (.slice (some ⟨w.heap.size, 0, none⟩) 1 1)) (w.alloc (.cells A e))) : wpList P ops Q (o :: rest) a w := by
  obtain ⟨i, hi, hz, hs, hb⟩ := hT.info
  have hp := hT.pos
  refine wpList_buildSlice hg t e 1 #[(0, y)] ho A i z hT.sl hi hz (by omega) (by omega) ?_ h
  rw [hs, show ((#[(0, y)] : Array (Nat × Operand)).map fun (i, x) => (i, a.eval x)).toList = [(0, .agg A)] by simp [hy]]
  exact fill_one k _ A (by simp) hA
/-! ### One of them, stored over -/
theorem itsC_set : ∀ {l : List It}, Full l → ∀ {k : Nat} (x : It), k < l.length → x.i.length = 32 ∧ x.v.length = 32 → itsC (l.set k x) = (itsC l).take (k * 64) ++ itC x ++ (itsC l).drop (k * 64 + 64)
  | [], _, k, x, hk, _ => by simp at hk
  | y :: l, h, 0, x, _, hx => by
    have h1 := itC_len (h y (List.mem_cons_self ..))
    simp [itsC, List.drop_left' h1]
  | y :: l, h, k + 1, x, hk, hx => by
    have h1 := itC_len (h y (List.mem_cons_self ..))
    have h2 := itsC_set (l := l) (fun z hz => h z (List.mem_cons_of_mem _ hz)) (k := k) x (by simpa using hk) hx
    have t1 : (itC y).take ((k + 1) * 64) = itC y := List.take_of_length_le (by omega)
    have d1 : (itC y).drop ((k + 1) * 64 + 64) = [] := List.drop_of_length_le (by omega)
    unfold itsC at h2 ⊢
    rw [List.set_cons_succ, List.flatMap_cons, h2, List.flatMap_cons, List.take_append, List.drop_append, t1, d1, h1,
      show (k + 1) * 64 - 64 = k * 64 by omega, show (k + 1) * 64 + 64 - 64 = k * 64 + 64 by omega]
    simp
/-- One of the call's own items, stored over, for the walk. -/
theorem wpList_store_item {P : Program} {ops : Array Oper} {rest : List Oper} {op : Oper} {a : Act} {w : World} {Q : Exit → Act → World → Prop} (hgd : op.guard = none) (ty : TypeId) (x y : Operand) (ho : op.op = .store ty x y)
    {e : TypeId} {base g n cap : Nat} {l : List It} (hown : Ito e w base (.slice (some ⟨g, 0, none⟩) n cap) l) {k : Nat} (hk : k < l.length) {v : It} (hv : v.i.length = 32 ∧ v.v.length = 32)
    (hx : a.eval x = .pointer (some ⟨g, k * 64, none⟩)) (hy : a.eval y = .agg (itC v).toArray) (hT : AggTy P ty 64)
    (h : ∀ w', Ito e w' base (.slice (some ⟨g, 0, none⟩) n cap) (l.set k v) → Kept (Just g) w w' → wpList P ops Q rest (a.put op.dst undef) w') : wpList P ops Q (op :: rest) a w := by
  have h64 := itC_len hv
  obtain ⟨hf, hlen, h2⟩ := hown
  rcases h2 with ⟨h3, _⟩ | ⟨g', cap', cur, hvv, hb, hg, hnc, hcm, hcs, htake⟩
  · cases h3
  injection hvv with e1 e2 e3
  obtain rfl : g = g' := by simpa using e1
  subst e2 e3
  have hblk : Blk w g cur e := hg
  have hL := itsC_len hf
  have hfit : k * 64 + 64 ≤ cur.size := by omega
  refine wpList_store_mid hgd ty x y ho g (k * 64) (itC v).toArray hx hy (fun j hj => ?_) (by simpa [h64] using hT.size) (all_oneCell_toArray (fun c hc => itsC_one [v] c (by simpa [itsC] using hc))) ?_
  · simp only [List.size_toArray, h64] at hj
    refine ⟨?_, hblk.free _⟩
    rw [hblk.cell]
    simp [show k * 64 + j < cur.size by omega]
  · refine h _ ⟨?_, ?_, ?_⟩ (kept_setCells (S := Just g) (fun _ => rfl) _ _ _ (Kept.refl _ _))
    · intro z hz
      rcases List.mem_or_eq_of_mem_set hz with h | rfl
      · exact hf z h
      · exact hv
    · rw [itsC_len (fun z hz => by
        rcases List.mem_or_eq_of_mem_set hz with h | rfl
        · exact hf z h
        · exact hv)]
    · refine .inr ⟨g, cap, _, by simp, hb, Blk.setCells (itC v) (k * 64) w cur hblk (by omega), by simpa using hnc, hcm, ?_, ?_⟩
      · simp only [List.size_toArray, List.length_append, List.length_take, List.length_drop, Array.length_toList, h64]
        omega
      · rw [itsC_set hf v hk hv, ← htake, List.length_set]
        have q1 : (cur.toList.take (l.length * 64)).take (k * 64) = cur.toList.take (k * 64) := by rw [List.take_take, Nat.min_eq_left (by omega)]
        rw [q1, h64, List.append_assoc, List.take_append, List.append_assoc, List.take_of_length_le (by simp; omega)]
        congr 1
        rw [List.take_append, List.take_of_length_le (by simp [h64]; omega)]
        congr 1
        rw [List.take_drop]
        congr 2
        simp [h64]
        omega
/-! ### Cuts -/
theorem Fs.sliced {k : Nat} {w : World} {lo hi : Nat} {a : Option Addr} {n cap : Nat} {xs : List Value} (h : Fs k w lo hi (.slice a n cap) n xs) (l m : Nat) (hl : l ≤ m) (hm : m ≤ n) :
    Fs k w lo hi (.slice (if cap = l then a else a.map (·.add (l * k))) (m - l) (cap - l)) (m - l) ((xs.take (m * k)).drop (l * k)) := by
  obtain ⟨h0, a', cap', hv, g1, g2, g3, g4⟩ := h
  injection hv with e1 e2 e3
  subst e1 e3
  have h1 : l * k ≤ m * k := Nat.mul_le_mul_right _ hl
  have h2 : m * k ≤ n * k := Nat.mul_le_mul_right _ hm
  refine ⟨by rw [List.length_drop, List.length_take, h0, Nat.min_eq_left h2, Nat.sub_mul], _, cap - l, rfl, by omega, by omega, ?_, ?_⟩
  · intro hn
    have hnone : a = none := by
      by_cases hc : cap = l
      · rw [if_pos hc] at hn; exact hn
      · rw [if_neg hc] at hn; cases a with
        | none => rfl
        | some ad => simp at hn
    have := g3 hnone
    omega
  · intro ad had i x hx
    have hi : l * k + i < m * k ∧ xs[l * k + i]? = some x := by
      rw [List.getElem?_drop, List.getElem?_take] at hx
      split at hx
      · exact ⟨by assumption, hx⟩
      · cases hx
    have hne : ¬ cap = l := by
      intro e
      have : m ≤ l := by omega
      have := Nat.mul_le_mul_right k this
      omega
    rw [if_neg hne] at had
    cases a with
    | none => simp at had
    | some ad0 =>
      simp at had
      subst had
      obtain ⟨q1, q2, q3⟩ := g4 ad0 rfl (l * k + i) x hi.2
      rw [add_block, add_add']
      exact ⟨q1, q2, q3⟩
theorem itsC_take : ∀ {l : List It}, Full l → ∀ (m : Nat), itsC (l.take m) = (itsC l).take (m * 64)
  | [], _, m => by simp [itsC]
  | x :: l, _, 0 => by simp [itsC]
  | x :: l, h, m + 1 => by
    have h1 := itC_len (h x (List.mem_cons_self ..))
    have h2 := itsC_take (l := l) (fun z hz => h z (List.mem_cons_of_mem _ hz)) m
    have t1 : (itC x).take ((m + 1) * 64) = itC x := List.take_of_length_le (by omega)
    unfold itsC at h2 ⊢
    rw [List.take_succ_cons, List.flatMap_cons, h2, List.flatMap_cons, List.take_append, t1, h1, show (m + 1) * 64 - 64 = m * 64 by omega]
theorem itsC_drop : ∀ {l : List It}, Full l → ∀ (m : Nat), itsC (l.drop m) = (itsC l).drop (m * 64)
  | [], _, m => by simp [itsC]
  | x :: l, _, 0 => by simp [itsC]
  | x :: l, h, m + 1 => by
    have h1 := itC_len (h x (List.mem_cons_self ..))
    have h2 := itsC_drop (l := l) (fun z hz => h z (List.mem_cons_of_mem _ hz)) m
    have d1 : (itC x).drop ((m + 1) * 64) = [] := List.drop_of_length_le (by omega)
    unfold itsC at h2 ⊢
    rw [List.drop_succ_cons, h2, List.flatMap_cons, List.drop_append, d1, h1, show (m + 1) * 64 - 64 = m * 64 by omega]
    simp
/-- 's[l:h]' at items. -/
theorem Its.sliced {w : World} {lo hi : Nat} {a : Option Addr} {n cap : Nat} {xs : List It} (h : Its w lo hi (.slice a n cap) xs) (l m : Nat) (hl : l ≤ m) (hm : m ≤ n) :
    Its w lo hi (.slice (if cap = l then a else a.map (·.add (l * 64))) (m - l) (cap - l)) ((xs.take m).drop l) := by
  obtain ⟨a', c', hv, _⟩ := h.form
  injection hv with e1 e2 e3
  subst e2
  have hf : Full (xs.take m) := fun z hz => h.1 z (List.mem_of_mem_take hz)
  refine ⟨fun z hz => hf z (List.mem_of_mem_drop hz), ?_⟩
  have h1 := Fs.sliced h.2 l m hl hm
  rw [itsC_drop hf, itsC_take h.1]
  have e : ((xs.take m).drop l).length = m - l := by simp; omega
  rw [e]
  exact h1
theorem exec_one_item {P : Program} {o : Oper} {ev : Operand → Value} {w : World} (t : TypeId) (y : Operand) (ho : o.op = .buildSlice t 1 #[(0, y)])
    {e : TypeId} {z : Value} {k bytes : Nat} (hT : RowTyK P t e z k bytes) (hk : k ≤ 16777216) {A : Array Value} (hy : ev y = .agg A) (hA : A.size = k) :
    (execOp ev o).run P w = .ok (.value (.slice (some ⟨w.heap.size, 0, none⟩) 1 1)) (w.alloc (.cells A e)) := by
  obtain ⟨i, hi, hz, hs, hb⟩ := hT.info
  have hp := hT.pos
  have hr := run_buildSlice (P := P) w t e 1 #[(0, .agg A)] A i z hT.sl hi hz (by omega) (by omega) (by rw [hs]; exact fill_one k _ A (by simp) hA)
  unfold execOp
  simp only [ho, Sem.run_bind]
  rw [show (#[(0, y)] : Array (Nat × Operand)).map (fun (i, x) => (i, ev x)) = #[(0, .agg A)] by simp [hy]]
  rw [hr]
  rfl
end Go.Pm
namespace Go.Pm
open Go Go.RowKit

/-- Each piece has k cells. -/
def Each (k : Nat) (xs : List (List Value)) : Prop := ∀ x ∈ xs, x.length = k
theorem Each.nil (k : Nat) : Each k [] := fun _ h => by simp at h
theorem Each.one {k : Nat} {x : List Value} (h : x.length = k) : Each k [x] := fun y hy => by simp at hy; subst hy; exact h
theorem Each.append {k : Nat} {a b : List (List Value)} (ha : Each k a) (hb : Each k b) : Each k (a ++ b) := fun x hx => (List.mem_append.1 hx).elim (ha x) (hb x)
theorem Each.tail {k : Nat} {x : List Value} {a : List (List Value)} (h : Each k (x :: a)) : Each k a := fun y hy => h y (List.mem_cons_of_mem _ hy)
theorem Each.take {k : Nat} {a : List (List Value)} (h : Each k a) (n : Nat) : Each k (a.take n) := fun y hy => h y (List.mem_of_mem_take hy)
theorem Each.drop {k : Nat} {a : List (List Value)} (h : Each k a) (n : Nat) : Each k (a.drop n) := fun y hy => h y (List.mem_of_mem_drop hy)
theorem flat_len {k : Nat} : ∀ {xs : List (List Value)}, Each k xs → xs.flatten.length = xs.length * k
  | [], _ => by simp
  | x :: xs, h => by
    have h1 := h x (List.mem_cons_self ..)
    have h2 := flat_len h.tail
    simp only [List.flatten_cons, List.length_append, List.length_cons, h1, h2, Nat.add_mul]
    omega
theorem flat_get {k : Nat} : ∀ {xs : List (List Value)}, Each k xs → ∀ {i : Nat} {x : List Value}, xs[i]? = some x → ∀ {j : Nat} {c : Value}, x[j]? = some c → xs.flatten[i * k + j]? = some c
  | [], _, i, x, h, _, _, _ => by simp at h
  | y :: xs, h, 0, x, hx, j, c, hc => by
    obtain rfl : y = x := by simpa using hx
    have hj : j < y.length := (List.getElem?_eq_some_iff.1 hc).1
    rw [List.flatten_cons, List.getElem?_append_left (by omega)]
    simpa using hc
  | y :: xs, h, i + 1, x, hx, j, c, hc => by
    have h1 := h y (List.mem_cons_self ..)
    have h2 := flat_get h.tail (i := i) (x := x) (by simpa using hx) hc
    rw [List.flatten_cons, List.getElem?_append_right (by rw [h1, Nat.add_mul]; omega), h1, show (i + 1) * k + j - k = i * k + j by rw [Nat.add_mul]; omega]
    exact h2
theorem flat_take {k : Nat} : ∀ {xs : List (List Value)}, Each k xs → ∀ m, (xs.take m).flatten = xs.flatten.take (m * k)
  | [], _, m => by simp
  | x :: xs, _, 0 => by simp
  | x :: xs, h, m + 1 => by
    have h1 := h x (List.mem_cons_self ..)
    have h2 := flat_take h.tail m
    have e : (m + 1) * k = m * k + k := by rw [Nat.add_mul]; omega
    rw [List.take_succ_cons, List.flatten_cons, h2, List.flatten_cons, List.take_append, List.take_of_length_le (l := x) (by omega), h1, e, Nat.add_sub_cancel]
theorem flat_drop {k : Nat} : ∀ {xs : List (List Value)}, Each k xs → ∀ m, (xs.drop m).flatten = xs.flatten.drop (m * k)
  | [], _, m => by simp
  | x :: xs, _, 0 => by simp
  | x :: xs, h, m + 1 => by
    have h1 := h x (List.mem_cons_self ..)
    have h2 := flat_drop h.tail m
    have e : (m + 1) * k = m * k + k := by rw [Nat.add_mul]; omega
    rw [List.drop_succ_cons, h2, List.flatten_cons, List.drop_append, List.drop_of_length_le (l := x) (by omega), h1, e, Nat.add_sub_cancel, List.nil_append]

/-- The slice v holds the pieces xs; they lie in blocks from lo on, below hi. -/
def Ps (k : Nat) (w : World) (lo hi : Nat) (v : Value) (xs : List (List Value)) : Prop := Each k xs ∧ Fs k w lo hi v xs.length xs.flatten
/-- .. that the call owns. -/
def Po (k : Nat) (e : TypeId) (w : World) (base : Nat) (v : Value) (xs : List (List Value)) : Prop := Each k xs ∧ w.ownsRow base e k v xs.length xs.flatten
theorem Ps.kept {k : Nat} {S : Nat → Prop} {w w' : World} {lo hi : Nat} {v : Value} {xs : List (List Value)} (h : Ps k w lo hi v xs) (hk : Kept S w w') (hs : ∀ k, lo ≤ k → k < hi → ¬ S k) : Ps k w' lo hi v xs := ⟨h.1, h.2.kept hk hs⟩
theorem Ps.wider {k : Nat} {w : World} {lo hi lo' hi' : Nat} {v : Value} {xs : List (List Value)} (h : Ps k w lo hi v xs) (h1 : lo' ≤ lo) (h2 : hi ≤ hi') : Ps k w lo' hi' v xs := ⟨h.1, h.2.wider h1 h2⟩
theorem Ps.lt {k : Nat} {w : World} {lo hi : Nat} {v : Value} {xs : List (List Value)} (h : Ps k w lo hi v xs) : Ps k w lo (min hi w.heap.size) v xs := ⟨h.1, h.2.lt⟩
theorem Ps.nil (k : Nat) (w : World) (lo hi : Nat) : Ps k w lo hi (.slice none 0 0) [] := ⟨Each.nil k, Fs.nil ..⟩
theorem Po.nil (k : Nat) (e : TypeId) (w : World) (base : Nat) : Po k e w base (.slice none 0 0) [] := ⟨Each.nil k, World.ownsRow_nil w base e k⟩
theorem Po.ps {k : Nat} {e : TypeId} {w : World} {base : Nat} {v : Value} {xs : List (List Value)} (h : Po k e w base v xs) {hi : Nat} (hh : w.heap.size ≤ hi) : Ps k w base hi v xs := ⟨h.1, Fs.ofRow h.2 hh⟩
theorem Ps.form {k : Nat} {w : World} {lo hi : Nat} {v : Value} {xs : List (List Value)} (h : Ps k w lo hi v xs) : ∃ a cap, v = .slice a xs.length cap ∧ xs.length ≤ cap ∧ cap ≤ 9223372036854775807 ∧ (a = none → cap = 0) := by
  obtain ⟨_, _, a, cap, hv, h1, h2, h3, _⟩ := h
  exact ⟨a, cap, hv, h1, h2, h3⟩
theorem Po.form {k : Nat} {e : TypeId} {w : World} {base : Nat} {v : Value} {xs : List (List Value)} (h : Po k e w base v xs) : ∃ a cap, v = .slice a xs.length cap := by
  rcases h.2.2 with ⟨rfl, h0⟩ | ⟨g, cap, cur, rfl, _⟩
  · exact ⟨none, 0, by rw [h0]⟩
  · exact ⟨_, _, rfl⟩
theorem Po.kept {k : Nat} {e : TypeId} {w w' : World} {base : Nat} {v : Value} {xs : List (List Value)} {S : Nat → Prop} (h : Po k e w base v xs) (hk : Kept S w w') (hs : ∀ k, v.ownBlock = some k → ¬ S k) : Po k e w' base v xs := by
  refine ⟨h.1, h.2.1, ?_⟩
  rcases h.2.2 with h2 | ⟨g, cap, cur, hv, hb, hg, r⟩
  · exact .inl h2
  · refine .inr ⟨g, cap, cur, hv, hb, ?_, r⟩
    rw [hk.block g (lt_of_block hg) (hs g (by rw [hv]; rfl))]
    exact hg
theorem Po.base {k : Nat} {e : TypeId} {w : World} {base base' : Nat} {v : Value} {xs : List (List Value)} (h : Po k e w base v xs) (hb : base' ≤ base) : Po k e w base' v xs := by
  refine ⟨h.1, h.2.1, ?_⟩
  rcases h.2.2 with h2 | ⟨g, cap, cur, hv, hg, r⟩
  · exact .inl h2
  · exact .inr ⟨g, cap, cur, hv, Nat.le_trans hb hg, r⟩
theorem Po.own {k : Nat} {e : TypeId} {w : World} {base : Nat} {v : Value} {xs : List (List Value)} (h : Po k e w base v xs) : ∀ k, v.ownBlock = some k → base ≤ k ∧ k < w.heap.size := World.ownsRow.lt h.2
theorem Po.alloc {k : Nat} {e : TypeId} {w : World} {base : Nat} {v : Value} {xs : List (List Value)} (h : Po k e w base v xs) (o : Obj) : Po k e (w.alloc o) base v xs := ⟨h.1, World.ownsRow.alloc h.2 o⟩
/-- Where they lie. -/
theorem Ps.ne {k : Nat} (hk : 0 < k) {w : World} {lo hi : Nat} {a : Option Addr} {n cap : Nat} {xs : List (List Value)} (h : Ps k w lo hi (.slice a n cap) xs) (hn : 0 < xs.length) :
    ∃ b o, a = some ⟨b, o, none⟩ ∧ lo ≤ b ∧ b < hi ∧ b < w.heap.size ∧ ∀ (i : Nat) (x : List Value), xs[i]? = some x → w.rangeAt b (o + i * k) x := by
  obtain ⟨hf, hl, a', cap', hv, g1, g2, g3, g4⟩ := h
  injection hv with e1 e2 e3
  subst e1 e2 e3
  cases a with
  | none => have := g3 rfl; omega
  | some ad =>
    obtain ⟨b, o, sp⟩ := ad
    have hp : 0 < xs.flatten.length := by rw [hl]; exact Nat.mul_pos hn hk
    have h0 := g4 _ rfl 0 _ (List.getElem?_eq_getElem hp)
    have hsp : sp = none := by
      have h2 := h0.2.2
      simp only [Addr.add_zero'] at h2
      unfold World.cell? at h2
      split at h2
      · cases sp with
        | none => rfl
        | some s => simp at h2
      · cases h2
    subst hsp
    refine ⟨b, o, rfl, h0.1, h0.2.1, by simpa [add_block] using block_lt_of_cell h0.2.2, fun i x hx j c hc => ?_⟩
    have h1 := (g4 _ rfl _ c (flat_get hf hx hc)).2.2
    rw [Addr.add_mid] at h1
    rw [Nat.add_assoc]
    exact h1
/-- An append of pieces to pieces of the call's own. -/
theorem run_append_po {P : Program} {w : World} {t ty e : TypeId} {z : Value} {k bytes : Nat} (hT : RowTyK P t e z k bytes) {base : Nat} {v : Value} {l : List (List Value)} (hown : Po k e w base v l) {lo hi : Nat} {u : Value} {m : List (List Value)} (hu : Ps k w lo hi u m)
    (h1 : ∀ x ∈ m, ∀ c ∈ x, c.oneCell' = true) (h63 : l.length + m.length ≤ 1099511627776) (hb : bytes ≤ 128) (hbase : base ≤ w.heap.size) :
    ∃ a' n' c' w', (Builtin.append_ #[t, t] ty #[v, u]).run P w = .ok (.slice a' n' c') w' ∧ Po k e w' base (.slice a' n' c') (l ++ m) ∧ Kept (Of v) w w' ∧ (∀ k, (Value.slice a' n' c').ownBlock = some k → v.ownBlock = some k ∨ k = w.heap.size) := by
  have hone : ∀ x ∈ m.flatten, x.oneCell' = true := fun x hx => by
    obtain ⟨y, hy, hxy⟩ := List.mem_flatten.1 hx
    exact h1 y hy x hxy
  have hbb : (l.length + m.length) * bytes ≤ 140737488355328 := Nat.le_trans (Nat.mul_le_mul h63 hb) (by decide)
  obtain ⟨v', w', hr, r2, r3⟩ := run_append_fs (w := w) (ty := ty) hT hown.2 hu.2 hone (by unfold maxLen; omega) hbb hbase
  have hblk := append_blockK hT hown.2 hu.2 hone (by unfold maxLen; omega) hbb hr
  have hb : Po k e w' base v' (l ++ m) := ⟨hown.1.append hu.1, by rw [List.length_append, List.flatten_append]; exact r2⟩
  obtain ⟨a', cap', rfl⟩ := hb.form
  refine ⟨_, _, _, w', hr, hb, Kept.ofGrown r3, fun k hk => ?_⟩
  rcases hblk with h | h
  · left; rw [← h]; exact hk
  · right; rw [h] at hk; exact (Option.some.inj hk).symm
/-- .. for the walk. -/
theorem wpList_append_po {P : Program} {ops : Array Oper} {rest : List Oper} {o : Oper} {a : Act} {w : World} {Q : Exit → Act → World → Prop} (hgd : o.guard = none) (s x : Operand) (t : TypeId)
    (ho : o.op = .call { callee := .builtin .append, args := #[s, x], argTypes := #[t, t] }) {e : TypeId} {z : Value} {k bytes : Nat} (hT : RowTyK P t e z k bytes) (hb : bytes ≤ 128)
    {v : Value} (hs : a.eval s = v) {u : Value} (hx : a.eval x = u) {base : Nat} {l : List (List Value)} (hown : Po k e w base v l) {lo hi : Nat} {m : List (List Value)} (hu : Ps k w lo hi u m)
    (h1 : ∀ x ∈ m, ∀ c ∈ x, c.oneCell' = true) (h63 : l.length + m.length ≤ 1099511627776) (hbase : base ≤ w.heap.size)
    (h : ∀ a' n' cap' w', Po k e w' base (.slice a' n' cap') (l ++ m) → Kept (Of v) w w' → (∀ k, (Value.slice a' n' cap').ownBlock = some k → v.ownBlock = some k ∨ k = w.heap.size) → wpList P ops Q rest (a.put o.dst (.slice a' n' cap')) w') : wpList P ops Q (o :: rest) a w := by
  refine wpList_plain hgd fun K hK' => ?_
  obtain ⟨a', n', c', w', hr, r2, r3, r4⟩ := run_append_po (w := w) (ty := o.type) hT hown hu h1 h63 hb hbase
  unfold Oper.wp
  simp only [execOp, ho, resolve, invoke, builtin, Sem.run_bind, Sem.run_pure, Result.andThen_ok, List.map_toArray, List.map_cons, List.map_nil, hs, hx, hr]
  exact hK' _ _ (h a' n' c' w' r2 r3 r4)
/-- .. in a drawn region. -/
theorem gives_append_po {P : Program} {o : Oper} {a : Act} {w : World} {X : Value → World → Prop} (s x : Operand) (t : TypeId)
    (ho : o.op = .call { callee := .builtin .append, args := #[s, x], argTypes := #[t, t] }) {e : TypeId} {z : Value} {k bytes : Nat} (hT : RowTyK P t e z k bytes) (hb : bytes ≤ 128)
    {v : Value} (hs : a.eval s = v) {u : Value} (hx : a.eval x = u) {base : Nat} {l : List (List Value)} (hown : Po k e w base v l) {lo hi : Nat} {m : List (List Value)} (hu : Ps k w lo hi u m)
    (h1 : ∀ x ∈ m, ∀ c ∈ x, c.oneCell' = true) (h63 : l.length + m.length ≤ 1099511627776) (hbase : base ≤ w.heap.size)
    (h : ∀ a' n' cap' w', Po k e w' base (.slice a' n' cap') (l ++ m) → Kept (Of v) w w' → (∀ k, (Value.slice a' n' cap').ownBlock = some k → v.ownBlock = some k ∨ k = w.heap.size) → X (.slice a' n' cap') w') : Gives P o a w X := by
  obtain ⟨a', n', c', w', hr, r2, r3, r4⟩ := run_append_po (w := w) (ty := o.type) hT hown hu h1 h63 hb hbase
  unfold Gives
  simp only [execOp, ho, resolve, invoke, builtin, Sem.run_bind, Sem.run_pure, Result.andThen_ok, List.map_toArray, List.map_cons, List.map_nil, hs, hx, hr]
  exact h a' n' c' w' r2 r3 r4
/-- A new row of one piece. -/
theorem Ps.one (k : Nat) (w : World) (t : TypeId) (x : List Value) (h : x.length = k) : Ps k (w.alloc (.cells x.toArray t)) w.heap.size (w.heap.size + 1) (.slice (some ⟨w.heap.size, 0, none⟩) 1 1) [x] := by
  refine ⟨Each.one h, by simp [h], some ⟨w.heap.size, 0, none⟩, 1, rfl, Nat.le_refl _, by unfold maxLen; omega, (fun h => by cases h), ?_⟩
  intro ad had i c hc
  simp only [Option.some.injEq] at had
  subst had
  refine ⟨Nat.le_refl _, by simp, ?_⟩
  rw [Addr.add_lit, Nat.zero_add, World.cell?_alloc_new]
  simpa using hc
/-- .. that the call owns. -/
theorem Po.one (k : Nat) (w : World) (t : TypeId) (x : List Value) (h : x.length = k) : Po k t (w.alloc (.cells x.toArray t)) w.heap.size (.slice (some ⟨w.heap.size, 0, none⟩) 1 1) [x] := by
  refine ⟨Each.one h, by simp [h], .inr ⟨w.heap.size, 1, x.toArray, rfl, Nat.le_refl _, heap_alloc_new w _, by simp, by unfold maxLen; omega, by simp [h], ?_⟩⟩
  simp [← h]
/-- 's[l:h]' at pieces. -/
theorem Ps.sliced {k : Nat} {w : World} {lo hi : Nat} {a : Option Addr} {n cap : Nat} {xs : List (List Value)} (h : Ps k w lo hi (.slice a n cap) xs) (l m : Nat) (hl : l ≤ m) (hm : m ≤ n) :
    Ps k w lo hi (.slice (if cap = l then a else a.map (·.add (l * k))) (m - l) (cap - l)) ((xs.take m).drop l) := by
  obtain ⟨a', c', hv, _⟩ := h.form
  injection hv with e1 e2 e3
  subst e2
  refine ⟨(h.1.take m).drop l, ?_⟩
  have h1 := Fs.sliced h.2 l m hl hm
  rw [flat_drop (h.1.take m), flat_take h.1]
  have e : ((xs.take m).drop l).length = m - l := by simp; omega
  rw [e]
  exact h1
/-- One of the pieces, loaded, in a drawn region or not: its cells. -/
theorem Ps.at {k : Nat} (hk : 0 < k) {w : World} {lo hi : Nat} {a : Option Addr} {n cap : Nat} {xs : List (List Value)} (h : Ps k w lo hi (.slice a n cap) xs) {i : Nat} (hi' : i < xs.length) :
    ∃ b o, a = some ⟨b, o, none⟩ ∧ w.rangeAt b (o + i * k) xs[i] := by
  obtain ⟨b, o, rfl, _, _, _, hr⟩ := h.ne hk (by omega)
  exact ⟨b, o, rfl, hr i _ (List.getElem?_eq_getElem hi')⟩

/-! ### Hashes -/
def hsC (hs : List (List UInt8)) : List (List Value) := hs.map (·.map u8v)
/-- Each has 32 bytes. -/
def H32 (hs : List (List UInt8)) : Prop := ∀ h ∈ hs, h.length = 32
theorem H32.nil : H32 [] := fun _ h => by simp at h
theorem H32.one {h : List UInt8} (hl : h.length = 32) : H32 [h] := fun y hy => by simp at hy; subst hy; exact hl
theorem H32.append {a b : List (List UInt8)} (ha : H32 a) (hb : H32 b) : H32 (a ++ b) := fun x hx => (List.mem_append.1 hx).elim (ha x) (hb x)
theorem H32.cons {h : List UInt8} {b : List (List UInt8)} (ha : h.length = 32) (hb : H32 b) : H32 (h :: b) := fun x hx => (List.mem_cons.1 hx).elim (fun e => e ▸ ha) (hb x)
theorem H32.head {h : List UInt8} {b : List (List UInt8)} (hb : H32 (h :: b)) : h.length = 32 := hb _ (List.mem_cons_self ..)
theorem H32.tail {h : List UInt8} {b : List (List UInt8)} (hb : H32 (h :: b)) : H32 b := fun y hy => hb y (List.mem_cons_of_mem _ hy)
theorem H32.take {a : List (List UInt8)} (h : H32 a) (n : Nat) : H32 (a.take n) := fun y hy => h y (List.mem_of_mem_take hy)
theorem hsC_each {hs : List (List UInt8)} (h : H32 hs) : Each 32 (hsC hs) := fun x hx => by
  obtain ⟨y, hy, rfl⟩ := List.mem_map.1 hx
  rw [List.length_map]
  exact h y hy
theorem hsC_len (hs : List (List UInt8)) : (hsC hs).length = hs.length := List.length_map _
theorem hsC_one (hs : List (List UInt8)) : ∀ x ∈ hsC hs, ∀ c ∈ x, c.oneCell' = true := fun x hx c hc => by
  obtain ⟨y, _, rfl⟩ := List.mem_map.1 hx
  exact u8v_one y c hc
theorem hsC_append (a b : List (List UInt8)) : hsC (a ++ b) = hsC a ++ hsC b := List.map_append
theorem hsC_snoc (a : List (List UInt8)) (h : List UInt8) : hsC (a ++ [h]) = hsC a ++ [h.map u8v] := List.map_append
/-- The []api.Hash v reads as the hashes hs. -/
abbrev Hs (w : World) (lo hi : Nat) (v : Value) (hs : List (List UInt8)) : Prop := H32 hs ∧ Ps 32 w lo hi v (hsC hs)
/-- .. that the call owns. -/
abbrev Ho (e : TypeId) (w : World) (base : Nat) (v : Value) (hs : List (List UInt8)) : Prop := H32 hs ∧ Po 32 e w base v (hsC hs)
theorem Hs.kept {S : Nat → Prop} {w w' : World} {lo hi : Nat} {v : Value} {hs : List (List UInt8)} (h : Hs w lo hi v hs) (hk : Kept S w w') (hh : ∀ k, lo ≤ k → k < hi → ¬ S k) : Hs w' lo hi v hs := ⟨h.1, h.2.kept hk hh⟩
theorem Hs.nil (w : World) (lo hi : Nat) : Hs w lo hi (.slice none 0 0) [] := ⟨H32.nil, Ps.nil ..⟩
theorem Ho.nil (e : TypeId) (w : World) (base : Nat) : Ho e w base (.slice none 0 0) [] := ⟨H32.nil, Po.nil ..⟩
theorem Ho.kept {e : TypeId} {w w' : World} {base : Nat} {v : Value} {hs : List (List UInt8)} {S : Nat → Prop} (h : Ho e w base v hs) (hk : Kept S w w') (hh : ∀ k, v.ownBlock = some k → ¬ S k) : Ho e w' base v hs := ⟨h.1, h.2.kept hk hh⟩
theorem Ho.base {e : TypeId} {w : World} {base base' : Nat} {v : Value} {hs : List (List UInt8)} (h : Ho e w base v hs) (hb : base' ≤ base) : Ho e w base' v hs := ⟨h.1, h.2.base hb⟩
theorem Ho.hs {e : TypeId} {w : World} {base : Nat} {v : Value} {hs : List (List UInt8)} (h : Ho e w base v hs) {hi : Nat} (hh : w.heap.size ≤ hi) : Hs w base hi v hs := ⟨h.1, h.2.ps hh⟩
theorem Hs.form {w : World} {lo hi : Nat} {v : Value} {hs : List (List UInt8)} (h : Hs w lo hi v hs) : ∃ a cap, v = .slice a hs.length cap ∧ hs.length ≤ cap ∧ cap ≤ 9223372036854775807 ∧ (a = none → cap = 0) := by
  have := h.2.form
  rwa [hsC_len] at this
theorem Ho.form {e : TypeId} {w : World} {base : Nat} {v : Value} {hs : List (List UInt8)} (h : Ho e w base v hs) : ∃ a cap, v = .slice a hs.length cap := by
  have := h.2.form
  rwa [hsC_len] at this
/-- One of them. -/
theorem Hs.at {w : World} {lo hi : Nat} {a : Option Addr} {n cap : Nat} {hs : List (List UInt8)} (h : Hs w lo hi (.slice a n cap) hs) {i : Nat} (hi' : i < hs.length) :
    ∃ b o, a = some ⟨b, o, none⟩ ∧ w.rangeAt b (o + i * 32) (hs[i].map u8v) := by
  obtain ⟨b, o, h1, h2⟩ := h.2.at (by decide) (i := i) (by rw [hsC_len]; exact hi')
  refine ⟨b, o, h1, ?_⟩
  simpa [hsC] using h2
theorem Hs.lo {w : World} {lo hi : Nat} {a : Option Addr} {n cap : Nat} {hs : List (List UInt8)} (h : Hs w lo hi (.slice a n cap) hs) (hn : 0 < hs.length) :
    ∃ b o, a = some ⟨b, o, none⟩ ∧ lo ≤ b ∧ b < hi ∧ b < w.heap.size ∧ ∀ i (hi' : i < hs.length), w.rangeAt b (o + i * 32) (hs[i].map u8v) := by
  obtain ⟨b, o, h1, h2, h3, h4, h5⟩ := h.2.ne (by decide) (by rw [hsC_len]; exact hn)
  refine ⟨b, o, h1, h2, h3, h4, fun i hi' => h5 i _ ?_⟩
  simp [hsC, List.getElem?_eq_getElem hi']
end Go.Pm
namespace Go.Pm
open Go Go.RowKit
structure Pn where
  u : Req
  tick : Int
  seq : Int
  sync : Bool
abbrev penC (x : Pn) : List Value := [.string x.u.n, .int .i64 x.u.v, .int .u64 (x.u.k : Int), .int .i64 x.u.c, .int .u64 (x.u.r : Int), .int .u64 (x.u.s : Int), .int .i64 x.tick, .int .i64 x.seq, .bool x.sync]
abbrev reqC (u : Req) : List Value := [.string u.n, .int .i64 u.v, .int .u64 (u.k : Int), .int .i64 u.c, .int .u64 (u.r : Int), .int .u64 (u.s : Int)]
def pensC (l : List Pn) : List (List Value) := l.map penC
theorem pensC_len (l : List Pn) : (pensC l).length = l.length := List.length_map _
theorem pensC_at (l : List Pn) (i : Nat) (h : i < l.length) : (pensC l)[i]? = some (penC l[i]) := by simp [pensC, h]
theorem pensC_app (a b : List Pn) : pensC (a ++ b) = pensC a ++ pensC b := List.map_append
theorem pensC_each (l : List Pn) : Each 9 (pensC l) := fun x hx => by
  obtain ⟨y, _, rfl⟩ := List.mem_map.1 hx
  rfl
theorem penC_one (x : Pn) : ∀ c ∈ penC x, c.oneCell' = true := by simp [Value.oneCell']
theorem pensC_one (l : List Pn) : ∀ x ∈ pensC l, ∀ c ∈ x, c.oneCell' = true := fun x hx => by
  obtain ⟨y, _, rfl⟩ := List.mem_map.1 hx
  exact penC_one y
/-- A row of pendings: where each one's parts lie. -/
theorem Ps.pen {w : World} {lo hi : Nat} {a : Option Addr} {n cap : Nat} {l : List Pn} (h : Ps 9 w lo hi (.slice a n cap) (pensC l)) (hn : 0 < l.length) :
    ∃ b o, a = some ⟨b, o, none⟩ ∧ b < w.heap.size ∧ ∀ i (hi : i < l.length), w.rangeAt b (o + i * 9) (penC l[i]) ∧ w.rangeAt b (o + i * 9) (reqC l[i].u) ∧ w.cell? ⟨b, o + i * 9 + 6, none⟩ = some (.int .i64 l[i].tick) ∧ w.cell? ⟨b, o + i * 9 + 7, none⟩ = some (.int .i64 l[i].seq) ∧ w.cell? ⟨b, o + i * 9 + 8, none⟩ = some (.bool l[i].sync) := by
  obtain ⟨b, o, rfl, _, _, h3, hr⟩ := h.ne (by decide) (by rw [pensC_len]; exact hn)
  refine ⟨b, o, rfl, h3, fun i hi => ?_⟩
  have h1 := hr i _ (pensC_at l i hi)
  refine ⟨h1, fun j v hj => h1 j v ?_, h1 6 _ rfl, h1 7 _ rfl, h1 8 _ rfl⟩
  match j, hj with
  | 0, hj => exact hj
  | 1, hj => exact hj
  | 2, hj => exact hj
  | 3, hj => exact hj
  | 4, hj => exact hj
  | 5, hj => exact hj
  | j + 6, hj => simp at hj
/-- The requests' bounds: their signatures are words. -/
def PnFits (l : List Pn) : Prop := ∀ x ∈ l, x.u.r < 18446744073709551616 ∧ x.u.s < 18446744073709551616
/-- The i-th record behind a base of number s. -/
def recP (s : Int) (i : Nat) (x : Pn) : Rec := ⟨2, s + 1 + i, 0, 0, x.u, x.tick, 0⟩
def recB (gen s : Int) (n : Nat) : Rec := ⟨1, s, gen, n, Req.none, 0, 0⟩
/-- All records, from the i-th on. -/
def recsP (s : Int) : Nat → List Pn → List Rec
  | _, [] => []
  | i, x :: l => recP s i x :: recsP s (i + 1) l
theorem recsP_len (s : Int) : ∀ (l : List Pn) (i : Nat), (recsP s i l).length = l.length
  | [], _ => rfl
  | x :: l, i => by rw [recsP, List.length_cons, recsP_len s l (i + 1), List.length_cons]
theorem recsP_app (s : Int) : ∀ (l m : List Pn) (i : Nat), recsP s i (l ++ m) = recsP s i l ++ recsP s (i + l.length) m
  | [], m, i => by simp [recsP]
  | x :: l, m, i => by
    rw [List.cons_append, recsP, recsP, recsP_app s l m (i + 1), List.cons_append, List.length_cons, show i + 1 + l.length = i + (l.length + 1) by omega]
def allR (l : List Rec) : Bool := l.all rightJ
def joinR (l : List Rec) : List UInt8 := (l.map putJL).flatten
/-- Base. -/
def baseF (gen s : Int) (l : List Pn) : List UInt8 := if rightJ (recB gen s l.length) && allR (recsP s 0 l) then putJL (recB gen s l.length) ++ joinR (recsP s 0 l) else []
theorem take_snoc {α : Type} (l : List α) (i : Nat) (h : i < l.length) : l.take (i + 1) = l.take i ++ [l[i]] := by rw [List.take_succ_eq_append_getElem h]
theorem recsP_take (s : Int) (l : List Pn) (i : Nat) (h : i < l.length) : recsP s 0 (l.take (i + 1)) = recsP s 0 (l.take i) ++ [recP s i l[i]] := by
  rw [take_snoc l i h, recsP_app, List.length_take, Nat.min_eq_left (Nat.le_of_lt h), Nat.zero_add]
  rfl
theorem allR_app (a b : List Rec) : allR (a ++ b) = (allR a && allR b) := List.all_append
theorem joinR_app (a b : List Rec) : joinR (a ++ b) = joinR a ++ joinR b := by simp [joinR]
theorem allR_take {s : Int} {l : List Pn} {i : Nat} (h : i < l.length) (hb : rightJ (recP s i l[i]) = false) : allR (recsP s 0 l) = false := by
  have e : l = l.take (i + 1) ++ l.drop (i + 1) := (List.take_append_drop _ _).symm
  rw [e, recsP_app, allR_app, recsP_take s l i h, allR_app]
  simp [allR, hb]
theorem joinR_len (l : List Rec) : (joinR l).length ≤ 109 * l.length := by
  unfold joinR
  induction l with
  | nil => simp
  | cons x l ih =>
    rw [List.map_cons, List.flatten_cons, List.length_append, List.length_cons]
    have := putJL_len x
    omega
theorem recB_right {gen s : Int} {n : Nat} (h : rightJ (recB gen s n) = true) : 0 ≤ s ∧ s ≤ 1152921504606846976 ∧ n ≤ 32 := by
  have h1 := (rightJ_iff _).1 h
  simp only [recB, Rec.mk.injEq] at h1
  rcases h1 with ⟨h0, h1 | h1 | h1⟩
  · exact ⟨h0.1, h0.2, by omega⟩
  · exact absurd h1.1.1 (by decide)
  · exact absurd h1.1.1 (by decide)
end Go.Pm
namespace Go.Pm
open Go Go.RowKit
theorem results_blk3 {P : Program} {fn : Func} {p q r : Tmp} {ty : TypeId} (h : fn.results = #[.cell p ty, .tmp q, .tmp r]) (tmps : Array Value) {w : World} {g : Nat} {t : TypeId} {cs : Array Value} (hp : tmps.getD p undef = .pointer (some ⟨g, 0, none⟩)) {x y : Value} (hq : tmps.getD q undef = x) (hr : tmps.getD r undef = y) (hb : Blk w g cs t)
    (hT : AggTy P ty cs.size) : (results fn tmps).run P w = .ok (.tuple #[.agg cs, x, y]) w := by
  obtain ⟨d, hu, hd⟩ := hT.ag
  have hp' : tmps[p]?.getD undef = .pointer (some ⟨g, 0, none⟩) := by simpa using hp
  have hq' : tmps[q]?.getD undef = x := by simpa using hq
  have hr' : tmps[r]?.getD undef = y := by simpa using hr
  have h1 := run_loadVar_row w g t ty cs (0, 0) d hb hu (by cases d <;> first | rfl | exact hd) hT.size
  simp [results, h, hp', hq', hr', asAddr, h1]
theorem markF_inj_body {k s : Int} {x y : List UInt8} (h : putF k s x = putF k s y) : x = y := by
  have hl : x.length = y.length := by
    have := congrArg List.length h
    rw [putF_len, putF_len] at this
    omega
  have e : ∀ z : List UInt8, putF k s z = (le4 z.length ++ [Go.Pm.byteOf k] ++ leB s) ++ (z ++ markF k s z) := fun z => by simp [putF]
  have hd : ∀ z : List UInt8, ((putF k s z).drop 13).take z.length = z := fun z => by
    rw [e, List.drop_left' (by simp [le4_length, leB_length]), List.take_left' rfl]
  rw [← hd x, ← hd y, h, hl]
/-- What a candidate for a frame's record comes to. -/
theorem readJ_of {b L : List UInt8} {K S : Int} {n : Nat} (hF : readF b = ⟨K, S, L, n, 0⟩) (r : Rec) (hk : r.kind = K) (hs : r.seq = S) (hf : r.u.r < 18446744073709551616 ∧ r.u.s < 18446744073709551616) (hc : okJ K S L = true → r = candJ K S L) :
    readJ b = if rightJ r = true ∧ putJL r = b.take n then ⟨r, n, 0⟩ else ⟨Rec.none, 0, 20⟩ := by
  have ht := (readF_take (b := b) (by rw [hF])).1
  rw [hF] at ht
  simp only at ht
  have e0 : readJ b = if okJ K S L = true then ⟨candJ K S L, n, 0⟩ else ⟨Rec.none, 0, 20⟩ := by
    unfold readJ
    rw [hF]
    simp only [if_pos]
  rw [e0]
  by_cases h : okJ K S L = true
  · have e := hc h
    have h2 : rightJ (candJ K S L) = true ∧ bodyJ (candJ K S L) = L := by
      unfold okJ at h
      simpa using h
    have e3 : putJL r = b.take n := by
      unfold putJL
      rw [e, if_pos h2.1, h2.2, ht, ← e, hk, hs]
    rw [if_pos h, if_pos ⟨by rw [e]; exact h2.1, e3⟩, e]
  · rw [if_neg h, if_neg]
    rintro ⟨h1, h2⟩
    have e1 : putJL r = putF K S (bodyJ r) := by unfold putJL; rw [if_pos h1, hk, hs]
    rw [e1, ht] at h2
    have e2 := markF_inj_body h2
    have e3 := candJ_body h1 hf
    rw [hk, hs, e2] at e3
    exact h (by unfold okJ; rw [e3, h1, e2]; simp)
/-- Where it can be none. -/
theorem readJ_bad {b L : List UInt8} {K S : Int} {n : Nat} (hF : readF b = ⟨K, S, L, n, 0⟩) (h : okJ K S L = false) : readJ b = ⟨Rec.none, 0, 20⟩ := by
  unfold readJ
  rw [hF]
  simp only [if_pos, h]
  rfl
theorem readJ_err {b L : List UInt8} {K S E : Int} {n : Nat} (hF : readF b = ⟨K, S, L, n, E⟩) (h : ¬ E = 0) : readJ b = ⟨Rec.none, 0, E⟩ := by
  unfold readJ
  rw [hF]
  simp only
  rw [if_neg h]
/-- What there must be of a body. -/
theorem okJ_one {S : Int} {L : List UInt8} (h : okJ 1 S L = true) : L.length = 16 ∧ 0 ≤ leV L ∧ leV L ≤ 1152921504606846976 ∧ 0 ≤ leV (L.drop 8) ∧ leV (L.drop 8) ≤ 32 := by
  unfold okJ at h
  rw [Bool.and_eq_true, decide_eq_true_eq] at h
  have e : candJ 1 S L = ⟨1, S, leV L, leV (L.drop 8), Req.none, 0, 0⟩ := rfl
  rw [e] at h
  have h1 := (rightJ_iff _).1 h.1
  simp only [Rec.mk.injEq] at h1
  have hl : L.length = 16 := by rw [← h.2]; simp [bodyJ, leB_length]
  rcases h1 with ⟨_, h1 | h1 | h1⟩
  · exact ⟨hl, h1.2⟩
  · exact absurd h1.1.1 (by decide)
  · exact absurd h1.1.1 (by decide)
theorem okJ_two {S : Int} {L : List UInt8} (h : okJ 2 S L = true) : 8 ≤ L.length ∧ 0 ≤ leV L ∧ leV L ≤ 1152921504606846976 ∧ (readQ (L.drop 8)).right = true := by
  unfold okJ at h
  rw [Bool.and_eq_true, decide_eq_true_eq] at h
  have e : candJ 2 S L = ⟨2, S, 0, 0, readQ (L.drop 8), leV L, 0⟩ := rfl
  rw [e] at h
  have h1 := (rightJ_iff _).1 h.1
  simp only [Rec.mk.injEq] at h1
  have hl : 8 ≤ L.length := by rw [← h.2]; simp [bodyJ, leB_length]
  rcases h1 with ⟨_, h1 | h1 | h1⟩
  · exact absurd h1.1.1 (by decide)
  · exact ⟨hl, h1.2.2.1, h1.2.2.2, h1.2.1⟩
  · exact absurd h1.1.1 (by decide)
theorem okJ_three {S : Int} {L : List UInt8} (h : okJ 3 S L = true) : L.length = 8 ∧ 1 ≤ leV L ∧ leV L ≤ 1073741824 := by
  unfold okJ at h
  rw [Bool.and_eq_true, decide_eq_true_eq] at h
  have e : candJ 3 S L = ⟨3, S, 0, 0, Req.none, 0, leV L⟩ := rfl
  rw [e] at h
  have h1 := (rightJ_iff _).1 h.1
  simp only [Rec.mk.injEq] at h1
  have hl : L.length = 8 := by rw [← h.2]; simp [bodyJ, leB_length]
  rcases h1 with ⟨_, h1 | h1 | h1⟩
  · exact absurd h1.1.1 (by decide)
  · exact absurd h1.1.1 (by decide)
  · exact ⟨hl, h1.2⟩
theorem okJ_kind {K S : Int} {L : List UInt8} (h : okJ K S L = true) : K = 1 ∨ K = 2 ∨ K = 3 := by
  unfold okJ at h
  rw [Bool.and_eq_true] at h
  have hk := rightJ_kind h.1
  have e : (candJ K S L).kind = K := by
    unfold candJ
    split
    · rfl
    · split <;> rfl
  omega
theorem readE_bad {l : List UInt8} (h : ¬ readE l = 0) : (readQ l).right = false := by
  unfold readQ
  rw [if_neg h]
  rfl
end Go.Pm
namespace Go.Proofs.Ytpbkdeljhehkdaa
open Go.RowKit Go.Pm
namespace Jr
def WordsU (u : Req) : Prop := u.r < 18446744073709551616 ∧ u.s < 18446744073709551616
def RightC : Prop := ∀ (r : Rec) (w : World), r.Fits → Calls Try.prog 13 #[r.V] w fun e w' => e = .returned (.bool (rightJ r)) ∧ Kept None w w'
def PutC : Prop := ∀ (r : Rec) (w : World), r.Fits → Calls Try.prog 11 #[r.V] w fun e w' => ∃ u, e = .returned (.tuple #[u, .int .i64 (putJE r)]) ∧ Kept None w w' ∧ Ob w' w.heap.size u (putJL r)
def ReadC : Prop := ∀ (v : Value) (lo hi : Nat) (b : List UInt8) (w : World), Bs w lo hi v b → b.length ≤ 1099511627000 →
    Calls Try.prog 15 #[v] w fun e w' => e = .returned (.tuple #[(readJ b).r.V, .int .i64 (readJ b).n, .int .i64 (readJ b).e]) ∧ Kept None w w'
def BaseC : Prop := ∀ (gen s : Int) (v : Value) (lo hi : Nat) (l : List Pn) (w : World), Ps 9 w lo hi v (pensC l) → (∀ x ∈ l, x.u.Fits ∧ inI x.tick) → inI gen → inI s → l.length ≤ 1000 →
    Calls Try.prog 17 #[.int .i64 gen, .int .i64 s, v] w fun e w' => ∃ u, e = .returned u ∧ Kept None w w' ∧ Ob w' w.heap.size u (baseF gen s l)
end Jr
end Go.Proofs.Ytpbkdeljhehkdaa
namespace Go.Pm
open Go Go.RowKit
theorem eqF_nil {P : Program} {w : World} {xs ys : Array Value} {d : Nat} {fs : List Field} (h : fs.map (fun f => (f.name == "_", f.type, f.offset)) = []) : (Op.eqFields d xs ys fs).run P w = .ok true w := by
  obtain rfl := List.map_eq_nil_iff.1 h
  simp [Op.eqFields]
theorem eqF_step {P : Program} {w : World} {xs ys : Array Value} {d : Nat} {fs : List Field} {t : TypeId} {o : Nat} {rest : List (Bool × TypeId × Nat)} (h : fs.map (fun f => (f.name == "_", f.type, f.offset)) = (false, t, o) :: rest)
    {a b : Value} {r c : Bool} (pa : (part t xs o).run P w = .ok a w) (pb : (part t ys o).run P w = .ok b w) (he : (Op.equalIn d t a b).run P w = .ok r w)
    (hc : ∀ gs : List Field, gs.map (fun f => (f.name == "_", f.type, f.offset)) = rest → (Op.eqFields d xs ys gs).run P w = .ok c w) : (Op.eqFields d xs ys fs).run P w = .ok (r && c) w := by
  match fs, h with
  | f :: gs, h =>
    simp only [List.map_cons, List.cons.injEq, Prod.mk.injEq, beq_eq_false_iff_ne] at h
    obtain ⟨⟨f1, f2, f3⟩, g⟩ := h
    cases r <;> simp only [Op.eqFields, f1, ne_eq, not_false_eq_true, if_true, f2, f3, Sem.run_bind, pa, pb, he, Result.andThen_ok, Sem.run_pure, Bool.not_true, Bool.not_false, Bool.false_eq_true, if_false, hc gs g, Bool.true_and, Bool.false_and]
theorem part_agg {P : Program} {w : World} {xs : Array Value} {t : TypeId} {o n : Nat} (ha : ∀ w, (isAgg t).run P w = .ok true w) (hs : ∀ w, (sizeOf t).run P w = .ok n w) : (part t xs o).run P w = .ok (.agg (xs.extract o (o + n))) w := by
  simp only [part, Sem.run_bind, ha, hs, Result.andThen_ok, if_true, Sem.run_pure]
theorem part_one {P : Program} {w : World} {xs : Array Value} {t : TypeId} {o : Nat} {v : Value} (ha : ∀ w, (isAgg t).run P w = .ok false w) (h : xs[o]? = some v) : (part t xs o).run P w = .ok v w := by
  simp only [part, Sem.run_bind, ha, Result.andThen_ok, Bool.false_eq_true, if_false, h, Sem.run_pure]
end Go.Pm
namespace Go.Pm
open Go Go.RowKit
theorem bytes_ext {a b : ByteArray} : a = b ↔ a.data.toList = b.data.toList := by
  obtain ⟨⟨x⟩⟩ := a
  obtain ⟨⟨y⟩⟩ := b
  simp
def reqEq (p q : Req) : Bool := (p.n.toList == q.n.toList) && ((p.v == q.v) && (((p.k : Int) == (q.k : Int)) && ((p.c == q.c) && ((((p.r : Int) == (q.r : Int)) && (((p.s : Int) == (q.s : Int)) && true)) && true))))
def recEq (p q : Rec) : Bool := (p.kind == q.kind) && ((p.seq == q.seq) && ((p.gen == q.gen) && ((p.count == q.count) && (reqEq p.u q.u && ((p.tick == q.tick) && ((p.epoch == q.epoch) && true))))))
theorem toList_iff {a b : ByteArray} : a.toList = b.toList ↔ a = b := by
  rw [bytes_ext, ByteArray.toList_eq, ByteArray.toList_eq]
theorem reqEq_iff (p q : Req) : reqEq p q = true ↔ p = q := by
  obtain ⟨n, v, k, c, r, s⟩ := p
  obtain ⟨n', v', k', c', r', s'⟩ := q
  unfold reqEq
  simp only [Bool.and_eq_true, beq_iff_eq, Req.mk.injEq, and_true, Int.natCast_inj, toList_iff]
theorem recEq_iff (p q : Rec) : recEq p q = true ↔ p = q := by
  obtain ⟨k, s, g, c, u, t, e⟩ := p
  obtain ⟨k', s', g', c', u', t', e'⟩ := q
  unfold recEq
  simp only [Bool.and_eq_true, beq_iff_eq, Rec.mk.injEq, and_true, reqEq_iff]
theorem recEq_self (p : Rec) : recEq p p = true := (recEq_iff p p).2 rfl
theorem reqEq_self (p : Req) : reqEq p p = true := (reqEq_iff p p).2 rfl
def Req.C (q : Req) : Array Value := #[.string q.n, .int .i64 q.v, .int .u64 (q.k : Int), .int .i64 q.c, .int .u64 (q.r : Int), .int .u64 (q.s : Int)]
theorem Rec.C_u (r : Rec) : r.C.extract 4 (4 + 6) = r.u.C := rfl
theorem Req.C_sig (q : Req) : q.C.extract 4 (4 + 2) = #[.int .u64 (q.r : Int), .int .u64 (q.s : Int)] := rfl
end Go.Pm
namespace Go.Proofs.Ytpbkdeljhehkdaa
open Go.RowKit Go.Pm
namespace Jq
theorem uRec : Try.prog.underlying 28 = some (.struct (Try.prog.fieldsOf 28)) := by kernel_rfl
theorem uUpd : Try.prog.underlying 26 = some (.struct (Try.prog.fieldsOf 26)) := by kernel_rfl
theorem uSig : Try.prog.underlying 24 = some (.struct (Try.prog.fieldsOf 24)) := by kernel_rfl
theorem fRec : (Try.prog.fieldsOf 28).toList.map (fun f => (f.name == "_", f.type, f.offset)) = [(false, 3, 0), (false, 2, 1), (false, 2, 2), (false, 3, 3), (false, 26, 4), (false, 2, 10), (false, 3, 11)] := by kernel_rfl
theorem fUpd : (Try.prog.fieldsOf 26).toList.map (fun f => (f.name == "_", f.type, f.offset)) = [(false, 9, 0), (false, 3, 1), (false, 22, 2), (false, 3, 3), (false, 24, 4)] := by kernel_rfl
theorem fSig : (Try.prog.fieldsOf 24).toList.map (fun f => (f.name == "_", f.type, f.offset)) = [(false, 22, 0), (false, 22, 1)] := by kernel_rfl
theorem hRec : Try.prog.stoodInHeld 28 = false := by kernel_rfl
theorem hUpd : Try.prog.stoodInHeld 26 = false := by kernel_rfl
theorem hSig : Try.prog.stoodInHeld 24 = false := by kernel_rfl
theorem gInt : ∀ w, (isAgg 3).run Try.prog w = .ok false w := fun _ => by kernel_rfl
theorem gInt64 : ∀ w, (isAgg 2).run Try.prog w = .ok false w := fun _ => by kernel_rfl
theorem gU64 : ∀ w, (isAgg 22).run Try.prog w = .ok false w := fun _ => by kernel_rfl
theorem gStr : ∀ w, (isAgg 9).run Try.prog w = .ok false w := fun _ => by kernel_rfl
theorem gUpd : ∀ w, (isAgg 26).run Try.prog w = .ok true w := fun _ => by kernel_rfl
theorem gSig : ∀ w, (isAgg 24).run Try.prog w = .ok true w := fun _ => by kernel_rfl
theorem sUpd : ∀ w, (sizeOf 26).run Try.prog w = .ok 6 w := fun _ => by kernel_rfl
theorem sSig : ∀ w, (sizeOf 24).run Try.prog w = .ok 2 w := fun _ => by kernel_rfl
theorem nInt : Try.prog.underlying 3 = some (.int .i64) := by kernel_rfl
theorem nInt64 : Try.prog.underlying 2 = some (.int .i64) := by kernel_rfl
theorem nU64 : Try.prog.underlying 22 = some (.int .u64) := by kernel_rfl
theorem nStr : Try.prog.underlying 9 = some .string := by kernel_rfl
theorem equalIn_req (p q : Req) (d : Nat) (w : World) : (Op.equalIn (d + 3) 26 (.agg p.C) (.agg q.C)).run Try.prog w = .ok (reqEq p q) w := by
  rw [run_equalIn_struct w (d + 2) 26 _ _ uUpd hUpd]
  refine eqF_step fUpd (part_one gStr rfl) (part_one gStr rfl) (run_equalIn_string w (d + 1) _ _ _ nStr) fun gs h1 => ?_
  refine eqF_step h1 (part_one gInt rfl) (part_one gInt rfl) (run_equalIn_int w (d + 1) _ _ _ _ _ nInt) fun gs h2 => ?_
  refine eqF_step h2 (part_one gU64 rfl) (part_one gU64 rfl) (run_equalIn_int w (d + 1) _ _ _ _ _ nU64) fun gs h3 => ?_
  refine eqF_step h3 (part_one gInt rfl) (part_one gInt rfl) (run_equalIn_int w (d + 1) _ _ _ _ _ nInt) fun gs h4 => ?_
  refine eqF_step h4 (part_agg gSig sSig) (part_agg gSig sSig) ?_ fun gs h5 => eqF_nil h5
  rw [Req.C_sig, Req.C_sig, run_equalIn_struct w (d + 1) 24 _ _ uSig hSig]
  refine eqF_step fSig (part_one gU64 rfl) (part_one gU64 rfl) (run_equalIn_int w d _ _ _ _ _ nU64) fun gs h1 => ?_
  exact eqF_step h1 (part_one gU64 rfl) (part_one gU64 rfl) (run_equalIn_int w d _ _ _ _ _ nU64) fun gs h2 => eqF_nil h2
theorem equalIn_rec (p q : Rec) (w : World) : (Op.equalIn 10000 28 (.agg p.C) (.agg q.C)).run Try.prog w = .ok (recEq p q) w := by
  rw [run_equalIn_struct w 9999 28 _ _ uRec hRec]
  refine eqF_step fRec (part_one gInt rfl) (part_one gInt rfl) (run_equalIn_int w 9998 _ _ _ _ _ nInt) fun gs h1 => ?_
  refine eqF_step h1 (part_one gInt64 rfl) (part_one gInt64 rfl) (run_equalIn_int w 9998 _ _ _ _ _ nInt64) fun gs h2 => ?_
  refine eqF_step h2 (part_one gInt64 rfl) (part_one gInt64 rfl) (run_equalIn_int w 9998 _ _ _ _ _ nInt64) fun gs h3 => ?_
  refine eqF_step h3 (part_one gInt rfl) (part_one gInt rfl) (run_equalIn_int w 9998 _ _ _ _ _ nInt) fun gs h4 => ?_
  refine eqF_step h4 (part_agg gUpd sUpd) (part_agg gUpd sUpd) (by rw [Rec.C_u, Rec.C_u]; exact equalIn_req p.u q.u 9996 w) fun gs h5 => ?_
  refine eqF_step h5 (part_one gInt64 rfl) (part_one gInt64 rfl) (run_equalIn_int w 9998 _ _ _ _ _ nInt64) fun gs h6 => ?_
  exact eqF_step h6 (part_one gInt rfl) (part_one gInt rfl) (run_equalIn_int w 9998 _ _ _ _ _ nInt) fun gs h7 => eqF_nil h7
theorem eqRec (p q : Rec) (w : World) : (binOp .eql 28 (.agg p.C) (.agg q.C)).run Try.prog w = .ok (.bool (recEq p q)) w := by
  rw [run_eql_struct, equalIn_rec]; rfl
theorem neqRec (p q : Rec) (w : World) : (binOp .neq 28 (.agg p.C) (.agg q.C)).run Try.prog w = .ok (.bool (!recEq p q)) w := by
  rw [run_neq_struct, equalIn_rec]; rfl
theorem neqReq (p q : Req) (w : World) : (binOp .neq 26 (.agg p.C) (.agg q.C)).run Try.prog w = .ok (.bool (!reqEq p q)) w := by
  rw [run_neq_struct, equalIn_req p q 9997]; rfl
end Jq
end Go.Proofs.Ytpbkdeljhehkdaa
namespace Go.Proofs.Ytpbkdeljhehkdaa
open Go.RowKit Go.Pm
namespace Sg
theorem num_end (h : List UInt8) : leV (h.take 8) % 2305843009213693950 = (numB h : Nat) := by
  unfold numB
  rw [Int.natCast_emod, leV_nat, leV_take]
  rfl

/-- A signature. -/
abbrev sigV (r s : Nat) : Value := .agg #[.int .u64 r, .int .u64 s]

theorem AggTy.of {P : Program} {t : TypeId} {n : Nat} (h : (P.underlying t).map aggD = some true) (h2 : (P.info? t).map (·.size) = some n) : AggTy P t n := by
  cases hu : P.underlying t with
  | none => rw [hu] at h; cases h
  | some d => rw [hu] at h; exact ⟨⟨d, hu, by simpa using h⟩, h2⟩
theorem aSig : AggTy Try.prog 24 2 := AggTy.of (by kernel_rfl) (by kernel_rfl)
theorem sig_all (r s : Nat) : (#[.int .u64 (r : Int), .int .u64 (s : Int)] : Array Value).all (·.oneCell') = true := by simp [Value.oneCell']

/-- A signature's bytes. -/
def sigB (r s : Nat) : List UInt8 := leB r ++ leB s
theorem sigB_len (r s : Nat) : (sigB r s).length = 16 := by simp [sigB, leB_length]

end Sg
end Go.Proofs.Ytpbkdeljhehkdaa
/- Package bin, what writes: each function by its contract. -/
namespace Go.Proofs.Ytpbkdeljhehkdaa
open Go.RowKit Go.Pm

namespace Bin
theorem mk8 : ∀ w : World, (Instr.makeSlice 29 (.int .i64 8) (.int .i64 8)).run Try.prog w = .ok (.slice (some ⟨w.heap.size, 0, none⟩) 8 8) (w.alloc (.cells (Array.replicate 8 (.int .u8 0)) 5)) := fun _ => by kernel_rfl

set_option maxHeartbeats 400000 in
/-- bin.Num. -/
theorem num (n : Int) (w : World) (h0 : 0 ≤ n) (h1 : n < 18446744073709551616) :
    Calls Try.prog 45 #[.int .u64 n] w fun e w' => ∃ v, e = .returned v ∧ Kept None w w' ∧ Ob w' w.heap.size v (leB n) := by
  have hmk := mk8
  go_enter Try.func45, Try.ntmps45
  go_wp2
  refine wp_loop_rounds 9 ?_
  iterate 9 (rw [rounds_succ]; go_wp2)
  go_ret
  refine ⟨_, rfl, (Kept.refl _ _).alloc _, Bo.new w 5 (leB n) _ ?_ 8 rfl (by decide)⟩
  simp [leB, u8v_byteOf]
  omega

set_option maxHeartbeats 1000000 in
/-- bin.Join. -/
theorem join (v : Value) (lo hi lo' hi' : Nat) (ls : List (List UInt8)) (w : World) (hv : Bss w lo hi lo' hi' v ls) (hl : total ls ≤ 140737488355328) :
    Calls Try.prog 46 #[v] w fun en w' => ∃ v', en = .returned v' ∧ Kept None w w' ∧ Ob w' w.heap.size v' ls.flatten := by
  obtain ⟨a, cap, rfl, g1, g2, g3⟩ := hv.shape
  have hlen : ls.length ≤ 9223372036854775807 := by omega
  obtain ⟨i0, hi0, hz0, hz1, hz2⟩ := info_parts infoByte
  go_enter Try.func46, Try.ntmps46
  go_wp2
  go_loop [3, 11] (fun t i => ∃ k : Nat, k ≤ ls.length ∧ i = .int .i64 k ∧ ∃ m : Nat, m = total (ls.take k) ∧ t = .int .i64 m) (fun _ i => ls.length - (intOf i).toNat)
  case atStart => exact ⟨0, Nat.zero_le _, rfl, 0, by simp [total], rfl⟩
  case round =>
    obtain ⟨k, hk, rfl, m, hm, rfl⟩ := hrel
    have hml : m ≤ 140737488355328 := by have := total_take_le ls k; omega
    by_cases hlt : k < ls.length
    · obtain ⟨b, o, rfl, q1, q2, q3, hc⟩ := Bss.at hv (by omega)
      obtain ⟨a', c', hc', hb'⟩ := hc k hlt
      have hm' : m + ls[k].length = total (ls.take (k + 1)) := by rw [total_take ls k hlt, hm]
      have hml' : m + ls[k].length ≤ 140737488355328 := by have := total_take_le ls (k + 1); omega
      generalize hn' : ls[k].length = n' at *
      have HM := hid hm'
      clear hm' hm hb' hc g3 hv hn'
      go_wp2
      go_round
      case rel => exact ⟨k + 1, by omega, by go_num, m + n', HM.out, by go_num⟩
      case measure => simp [intOf]; omega
    · have hm2 : m = total ls := by rw [hm, List.take_of_length_le (by omega)]
      have HM := hid hm2
      clear hm2 hm
      go_wp2_with (at_make; refine wpList_make_own _ rfl _ _ 29 rfl w.heap.size 5 i0 (.int .u8 0) 1 tBytes' hi0 hz0 hz1 .i64 .i64 (m : Int) m rfl rfl rfl ?h1 ?h2 ?h3 ?h4)
      case h1 => omega
      case h2 => unfold maxLen; omega
      case h4 =>
        intro w1 hown hgrow
        have hk1 : Kept None w w1 := Kept.grown (Kept.refl _ _) hgrow (fun _ h => by cases h)
        have hb1 : Ob w1 w.heap.size (.slice (some ⟨w.heap.size, 0, none⟩) 0 m) [] := hown
        clear hown hgrow
        go_wp2
        go_loopw [6, 24] (fun t i wr => ∃ k : Nat, k ≤ ls.length ∧ i = .int .i64 k ∧ (∃ a n c, t = .slice a n c) ∧ Ob wr w.heap.size t (ls.take k).flatten ∧ Kept None w wr) (fun _ i _ => ls.length - (intOf i).toNat)
        case atStart => exact ⟨0, Nat.zero_le _, rfl, ⟨_, _, _, rfl⟩, hb1, hk1⟩
        case round =>
          clear hb1 hk1
          obtain ⟨k, hk, rfl, ⟨a1, n1, c1, rfl⟩, hb, hkk⟩ := hrel
          have hsz := hkk.size
          by_cases hlt : k < ls.length
          · have hvr := hv.kept hkk (fun _ _ _ h => h) (fun _ _ _ h => h)
            obtain ⟨b, o, rfl, q1, q2, q3, hc⟩ := Bss.at hvr (by omega)
            obtain ⟨a', c', hc', hb'⟩ := hc k hlt
            have hml : total (ls.take k) + ls[k].length ≤ 140737488355328 := by have := total_take_le ls (k + 1); rw [total_take ls k hlt] at this; omega
            have hfl := flatten_take ls k hlt
            generalize hx : ls[k] = x at *
            have HF := hid hfl
            clear hfl hx hc hvr g3 hv
            go_wp2_with (at_builtin; refine wpList_append_bo (l := (ls.take k).flatten) (m := x) (base := w.heap.size) (lo := lo') (hi := hi') rfl _ _ 29 rfl rtBytes rfl rfl ?k1 ?k2 ?k3 ?k4 ?k5)
            case k1 => exact hb
            case k2 => exact hb'
            case k3 => exact hml
            case k4 => exact hsz
            case k5 =>
              intro a2 n2 c2 w2 hb2 hk2
              have hk3 := Kept.own hkk hk2 (fun k hk => (hb.own k hk).1)
              rw [← HF.out] at hb2
              clear hb hb' hkk hk2 HF
              go_wp2
              go_roundw
              case rel => exact ⟨k + 1, by omega, by go_num, ⟨_, _, _, rfl⟩, hb2, hk3⟩
              case measure => simp [intOf]; omega
          · have hb3 : Ob wr w.heap.size (.slice a1 n1 c1) ls.flatten := by rw [List.take_of_length_le (by omega)] at hb; exact hb
            clear hb hv g3
            go_wp2
            go_ret
            exact ⟨_, rfl, hkk, hb3⟩

set_option maxHeartbeats 400000 in
/-- bin.Lump. -/
theorem lump (v : Value) (lo hi : Nat) (l : List UInt8) (w : World) (hv : Bs w lo hi v l) (hl : l.length ≤ 70368744177664) :
    Calls Try.prog 71 #[v] w fun en w' => ∃ v', en = .returned v' ∧ Kept None w w' ∧ Ob w' w.heap.size v' (leB l.length ++ l) := by
  obtain ⟨a, cap, rfl, g1, g2, g3⟩ := hv.shape
  go_enter Try.func71, Try.ntmps71
  go_wp2_with fail
  refine (num _ w (by omega) (by omega)).mono ?_
  rintro e1 w1 ⟨v1, rfl, hk, hb⟩
  obtain ⟨a1, c1, rfl⟩ := hb.form
  have hs := hb.bs (Nat.le_refl _)
  have hv1 := hv.kept hk (fun _ _ _ h => h)
  rw [leB_length] at hs
  clear hb hv g3
  go_wp2_with fail
  rw [leB_length]
  have hbs := Bss.new w1 #[.slice a1 8 c1, .slice a l.length cap] 29 [leB l.length, l] 2 rfl (by decide) ⟨hs.all, hv1.all, trivial⟩
  refine (join _ _ _ _ _ _ _ hbs (by simp [total, leB_length]; omega)).mono ?_
  rintro e2 w2 ⟨v2, rfl, hk2, hb2⟩
  have hsz := hk.size
  go_wp2
  go_ret
  exact ⟨_, rfl, (hk.alloc _).then hk2 (fun _ _ h => h.elim), by have := Bo.base (base' := w.heap.size) hb2 (by simp; omega); simpa using this⟩
end Bin
end Go.Proofs.Ytpbkdeljhehkdaa

/- Package postmarkref1, what writes bytes: each function by its contract, over the same plain functions as package bin. -/
namespace Go.Proofs.Ytpbkdeljhehkdaa
open Go.RowKit Go.Pm

namespace Ref
set_option maxHeartbeats 400000 in
/-- postmarkref1.Num. -/
theorem num (n : Int) (w : World) (h0 : 0 ≤ n) (_h1 : n < 18446744073709551616) :
    Calls Try.prog 27 #[.int .u64 n] w fun e w' => ∃ v, e = .returned v ∧ Kept None w w' ∧ Ob w' w.heap.size v (leB n) := by
  go_enter Try.func27, Try.ntmps27
  go_wp2
  go_loopw [3, 4] (fun b i wr => ∃ k : Nat, k ≤ 8 ∧ i = .int .i64 k ∧ Ob wr w.heap.size b ((leB n).take k) ∧ Kept None w wr ∧ (∃ a n c, b = .slice a n c)) (fun _ i _ => 8 - (intOf i).toNat)
  case atStart => exact ⟨0, by omega, rfl, Bo.nil _ _ _, Kept.refl _ _, _, _, _, rfl⟩
  case round =>
    obtain ⟨k, hk8, rfl, hb, hk, a, m, c, rfl⟩ := hrel
    by_cases hlt : k < 8
    · have hpos : (0 : Int) ≤ n / 2 ^ (8 * k) := Int.ediv_nonneg h0 (Int.pow_nonneg (by decide))
      go_wp2_with (at_builtin; refine wpList_append_byte rfl _ _ 29 rfl rtBytes rfl rfl hb ?h1 ?h2 ?h3 ?h4 ?h5)
      case h1 => omega
      case h2 => omega
      case h3 => simp [leB_length]; omega
      case h4 => exact hk.size
      case h5 =>
        intro a' n' cap' w' h1 h2
        have hk' := Kept.own hk h2 (fun k hk => (hb.own k hk).1)
        have hb' : Ob w' w.heap.size (.slice a' n' cap') ((leB n).take (k + 1)) := by rw [leB_take n k hlt]; exact h1
        clear hk hb h1 h2
        go_wp2
        go_roundw
        case rel => exact ⟨k + 1, by omega, by go_num, hb', hk', _, _, _, rfl⟩
        case measure => simp [intOf]; omega
    · have h8 : k = 8 := by omega
      have hfin : ∃ v, Ending.returned (.slice a m c) = .returned v ∧ Kept None w wr ∧ Ob wr w.heap.size v (leB n) := ⟨_, rfl, hk, by subst h8; exact hb⟩
      clear h8
      go_wp2
      go_ret
      exact hfin

set_option maxHeartbeats 400000 in
/-- postmarkref1.Lump. -/
theorem lump (v : Value) (lo hi : Nat) (l : List UInt8) (w : World) (hv : Bs w lo hi v l) (hl : l.length ≤ 70368744177664) :
    Calls Try.prog 73 #[v] w fun en w' => ∃ v', en = .returned v' ∧ Kept None w w' ∧ Ob w' w.heap.size v' (leB l.length ++ l) := by
  obtain ⟨a, cap, rfl, g1, g2, g3⟩ := hv.shape
  go_enter Try.func73, Try.ntmps73
  go_wp2_with fail
  refine (num _ w (by omega) (by omega)).mono ?_
  rintro e1 w1 ⟨v1, rfl, hk, hb⟩
  obtain ⟨a1, c1, rfl⟩ := hb.form
  have hv1 := hv.kept hk (fun _ _ _ h => h)
  have hsz := hk.size
  clear hv g3
  go_wp2_with (at_builtin; refine wpList_append_bo (l := leB l.length) (m := l) (base := w.heap.size) (lo := lo) (hi := hi) rfl _ _ 29 rfl rtBytes rfl rfl ?k1 ?k2 ?k3 ?k4 ?k5)
  case k1 => exact hb
  case k2 => exact hv1
  case k3 => rw [leB_length]; omega
  case k4 => exact hsz
  case k5 =>
    intro a2 n2 c2 w2 hb2 hk2
    have hk3 := Kept.own hk hk2 (fun k hk => (hb.own k hk).1)
    clear hb hv1 hk hk2
    go_wp2
    go_ret
    exact ⟨_, rfl, hk3, hb2⟩

set_option maxHeartbeats 1000000 in
/-- postmarkref1.Word. -/
theorem word (v : Value) (lo hi : Nat) (l : List UInt8) (w : World) (hv : Bs w lo hi v l) (hl : l.length = 8) :
    Calls Try.prog 62 #[v] w fun en w' => en = .returned (.int .u64 (leV l)) ∧ w = w' := by
  have hV : leV l = leV l := rfl
  conv at hV => rhs; unfold leV
  generalize leV l = V at hV ⊢
  obtain ⟨b, o, cap, rfl, g1, g2, q1, q2, q3, hc⟩ := Bs.lit hv 8 hl (by omega)
  have c0 := hc 0 (by omega)
  have c1 := hc 1 (by omega)
  have c2 := hc 2 (by omega)
  have c3 := hc 3 (by omega)
  have c4 := hc 4 (by omega)
  have c5 := hc 5 (by omega)
  have c6 := hc 6 (by omega)
  have c7 := hc 7 (by omega)
  simp only [Nat.add_zero] at c0
  have B := fun i => bAt_lt l i
  have A := fun i => bAt_ge l i
  clear hc hv hl
  have b0 := B 0
  have a0 := A 0
  have b1 := B 1
  have a1 := A 1
  have b2 := B 2
  have a2 := A 2
  have b3 := B 3
  have a3 := A 3
  have b4 := B 4
  have a4 := A 4
  have b5 := B 5
  have a5 := A 5
  have b6 := B 6
  have a6 := A 6
  have b7 := B 7
  have a7 := A 7
  clear A B
  generalize bAt l 0 = x0 at *
  generalize bAt l 1 = x1 at *
  generalize bAt l 2 = x2 at *
  generalize bAt l 3 = x3 at *
  generalize bAt l 4 = x4 at *
  generalize bAt l 5 = x5 at *
  generalize bAt l 6 = x6 at *
  generalize bAt l 7 = x7 at *
  have HV := hid hV
  clear hV
  go_enter Try.func62, Try.ntmps62
  go_wp2
  refine wp_loop_rounds 9 ?_
  iterate 9 (rw [rounds_succ]; go_wp2)
  go_ret
  refine ⟨?_, rfl⟩
  show Ending.returned (.int .u64 _) = _
  rw [or_zero x7 a7 b7, or_step x7 x6 (by omega) (by omega) a6 b6, or_step _ x5 (by omega) (by omega) a5 b5, or_step _ x4 (by omega) (by omega) a4 b4, or_step _ x3 (by omega) (by omega) a3 b3,
    or_step _ x2 (by omega) (by omega) a2 b2, or_step _ x1 (by omega) (by omega) a1 b1, or_step _ x0 (by omega) (by omega) a0 b0, HV.out]
  congr 2
  omega

end Ref
end Go.Proofs.Ytpbkdeljhehkdaa
namespace Go.Proofs.Ytpbkdeljhehkdaa
open Go.RowKit Go.Pm
namespace Up
theorem aEnt : AggTy Try.prog 88 3 := Sg.AggTy.of (by kernel_rfl) (by kernel_rfl)
theorem ent_all (n : ByteArray) (v : Int) (k : Nat) : (#[.string n, .int .i64 v, .int .u64 (k : Int)] : Array Value).all (·.oneCell') = true := by simp [Value.oneCell']
end Up
end Go.Proofs.Ytpbkdeljhehkdaa
namespace Go.Proofs.Ytpbkdeljhehkdaa
open Go.RowKit Go.Pm
namespace Up
theorem aUpd : AggTy Try.prog 26 6 := Sg.AggTy.of (by kernel_rfl) (by kernel_rfl)
theorem upd_all (n : ByteArray) (v c : Int) (k r s : Nat) : (#[.string n, .int .i64 v, .int .u64 (k : Int), .int .i64 c, .int .u64 (r : Int), .int .u64 (s : Int)] : Array Value).all (·.oneCell') = true := by simp [Value.oneCell']

theorem prime_ge (s : Nat) (b : Bool) (h : decide (prime61 ≤ s) = b) : ∀ z, z = s → decide ((2305843009213693951 : Int) ≤ (z : Int)) = b := by
  rintro z rfl
  rw [← h, decide_eq_decide]
  unfold prime61
  omega

set_option maxRecDepth 100000 in
set_option maxHeartbeats 1000000 in
/-- update.Right. -/
theorem right (n : ByteArray) (v c : Int) (k r s : Nat) (w : World) : Calls Try.prog 51 #[updV n v k c r s] w fun e w' => e = .returned (.bool (rightB n.size v k c)) ∧ Kept None w w' := by
  have k0 : Kept None w (w.alloc (.cells #[.string n, .int .i64 v, .int .u64 (k : Int), .int .i64 c, .int .u64 (r : Int), .int .u64 (s : Int)] 26)) := (Kept.refl _ _).alloc _
  by_cases h1 : n.size < 1
  · rw [rightB_no (by omega)]
    go_enter Try.func51, Try.ntmps51
    go_wp2
    go_ret
    exact ⟨rfl, k0⟩
  by_cases h2 : 32 < n.size
  · rw [rightB_no (by omega)]
    go_enter Try.func51, Try.ntmps51
    go_wp2
    go_ret
    exact ⟨rfl, k0⟩
  by_cases h3 : v < 1
  · rw [rightB_no (by omega)]
    go_enter Try.func51, Try.ntmps51
    go_wp2
    go_ret
    exact ⟨rfl, k0⟩
  by_cases h4 : 1073741824 < v
  · rw [rightB_no (by omega)]
    go_enter Try.func51, Try.ntmps51
    go_wp2
    go_ret
    exact ⟨rfl, k0⟩
  by_cases h5 : k < 1
  · rw [rightB_no (by omega)]
    go_enter Try.func51, Try.ntmps51
    go_wp2
    go_ret
    exact ⟨rfl, k0⟩
  by_cases h6 : prime61 ≤ k
  · rw [rightB_no (by omega)]
    have hb := prime_ge k true (decide_eq_true h6)
    clear h6
    go_enter Try.func51, Try.ntmps51
    go_wp2
    go_ret
    exact ⟨rfl, k0⟩
  have hb := prime_ge k false (decide_eq_false h6)
  have e1 : rightB n.size v k c = (c == 0 || c == 1) := by
    rw [Bool.eq_iff_iff, rightB_iff]
    simp only [Bool.or_eq_true, beq_iff_eq]
    omega
  rw [e1]
  clear h6 e1 k0
  go_enter Try.func51, Try.ntmps51
  go_wp2
  all_goals
    go_ret
    exact ⟨rfl, (Kept.refl _ _).alloc _⟩
end Up
end Go.Proofs.Ytpbkdeljhehkdaa
namespace Go.Proofs.Ytpbkdeljhehkdaa
open Go.RowKit Go.Pm
namespace K14
open Jr
theorem aRec : AggTy Try.prog 28 12 := Sg.AggTy.of (by kernel_rfl) (by kernel_rfl)
theorem inI_zero : inI 0 := ⟨by decide, by decide⟩
theorem none_fits : Req.none.Fits := ⟨inI_zero, by decide, inI_zero, by decide, by decide⟩
theorem fits_small (k s e : Int) (hk : inI k) (hs : inI s) (he : inI e) : (⟨k, s, 0, 0, Req.none, 0, e⟩ : Rec).Fits := ⟨hk, hs, inI_zero, inI_zero, none_fits, inI_zero, he⟩
set_option maxRecDepth 100000 in
set_option maxHeartbeats 4000000 in
theorem known (hT : RightC) (hP : PutC) (hR : ReadC) (hB : BaseC) (w : World) : Calls Try.prog 6 #[] w fun e w' => e = .returned (.bool true) ∧ Kept None w w' := by
  have i3 : inI 3 := ⟨by decide, by decide⟩
  have i0 : inI 0 := ⟨by decide, by decide⟩
  have p1 := fun W => hP ⟨3, 4, 0, 0, Req.none, 0, 2⟩ W (fits_small 3 4 2 i3 ⟨by decide, by decide⟩ ⟨by decide, by decide⟩)
  have p2 := fun W => hP ⟨3, 0, 0, 0, Req.none, 0, 0⟩ W (fits_small 3 0 0 i3 i0 i0)
  have t1 := fun W => hT Rec.none W (fits_small 0 0 0 i0 i0 i0)
  have b1 := fun W => hB 1 0 (.slice none 0 0) 0 0 [] W (Ps.nil _ _ _ _) (fun x hx => by cases hx) ⟨by decide, by decide⟩ i0 (by decide)
  have e1 : rightJ ⟨3, 4, 0, 0, Req.none, 0, 2⟩ = true := by decide
  have e2 : rightJ ⟨3, 0, 0, 0, Req.none, 0, 0⟩ = false := by decide
  have e3 : rightJ Rec.none = false := by decide
  have e4 : putJE ⟨3, 4, 0, 0, Req.none, 0, 2⟩ = 0 := by unfold putJE; rw [e1]; rfl
  have e5 : putJE ⟨3, 0, 0, 0, Req.none, 0, 0⟩ = 23 := by unfold putJE; rw [e2]; rfl
  have e6 : (putJL ⟨3, 4, 0, 0, Req.none, 0, 2⟩).length = 29 := by rw [putJ_len e1]; rfl
  have e7 := read_putJ (r := ⟨3, 4, 0, 0, Req.none, 0, 2⟩) [] e1 ⟨by decide, by decide⟩
  rw [List.append_nil] at e7
  have e8 : rightJ (recB 1 0 0) = true := by decide
  have e9 : (baseF 1 0 []).length = 37 := by
    have : baseF 1 0 [] = putJL (recB 1 0 0) := by
      unfold baseF
      rw [show rightJ (recB 1 0 ([] : List Pn).length) = true from e8]
      simp [recsP, allR, joinR]
    rw [this, putJ_len e8]
    rfl
  have eb : (bodyJ ⟨3, 4, 0, 0, Req.none, 0, 2⟩).length = 8 := rfl
  rw [eb] at e7
  rw [e4] at p1
  rw [e5] at p2
  rw [e3] at t1
  obtain ⟨TT, hTT⟩ : ∃ t, t = putJL ⟨3, 4, 0, 0, Req.none, 0, 2⟩ := ⟨_, rfl⟩
  obtain ⟨BB, hBB⟩ : ∃ t, t = baseF 1 0 [] := ⟨_, rfl⟩
  rw [← hTT] at p1 e6 e7
  rw [← hBB] at b1 e9
  have r1 := fun v lo hi W h => hR v lo hi TT W h (by rw [e6]; decide)
  simp only [e7] at r1
  have heq := fun W => Jq.eqRec ⟨3, 4, 0, 0, Req.none, 0, 2⟩ ⟨3, 4, 0, 0, Req.none, 0, 2⟩ W
  rw [recEq_self] at heq
  unfold Rec.V Rec.C at p1 p2 t1 r1
  unfold Rec.C at heq
  have hq : ∀ W, (binOp .eql 28 (.agg #[.int .i64 3, .int .i64 4, .int .i64 0, .int .i64 0, .string ⟨#[]⟩, .int .i64 0, .int .u64 0, .int .i64 0, .int .u64 0, .int .u64 0, .int .i64 0, .int .i64 2]) (.agg #[.int .i64 3, .int .i64 4, .int .i64 0, .int .i64 0, .string ⟨#[]⟩, .int .i64 0, .int .u64 0, .int .i64 0, .int .u64 0, .int .u64 0, .int .i64 0, .int .i64 2])).run Try.prog W = .ok (.bool true) W := heq
  have P1 := hid p1
  have P2 := hid p2
  have T1 := hid t1
  have B1 := hid b1
  have R1 := hid r1
  have E6 := hid e6
  have E9 := hid e9
  clear p1 p2 t1 b1 r1 heq e1 e2 e3 e4 e5 e6 e7 e8 e9 eb i3 i0 hTT hBB hT hP hR hB
  go_enter Try.func6, Try.ntmps6
  go_wp2_with fail
  refine (P1.out _).mono ?_
  rintro e w1 ⟨u1, rfl, k1, b1⟩
  obtain ⟨a1, c1, rfl⟩ := b1.form
  have hA1 := (Blk.new w #[.int .i64 3, .int .i64 4, .int .i64 0, .int .i64 0, .string ⟨#[]⟩, .int .i64 0, .int .u64 0, .int .i64 0, .int .u64 0, .int .u64 0, .int .i64 0, .int .i64 2] 28).kept k1 (fun h => h)
  have K1 := hid (show Kept None w w1 from ((Kept.refl _ _).alloc _).trans k1)
  have BS1 := hid (b1.bs (Nat.le_refl _)).all
  have A1 := hid hA1
  clear k1 b1 hA1
  go_wp2_with fail
  refine (R1.out _ _ _ _ BS1.out).mono ?_
  rintro e w2 ⟨rfl, k2⟩
  have A2 := hid ((A1.out.kept k2 (fun h => h)).alloc (.cells #[.int .i64 3, .int .i64 4, .int .i64 0, .int .i64 0, .string ⟨#[]⟩, .int .i64 0, .int .u64 0, .int .i64 0, .int .u64 0, .int .u64 0, .int .i64 0, .int .i64 2] 28))
  have D2 := hid (Blk.new w2 #[.int .i64 3, .int .i64 4, .int .i64 0, .int .i64 0, .string ⟨#[]⟩, .int .i64 0, .int .u64 0, .int .i64 0, .int .u64 0, .int .u64 0, .int .i64 0, .int .i64 2] 28)
  have K2 := hid (show Kept None w (w2.alloc (.cells #[.int .i64 3, .int .i64 4, .int .i64 0, .int .i64 0, .string ⟨#[]⟩, .int .i64 0, .int .u64 0, .int .i64 0, .int .u64 0, .int .u64 0, .int .i64 0, .int .i64 2] 28)) from (K1.out.trans k2).alloc _)
  clear k2
  go_wp2_with fail
  refine (P2.out _).mono ?_
  rintro e w3 ⟨u3, rfl, k3, b3⟩
  obtain ⟨a3, c3, rfl⟩ := b3.form
  have hA := A2.out.kept k3 (fun h => h)
  have hD := D2.out.kept k3 (fun h => h)
  have K3 := hid (K2.out.trans k3)
  have e6 := E6.out
  clear k3 b3
  go_wp2_with (first | go_skip | (refine wpList_load_bw (by kernel_rfl) rfl rfl hD aRec ?_) | (refine wpList_load_bw (by kernel_rfl) rfl rfl hA aRec ?_) | fail)
  refine (B1.out _).mono ?_
  rintro e w4 ⟨u4, rfl, k4, b4⟩
  obtain ⟨a4, c4, rfl⟩ := b4.form
  have K4 := hid (K3.out.trans k4)
  have e9 := E9.out
  clear k4 b4 hA hD
  go_wp2_with (first | go_skip | fail)
  refine (T1.out _).mono ?_
  rintro e w5 ⟨rfl, k5⟩
  have K5 := hid (K4.out.trans k5)
  clear k5
  go_wp2_with (first | go_skip | fail)
  go_ret
  exact ⟨rfl, K5.out⟩
end K14
end Go.Proofs.Ytpbkdeljhehkdaa
namespace Go.Pm
open Go Go.RowKit

structure Ent where
  n : ByteArray
  v : Int
  k : Nat
def Ent.none : Ent := ⟨⟨#[]⟩, 0, 0⟩
structure Kno where
  e : Ent
  p : Int
def Kno.none : Kno := ⟨Ent.none, 0⟩
abbrev entC (x : Ent) : List Value := [.string x.n, .int .i64 x.v, .int .u64 (x.k : Int)]
abbrev knoC (x : Kno) : List Value := [.string x.e.n, .int .i64 x.e.v, .int .u64 (x.e.k : Int), .int .i64 x.p]
abbrev Ent.V (x : Ent) : Value := .agg (entC x).toArray
abbrev Kno.V (x : Kno) : Value := .agg (knoC x).toArray
def entsC (l : List Ent) : List (List Value) := l.map entC
def knosC (l : List Kno) : List (List Value) := l.map knoC
/-- Its name is a string that a machine may have, its key a word. -/
def Ent.Ok (x : Ent) : Prop := x.n.size ≤ 274877906944 ∧ x.k < 18446744073709551616
def EOk (l : List Ent) : Prop := ∀ x ∈ l, x.Ok
def KOk (l : List Kno) : Prop := ∀ x ∈ l, x.e.Ok
theorem entsC_each (l : List Ent) : Each 3 (entsC l) := fun x hx => by
  obtain ⟨y, _, rfl⟩ := List.mem_map.1 hx
  rfl
theorem knosC_each (l : List Kno) : Each 4 (knosC l) := fun x hx => by
  obtain ⟨y, _, rfl⟩ := List.mem_map.1 hx
  rfl
theorem entC_one (x : Ent) : ∀ c ∈ entC x, c.oneCell' = true := by
  intro c hc
  simp only [entC, List.mem_cons, List.not_mem_nil, or_false] at hc
  rcases hc with rfl | rfl | rfl <;> rfl
theorem knoC_one (x : Kno) : ∀ c ∈ knoC x, c.oneCell' = true := by
  intro c hc
  simp only [knoC, List.mem_cons, List.not_mem_nil, or_false] at hc
  rcases hc with rfl | rfl | rfl | rfl <;> rfl
theorem entsC_one (l : List Ent) : ∀ x ∈ entsC l, ∀ c ∈ x, c.oneCell' = true := fun x hx => by
  obtain ⟨y, _, rfl⟩ := List.mem_map.1 hx
  exact entC_one y
theorem knosC_one (l : List Kno) : ∀ x ∈ knosC l, ∀ c ∈ x, c.oneCell' = true := fun x hx => by
  obtain ⟨y, _, rfl⟩ := List.mem_map.1 hx
  exact knoC_one y
theorem entsC_len (l : List Ent) : (entsC l).length = l.length := List.length_map _
theorem knosC_len (l : List Kno) : (knosC l).length = l.length := List.length_map _
theorem entsC_app (a b : List Ent) : entsC (a ++ b) = entsC a ++ entsC b := List.map_append
theorem knosC_app (a b : List Kno) : knosC (a ++ b) = knosC a ++ knosC b := List.map_append
theorem entsC_at (l : List Ent) (i : Nat) (h : i < l.length) : (entsC l)[i]? = some (entC l[i]) := by
  unfold entsC
  rw [List.getElem?_map, List.getElem?_eq_getElem h]
  rfl
theorem knosC_at (l : List Kno) (i : Nat) (h : i < l.length) : (knosC l)[i]? = some (knoC l[i]) := by
  unfold knosC
  rw [List.getElem?_map, List.getElem?_eq_getElem h]
  rfl
/-- The cells of entry i, of what is known i. -/
theorem Ps.ent {w : World} {lo hi : Nat} {a : Option Addr} {n cap : Nat} {l : List Ent} (h : Ps 3 w lo hi (.slice a n cap) (entsC l)) (hn : 0 < l.length) :
    ∃ b o, a = some ⟨b, o, none⟩ ∧ ∀ i (hi : i < l.length), w.cell? ⟨b, o + i * 3, none⟩ = some (.string l[i].n) ∧ w.cell? ⟨b, o + i * 3 + 1, none⟩ = some (.int .i64 l[i].v) ∧ w.cell? ⟨b, o + i * 3 + 2, none⟩ = some (.int .u64 (l[i].k : Int)) ∧ w.rangeAt b (o + i * 3) (entC l[i]) := by
  obtain ⟨b, o, rfl, _, _, _, hr⟩ := h.ne (by decide) (by rw [entsC_len]; exact hn)
  refine ⟨b, o, rfl, fun i hi => ?_⟩
  have h1 := hr i _ (entsC_at l i hi)
  exact ⟨h1 0 _ rfl, h1 1 _ rfl, h1 2 _ rfl, h1⟩
theorem Ps.kno {w : World} {lo hi : Nat} {a : Option Addr} {n cap : Nat} {l : List Kno} (h : Ps 4 w lo hi (.slice a n cap) (knosC l)) (hn : 0 < l.length) :
    ∃ b o, a = some ⟨b, o, none⟩ ∧ ∀ i (hi : i < l.length), w.cell? ⟨b, o + i * 4, none⟩ = some (.string l[i].e.n) ∧ w.cell? ⟨b, o + i * 4 + 1, none⟩ = some (.int .i64 l[i].e.v) ∧ w.cell? ⟨b, o + i * 4 + 2, none⟩ = some (.int .u64 (l[i].e.k : Int)) ∧ w.cell? ⟨b, o + i * 4 + 3, none⟩ = some (.int .i64 l[i].p) ∧ w.rangeAt b (o + i * 4) (knoC l[i]) ∧ w.rangeAt b (o + i * 4) (entC l[i].e) := by
  obtain ⟨b, o, rfl, _, _, _, hr⟩ := h.ne (by decide) (by rw [knosC_len]; exact hn)
  refine ⟨b, o, rfl, fun i hi => ?_⟩
  have h1 := hr i _ (knosC_at l i hi)
  refine ⟨h1 0 _ rfl, h1 1 _ rfl, h1 2 _ rfl, h1 3 _ rfl, h1, fun j v hj => h1 j v ?_⟩
  match j, hj with
  | 0, hj => exact hj
  | 1, hj => exact hj
  | 2, hj => exact hj
  | j + 3, hj => simp at hj

/-- 's[:i]', 's[i:]' of pieces. -/
theorem ps_to {P : Program} {t : TypeId} {k : Nat} (ht : P.underlying t = some (.slice (P.elem t))) (hz : ∀ W, (sizeOf (P.elem t)).run P W = .ok k W) {w : World} {lo hi : Nat} {a : Option Addr} {n cap : Nat} {xs : List (List Value)} (h : Ps k w lo hi (.slice a n cap) xs) (kd : IntKind) (i : Nat) (h1 : i ≤ n) :
    ∃ a', (∀ W, (Instr.slice t (.slice a n cap) none (some (.int kd i)) none).run P W = .ok (.slice a' i cap) W) ∧ Ps k w lo hi (.slice a' i cap) (xs.take i) := by
  have hc : n ≤ cap := by obtain ⟨a', cap', hv, hc, _⟩ := h.form; injection hv; omega
  refine ⟨if cap = 0 then a else a.map (·.add 0), fun W => ?_, ?_⟩
  · rw [run_slice_h (P := P) W t a n cap ht kd i (by omega) (by omega), hz]
    simp [Go.sliced]
  · have := Ps.sliced h 0 i (by omega) (by omega)
    simpa using this
theorem ps_from {P : Program} {t : TypeId} {k : Nat} (ht : P.underlying t = some (.slice (P.elem t))) (hz : ∀ W, (sizeOf (P.elem t)).run P W = .ok k W) {w : World} {lo hi : Nat} {a : Option Addr} {n cap : Nat} {xs : List (List Value)} (h : Ps k w lo hi (.slice a n cap) xs) (kd : IntKind) (i : Nat) (h1 : i ≤ n) :
    ∃ a', (∀ W, (Instr.slice t (.slice a n cap) (some (.int kd i)) none none).run P W = .ok (.slice a' (n - i) (cap - i)) W) ∧ Ps k w lo hi (.slice a' (n - i) (cap - i)) (xs.drop i) := by
  refine ⟨if cap = i then a else a.map (·.add (i * k)), fun W => ?_, ?_⟩
  · rw [run_slice_l (P := P) W t a n cap ht kd i (by omega) (by omega), hz]
    simp [Go.sliced]
  · have hn : n = xs.length := by obtain ⟨a', cap', hv, _⟩ := h.form; injection hv
    have := Ps.sliced h i n (by omega) (Nat.le_refl _)
    rw [List.take_of_length_le (by omega)] at this
    exact this
theorem knosC_take (l : List Kno) (i : Nat) : knosC (l.take i) = (knosC l).take i := List.map_take
theorem knosC_drop (l : List Kno) (i : Nat) : knosC (l.drop i) = (knosC l).drop i := List.map_drop
theorem entsC_take (l : List Ent) (i : Nat) : entsC (l.take i) = (entsC l).take i := List.map_take
theorem entsC_drop (l : List Ent) (i : Nat) : entsC (l.drop i) = (entsC l).drop i := List.map_drop

/-- Where a row of pieces lies: within [lo, hi), or in memory that is newer than world w. -/
def Off (k : Nat) (w : World) (lo hi : Nat) (w' : World) (r : Value) (xs : List (List Value)) : Prop := ∃ lo2 hi2, Ps k w' lo2 hi2 r xs ∧ ((lo ≤ lo2 ∧ hi2 ≤ hi) ∨ w.heap.size ≤ lo2)
theorem Off.kept {k : Nat} {S : Nat → Prop} {w w' w2 : World} {lo hi : Nat} {r : Value} {xs : List (List Value)} (h : Off k w lo hi w' r xs) (hk : Kept S w' w2) (h1 : ∀ b, lo ≤ b → b < hi → ¬ S b) (h2 : ∀ b, w.heap.size ≤ b → ¬ S b) : Off k w lo hi w2 r xs := by
  obtain ⟨lo2, hi2, hp, hq⟩ := h
  refine ⟨lo2, hi2, hp.kept hk (fun b q1 q2 => ?_), hq⟩
  rcases hq with ⟨p1, p2⟩ | p1
  · exact h1 b (by omega) (by omega)
  · exact h2 b (by omega)
theorem Off.ps {k : Nat} {w w' : World} {lo hi : Nat} {r : Value} {xs : List (List Value)} (h : Off k w lo hi w' r xs) : Ps k w' 0 w'.heap.size r xs := by
  obtain ⟨lo2, hi2, hp, _⟩ := h
  exact hp.lt.wider (Nat.zero_le _) (Nat.min_le_right _ _)
theorem Off.base {k : Nat} {w w0 w' : World} {lo hi : Nat} {r : Value} {xs : List (List Value)} (h : Off k w lo hi w' r xs) (hb : w0.heap.size ≤ w.heap.size) : Off k w0 lo hi w' r xs := by
  obtain ⟨lo2, hi2, hp, hq⟩ := h
  exact ⟨lo2, hi2, hp, hq.elim .inl (fun p => .inr (by omega))⟩
theorem Off.of {k : Nat} {w : World} {lo hi : Nat} {r : Value} {xs : List (List Value)} (w0 : World) (h : Ps k w lo hi r xs) : Off k w0 lo hi w r xs := ⟨lo, hi, h, .inl ⟨Nat.le_refl _, Nat.le_refl _⟩⟩

/-! ### The document's directory -/
/-- Names are alike; one is ahead of another one. -/
def eqN (a b : ByteArray) : Bool := a.toList == b.toList
def ltN (a b : ByteArray) : Bool := Go.Op.bytesLess a.toList b.toList
/-- One step of Latest. -/
def latS (nm : ByteArray) (s : Kno × Bool) (x : Kno) : Kno × Bool := if eqN x.e.n nm && (!s.2 || decide (s.1.e.v < x.e.v)) then (x, true) else s
def latF (l : List Kno) (nm : ByteArray) : Kno × Bool := l.foldl (latS nm) (Kno.none, false)
theorem latF_take (l : List Kno) (nm : ByteArray) (i : Nat) (h : i < l.length) : (l.take (i + 1)).foldl (latS nm) (Kno.none, false) = latS nm ((l.take i).foldl (latS nm) (Kno.none, false)) l[i] := by
  rw [List.take_succ_eq_append_getElem h, List.foldl_append]
  rfl
theorem latF_all (l : List Kno) (nm : ByteArray) : (l.take l.length).foldl (latS nm) (Kno.none, false) = latF l nm := by rw [List.take_length]; rfl
theorem latS_ok {nm : ByteArray} {s : Kno × Bool} {x : Kno} (hs : s.1.e.Ok) (hx : x.e.Ok) : (latS nm s x).1.e.Ok := by
  unfold latS
  split
  · exact hx
  · exact hs
theorem latF_Ok : ∀ (l : List Kno) (nm : ByteArray), KOk l → (latF l nm).1.e.Ok := by
  intro l nm h
  have g : ∀ (l : List Kno) (s : Kno × Bool), KOk l → s.1.e.Ok → (l.foldl (latS nm) s).1.e.Ok := by
    intro l
    induction l with
    | nil => intro s _ hs; exact hs
    | cons x l ih =>
      intro s hl hs
      exact ih _ (fun y hy => hl y (List.mem_cons_of_mem _ hy)) (latS_ok hs (hl x (List.mem_cons_self ..)))
  exact g l _ h ⟨by decide, by decide⟩
/-- Ahead of an entry, in the order by names and versions. -/
def aheadK (y : Kno) (e : Ent) : Bool := ltN y.e.n e.n || (eqN y.e.n e.n && decide (y.e.v < e.v))
/-- How many stand ahead: the first so many. -/
def place (l : List Kno) (e : Ent) : Nat := (l.takeWhile (fun y => aheadK y e)).length
def insK (l : List Kno) (x : Kno) : List Kno := l.take (place l x.e) ++ x :: l.drop (place l x.e)
theorem place_le (l : List Kno) (e : Ent) : place l e ≤ l.length := by
  unfold place
  exact (List.takeWhile_sublist _).length_le
theorem place_lt {l : List Kno} {e : Ent} {i : Nat} (h : i < place l e) (hl : i < l.length) : aheadK l[i] e = true := by
  induction l generalizing i with
  | nil => simp at hl
  | cons y l ih =>
    unfold place at h
    rw [List.takeWhile_cons] at h
    split at h
    · rename_i hy
      cases i with
      | zero => exact hy
      | succ i => exact ih (by simpa [place] using h) (by simpa using hl)
    · simp at h
theorem place_at {l : List Kno} {e : Ent} (hl : place l e < l.length) : aheadK l[place l e] e = false := by
  induction l with
  | nil => simp at hl
  | cons y l ih =>
    cases hy : aheadK y e with
    | false =>
      have : place (y :: l) e = 0 := by simp [place, hy]
      simp only [this, List.getElem_cons_zero, hy]
    | true =>
      have e1 : place (y :: l) e = place l e + 1 := by simp [place, hy]
      have hl' : place l e < l.length := by rw [e1] at hl; simpa using hl
      have := ih hl'
      simp only [e1, List.getElem_cons_succ]
      exact this
/-- May entry e of a batch come at this epoch; ahead of it in the batch: b. -/
def mayE (l : List Kno) (b : List Ent) (e : Ent) : Bool := (entR e.n.size e.v e.k && decide (e.v = IntKind.i64.wrap ((latF l e.n).1.e.v + 1))) && !(b.any (fun y => eqN y.n e.n))
/-- The directory behind the first i of a batch; none: one of them may not be. -/
def addN (l : List Kno) (p : Int) (b : List Ent) : Nat → Option (List Kno)
  | 0 => some l
  | i + 1 => match addN l p b i with
    | Option.none => Option.none
    | some out => match b[i]? with
      | Option.none => some out
      | some e => if mayE l (b.take i) e then some (insK out ⟨e, p⟩) else Option.none
def addR (l : List Kno) : Option (List Kno) → List Kno × Bool
  | Option.none => (l, false)
  | some out => (out, true)
def addF (l : List Kno) (p : Int) (b : List Ent) : List Kno × Bool :=
  if p < 1 then (l, false) else if l.any (fun y => decide (p ≤ y.p)) then (l, false) else addR l (addN l p b b.length)
theorem addN_none {l : List Kno} {p : Int} {b : List Ent} {i : Nat} (h : addN l p b i = Option.none) : ∀ j, addN l p b (i + j) = Option.none
  | 0 => h
  | j + 1 => by
    show addN l p b (i + j + 1) = _
    unfold addN
    rw [addN_none h j]
theorem addN_stop {l : List Kno} {p : Int} {b : List Ent} {i : Nat} (h : addN l p b i = Option.none) (hi : i ≤ b.length) : addN l p b b.length = Option.none := by
  have := addN_none h (b.length - i)
  rwa [Nat.add_sub_cancel' hi] at this
theorem addN_bad {l out : List Kno} {p : Int} {b : List Ent} {i : Nat} (h : addN l p b i = some out) (hi : i < b.length) (hm : mayE l (b.take i) b[i] = false) : addN l p b (i + 1) = Option.none := by
  unfold addN
  rw [h, List.getElem?_eq_getElem hi]
  simp only [hm]
  rfl
theorem addN_good {l out : List Kno} {p : Int} {b : List Ent} {i : Nat} (h : addN l p b i = some out) (hi : i < b.length) (hm : mayE l (b.take i) b[i] = true) : addN l p b (i + 1) = some (insK out ⟨b[i], p⟩) := by
  unfold addN
  rw [h, List.getElem?_eq_getElem hi]
  simp only [hm, if_true]
theorem insK_len (l : List Kno) (x : Kno) : (insK l x).length = l.length + 1 := by
  unfold insK
  have := place_le l x.e
  simp
  omega
theorem insK_ok {l : List Kno} {x : Kno} (hl : KOk l) (hx : x.e.Ok) : KOk (insK l x) := fun y hy => by
  unfold insK at hy
  rcases List.mem_append.1 hy with h | h
  · exact hl y (List.mem_of_mem_take h)
  · rcases List.mem_cons.1 h with h | h
    · rw [h]; exact hx
    · exact hl y (List.mem_of_mem_drop h)
theorem addN_ok {l : List Kno} {p : Int} {b : List Ent} (hl : KOk l) (hb : EOk b) : ∀ (i : Nat) (out : List Kno), addN l p b i = some out → KOk out ∧ out.length ≤ l.length + i
  | 0, out, h => by
    obtain rfl := Option.some.inj h
    exact ⟨hl, Nat.le_refl _⟩
  | i + 1, out, h => by
    unfold addN at h
    cases h0 : addN l p b i with
    | none => rw [h0] at h; cases h
    | some o =>
      obtain ⟨q1, q2⟩ := addN_ok hl hb i o h0
      rw [h0] at h
      cases h1 : b[i]? with
      | none =>
        rw [h1] at h
        obtain rfl := Option.some.inj h
        exact ⟨q1, by omega⟩
      | some e =>
        rw [h1] at h
        simp only at h
        split at h
        · obtain rfl := Option.some.inj h
          exact ⟨insK_ok q1 (hb e (List.mem_of_getElem? h1)), by rw [insK_len]; omega⟩
        · cases h
theorem addF_ok {l : List Kno} {p : Int} {b : List Ent} (hl : KOk l) (hb : EOk b) : KOk (addF l p b).1 ∧ (addF l p b).1.length ≤ l.length + b.length := by
  unfold addF
  split
  · exact ⟨hl, Nat.le_add_right _ _⟩
  · split
    · exact ⟨hl, Nat.le_add_right _ _⟩
    · cases h : addN l p b b.length with
      | none => exact ⟨hl, Nat.le_add_right _ _⟩
      | some out => exact addN_ok hl hb _ _ h
end Go.Pm
