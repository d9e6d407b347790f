/- Arrays as values: blocks that are loaded and stored whole. Program-independent. -/
import Derived.Test.YtbckjkfdkgomiaaPar
import Derived.Laws.Rows
import Derived.Laws.CopyOwn
import Derived.StillTailTactics
namespace Go.Pm
open Go Go.RowKit

theorem Blk.setRow {w : World} {r : Nat} {cs : Array Value} {t : TypeId} (h : Blk w r cs t) (cs' : Array Value) : Blk (w.setRow r cs') r cs' t := setRow_heap w r cs cs' t _ h
theorem Blk.setRowOther {w : World} {r : Nat} {cs : Array Value} {t : TypeId} (h : Blk w r cs t) {g : Nat} (hg : r ≠ g) (cs' : Array Value) : Blk (w.setRow g cs') r cs t := by
  unfold Blk; rw [setRow_other w g r cs' hg]; exact h
theorem Kept.row (w : World) (g : Nat) (cs : Array Value) : Kept (Just g) w (w.setRow g cs) := ⟨rfl, rfl, rfl, by simp, fun k _ hs => setRow_other w g k cs hs⟩
theorem Kept.setRow {S : Nat → Prop} {a w : World} (h : Kept S a w) {g : Nat} (hg : g < a.heap.size → S g) (cs : Array Value) : Kept S a (w.setRow g cs) :=
  h.then (Kept.row w g cs) (fun i hi (e : i = g) => by subst e; exact hg hi)
def aggD : TypeDesc → Bool
  | .struct _ => true
  | .array _ _ => true
  | _ => false
/-- A type of arrays or structs of n cells. -/
structure AggTy (P : Program) (t : TypeId) (n : Nat) : Prop where
  ag : ∃ d, P.underlying t = some d ∧ aggD d = true
  size : (P.info? t).map (·.size) = some n

theorem wpList_load_blk {P : Program} {ops : Array Oper} {rest : List Oper} {o : Oper} {a : Act} {w : World} {Q : Exit → Act → World → Prop} (hgd : o.guard = none) (ty : TypeId) (x : Operand) (ho : o.op = .load ty x)
    {g : Nat} (hx : a.eval x = .pointer (some ⟨g, 0, none⟩)) {t : TypeId} {cs : Array Value} (hb : Blk w g cs t) (hT : AggTy P ty cs.size)
    (h : wpList P ops Q rest (a.put o.dst (.agg cs)) w) : wpList P ops Q (o :: rest) a w := by
  obtain ⟨d, hu, hd⟩ := hT.ag
  exact wpList_load_row hgd ty x ho g hx t cs (0, 0) d hb hu (by cases d <;> first | rfl | exact hd) hT.size h
theorem wpList_store_blk {P : Program} {ops : Array Oper} {rest : List Oper} {o : Oper} {a : Act} {w : World} {Q : Exit → Act → World → Prop} (hgd : o.guard = none) (ty : TypeId) (x y : Operand) (ho : o.op = .store ty x y)
    {g : Nat} (hx : a.eval x = .pointer (some ⟨g, 0, none⟩)) {cs' : Array Value} (hy : a.eval y = .agg cs') {t : TypeId} {cs : Array Value} (hb : Blk w g cs t) (hT : AggTy P ty cs'.size) (hs : cs.size = cs'.size) (h1 : cs'.all (·.oneCell') = true)
    (h : ∀ w', Blk w' g cs' t → Kept (Just g) w w' → wpList P ops Q rest (a.put o.dst undef) w') : wpList P ops Q (o :: rest) a w :=
  wpList_plain hgd fun _ hK => wp_store_row ty x y ho g cs' hx hy t cs hb hT.size hs h1 (hK _ _ (h _ (hb.setRow _) (Kept.row _ _ _)))
theorem run_load_blk {P : Program} {w : World} {ty t : TypeId} {g : Nat} {cs : Array Value} (hb : Blk w g cs t) (hT : AggTy P ty cs.size) : (Instr.loadAt ty (.pointer (some ⟨g, 0, none⟩))).run P w = .ok (.agg cs) w := by
  obtain ⟨d, hu, hd⟩ := hT.ag
  have hr := run_loadVar_row w g t ty cs (0, 0) d hb hu (by cases d <;> first | rfl | exact hd) hT.size
  simp only [Instr.loadAt, Instr.sureAddr, Sem.run_bind, Sem.run_pure, Result.andThen_ok, hr]
theorem run_store_blk {P : Program} {w : World} {ty t : TypeId} {g : Nat} {cs cs' : Array Value} (hb : Blk w g cs t) (hT : AggTy P ty cs'.size) (hs : cs.size = cs'.size) (h1 : cs'.all (·.oneCell') = true) :
    (Instr.storeAt ty (.pointer (some ⟨g, 0, none⟩)) (.agg cs')).run P w = .ok () (w.setRow g cs') := by
  simp only [Instr.storeAt, Instr.sureAddr, Sem.run_bind, Sem.run_pure, Result.andThen_ok, run_storeVar_row w g t ty cs cs' hb hT.size hs h1]
/-- What a function tells that has one result, an array or a struct in a cell. -/
theorem results_blk {P : Program} {fn : Func} {p : Tmp} {ty : TypeId} (h : fn.results = #[.cell p ty]) (tmps : Array Value) {w : World} {g : Nat} {t : TypeId} {cs : Array Value} (hp : tmps.getD p undef = .pointer (some ⟨g, 0, none⟩)) (hb : Blk w g cs t)
    (hT : AggTy P ty cs.size) : (results fn tmps).run P w = .ok (.agg cs) w := by
  obtain ⟨d, hu, hd⟩ := hT.ag
  exact results_cell_row h tmps w g t cs (0, 0) d hp hb hu (by cases d <;> first | rfl | exact hd) hT.size
/-- A region that draws its order, of which all but the end only reads: the world behind the draw under a name. -/
theorem wp_tail {P : Program} {id : Nat} {Q : Exit → Act → World → Prop} {a : Act} {w : World} {l : List Oper} (n : Nat) (hm : P.follows .mixedOrders = true) (hB : Region.lexTailB .any l.toArray n = true)
    (h : ∀ wy, Kept None w wy → wpStill P l.toArray wy (fun a' => wpList P l.toArray Q (l.drop n) a' wy) (l.take n) a) : (Code.region id l.toArray true).wp P Q a w :=
  wp_region_still_tail n hm hB (h w.drew (Kept.refl None w).drew)
/-- 'copy' of bytes into a block, as an operation of a region that adds. -/
theorem gives_copy {P : Program} {o : Oper} {a : Act} {w : World} {X : Value → World → Prop} (d s : Operand) (dT sT : TypeId)
    (ho : o.op = .call { callee := .builtin .copy, args := #[d, s], argTypes := #[dT, sT] }) (elem : TypeId) (hu : P.underlying dT = some (.slice elem)) (hsz : (P.info? elem).map (·.size) = some 1)
    {g off dLen dCap : Nat} {u : Value} (hd : a.eval d = .slice (some ⟨g, off, none⟩) dLen dCap) (hs : a.eval s = u) {lo hi : Nat} {l : List UInt8} (hv : Bs w lo hi u l) (h0 : 0 < l.length)
    {cur : List Value} {t : TypeId} (hb : Blk w g cur.toArray t) (hn : l.length ≤ dLen) (hfit : off + l.length ≤ cur.length)
    (h : ∀ w', Blk w' g (splice cur off (l.map u8v)).toArray t → Kept (Just g) w w' → X (goInt l.length) w') : Gives P o a w X := by
  obtain ⟨sp, sc, rfl, g1, g2, g3⟩ := hv.shape
  obtain ⟨a', cap', e, _, _, h3, h4⟩ := hv
  injection e with e1 e2 e3
  subst e1 e3
  cases sp with
  | none => have := h3 rfl; omega
  | some ad =>
    have hrun := run_copy_row (P := P) w dT sT o.type elem g off dLen dCap ad l.length sc cur.toArray t (l.map u8v) hu hsz hb (by rw [List.length_map]; exact (Nat.min_eq_left hn).symm) (fun j v hj => (h4 ad rfl j v hj).2.2) (by simpa using hfit) (u8v_one l)
    unfold Gives
    simp only [execOp, ho, resolve, invoke, builtin, Sem.run_bind, Sem.run_pure, Result.andThen_ok, List.map_toArray, List.map_cons, List.map_nil, hd, hs, hrun, List.length_map]
    refine h _ ?_ (Kept.row _ _ _)
    have := hb.setRow (splice cur off (l.map u8v)).toArray
    simpa [splice] using this

/-- Bytes as an array. -/
abbrev hashV (l : List UInt8) : Value := .agg (l.map u8v).toArray
theorem u8v_all (l : List UInt8) : (l.map u8v).toArray.all (·.oneCell') = true := by
  rw [Array.all_eq_true_iff_forall_mem]
  intro x hx
  exact u8v_one l x (by simpa using hx)
end Go.Pm
