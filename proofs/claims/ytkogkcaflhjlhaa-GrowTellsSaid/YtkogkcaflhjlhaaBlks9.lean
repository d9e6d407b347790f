/- A region that draws its order and loads and stores whole blocks that were there before: one lexical walk. Program-independent. -/
import Derived.Test.YtkogkcaflhjlhaaKey7
namespace Go.Pm
open Go Go.RowKit
/-- What is known of a block, by its label (its place in 'gs'), or of a value. -/
inductive BF where
  | val (k : Nat) (v : Value) (uses : List Nat)
  | blk (k : Nat) (i : Nat) (A : Array Value) (uses spends : List Nat)
def BF.fct (gs : List Nat) (t : TypeId) : BF → Fct
  | .val k v us => { k := k, uses := us, pure := fun u => u = v }
  | .blk k i A us sp => { k := k, uses := us, spends := sp, fact := fun _ W => Blk W (gs.getD i 0) A t }
/-- Operation k stores into block i: what is known of that block otherwise is used up. -/
def BF.apart (n k i : Nat) (sp : List Nat) : BF → Bool
  | .val .. => true
  | .blk j i' .. => decide (i' < n) && (i' != i || j == k || sp.contains j)
abbrev bplan (w0 : World) (gs : List Nat) (t : TypeId) (m : List BF) : Plan := planOf (Kept (· ∈ gs) w0) (m.map (BF.fct gs t))
section
variable {P : Program} {w0 : World} {gs : List Nat} {t : TypeId} {m : List BF}
theorem bf_pure : ∀ f ∈ m.map (BF.fct gs t), ∃ v, f.pure v := fun f hf => by
  obtain ⟨g, _, rfl⟩ := List.mem_map.1 hf
  cases g with
  | val k v us => exact ⟨v, rfl⟩
  | blk k i A us sp => exact ⟨undef, trivial⟩
theorem bf_keeps {i : Nat} {W W' : World} (hk : Kept None W W') : (bplan w0 gs t m).keeps i W W' := keeps_all fun f hf u hu => by
  obtain ⟨g, _, rfl⟩ := List.mem_map.1 hf
  cases g with
  | val k v us => trivial
  | blk k i A us sp => exact Blk.kept hu hk (fun h => h)
theorem bf_keeps_store {k i : Nat} {W W' : World} (hn : gs.Nodup) (hi : i < gs.length) (hs : m.all (BF.apart gs.length k i ((bplan w0 gs t m).spends k)) = true) (hk : Kept (Just (gs.getD i 0)) W W') : (bplan w0 gs t m).keeps k W W' := keeps_of fun f hf h1 _ h3 u hu => by
  obtain ⟨g, hg, rfl⟩ := List.mem_map.1 hf
  have h4 := List.all_eq_true.1 hs g hg
  cases g with
  | val j v us => trivial
  | blk j i' A us sp =>
    simp only [BF.apart, Bool.and_eq_true, Bool.or_eq_true, decide_eq_true_eq, bne_iff_ne, beq_iff_eq, List.contains_iff_mem] at h4
    rcases h4 with ⟨h4, (h5 | h5) | h5⟩
    · refine Blk.kept hu hk (fun h => ?_)
      have h : gs.getD i' 0 = gs.getD i 0 := h
      rw [List.getD_eq_getElem?_getD, List.getD_eq_getElem?_getD, List.getElem?_eq_getElem h4, List.getElem?_eq_getElem hi] at h
      rcases Nat.lt_or_gt_of_ne h5 with h6 | h6
      · exact List.pairwise_iff_getElem.1 hn _ _ h4 hi h6 h
      · exact List.pairwise_iff_getElem.1 hn _ _ hi h4 h6 h.symm
    · exact absurd h5 h3
    · exact absurd h5 h1
theorem wp_region_blk {id : Nat} {Q : Exit → Act → World → Prop} {a : Act} {w : World} {ops : List Oper} (w0 : World) (gs : List Nat) (t : TypeId) (m : List BF) (inits : List Nat) (hk : Kept (· ∈ gs) w0 w) (hm : P.follows .mixedOrders = true) (hB : Region.lexB .any ops.toArray = true) (hok : (bplan w0 gs t m).ok .any ops.toArray = true)
    (hin : inits.all (fun k => decide (ops.length ≤ k)) = true) (hw : ∀ k ∈ inits, (bplan w0 gs t m).fact k undef w.drew)
    (h : wpPar P (bplan w0 gs t m) ops.toArray (fun a' w' => Q .normal a' w') 0 ops a (starts (bplan w0 gs t m) inits)) : (Code.region id ops.toArray true).wp P Q a w :=
  wp_region_plan _ _ inits hm hB hok hin bf_pure hk.drew hw h
variable {ops : Array Oper} {Q : Act → World → Prop} {k : Nat} {o : Oper} {rest : List Oper} {a : Act} {G : Nat → World → Prop}
/-- A block is read. -/
theorem wpB_load (ty : TypeId) (x : Operand) {g : Nat} {A : Array Value} (hR : (bplan w0 gs t m).adds k = true) (hw : Region.wanted o (yielded ops a.tmps) = true) (ho : o.op = .load ty x) (hx : a.eval x = .pointer (some ⟨g, 0, none⟩)) (hT : AggTy P ty A.size)
    (hp : (bplan w0 gs t m).pure k = fun u => u = .agg A) (hq : ∀ u W, (bplan w0 gs t m).fact k u W)
    (h1 : ∀ W, Kept (· ∈ gs) w0 W → (∀ j ∈ (bplan w0 gs t m).uses k, G j W) → Blk W g A t)
    (h2 : wpPar P (bplan w0 gs t m) ops Q (k + 1) rest (a.put o.dst (.agg A)) ((bplan w0 gs t m).after G k (.agg A))) : wpPar P (bplan w0 gs t m) ops Q k (o :: rest) a G :=
  wpPar_adds hR hw (fun W hW hd => by
    have h := exec_load_blk (P := P) (a := a) (w := W) ty x ho hx (h1 W hW hd) hT
    unfold Gives
    rw [h]
    exact ⟨hW, by rw [hp], hq _ _, keeps_all fun _ _ _ h => h⟩) (fun v hv => by
    rw [hp] at hv
    rw [show v = .agg A from hv]
    exact h2)
/-- A call whose value is known. -/
theorem wpB_call (v : Value) (hR : (bplan w0 gs t m).adds k = true) (hw : Region.wanted o (yielded ops a.tmps) = true)
    (hp : (bplan w0 gs t m).pure k = fun u => u = v) (hq : ∀ u W, (bplan w0 gs t m).fact k u W)
    (h1 : ∀ W, Kept (· ∈ gs) w0 W → (∀ j ∈ (bplan w0 gs t m).uses k, G j W) → Gives P o a W (fun u W' => u = v ∧ Kept None W W'))
    (h2 : wpPar P (bplan w0 gs t m) ops Q (k + 1) rest (a.put o.dst v) ((bplan w0 gs t m).after G k v)) : wpPar P (bplan w0 gs t m) ops Q k (o :: rest) a G :=
  wpPar_adds hR hw (fun W hW hd => by
    have h := h1 W hW hd
    unfold Gives at h ⊢
    exact givesUpon_mono (fun u W' ⟨k1, k2⟩ => ⟨hW.then k2 (fun _ _ h => h.elim), by rw [hp]; exact k1, hq _ _, bf_keeps k2⟩) h) (fun u hu => by
    rw [hp] at hu
    rw [show u = v from hu]
    exact h2)
/-- A block is stored. -/
theorem wpB_store (ty : TypeId) (x y : Operand) (i : Nat) {A A' : Array Value} (hR : (bplan w0 gs t m).adds k = true) (hw : Region.wanted o (yielded ops a.tmps) = true) (ho : o.op = .store ty x y) (hdst : o.dst = none) (hx : a.eval x = .pointer (some ⟨gs.getD i 0, 0, none⟩)) (hy : a.eval y = .agg A') (hT : AggTy P ty A'.size)
    (hz : A.size = A'.size) (hall : A'.all (·.oneCell') = true) (hn : gs.Nodup) (hi : i < gs.length) (hs : m.all (BF.apart gs.length k i ((bplan w0 gs t m).spends k)) = true)
    (hp : ∀ u, (bplan w0 gs t m).pure k u) (hq : ∀ u, (bplan w0 gs t m).fact k u = fun W => Blk W (gs.getD i 0) A' t)
    (h1 : ∀ W, Kept (· ∈ gs) w0 W → (∀ j ∈ (bplan w0 gs t m).uses k, G j W) → Blk W (gs.getD i 0) A t)
    (h2 : ∀ u, wpPar P (bplan w0 gs t m) ops Q (k + 1) rest a ((bplan w0 gs t m).after G k u)) : wpPar P (bplan w0 gs t m) ops Q k (o :: rest) a G :=
  wpPar_adds hR hw (fun W hW hd => gives_store7 ty x y ho hx hy (h1 W hW hd) hT hz hall (fun w' hb hk =>
    ⟨hW.then hk (fun j _ (h : j = gs.getD i 0) => by
      show j ∈ gs
      rw [h, List.getD_eq_getElem?_getD, List.getElem?_eq_getElem hi]
      exact List.getElem_mem hi), hp _, by rw [hq]; exact hb, bf_keeps_store hn hi hs hk⟩)) (fun u _ => by
    rw [hdst]
    exact h2 u)
end
end Go.Pm
