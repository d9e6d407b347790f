/- postmarklaw1.BinReads: true. -/
import Derived.Test.YtjadlhpheagkfaaKnown1
import Derived.Test.YtjadlhpheagkfaaPar
import Derived.Deep.RegionHeld3
import Derived.Deep.QuietTactic
import Derived.BigQuiet
namespace Go.Proofs.Ytjadlhpheagkfaa
open Go.RowKit Go.Pm

/-- Two texts that are held against one another: what each operation leaves. -/
def planTwo (i j : Nat) (lo : Nat) (x y : List UInt8) : List Fct :=
  [{ k := i, uses := [], fact := fun v W => ∃ hi, Bs W lo hi v x },
   { k := i + 1, uses := [i], pure := fun v => v = .string ⟨x.toArray⟩ },
   { k := j, uses := [], fact := fun v W => ∃ hi, Bs W lo hi v y },
   { k := j + 1, uses := [j], pure := fun v => v = .string ⟨y.toArray⟩ }]
theorem planTwo_pure {i j lo : Nat} {x y : List UInt8} : ∀ f ∈ planTwo i j lo x y, ∃ v, f.pure v := by
  intro f hf
  simp only [planTwo, List.mem_cons, List.not_mem_nil, or_false] at hf
  rcases hf with rfl | rfl | rfl | rfl
  · exact ⟨undef, trivial⟩
  · exact ⟨_, rfl⟩
  · exact ⟨undef, trivial⟩
  · exact ⟨_, rfl⟩
theorem planTwo_keeps {base : World → Prop} {i j lo n : Nat} {x y : List UInt8} {W W' : World} (hk : Kept None W W') : (planOf base (planTwo i j lo x y)).keeps n W W' := by
  refine keeps_all fun f hf u hfu => ?_
  simp only [planTwo, List.mem_cons, List.not_mem_nil, or_false] at hf
  rcases hf with rfl | rfl | rfl | rfl
  · exact hfu.imp fun _ h => h.kept hk (fun _ _ _ h => h)
  · trivial
  · exact hfu.imp fun _ h => h.kept hk (fun _ _ _ h => h)
  · trivial

/-- Texts of known bytes: what each call leaves, and its string. -/
def planTexts : List (Nat × List UInt8) → List Fct
  | [] => []
  | (i, x) :: r => { k := i, uses := [], fact := fun v W => ∃ hi, Bs W 0 hi v x } :: { k := i + 1, uses := [i], pure := fun v => v = .string ⟨x.toArray⟩ } :: planTexts r
theorem planTexts_pure : ∀ l, ∀ f ∈ planTexts l, ∃ v, f.pure v
  | [], f, hf => by simp [planTexts] at hf
  | (i, x) :: r, f, hf => by
    simp only [planTexts, List.mem_cons] at hf
    rcases hf with rfl | rfl | hf
    · exact ⟨undef, trivial⟩
    · exact ⟨_, rfl⟩
    · exact planTexts_pure r f hf
theorem planTexts_stay {W W' : World} (hk : Kept None W W') : ∀ l, ∀ f ∈ planTexts l, ∀ u, f.fact u W → f.fact u W'
  | [], f, hf, _, _ => by simp [planTexts] at hf
  | (i, x) :: r, f, hf, u, hu => by
    simp only [planTexts, List.mem_cons] at hf
    rcases hf with rfl | rfl | hf
    · exact hu.imp fun _ h => h.kept hk (fun _ _ _ h => h)
    · trivial
    · exact planTexts_stay hk r f hf u hu
theorem planTexts_keeps {base : World → Prop} {l : List (Nat × List UInt8)} {n : Nat} {W W' : World} (hk : Kept None W W') : (planOf base (planTexts l)).keeps n W W' := keeps_all fun f hf u hfu => planTexts_stay hk l f hf u hfu

theorem i64_and63 (n : Int) : bits .and .i64 n 63 = n % 64 := by
  have h63 : (BitVec.ofInt 64 63).toNat = 2 ^ 6 - 1 := by decide
  have key : (BitVec.ofInt 64 n &&& BitVec.ofInt 64 63).toNat = (n % ((2 ^ 64 : Nat) : Int)).toNat % 2 ^ 6 := by
    rw [BitVec.toNat_and, BitVec.toNat_ofInt, h63, Nat.and_two_pow_sub_one_eq_mod]
  show IntKind.i64.wrap ((BitVec.ofInt 64 n &&& BitVec.ofInt 64 63).toNat : Nat) = n % 64
  rw [key, IntKind.wrap_i64]
  omega

/-- Both Readers are asked alike: rs is the state then, out the bytes that they tell. -/
def planRead (rs s : St) (out : List UInt8) (L H r q : Nat) : List Fct :=
  [{ k := 100, uses := [], fact := fun _ W => Bin.Rd W L r r s },
   { k := 101, uses := [], fact := fun _ W => Ref.Rd W 0 H q s },
   { k := 3, uses := [100], spends := [100], fact := fun v W => Bin.Rd W L r r rs ∧ ∃ hi, Bs W (q + 1) hi v out },
   { k := 4, uses := [3], pure := fun v => v = .string ⟨out.toArray⟩ },
   { k := 8, uses := [101], spends := [101], fact := fun v W => Ref.Rd W 0 H q rs ∧ Bs W 0 H v out },
   { k := 9, uses := [8], pure := fun v => v = .string ⟨out.toArray⟩ }]
theorem planRead_pure {rs s : St} {out : List UInt8} {L H r q : Nat} : ∀ f ∈ planRead rs s out L H r q, ∃ v, f.pure v := by
  intro f hf
  simp only [planRead, List.mem_cons, List.not_mem_nil, or_false] at hf
  rcases hf with rfl | rfl | rfl | rfl | rfl | rfl
  · exact ⟨undef, trivial⟩
  · exact ⟨undef, trivial⟩
  · exact ⟨undef, trivial⟩
  · exact ⟨_, rfl⟩
  · exact ⟨undef, trivial⟩
  · exact ⟨_, rfl⟩
theorem planRead_keeps3 {base : World → Prop} {rs s : St} {out : List UInt8} {L H r q : Nat} {W W' : World} (hk : Kept (Just r) W W') (h1 : H ≤ r) (h2 : r < q) : (planOf base (planRead rs s out L H r q)).keeps 3 W W' := by
  refine keeps_of fun f hf hs _ hne u hfu => ?_
  simp only [planRead, List.mem_cons, List.not_mem_nil, or_false] at hf
  rcases hf with rfl | rfl | rfl | rfl | rfl | rfl
  · exact absurd (List.Mem.head _) hs
  · exact Ref.Rd.kept hfu hk (fun k _ g (h : k = r) => by omega) (fun (h : q = r) => by omega)
  · exact absurd rfl hne
  · trivial
  · exact ⟨Ref.Rd.kept hfu.1 hk (fun k _ g (h : k = r) => by omega) (fun (h : q = r) => by omega), hfu.2.kept hk (fun k _ g (h : k = r) => by omega)⟩
  · trivial
theorem planRead_keeps8 {base : World → Prop} {rs s : St} {out : List UInt8} {L H r q : Nat} {W W' : World} (hk : Kept (Just q) W W') (h2 : r < q) : (planOf base (planRead rs s out L H r q)).keeps 8 W W' := by
  refine keeps_of fun f hf hs _ hne u hfu => ?_
  simp only [planRead, List.mem_cons, List.not_mem_nil, or_false] at hf
  rcases hf with rfl | rfl | rfl | rfl | rfl | rfl
  · exact Bin.Rd.kept hfu hk (fun k _ g (h : k = q) => by omega) (fun (h : r = q) => by omega)
  · exact absurd (List.Mem.head _) hs
  · exact ⟨Bin.Rd.kept hfu.1 hk (fun k _ g (h : k = q) => by omega) (fun (h : r = q) => by omega), hfu.2.imp fun _ h => h.kept hk (fun k g _ (h : k = q) => by omega)⟩
  · trivial
  · exact absurd rfl hne
  · trivial
theorem planRead_stays {base : World → Prop} {l : List Fct} {n : Nat} {W : World} : (planOf base l).keeps n W W := keeps_all fun _ _ _ h => h

/-- What is put together of the lumps. -/
def readsB (n : Int) : List (List UInt8) → List UInt8
  | [] => []
  | l :: ls => ((leB l.length ++ l) ++ leB n) ++ readsB n ls
theorem readsB_take (n : Int) (ls : List (List UInt8)) (k : Nat) (h : k < ls.length) : readsB n (ls.take (k + 1)) = (readsB n (ls.take k) ++ (leB ls[k].length ++ ls[k])) ++ leB n := by
  induction k generalizing ls with
  | zero =>
    match ls, h with
    | l :: ls, _ => simp [readsB]
  | succ k ih =>
    match ls, h with
    | l :: ls, h =>
      have := ih ls (by simpa using h)
      simp only [List.take_succ_cons, readsB, List.getElem_cons_succ]
      rw [this]
      simp only [List.append_assoc]
theorem readsB_len (n : Int) (ls : List (List UInt8)) (k : Nat) (hk : k ≤ ls.length) (h : ∀ j, j < k → (ls.getD j []).length ≤ 40) : (readsB n (ls.take k)).length ≤ 56 * k ∧ ((ls.take k).flatten).length ≤ 40 * k := by
  induction k with
  | zero => simp [readsB]
  | succ k ih =>
    obtain ⟨h1, h2⟩ := ih (by omega) (fun j hj => h j (by omega))
    have h3 := h k (by omega)
    rw [List.getD_eq_getElem?_getD, List.getElem?_eq_getElem (by omega), Option.getD_some] at h3
    rw [readsB_take n ls k (by omega), flatten_take ls k (by omega)]
    simp only [List.length_append, leB_length]
    exact ⟨by omega, by omega⟩

/-- An append, with the block that its result lies in. -/
theorem step_append_bo2 {P : Program} {ops : Array Oper} {o : Oper} {a : Act} {w : World} {K : Act → World → Prop} {Q : Exit → Act → World → Prop} {E : Prop} (hgd : o.guard = none) (s x : Operand) (t : TypeId)
    (ho : o.op = .call { callee := .builtin .append, args := #[s, x], argTypes := #[t, t] }) {e : TypeId} (hT : RowTy P t e (.int .u8 0) 1)
    {v : Value} (hs : a.eval s = v) {u : Value} (hx : a.eval x = u) {base : Nat} {l : List UInt8} (hown : Bo e w base v l) {lo hi : Nat} {m : List UInt8} (hu : Bs w lo hi u m)
    (h63 : l.length + m.length ≤ 140737488355328) (hbase : base ≤ w.heap.size)
    (h : ∀ a' n' cap' w', Bo e w' base (.slice a' n' cap') (l ++ m) → Kept (Of v) w w' → (∀ k, (Value.slice a' n' cap').ownBlock = some k → v.ownBlock = some k ∨ k = w.heap.size) → K (a.put o.dst (.slice a' n' cap')) w') : if Region.wanted o (yielded ops a.tmps) = true then Oper.wp P o a w K Q else E := by
  have hw : Region.wanted o (yielded ops a.tmps) = true := by simp [Region.wanted, hgd]
  rw [if_pos hw]
  obtain ⟨a', n', c', w', hr, h1, h2, h3⟩ := run_append_bo (w := w) (ty := o.type) hT hown hu h63 hbase
  unfold Oper.wp
  simp only [execOp, ho, resolve, invoke, builtin, Sem.run_bind, Sem.run_pure, Result.andThen_ok, List.map_toArray, List.map_cons, List.map_nil, hs, hx, hr]
  exact h _ _ _ _ h1 h2 h3
theorem held1 {w w' : World} {B : Nat} {p : Addr} {x : Value} {n : Nat} (h : w.cell? p = some x ∧ n ≤ w.heap.size) (k : Kept (fun j => B ≤ j) w w') (hp : p.block < B) : w'.cell? p = some x ∧ n ≤ w'.heap.size :=
  ⟨(k.cell (block_lt_of_cell h.1) (by omega)).trans h.1, Nat.le_trans h.2 k.size⟩

set_option maxRecDepth 100000 in
set_option maxHeartbeats 8000000 in
theorem binReads (v0 v2 v3 : Value) (n : Int) (lo0 hi0 lo hi lo' hi' lo3 hi3 : Nat) (raw : List UInt8) (ls : List (List UInt8)) (acts : List (Int × Int)) (w : World) (h0 : Bs w lo0 hi0 v0 raw) (hn0 : 0 ≤ n) (hn1 : n < 18446744073709551616)
    (hv : Bss w lo hi lo' hi' v2 ls) (ha : Acts w lo3 hi3 v3 acts) (hh0 : hi0 ≤ w.heap.size) (hh1 : hi ≤ w.heap.size) (hh2 : hi' ≤ w.heap.size) (hh3 : hi3 ≤ w.heap.size) :
    Calls Try.prog 3 #[v0, .int .u64 n, v2, v3] w fun e w' => e = .returned (.bool true) ∧ Kept None w w' := by
  obtain ⟨a0, cap0, rfl, g10, g20, g30⟩ := h0.shape
  obtain ⟨a, cap, rfl, g1, g2, g3⟩ := hv.shape
  obtain ⟨⟨a3, cap3, rfl, g13, g23, g33, _⟩, has⟩ := id ha
  by_cases c0 : 60 < raw.length
  · go_enter Try.func3, Try.ntmps3
    go_wp2_with fail
    refine (known w).mono ?_
    rintro e1 w1 ⟨rfl, k1⟩
    go_wp2
    go_ret
    exact ⟨rfl, k1⟩
  by_cases c1 : 6 < ls.length
  · go_enter Try.func3, Try.ntmps3
    go_wp2_with fail
    refine (known w).mono ?_
    rintro e1 w1 ⟨rfl, k1⟩
    go_wp2
    go_ret
    exact ⟨rfl, k1⟩
  by_cases c2 : 30 < acts.length
  · go_enter Try.func3, Try.ntmps3
    go_wp2_with fail
    refine (known w).mono ?_
    rintro e1 w1 ⟨rfl, k1⟩
    go_wp2
    go_ret
    exact ⟨rfl, k1⟩
  have d0 : decide (60 < (raw.length : Int)) = false := by simp; omega
  have d1 : decide (6 < (ls.length : Int)) = false := by simp; omega
  have d2 : decide (30 < (acts.length : Int)) = false := by simp; omega
  go_enter Try.func3, Try.ntmps3
  go_wp2_with fail
  refine (known w).mono ?_
  rintro e1 w1 ⟨rfl, k1⟩
  go_wp2_with fail
  go_loopw [9, 10, 11] (fun o p i wr => ∃ k : Nat, k ≤ ls.length ∧ i = .int .i64 k ∧ (∃ a n c, o = .slice a n c) ∧ (∃ a n c, p = .slice a n c) ∧ Ob wr w.heap.size o (readsB n (ls.take k)) ∧ Ob wr w.heap.size p (ls.take k).flatten ∧
      (∀ j, o.ownBlock = some j → p.ownBlock ≠ some j) ∧ Kept None w wr ∧ (∀ j, j < k → (ls.getD j []).length ≤ 40)) (fun _ _ i _ => ls.length - (intOf i).toNat)
  case atStart => exact ⟨0, by omega, rfl, ⟨_, _, _, rfl⟩, ⟨_, _, _, rfl⟩, Bo.nil _ _ _, Bo.nil _ _ _, fun j h => by simp [Value.ownBlock] at h, k1, fun j h => by omega⟩
  case round =>
    obtain ⟨k, hk, rfl, ⟨ao, no, co, rfl⟩, ⟨ap, np, cp, rfl⟩, hb, hp, hsep, hkk, h40⟩ := hrel
    by_cases hlt : k < ls.length
    · obtain ⟨b, o, rfl, q1, q2, q3, hc⟩ := Bss.at hv (by omega)
      obtain ⟨ac, cc, hc', hb'⟩ := hc k hlt
      generalize hx : ls[k] = x at *
      have HX := hid hx
      have bN : b < w.heap.size := by omega
      have i1 : (0 : Int) ≤ k := by omega
      have i3 : (k : Int) < ls.length := by omega
      have l0 : wr.cell? ⟨b, o + k, none⟩ = some (.slice ac x.length cc) := (hkk.cell (p := ⟨b, o + k, none⟩) bN (fun h => h)).trans hc'
      clear hc hx g3 g30 g33
      by_cases hx40 : 40 < x.length
      · go_wp2
        go_ret
        exact ⟨rfl, hkk⟩
      · have hW1 := hid hc'
        have hW3 := hid hb'
        clear hc' hb'
        go_wp2_with fail
        -- string(bin.Lump(x)) against string(postmarkref1.Lump(x))
        have l2 : ∀ W, Kept None wr W → W.cell? ⟨b, o + k, none⟩ = some (.slice ac x.length cc) := fun W h => ((hkk.then h (fun _ _ h => h)).cell (p := ⟨b, o + k, none⟩) bN (fun h => h)).trans hW1.out
        have l3 : ∀ W, Kept None wr W → Bs W lo' hi' (.slice ac x.length cc) x := fun W h => hW3.out.kept (hkk.then h (fun _ _ h => h)) (fun _ _ _ h => h)
        refine wp_region_plan (Kept None wr) (planTwo 4 10 0 (leB x.length ++ x) (leB x.length ++ x)) [] (by kernel_rfl) (by kernel_rfl) (by kernel_rfl) rfl planTwo_pure (Kept.refl _ _).drew (fun k hk => by cases hk) ?_
        repeat (refine wpPar_pure rfl (by rfl) _ (fun W hW => by have hW' : Kept None wr W := hW; go_simp; exact rfl) ?_; simp only [Act.put, List.setIfInBounds_toArray, List.set_cons_zero, List.set_cons_succ])
        refine wpPar_adds rfl (by rfl) (fun W hW _ => ?_) (fun v _ => ?_)
        · have hW' : Kept None wr W := hW
          unfold Gives
          go_simp
          refine gives_call (Bin.lump _ lo' hi' x W (l3 W hW') (by omega)) ?_
          rintro e w3 ⟨v3, rfl, k3, hb3⟩
          exact ⟨_, rfl, hW'.then k3 (fun _ _ h => h), trivial, ⟨_, (hb3.bs (Nat.le_refl _)).wider (Nat.zero_le _) (Nat.le_refl _)⟩, planTwo_keeps k3⟩
        simp only [Act.put, List.setIfInBounds_toArray, List.set_cons_zero, List.set_cons_succ]
        refine wpPar_adds rfl (by rfl) (fun W hW hd => ?_) (fun v' hv' => ?_)
        · obtain ⟨hi9, hb9⟩ : ∃ hi, Bs W 0 hi v (leB x.length ++ x) := hd 4 (List.Mem.head _)
          have hcv := cvBytes hb9
          unfold Gives
          go_simp
          exact ⟨hW, rfl, trivial, keeps_all fun f _ u hfu => hfu⟩
        obtain rfl : v' = .string ⟨(leB x.length ++ x).toArray⟩ := hv'
        simp only [Act.put, List.setIfInBounds_toArray, List.set_cons_zero, List.set_cons_succ]
        repeat (refine wpPar_pure rfl (by rfl) _ (fun W hW => by have hW' : Kept None wr W := hW; go_simp; exact rfl) ?_; simp only [Act.put, List.setIfInBounds_toArray, List.set_cons_zero, List.set_cons_succ])
        refine wpPar_adds rfl (by rfl) (fun W hW _ => ?_) (fun v _ => ?_)
        · have hW' : Kept None wr W := hW
          unfold Gives
          go_simp
          refine gives_call (Ref.lump _ lo' hi' x W (l3 W hW') (by omega)) ?_
          rintro e w3 ⟨v3, rfl, k3, hb3⟩
          exact ⟨_, rfl, hW'.then k3 (fun _ _ h => h), trivial, ⟨_, (hb3.bs (Nat.le_refl _)).wider (Nat.zero_le _) (Nat.le_refl _)⟩, planTwo_keeps k3⟩
        simp only [Act.put, List.setIfInBounds_toArray, List.set_cons_zero, List.set_cons_succ]
        refine wpPar_adds rfl (by rfl) (fun W hW hd => ?_) (fun v' hv' => ?_)
        · obtain ⟨hi9, hb9⟩ : ∃ hi, Bs W 0 hi v (leB x.length ++ x) := hd 10 (List.Mem.head _)
          have hcv := cvBytes hb9
          unfold Gives
          go_simp
          exact ⟨hW, rfl, trivial, keeps_all fun f _ u hfu => hfu⟩
        obtain rfl : v' = .string ⟨(leB x.length ++ x).toArray⟩ := hv'
        simp only [Act.put, List.setIfInBounds_toArray, List.set_cons_zero, List.set_cons_succ]
        repeat (refine wpPar_pure rfl (by rfl) _ (fun W hW => by have hW' : Kept None wr W := hW; go_simp; exact rfl) ?_; simp only [Act.put, List.setIfInBounds_toArray, List.set_cons_zero, List.set_cons_succ])
        refine wpPar_nil fun W hW _ => ?_
        have hkW : Kept None wr W := hW
        clear hW
        have hb := hb.kept hkW (fun _ _ h => h)
        have hp := hp.kept hkW (fun _ _ h => h)
        have hkk := hkk.then hkW (fun _ _ h => h)
        have hd' := hW1.out
        have hl5 := l2 W hkW
        have hb' := l3 W hkW
        clear l0 l2 l3 hkW
        go_wp2_with fail
        have hbl : (readsB n (ls.take k)).length ≤ 336 ∧ ((ls.take k).flatten).length ≤ 240 := by have := readsB_len n ls k hk h40; omega
        have hbt := readsB_take n ls k hlt
        have hft := flatten_take ls k hlt
        have h41 : ∀ j, j < k + 1 → (ls.getD j []).length ≤ 40 := fun j hj => by
          by_cases hjk : j = k
          · subst hjk
            rw [List.getD_eq_getElem?_getD, List.getElem?_eq_getElem hlt, Option.getD_some, HX.out]
            omega
          · exact h40 j (by omega)
        rw [HX.out] at hbt hft
        have HBT := hid hbt
        have HFT := hid hft
        have H41 := hid h41
        clear hbt hft h41 h40 ha hv h0 has
        have hsz : w.heap.size ≤ W.drew.heap.size := hkk.size
        have hb := hb.drew
        have hp := hp.drew
        have hkk := hkk.drew
        have hb' := hb'.kept ((Kept.refl None W).drew) (fun _ _ _ h => h)
        have hsz2 : W.drew.heap.size ≤ W.drew.heap.size := Nat.le_refl _
        go_region_held3 (fun V => V.cell? ⟨b, o + k, none⟩ = some (.slice ac x.length cc) ∧ W.heap.size ≤ V.heap.size) (first | exact held1 (by assumption) (by assumption) bN | exact held1 ⟨hl5, Nat.le_refl _⟩ (Kept.refl _ _).drew bN)
          (first
            | (go_at_call 10; refine (Bin.num n _ hn0 hn1).mono ?_; rintro e w2 ⟨v2, rfl, k2, hN⟩; have hN := hN.bs (Nat.le_refl _); have hb := hb.kept k2 (fun _ _ h => h); have hp := hp.kept k2 (fun _ _ h => h); have hkk := hkk.then k2 (fun _ _ h => h); have hsz2 := Nat.le_trans hsz2 k2.size; have hb' := hb'.kept k2 (fun _ _ _ h => h); have hst := k2.mono (T := fun j => w.heap.size ≤ j) (fun _ _ h => h.elim))
            | (go_at_call 8; refine (Bin.lump _ _ _ x _ hb' (by omega)).mono ?_; rintro e w2 ⟨v2, rfl, k2, hL⟩; have hL := hL.bs (Nat.le_refl _); have hb := hb.kept k2 (fun _ _ h => h); have hp := hp.kept k2 (fun _ _ h => h); have hb' := hb'.kept k2 (fun _ _ _ h => h); have hkk := hkk.then k2 (fun _ _ h => h); have hsz2 := Nat.le_trans hsz2 k2.size; have hst := k2.mono (T := fun j => w.heap.size ≤ j) (fun _ _ h => h.elim))
            | (refine step_append_bo2 rfl (.tmp 58) (.tmp 63) 22 rfl rtBytes rfl rfl hb hL (by simp [leB_length]; omega) (by omega) ?_; intro a3 n3 c3 w3 hb3 k3 bl3; have hst := k3.mono (T := fun j => w.heap.size ≤ j) (fun j _ h => (hb.own j h).1); have hkk := Kept.own hkk k3 (fun j h => (hb.own j h).1); have hsz2 := Nat.le_trans hsz2 k3.size; have hb' := hb'.kept k3 (fun j _ h2 h => by have := (hb.own j h).1; omega); have hsep3 := fun j (h : (Value.slice a3 n3 c3).ownBlock = some j) (hj : (Value.slice ap np cp).ownBlock = some j) => (bl3 j h).elim (fun h' => hsep j h' hj) (fun h' => by have := (hp.own j hj).2; omega); have hp := hp.kept k3 (fun j hj h => hsep j h hj); have hsep := hsep3; have hb := hb3)
            | (refine step_append_bo2 rfl (.tmp 64) (.tmp 66) 22 rfl rtBytes rfl rfl hb hN (by simp [leB_length]; omega) (by omega) ?_; intro a3 n3 c3 w3 hb3 k3 bl3; have hst := k3.mono (T := fun j => w.heap.size ≤ j) (fun j _ h => (hb.own j h).1); have hkk := Kept.own hkk k3 (fun j h => (hb.own j h).1); have hsz2 := Nat.le_trans hsz2 k3.size; have hb' := hb'.kept k3 (fun j _ h2 h => by have := (hb.own j h).1; omega); have hsep3 := fun j (h : (Value.slice a3 n3 c3).ownBlock = some j) (hj : (Value.slice ap np cp).ownBlock = some j) => (bl3 j h).elim (fun h' => hsep j h' hj) (fun h' => by have := (hp.own j hj).2; omega); have hp := hp.kept k3 (fun j hj h => hsep j h hj); have hsep := hsep3; have hb := hb3)
            | (refine step_append_bo2 rfl (.tmp 68) (.tmp 72) 22 rfl rtBytes rfl rfl hp hb' (by omega) (by omega) ?_; intro a4 n4 c4 w4 hp4 k4 bl4; have hst := k4.mono (T := fun j => w.heap.size ≤ j) (fun j _ h => (hp.own j h).1); have hkk := Kept.own hkk k4 (fun j h => (hp.own j h).1); have hsz2 := Nat.le_trans hsz2 k4.size; have hsep4 := fun j h (hj : (Value.slice a4 n4 c4).ownBlock = some j) => (bl4 j hj).elim (fun h' => hsep j h h') (fun h' => by have := (hb.own j h).2; omega); have hb := hb.kept k4 (fun j hj h => hsep j hj h); have hsep := hsep4; have hp := hp4))
        all_goals
          rw [← HBT.out] at hb
          rw [← HFT.out] at hp
          have hb4 := hid hb
          have hp4 := hid hp
          have hs4 := hid hsep
          clear hst hb hb' hsep hsep3 hsep4 hsz2 hp bl3 bl4
          go_wp2
          go_roundw
          case rel => exact ⟨k + 1, by omega, by go_num, ⟨_, _, _, rfl⟩, ⟨_, _, _, rfl⟩, hb4.out, hp4.out, hs4.out, hkk, H41.out⟩
          case measure => simp [intOf]; omega
    · have hk8 : k = ls.length := by omega
      obtain ⟨hl1, hl2⟩ := readsB_len n ls k hk h40
      rw [hk8, List.take_length] at hb hp hl1 hl2
      have hl3 : (readsB n ls).length ≤ 336 := by omega
      have hl4 : ls.flatten.length ≤ 240 := by omega
      clear hl1 hl2 hk8 h40
      generalize readsB n ls = B at *
      generalize hF : ls.flatten = F at *
      have HF := hid hF
      clear hF
      have l4 : ∀ W, Kept None wr W → (convert 22 9 (.slice ap np cp)).run Try.prog W = .ok (.string ⟨F.toArray⟩) W := fun W h => cvBytes ((hp.kept h (fun _ _ h => h)).bs (Nat.le_refl _))
      have l5 : ∀ W, Kept None wr W → Bss W lo hi lo' hi' (.slice a ls.length cap) ls := fun W h => hv.kept (hkk.then h (fun _ _ h => h)) (fun _ _ _ h => h) (fun _ _ _ h => h)
      go_wp2_with fail
      refine wp_region_plan (Kept None wr) (planTexts [(1, leB n), (4, leB n), (9, F)]) [] (by kernel_rfl) (by kernel_rfl) (by kernel_rfl) rfl (planTexts_pure _) (Kept.refl _ _).drew (fun k hk => by cases hk) ?_
      repeat (refine wpPar_pure rfl (by rfl) _ (fun W hW => by have hW' : Kept None wr W := hW; go_simp; exact rfl) ?_; simp only [Act.put, List.setIfInBounds_toArray, List.set_cons_zero, List.set_cons_succ])
      refine wpPar_adds rfl (by rfl) (fun W hW _ => ?_) (fun v _ => ?_)
      · have hW' : Kept None wr W := hW
        unfold Gives
        go_simp
        refine gives_call (Bin.num n W hn0 hn1) ?_
        rintro e w3 ⟨v3, rfl, k3, hb3⟩
        exact ⟨_, rfl, hW'.then k3 (fun _ _ h => h), trivial, ⟨_, (hb3.bs (Nat.le_refl _)).wider (Nat.zero_le _) (Nat.le_refl _)⟩, planTexts_keeps k3⟩
      simp only [Act.put, List.setIfInBounds_toArray, List.set_cons_zero, List.set_cons_succ]
      refine wpPar_adds rfl (by rfl) (fun W hW hd => ?_) (fun v' hv' => ?_)
      · obtain ⟨hi9, hb9⟩ : ∃ hi, Bs W 0 hi v (leB n) := hd 1 (List.Mem.head _)
        have hcv := cvBytes hb9
        unfold Gives
        go_simp
        exact ⟨hW, rfl, trivial, keeps_all fun f _ u hfu => hfu⟩
      obtain rfl : v' = .string ⟨(leB n).toArray⟩ := hv'
      simp only [Act.put, List.setIfInBounds_toArray, List.set_cons_zero, List.set_cons_succ]
      repeat (refine wpPar_pure rfl (by rfl) _ (fun W hW => by have hW' : Kept None wr W := hW; go_simp; exact rfl) ?_; simp only [Act.put, List.setIfInBounds_toArray, List.set_cons_zero, List.set_cons_succ])
      refine wpPar_adds rfl (by rfl) (fun W hW _ => ?_) (fun v _ => ?_)
      · have hW' : Kept None wr W := hW
        unfold Gives
        go_simp
        refine gives_call (Ref.num n W hn0 hn1) ?_
        rintro e w3 ⟨v3, rfl, k3, hb3⟩
        exact ⟨_, rfl, hW'.then k3 (fun _ _ h => h), trivial, ⟨_, (hb3.bs (Nat.le_refl _)).wider (Nat.zero_le _) (Nat.le_refl _)⟩, planTexts_keeps k3⟩
      simp only [Act.put, List.setIfInBounds_toArray, List.set_cons_zero, List.set_cons_succ]
      refine wpPar_adds rfl (by rfl) (fun W hW hd => ?_) (fun v' hv' => ?_)
      · obtain ⟨hi9, hb9⟩ : ∃ hi, Bs W 0 hi v (leB n) := hd 4 (List.Mem.head _)
        have hcv := cvBytes hb9
        unfold Gives
        go_simp
        exact ⟨hW, rfl, trivial, keeps_all fun f _ u hfu => hfu⟩
      obtain rfl : v' = .string ⟨(leB n).toArray⟩ := hv'
      simp only [Act.put, List.setIfInBounds_toArray, List.set_cons_zero, List.set_cons_succ]
      repeat (refine wpPar_pure rfl (by rfl) _ (fun W hW => by have hW' : Kept None wr W := hW; go_simp; exact rfl) ?_; simp only [Act.put, List.setIfInBounds_toArray, List.set_cons_zero, List.set_cons_succ])
      refine wpPar_adds rfl (by rfl) (fun W hW _ => ?_) (fun v _ => ?_)
      · have hW' : Kept None wr W := hW
        unfold Gives
        go_simp
        refine gives_call (Bin.join _ lo hi lo' hi' ls W (l5 W hW') (by unfold total; rw [HF.out]; omega)) ?_
        rintro e w3 ⟨v3, rfl, k3, hb3⟩
        rw [HF.out] at hb3
        exact ⟨_, rfl, hW'.then k3 (fun _ _ h => h), trivial, ⟨_, (hb3.bs (Nat.le_refl _)).wider (Nat.zero_le _) (Nat.le_refl _)⟩, planTexts_keeps k3⟩
      simp only [Act.put, List.setIfInBounds_toArray, List.set_cons_zero, List.set_cons_succ]
      refine wpPar_adds rfl (by rfl) (fun W hW hd => ?_) (fun v' hv' => ?_)
      · obtain ⟨hi9, hb9⟩ : ∃ hi, Bs W 0 hi v (F) := hd 9 (List.Mem.head _)
        have hcv := cvBytes hb9
        unfold Gives
        go_simp
        exact ⟨hW, rfl, trivial, keeps_all fun f _ u hfu => hfu⟩
      obtain rfl : v' = .string ⟨(F).toArray⟩ := hv'
      simp only [Act.put, List.setIfInBounds_toArray, List.set_cons_zero, List.set_cons_succ]
      repeat (refine wpPar_pure rfl (by rfl) _ (fun W hW => by have hW' : Kept None wr W := hW; go_simp; exact rfl) ?_; simp only [Act.put, List.setIfInBounds_toArray, List.set_cons_zero, List.set_cons_succ])
      refine wpPar_nil fun W hW _ => ?_
      have hkW : Kept None wr W := hW
      clear hW
      have hbW := (hb.kept hkW (fun _ _ h => h)).bs (Nat.le_refl _)
      have hkk := hkk.then hkW (fun _ _ h => h)
      have h0W := h0.kept hkk (fun _ _ _ h => h)
      have hsz := hkk.size
      clear hkW l4 l5 hb hp HF hsep hv g3 g30
      go_wp2_with (at_builtin; refine wpList_append_bo (l := []) (m := B) (base := W.heap.size) (lo := w.heap.size) (hi := W.heap.size) rfl _ _ 22 rfl rtBytes rfl rfl ?h1 ?h2 ?h3 ?h4 ?h5)
      case h1 => exact Bo.nil _ _ _
      case h2 => exact hbW
      case h3 => simp; omega
      case h4 => exact Nat.le_refl _
      intro a5 n5 c5 w5 hb5 k5
      have k5 := k5.mono (T := None) (fun j _ h => by simp [Of, Value.ownBlock] at h)
      have h05 := h0W.kept k5 (fun _ _ _ h => h)
      go_wp2_with (at_builtin; refine wpList_append_bo (l := B) (m := raw) (base := W.heap.size) (lo := lo0) (hi := hi0) rfl _ _ 22 rfl rtBytes rfl rfl hb5 h05 ?x3 ?x4 ?x5)
      case x3 => omega
      case x4 => exact k5.size
      intro a6 n6 c6 w6 hb6 k6
      have k06 := Kept.own (hkk.then k5 (fun _ _ h => h)) k6 (fun j h => by have := (hb5.own j h).1; omega)
      have h06 := h05.kept k6 (fun j _ h2 h => by have := (hb5.own j h).1; omega)
      clear hkk k5 k6 h05 hb5 h0W hbW
      go_wp2_with fail
      have s6 := k06.size
      obtain ⟨w7, hw7⟩ : ∃ w7, w7 = w6.alloc (.cells #[.slice a0 raw.length cap0, .slice a6 n6 c6] 22) := ⟨_, rfl⟩
      have k67 : Kept None w6 w7 := by rw [hw7]; exact (Kept.refl None w6).alloc _
      have bR : Blk w7 w6.heap.size #[.slice a0 raw.length cap0, .slice a6 n6 c6] 22 := by rw [hw7]; exact Blk.new _ _ _
      have hn6 : n6 = (B ++ raw).length := by obtain ⟨_, _, hf⟩ := hb6.form; injection hf
      have hrow : ∀ j, j < 2 → ∃ ax cx, ∃ xl : List UInt8, w7.cell? ⟨w6.heap.size, j, none⟩ = some (.slice ax xl.length cx) ∧ Bs w7 0 w7.heap.size (.slice ax xl.length cx) xl ∧ xl.length ≤ 400 := fun j hj => by
        match j, hj with
        | 0, _ => exact ⟨a0, cap0, raw, bR.cell 0, (h06.kept k67 (fun _ _ _ h => h)).all, by omega⟩
        | 1, _ => exact ⟨a6, c6, B ++ raw, by rw [bR.cell 1, ← hn6]; rfl, by rw [← hn6]; exact (((hb6.kept k67 (fun _ _ h => h))).bs (Nat.le_refl _)).all, by simp; omega⟩
      have k07 := k06.then k67 (fun _ _ h => h)
      have R7 := bR.lt
      rw [← hw7]
      clear hw7 k06 k67 bR hb6 h06 s6 hsz h0 hn6
      generalize w6.heap.size = R at *
      have s7 := k07.size
      go_loopw [96] (fun i ws => ∃ k : Nat, k ≤ 2 ∧ i = .int .i64 k ∧ Kept None w7 ws) (fun i _ => 2 - (intOf i).toNat)
      case atStart => exact ⟨0, by omega, rfl, Kept.refl _ _⟩
      case round =>
        obtain ⟨k', hk', rfl, hkk⟩ := hrel
        by_cases hlt : k' < 2
        · obtain ⟨ax, cx, xl, x1, x2, x3⟩ := hrow k' hlt
          have l0 : wr.cell? ⟨R, k', none⟩ = some (.slice ax xl.length cx) := (hkk.cell (p := ⟨R, k', none⟩) R7 (fun h => h)).trans x1
          have x2' := x2.kept hkk (fun _ _ _ h => h)
          have sr := hkk.size
          have i1 : (0 : Int) ≤ k' := by omega
          have i2 : (k' : Int) < 2 := by omega
          clear hrow x1 x2
          go_wp2_with fail
          refine (Bin.new _ _ _ xl _ x2' (by omega)).mono ?_
          rintro e2 w2 ⟨r, rfl, k2, hr, rd2⟩
          have x4 := x2'.kept k2 (fun _ _ _ h => h)
          have hr2 := rd2.lt
          clear x2'
          go_wp2_with fail
          obtain ⟨w3, hw3⟩ : ∃ w3, w3 = w2.alloc (.cells #[.slice ax xl.length cx, .int .i64 0] 34) := ⟨_, rfl⟩
          have k23 : Kept None w2 w3 := by rw [hw3]; exact (Kept.refl None w2).alloc _
          have rdB : Bin.Rd w3 wr.heap.size r r ⟨xl, 0⟩ := rd2.kept k23 (fun _ _ _ h => h) (fun h => h)
          have rdR : Ref.Rd w3 0 w7.heap.size w2.heap.size ⟨xl, 0⟩ := ⟨fun h => absurd rfl h, _, by rw [hw3]; exact Blk.new _ _ _, x4.kept k23 (fun _ _ _ h => h)⟩
          have k13 := k2.then k23 (fun _ _ h => h)
          have kw := (k07.then hkk (fun _ _ h => h))
          have sw := kw.size
          rw [← hw3]
          clear hw3 k23 rd2 x4 k2 l0 i1 i2
          generalize w2.heap.size = q at *
          generalize hH : w7.heap.size = H at *
          generalize hL : wr.heap.size = L at *
          obtain ⟨wo, rfl⟩ : ∃ wo : World, wo = wr := ⟨_, rfl⟩
          go_loopw [16] (fun i wi => ∃ j : Nat, j ≤ acts.length ∧ i = .int .i64 j ∧ Kept None wo wi ∧ ∃ s : St, Bin.Rd wi L r r s ∧ Ref.Rd wi 0 H q s ∧ s.l.length ≤ 400) (fun i _ => acts.length - (intOf i).toNat)
          case atStart => exact ⟨0, by omega, rfl, k13, _, rdB, rdR, x3⟩
          case round =>
            clear k13 rdB rdR x3
            obtain ⟨j, hj, rfl, hki, s, rB, rR, hsl⟩ := hrel
            by_cases hlt2 : j < acts.length
            · obtain ⟨b3, o3, rfl, p1, p2, p3, hc⟩ := Acts.ne ha (by omega)
              obtain ⟨hc1, hc2⟩ := hc j hlt2
              obtain ⟨y0, y1, y2, y3⟩ := has acts[j] (List.getElem_mem _)
              generalize acts[j] = act at *
              obtain ⟨what, ny⟩ := act
              simp only at hc1 hc2 y0 y1 y2 y3
              have kw2 := kw.then hki (fun _ _ h => h)
              have c1 := (kw2.cell (p := ⟨b3, o3 + j * 2, none⟩) p3 (fun h => h)).trans hc1
              have c2 := (kw2.cell (p := ⟨b3, o3 + j * 2 + 1, none⟩) p3 (fun h => h)).trans hc2
              have si := hki.size
              clear hc hc1 hc2
              have i1 : (0 : Int) ≤ j := by omega
              have i2 : (j : Int) < acts.length := by omega
              have hand : -9223372036854775808 ≤ bits .and .i64 ny 63 ∧ bits .and .i64 ny 63 < 9223372036854775808 := by
                rw [i64_and63]; omega
              obtain ⟨wi, rfl⟩ : ∃ wi : World, wi = wr := ⟨_, rfl⟩
              go_wp2_with fail
              all_goals first
                | (obtain ⟨wa, hwa⟩ : ∃ wa, wa = wi.alloc (.cells #[.int .u8 what, .int .i64 (bits .and .i64 ny 63)] 36) := ⟨_, rfl⟩
                   rw [← hwa]
                   generalize bits BinOp.and IntKind.i64 ny 63 = N at *
                   obtain ⟨hN0, hN1⟩ := hand)
                | (obtain ⟨wa, hwa⟩ : ∃ wa, wa = wi.alloc (.cells #[.int .u8 what, .int .i64 ny] 36) := ⟨_, rfl⟩
                   rw [← hwa]
                   clear hand
                   generalize ny = N at *
                   have hN0 := y2
                   have hN1 := y3)
              all_goals
                have kA : Kept None wi wa := by rw [hwa]; exact (Kept.refl None wi).alloc _
                have bA : Blk wa wi.heap.size #[.int .u8 what, .int .i64 N] 36 := by rw [hwa]; exact Blk.new _ _ _
                have rBa := rB.kept kA (fun _ _ _ h => h) (fun h => h)
                have rRa := rR.kept kA (fun _ _ _ h => h) (fun h => h)
                have cA := bA.cell 1
                simp only [List.getElem?_toArray, List.getElem?_cons_succ, List.getElem?_cons_zero] at cA
                have A0 := bA.lt
                have A1 := rB.lt
                have A2 := rR.lt
                have kB := hki.then kA (fun _ _ h => h)
                clear hwa kA bA rB rR hki c1 c2 kw2 ha has
                generalize wi.heap.size = A at *
              · refine (Bin.rnum r L r s wa rBa (Nat.le_refl _)).mono ?_
                rintro e4 w4 ⟨rfl, k4, rB4⟩
                have rR4 := rRa.kept k4 (fun i _ g (h : i = r) => by omega) (fun (h : q = r) => by omega)
                have k04 := kB.then k4 (fun i _ (h : i = r) => by omega)
                clear rBa rRa kB k4
                go_wp2_with fail
                refine (Ref.rnum q 0 H s w4 rR4 (by omega)).mono ?_
                rintro e5 wx ⟨rfl, k5, rR5⟩
                have rB5 := rB4.kept k5 (fun i _ g (h : i = q) => by omega) (fun (h : r = q) => by omega)
                have k05 := k04.then k5 (fun i _ (h : i = q) => by omega)
                have l5 := Nat.le_trans (St.numS_len s) hsl
                clear rB4 rR4 k04 k5 hsl cA
                generalize s.numS = s5 at *
                go_wp2_with fail
                obtain ⟨_, v5, bq, hv5⟩ := id rR5
                obtain ⟨a5', c5', rfl, _⟩ := hv5.shape
                have cq0 := bq.cell 0
                have cq1 := bq.cell 1
                simp only [List.getElem?_toArray, List.getElem?_cons_succ, List.getElem?_cons_zero] at cq0 cq1
                have hE : ∀ n, Calls Try.prog 20 #[.pointer (some ⟨r, 0, none⟩)] (wx.drewN n) fun e w' => e = .returned (.int .i64 s5.e) ∧ w' = wx.drewN n := fun n =>
                  Calls.same (Bin.rerr r L r _ _ (rB5.kept (Kept.toDrewN None wx n) (fun _ _ _ h => h) (fun h => h)))
                have hL : ∀ n, Calls Try.prog 21 #[.pointer (some ⟨r, 0, none⟩)] (wx.drewN n) fun e w' => e = .returned (.int .i64 s5.l.length) ∧ w' = wx.drewN n := fun n =>
                  Calls.same (Bin.rleft r L r _ _ (rB5.kept (Kept.toDrewN None wx n) (fun _ _ _ h => h) (fun h => h)) (by omega))
                go_quiet ((first | (go_at_call 20; exact Calls.quiet_of_same (hE _)) | (go_at_call 21; exact Calls.quiet_of_same (hL _))))
                have kq := Kept.toDrewN None wx nq
                have rB6 := rB5.kept kq (fun _ _ _ h => h) (fun h => h)
                have rR6 := rR5.kept kq (fun _ _ _ h => h) (fun h => h)
                have k06 := k05.then kq (fun _ _ h => h)
                clear hE hL cq0 cq1 bq hv5 rB5 rR5 k05 kq
                generalize wx.drewN nq = wy at *
                go_wp2
                go_roundw
                case rel => exact ⟨j + 1, by omega, by go_num, k06, s5, rB6, rR6, l5⟩
                case measure => simp [intOf]; omega
              · have l1 : ∀ W, Kept (fun b => b = r ∨ b = q) wa W → W.cell? ⟨A, 1, none⟩ = some (.int .i64 N) := fun W h => (h.cell (p := ⟨A, 1, none⟩) A0 (fun g => by simp only at g; omega)).trans cA
                refine wp_region_plan (Kept (fun b => b = r ∨ b = q) wa) (planRead (s.lumpS N) s (s.lump N) L H r q) [100, 101] (by kernel_rfl) (by kernel_rfl) (by kernel_rfl) rfl planRead_pure (Kept.refl _ _).drew ?_ ?_
                · intro k hk
                  obtain rfl | rfl : k = 100 ∨ k = 101 := by simpa using hk
                  · exact rBa
                  · exact rRa
                repeat (refine wpPar_pure rfl (by rfl) _ (fun W hW => by have hW' : Kept (fun b => b = r ∨ b = q) wa W := hW; go_simp; exact rfl) ?_; simp only [Act.put, List.setIfInBounds_toArray, List.set_cons_zero, List.set_cons_succ])
                refine wpPar_adds rfl (by rfl) (fun W hW hd => ?_) (fun v4 _ => ?_)
                · have hR : Bin.Rd W L r r s := hd 100 (List.Mem.head _)
                  have hW' : Kept (fun b => b = r ∨ b = q) wa W := hW
                  have sW := hW'.size
                  clear hd
                  unfold Gives
                  go_simp
                  refine gives_call (Bin.rlump r L r s N W hR hN0 hN1 (Nat.le_refl _) (by omega)) ?_
                  rintro e w3 ⟨v3, rfl, k3, hb3, hrd3⟩
                  exact ⟨_, rfl, hW'.then k3 (fun _ _ h => .inl h), trivial, ⟨hrd3, _, (hb3.bs (Nat.le_refl _)).wider (by omega) (Nat.le_refl _)⟩, planRead_keeps3 k3 (by omega) (by omega)⟩
                simp only [Act.put, List.setIfInBounds_toArray, List.set_cons_zero, List.set_cons_succ]
                refine wpPar_adds rfl (by rfl) (fun W hW hd => ?_) (fun v' hv' => ?_)
                · obtain ⟨_, hi9, hb9⟩ : Bin.Rd W L r r (s.lumpS N) ∧ ∃ hi, Bs W (q + 1) hi v4 (s.lump N) := hd 3 (List.Mem.head _)
                  have hcv := cvBytes hb9
                  unfold Gives
                  go_simp
                  exact ⟨hW, rfl, trivial, planRead_stays⟩
                obtain rfl : v' = .string ⟨(s.lump N).toArray⟩ := hv'
                simp only [Act.put, List.setIfInBounds_toArray, List.set_cons_zero, List.set_cons_succ]
                repeat (refine wpPar_pure rfl (by rfl) _ (fun W hW => by have hW' : Kept (fun b => b = r ∨ b = q) wa W := hW; go_simp; exact rfl) ?_; simp only [Act.put, List.setIfInBounds_toArray, List.set_cons_zero, List.set_cons_succ])
                refine wpPar_adds rfl (by rfl) (fun W hW hd => ?_) (fun v9 _ => ?_)
                · have hR : Ref.Rd W 0 H q s := hd 101 (List.Mem.head _)
                  have hW' : Kept (fun b => b = r ∨ b = q) wa W := hW
                  clear hd
                  unfold Gives
                  go_simp
                  refine gives_call (Ref.rlump q 0 H s N W hR hN0 hN1 (by omega)) ?_
                  rintro e w3 ⟨v3, rfl, k3, hb3, hrd3⟩
                  exact ⟨_, rfl, hW'.then k3 (fun _ _ h => .inr h), trivial, ⟨hrd3, hb3⟩, planRead_keeps8 k3 (by omega)⟩
                simp only [Act.put, List.setIfInBounds_toArray, List.set_cons_zero, List.set_cons_succ]
                refine wpPar_adds rfl (by rfl) (fun W hW hd => ?_) (fun v' hv' => ?_)
                · obtain ⟨_, hb9⟩ : Ref.Rd W 0 H q (s.lumpS N) ∧ Bs W 0 H v9 (s.lump N) := hd 8 (List.Mem.head _)
                  have hcv := cvBytes hb9
                  unfold Gives
                  go_simp
                  exact ⟨hW, rfl, trivial, planRead_stays⟩
                obtain rfl : v' = .string ⟨(s.lump N).toArray⟩ := hv'
                simp only [Act.put, List.setIfInBounds_toArray, List.set_cons_zero, List.set_cons_succ]
                repeat (refine wpPar_pure rfl (by rfl) _ (fun W hW => by have hW' : Kept (fun b => b = r ∨ b = q) wa W := hW; go_simp; exact rfl) ?_; simp only [Act.put, List.setIfInBounds_toArray, List.set_cons_zero, List.set_cons_succ])
                refine wpPar_nil fun wx hW hG => ?_
                have rB5 : Bin.Rd wx L r r (s.lumpS N) := (show Bin.Rd wx L r r (s.lumpS N) ∧ ∃ hi, Bs wx (q + 1) hi v4 (s.lump N) from hG 3).1
                have rR5 : Ref.Rd wx 0 H q (s.lumpS N) := (show Ref.Rd wx 0 H q (s.lumpS N) ∧ Bs wx 0 H v9 (s.lump N) from hG 8).1
                have k05 : Kept None wo wx := kB.then (show Kept (fun b => b = r ∨ b = q) wa wx from hW) (fun i _ h => by rcases h with rfl | rfl <;> omega)
                have l5 := Nat.le_trans (St.lumpS_len s N) hsl
                clear hG hW l1 rBa rRa kB cA hsl
                generalize s.lumpS N = s5 at *
                go_wp2_with fail
                obtain ⟨_, v5, bq, hv5⟩ := id rR5
                obtain ⟨a5', c5', rfl, _⟩ := hv5.shape
                have cq0 := bq.cell 0
                have cq1 := bq.cell 1
                simp only [List.getElem?_toArray, List.getElem?_cons_succ, List.getElem?_cons_zero] at cq0 cq1
                have hE : ∀ n, Calls Try.prog 20 #[.pointer (some ⟨r, 0, none⟩)] (wx.drewN n) fun e w' => e = .returned (.int .i64 s5.e) ∧ w' = wx.drewN n := fun n =>
                  Calls.same (Bin.rerr r L r _ _ (rB5.kept (Kept.toDrewN None wx n) (fun _ _ _ h => h) (fun h => h)))
                have hL : ∀ n, Calls Try.prog 21 #[.pointer (some ⟨r, 0, none⟩)] (wx.drewN n) fun e w' => e = .returned (.int .i64 s5.l.length) ∧ w' = wx.drewN n := fun n =>
                  Calls.same (Bin.rleft r L r _ _ (rB5.kept (Kept.toDrewN None wx n) (fun _ _ _ h => h) (fun h => h)) (by omega))
                go_quiet ((first | (go_at_call 20; exact Calls.quiet_of_same (hE _)) | (go_at_call 21; exact Calls.quiet_of_same (hL _))))
                have kq := Kept.toDrewN None wx nq
                have rB6 := rB5.kept kq (fun _ _ _ h => h) (fun h => h)
                have rR6 := rR5.kept kq (fun _ _ _ h => h) (fun h => h)
                have k06 := k05.then kq (fun _ _ h => h)
                clear hE hL cq0 cq1 bq hv5 rB5 rR5 k05 kq
                generalize wx.drewN nq = wy at *
                go_wp2
                go_roundw
                case rel => exact ⟨j + 1, by omega, by go_num, k06, s5, rB6, rR6, l5⟩
                case measure => simp [intOf]; omega
              · have l1 : ∀ W, Kept (fun b => b = r ∨ b = q) wa W → W.cell? ⟨A, 1, none⟩ = some (.int .i64 N) := fun W h => (h.cell (p := ⟨A, 1, none⟩) A0 (fun g => by simp only at g; omega)).trans cA
                refine wp_region_plan (Kept (fun b => b = r ∨ b = q) wa) (planRead (s.rawS N) s (s.raw N) L H r q) [100, 101] (by kernel_rfl) (by kernel_rfl) (by kernel_rfl) rfl planRead_pure (Kept.refl _ _).drew ?_ ?_
                · intro k hk
                  obtain rfl | rfl : k = 100 ∨ k = 101 := by simpa using hk
                  · exact rBa
                  · exact rRa
                repeat (refine wpPar_pure rfl (by rfl) _ (fun W hW => by have hW' : Kept (fun b => b = r ∨ b = q) wa W := hW; go_simp; exact rfl) ?_; simp only [Act.put, List.setIfInBounds_toArray, List.set_cons_zero, List.set_cons_succ])
                refine wpPar_adds rfl (by rfl) (fun W hW hd => ?_) (fun v4 _ => ?_)
                · have hR : Bin.Rd W L r r s := hd 100 (List.Mem.head _)
                  have hW' : Kept (fun b => b = r ∨ b = q) wa W := hW
                  have sW := hW'.size
                  clear hd
                  unfold Gives
                  go_simp
                  refine gives_call (Bin.rraw r L r s N W hR hN0 hN1 (Nat.le_refl _) (by omega)) ?_
                  rintro e w3 ⟨v3, rfl, k3, hb3, hrd3⟩
                  exact ⟨_, rfl, hW'.then k3 (fun _ _ h => .inl h), trivial, ⟨hrd3, _, (hb3.bs (Nat.le_refl _)).wider (by omega) (Nat.le_refl _)⟩, planRead_keeps3 k3 (by omega) (by omega)⟩
                simp only [Act.put, List.setIfInBounds_toArray, List.set_cons_zero, List.set_cons_succ]
                refine wpPar_adds rfl (by rfl) (fun W hW hd => ?_) (fun v' hv' => ?_)
                · obtain ⟨_, hi9, hb9⟩ : Bin.Rd W L r r (s.rawS N) ∧ ∃ hi, Bs W (q + 1) hi v4 (s.raw N) := hd 3 (List.Mem.head _)
                  have hcv := cvBytes hb9
                  unfold Gives
                  go_simp
                  exact ⟨hW, rfl, trivial, planRead_stays⟩
                obtain rfl : v' = .string ⟨(s.raw N).toArray⟩ := hv'
                simp only [Act.put, List.setIfInBounds_toArray, List.set_cons_zero, List.set_cons_succ]
                repeat (refine wpPar_pure rfl (by rfl) _ (fun W hW => by have hW' : Kept (fun b => b = r ∨ b = q) wa W := hW; go_simp; exact rfl) ?_; simp only [Act.put, List.setIfInBounds_toArray, List.set_cons_zero, List.set_cons_succ])
                refine wpPar_adds rfl (by rfl) (fun W hW hd => ?_) (fun v9 _ => ?_)
                · have hR : Ref.Rd W 0 H q s := hd 101 (List.Mem.head _)
                  have hW' : Kept (fun b => b = r ∨ b = q) wa W := hW
                  clear hd
                  unfold Gives
                  go_simp
                  refine gives_call (Ref.rraw q 0 H s N W hR hN0 hN1 (by omega)) ?_
                  rintro e w3 ⟨v3, rfl, k3, hb3, hrd3⟩
                  exact ⟨_, rfl, hW'.then k3 (fun _ _ h => .inr h), trivial, ⟨hrd3, hb3⟩, planRead_keeps8 k3 (by omega)⟩
                simp only [Act.put, List.setIfInBounds_toArray, List.set_cons_zero, List.set_cons_succ]
                refine wpPar_adds rfl (by rfl) (fun W hW hd => ?_) (fun v' hv' => ?_)
                · obtain ⟨_, hb9⟩ : Ref.Rd W 0 H q (s.rawS N) ∧ Bs W 0 H v9 (s.raw N) := hd 8 (List.Mem.head _)
                  have hcv := cvBytes hb9
                  unfold Gives
                  go_simp
                  exact ⟨hW, rfl, trivial, planRead_stays⟩
                obtain rfl : v' = .string ⟨(s.raw N).toArray⟩ := hv'
                simp only [Act.put, List.setIfInBounds_toArray, List.set_cons_zero, List.set_cons_succ]
                repeat (refine wpPar_pure rfl (by rfl) _ (fun W hW => by have hW' : Kept (fun b => b = r ∨ b = q) wa W := hW; go_simp; exact rfl) ?_; simp only [Act.put, List.setIfInBounds_toArray, List.set_cons_zero, List.set_cons_succ])
                refine wpPar_nil fun wx hW hG => ?_
                have rB5 : Bin.Rd wx L r r (s.rawS N) := (show Bin.Rd wx L r r (s.rawS N) ∧ ∃ hi, Bs wx (q + 1) hi v4 (s.raw N) from hG 3).1
                have rR5 : Ref.Rd wx 0 H q (s.rawS N) := (show Ref.Rd wx 0 H q (s.rawS N) ∧ Bs wx 0 H v9 (s.raw N) from hG 8).1
                have k05 : Kept None wo wx := kB.then (show Kept (fun b => b = r ∨ b = q) wa wx from hW) (fun i _ h => by rcases h with rfl | rfl <;> omega)
                have l5 := Nat.le_trans (St.rawS_len s N) hsl
                clear hG hW l1 rBa rRa kB cA hsl
                generalize s.rawS N = s5 at *
                go_wp2_with fail
                obtain ⟨_, v5, bq, hv5⟩ := id rR5
                obtain ⟨a5', c5', rfl, _⟩ := hv5.shape
                have cq0 := bq.cell 0
                have cq1 := bq.cell 1
                simp only [List.getElem?_toArray, List.getElem?_cons_succ, List.getElem?_cons_zero] at cq0 cq1
                have hE : ∀ n, Calls Try.prog 20 #[.pointer (some ⟨r, 0, none⟩)] (wx.drewN n) fun e w' => e = .returned (.int .i64 s5.e) ∧ w' = wx.drewN n := fun n =>
                  Calls.same (Bin.rerr r L r _ _ (rB5.kept (Kept.toDrewN None wx n) (fun _ _ _ h => h) (fun h => h)))
                have hL : ∀ n, Calls Try.prog 21 #[.pointer (some ⟨r, 0, none⟩)] (wx.drewN n) fun e w' => e = .returned (.int .i64 s5.l.length) ∧ w' = wx.drewN n := fun n =>
                  Calls.same (Bin.rleft r L r _ _ (rB5.kept (Kept.toDrewN None wx n) (fun _ _ _ h => h) (fun h => h)) (by omega))
                go_quiet ((first | (go_at_call 20; exact Calls.quiet_of_same (hE _)) | (go_at_call 21; exact Calls.quiet_of_same (hL _))))
                have kq := Kept.toDrewN None wx nq
                have rB6 := rB5.kept kq (fun _ _ _ h => h) (fun h => h)
                have rR6 := rR5.kept kq (fun _ _ _ h => h) (fun h => h)
                have k06 := k05.then kq (fun _ _ h => h)
                clear hE hL cq0 cq1 bq hv5 rB5 rR5 k05 kq
                generalize wx.drewN nq = wy at *
                go_wp2
                go_roundw
                case rel => exact ⟨j + 1, by omega, by go_num, k06, s5, rB6, rR6, l5⟩
                case measure => simp [intOf]; omega
              · refine (Bin.rnum r L r s wa rBa (Nat.le_refl _)).mono ?_
                rintro e4 w4 ⟨rfl, k4, rB4⟩
                have rR4 := rRa.kept k4 (fun i _ g (h : i = r) => by omega) (fun (h : q = r) => by omega)
                have k04 := kB.then k4 (fun i _ (h : i = r) => by omega)
                clear rBa rRa kB k4
                go_wp2_with fail
                refine (Ref.rnum q 0 H s w4 rR4 (by omega)).mono ?_
                rintro e5 wx ⟨rfl, k5, rR5⟩
                have rB5 := rB4.kept k5 (fun i _ g (h : i = q) => by omega) (fun (h : r = q) => by omega)
                have k05 := k04.then k5 (fun i _ (h : i = q) => by omega)
                have l5 := Nat.le_trans (St.numS_len s) hsl
                clear rB4 rR4 k04 k5 hsl cA
                generalize s.numS = s5 at *
                go_wp2_with fail
                obtain ⟨_, v5, bq, hv5⟩ := id rR5
                obtain ⟨a5', c5', rfl, _⟩ := hv5.shape
                have cq0 := bq.cell 0
                have cq1 := bq.cell 1
                simp only [List.getElem?_toArray, List.getElem?_cons_succ, List.getElem?_cons_zero] at cq0 cq1
                have hE : ∀ n, Calls Try.prog 20 #[.pointer (some ⟨r, 0, none⟩)] (wx.drewN n) fun e w' => e = .returned (.int .i64 s5.e) ∧ w' = wx.drewN n := fun n =>
                  Calls.same (Bin.rerr r L r _ _ (rB5.kept (Kept.toDrewN None wx n) (fun _ _ _ h => h) (fun h => h)))
                have hL : ∀ n, Calls Try.prog 21 #[.pointer (some ⟨r, 0, none⟩)] (wx.drewN n) fun e w' => e = .returned (.int .i64 s5.l.length) ∧ w' = wx.drewN n := fun n =>
                  Calls.same (Bin.rleft r L r _ _ (rB5.kept (Kept.toDrewN None wx n) (fun _ _ _ h => h) (fun h => h)) (by omega))
                go_quiet ((first | (go_at_call 20; exact Calls.quiet_of_same (hE _)) | (go_at_call 21; exact Calls.quiet_of_same (hL _))))
                have kq := Kept.toDrewN None wx nq
                have rB6 := rB5.kept kq (fun _ _ _ h => h) (fun h => h)
                have rR6 := rR5.kept kq (fun _ _ _ h => h) (fun h => h)
                have k06 := k05.then kq (fun _ _ h => h)
                clear hE hL cq0 cq1 bq hv5 rB5 rR5 k05 kq
                generalize wx.drewN nq = wy at *
                go_wp2
                go_roundw
                case rel => exact ⟨j + 1, by omega, by go_num, k06, s5, rB6, rR6, l5⟩
                case measure => simp [intOf]; omega
              · have l1 : ∀ W, Kept (fun b => b = r ∨ b = q) wa W → W.cell? ⟨A, 1, none⟩ = some (.int .i64 N) := fun W h => (h.cell (p := ⟨A, 1, none⟩) A0 (fun g => by simp only at g; omega)).trans cA
                refine wp_region_plan (Kept (fun b => b = r ∨ b = q) wa) (planRead (s.lumpS N) s (s.lump N) L H r q) [100, 101] (by kernel_rfl) (by kernel_rfl) (by kernel_rfl) rfl planRead_pure (Kept.refl _ _).drew ?_ ?_
                · intro k hk
                  obtain rfl | rfl : k = 100 ∨ k = 101 := by simpa using hk
                  · exact rBa
                  · exact rRa
                repeat (refine wpPar_pure rfl (by rfl) _ (fun W hW => by have hW' : Kept (fun b => b = r ∨ b = q) wa W := hW; go_simp; exact rfl) ?_; simp only [Act.put, List.setIfInBounds_toArray, List.set_cons_zero, List.set_cons_succ])
                refine wpPar_adds rfl (by rfl) (fun W hW hd => ?_) (fun v4 _ => ?_)
                · have hR : Bin.Rd W L r r s := hd 100 (List.Mem.head _)
                  have hW' : Kept (fun b => b = r ∨ b = q) wa W := hW
                  have sW := hW'.size
                  clear hd
                  unfold Gives
                  go_simp
                  refine gives_call (Bin.rlump r L r s N W hR hN0 hN1 (Nat.le_refl _) (by omega)) ?_
                  rintro e w3 ⟨v3, rfl, k3, hb3, hrd3⟩
                  exact ⟨_, rfl, hW'.then k3 (fun _ _ h => .inl h), trivial, ⟨hrd3, _, (hb3.bs (Nat.le_refl _)).wider (by omega) (Nat.le_refl _)⟩, planRead_keeps3 k3 (by omega) (by omega)⟩
                simp only [Act.put, List.setIfInBounds_toArray, List.set_cons_zero, List.set_cons_succ]
                refine wpPar_adds rfl (by rfl) (fun W hW hd => ?_) (fun v' hv' => ?_)
                · obtain ⟨_, hi9, hb9⟩ : Bin.Rd W L r r (s.lumpS N) ∧ ∃ hi, Bs W (q + 1) hi v4 (s.lump N) := hd 3 (List.Mem.head _)
                  have hcv := cvBytes hb9
                  unfold Gives
                  go_simp
                  exact ⟨hW, rfl, trivial, planRead_stays⟩
                obtain rfl : v' = .string ⟨(s.lump N).toArray⟩ := hv'
                simp only [Act.put, List.setIfInBounds_toArray, List.set_cons_zero, List.set_cons_succ]
                repeat (refine wpPar_pure rfl (by rfl) _ (fun W hW => by have hW' : Kept (fun b => b = r ∨ b = q) wa W := hW; go_simp; exact rfl) ?_; simp only [Act.put, List.setIfInBounds_toArray, List.set_cons_zero, List.set_cons_succ])
                refine wpPar_adds rfl (by rfl) (fun W hW hd => ?_) (fun v9 _ => ?_)
                · have hR : Ref.Rd W 0 H q s := hd 101 (List.Mem.head _)
                  have hW' : Kept (fun b => b = r ∨ b = q) wa W := hW
                  clear hd
                  unfold Gives
                  go_simp
                  refine gives_call (Ref.rlump q 0 H s N W hR hN0 hN1 (by omega)) ?_
                  rintro e w3 ⟨v3, rfl, k3, hb3, hrd3⟩
                  exact ⟨_, rfl, hW'.then k3 (fun _ _ h => .inr h), trivial, ⟨hrd3, hb3⟩, planRead_keeps8 k3 (by omega)⟩
                simp only [Act.put, List.setIfInBounds_toArray, List.set_cons_zero, List.set_cons_succ]
                refine wpPar_adds rfl (by rfl) (fun W hW hd => ?_) (fun v' hv' => ?_)
                · obtain ⟨_, hb9⟩ : Ref.Rd W 0 H q (s.lumpS N) ∧ Bs W 0 H v9 (s.lump N) := hd 8 (List.Mem.head _)
                  have hcv := cvBytes hb9
                  unfold Gives
                  go_simp
                  exact ⟨hW, rfl, trivial, planRead_stays⟩
                obtain rfl : v' = .string ⟨(s.lump N).toArray⟩ := hv'
                simp only [Act.put, List.setIfInBounds_toArray, List.set_cons_zero, List.set_cons_succ]
                repeat (refine wpPar_pure rfl (by rfl) _ (fun W hW => by have hW' : Kept (fun b => b = r ∨ b = q) wa W := hW; go_simp; exact rfl) ?_; simp only [Act.put, List.setIfInBounds_toArray, List.set_cons_zero, List.set_cons_succ])
                refine wpPar_nil fun wx hW hG => ?_
                have rB5 : Bin.Rd wx L r r (s.lumpS N) := (show Bin.Rd wx L r r (s.lumpS N) ∧ ∃ hi, Bs wx (q + 1) hi v4 (s.lump N) from hG 3).1
                have rR5 : Ref.Rd wx 0 H q (s.lumpS N) := (show Ref.Rd wx 0 H q (s.lumpS N) ∧ Bs wx 0 H v9 (s.lump N) from hG 8).1
                have k05 : Kept None wo wx := kB.then (show Kept (fun b => b = r ∨ b = q) wa wx from hW) (fun i _ h => by rcases h with rfl | rfl <;> omega)
                have l5 := Nat.le_trans (St.lumpS_len s N) hsl
                clear hG hW l1 rBa rRa kB cA hsl
                generalize s.lumpS N = s5 at *
                go_wp2_with fail
                obtain ⟨_, v5, bq, hv5⟩ := id rR5
                obtain ⟨a5', c5', rfl, _⟩ := hv5.shape
                have cq0 := bq.cell 0
                have cq1 := bq.cell 1
                simp only [List.getElem?_toArray, List.getElem?_cons_succ, List.getElem?_cons_zero] at cq0 cq1
                have hE : ∀ n, Calls Try.prog 20 #[.pointer (some ⟨r, 0, none⟩)] (wx.drewN n) fun e w' => e = .returned (.int .i64 s5.e) ∧ w' = wx.drewN n := fun n =>
                  Calls.same (Bin.rerr r L r _ _ (rB5.kept (Kept.toDrewN None wx n) (fun _ _ _ h => h) (fun h => h)))
                have hL : ∀ n, Calls Try.prog 21 #[.pointer (some ⟨r, 0, none⟩)] (wx.drewN n) fun e w' => e = .returned (.int .i64 s5.l.length) ∧ w' = wx.drewN n := fun n =>
                  Calls.same (Bin.rleft r L r _ _ (rB5.kept (Kept.toDrewN None wx n) (fun _ _ _ h => h) (fun h => h)) (by omega))
                go_quiet ((first | (go_at_call 20; exact Calls.quiet_of_same (hE _)) | (go_at_call 21; exact Calls.quiet_of_same (hL _))))
                have kq := Kept.toDrewN None wx nq
                have rB6 := rB5.kept kq (fun _ _ _ h => h) (fun h => h)
                have rR6 := rR5.kept kq (fun _ _ _ h => h) (fun h => h)
                have k06 := k05.then kq (fun _ _ h => h)
                clear hE hL cq0 cq1 bq hv5 rB5 rR5 k05 kq
                generalize wx.drewN nq = wy at *
                go_wp2
                go_roundw
                case rel => exact ⟨j + 1, by omega, by go_num, k06, s5, rB6, rR6, l5⟩
                case measure => simp [intOf]; omega
              · have l1 : ∀ W, Kept (fun b => b = r ∨ b = q) wa W → W.cell? ⟨A, 1, none⟩ = some (.int .i64 N) := fun W h => (h.cell (p := ⟨A, 1, none⟩) A0 (fun g => by simp only at g; omega)).trans cA
                refine wp_region_plan (Kept (fun b => b = r ∨ b = q) wa) (planRead (s.rawS N) s (s.raw N) L H r q) [100, 101] (by kernel_rfl) (by kernel_rfl) (by kernel_rfl) rfl planRead_pure (Kept.refl _ _).drew ?_ ?_
                · intro k hk
                  obtain rfl | rfl : k = 100 ∨ k = 101 := by simpa using hk
                  · exact rBa
                  · exact rRa
                repeat (refine wpPar_pure rfl (by rfl) _ (fun W hW => by have hW' : Kept (fun b => b = r ∨ b = q) wa W := hW; go_simp; exact rfl) ?_; simp only [Act.put, List.setIfInBounds_toArray, List.set_cons_zero, List.set_cons_succ])
                refine wpPar_adds rfl (by rfl) (fun W hW hd => ?_) (fun v4 _ => ?_)
                · have hR : Bin.Rd W L r r s := hd 100 (List.Mem.head _)
                  have hW' : Kept (fun b => b = r ∨ b = q) wa W := hW
                  have sW := hW'.size
                  clear hd
                  unfold Gives
                  go_simp
                  refine gives_call (Bin.rraw r L r s N W hR hN0 hN1 (Nat.le_refl _) (by omega)) ?_
                  rintro e w3 ⟨v3, rfl, k3, hb3, hrd3⟩
                  exact ⟨_, rfl, hW'.then k3 (fun _ _ h => .inl h), trivial, ⟨hrd3, _, (hb3.bs (Nat.le_refl _)).wider (by omega) (Nat.le_refl _)⟩, planRead_keeps3 k3 (by omega) (by omega)⟩
                simp only [Act.put, List.setIfInBounds_toArray, List.set_cons_zero, List.set_cons_succ]
                refine wpPar_adds rfl (by rfl) (fun W hW hd => ?_) (fun v' hv' => ?_)
                · obtain ⟨_, hi9, hb9⟩ : Bin.Rd W L r r (s.rawS N) ∧ ∃ hi, Bs W (q + 1) hi v4 (s.raw N) := hd 3 (List.Mem.head _)
                  have hcv := cvBytes hb9
                  unfold Gives
                  go_simp
                  exact ⟨hW, rfl, trivial, planRead_stays⟩
                obtain rfl : v' = .string ⟨(s.raw N).toArray⟩ := hv'
                simp only [Act.put, List.setIfInBounds_toArray, List.set_cons_zero, List.set_cons_succ]
                repeat (refine wpPar_pure rfl (by rfl) _ (fun W hW => by have hW' : Kept (fun b => b = r ∨ b = q) wa W := hW; go_simp; exact rfl) ?_; simp only [Act.put, List.setIfInBounds_toArray, List.set_cons_zero, List.set_cons_succ])
                refine wpPar_adds rfl (by rfl) (fun W hW hd => ?_) (fun v9 _ => ?_)
                · have hR : Ref.Rd W 0 H q s := hd 101 (List.Mem.head _)
                  have hW' : Kept (fun b => b = r ∨ b = q) wa W := hW
                  clear hd
                  unfold Gives
                  go_simp
                  refine gives_call (Ref.rraw q 0 H s N W hR hN0 hN1 (by omega)) ?_
                  rintro e w3 ⟨v3, rfl, k3, hb3, hrd3⟩
                  exact ⟨_, rfl, hW'.then k3 (fun _ _ h => .inr h), trivial, ⟨hrd3, hb3⟩, planRead_keeps8 k3 (by omega)⟩
                simp only [Act.put, List.setIfInBounds_toArray, List.set_cons_zero, List.set_cons_succ]
                refine wpPar_adds rfl (by rfl) (fun W hW hd => ?_) (fun v' hv' => ?_)
                · obtain ⟨_, hb9⟩ : Ref.Rd W 0 H q (s.rawS N) ∧ Bs W 0 H v9 (s.raw N) := hd 8 (List.Mem.head _)
                  have hcv := cvBytes hb9
                  unfold Gives
                  go_simp
                  exact ⟨hW, rfl, trivial, planRead_stays⟩
                obtain rfl : v' = .string ⟨(s.raw N).toArray⟩ := hv'
                simp only [Act.put, List.setIfInBounds_toArray, List.set_cons_zero, List.set_cons_succ]
                repeat (refine wpPar_pure rfl (by rfl) _ (fun W hW => by have hW' : Kept (fun b => b = r ∨ b = q) wa W := hW; go_simp; exact rfl) ?_; simp only [Act.put, List.setIfInBounds_toArray, List.set_cons_zero, List.set_cons_succ])
                refine wpPar_nil fun wx hW hG => ?_
                have rB5 : Bin.Rd wx L r r (s.rawS N) := (show Bin.Rd wx L r r (s.rawS N) ∧ ∃ hi, Bs wx (q + 1) hi v4 (s.raw N) from hG 3).1
                have rR5 : Ref.Rd wx 0 H q (s.rawS N) := (show Ref.Rd wx 0 H q (s.rawS N) ∧ Bs wx 0 H v9 (s.raw N) from hG 8).1
                have k05 : Kept None wo wx := kB.then (show Kept (fun b => b = r ∨ b = q) wa wx from hW) (fun i _ h => by rcases h with rfl | rfl <;> omega)
                have l5 := Nat.le_trans (St.rawS_len s N) hsl
                clear hG hW l1 rBa rRa kB cA hsl
                generalize s.rawS N = s5 at *
                go_wp2_with fail
                obtain ⟨_, v5, bq, hv5⟩ := id rR5
                obtain ⟨a5', c5', rfl, _⟩ := hv5.shape
                have cq0 := bq.cell 0
                have cq1 := bq.cell 1
                simp only [List.getElem?_toArray, List.getElem?_cons_succ, List.getElem?_cons_zero] at cq0 cq1
                have hE : ∀ n, Calls Try.prog 20 #[.pointer (some ⟨r, 0, none⟩)] (wx.drewN n) fun e w' => e = .returned (.int .i64 s5.e) ∧ w' = wx.drewN n := fun n =>
                  Calls.same (Bin.rerr r L r _ _ (rB5.kept (Kept.toDrewN None wx n) (fun _ _ _ h => h) (fun h => h)))
                have hL : ∀ n, Calls Try.prog 21 #[.pointer (some ⟨r, 0, none⟩)] (wx.drewN n) fun e w' => e = .returned (.int .i64 s5.l.length) ∧ w' = wx.drewN n := fun n =>
                  Calls.same (Bin.rleft r L r _ _ (rB5.kept (Kept.toDrewN None wx n) (fun _ _ _ h => h) (fun h => h)) (by omega))
                go_quiet ((first | (go_at_call 20; exact Calls.quiet_of_same (hE _)) | (go_at_call 21; exact Calls.quiet_of_same (hL _))))
                have kq := Kept.toDrewN None wx nq
                have rB6 := rB5.kept kq (fun _ _ _ h => h) (fun h => h)
                have rR6 := rR5.kept kq (fun _ _ _ h => h) (fun h => h)
                have k06 := k05.then kq (fun _ _ h => h)
                clear hE hL cq0 cq1 bq hv5 rB5 rR5 k05 kq
                generalize wx.drewN nq = wy at *
                go_wp2
                go_roundw
                case rel => exact ⟨j + 1, by omega, by go_num, k06, s5, rB6, rR6, l5⟩
                case measure => simp [intOf]; omega
            · go_wp2_with fail
              exact ⟨⟨k' + 1, by omega, by go_num, hkk.then hki (fun _ _ h => h)⟩, by simp [intOf]; omega⟩
        · go_wp2_with fail
          go_ret
          exact ⟨rfl, k07.then hkk (fun _ _ h => h)⟩
end Go.Proofs.Ytjadlhpheagkfaa
