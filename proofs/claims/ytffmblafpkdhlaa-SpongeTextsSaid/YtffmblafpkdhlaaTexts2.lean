/- postmarklaw2.SpongeTexts: true. -/
import Derived.Test.YtffmblafpkdhlaaKnown2
import Derived.Test.YtffmblafpkdhlaaApp
namespace Go.Pm
open Go Go.RowKit

theorem zeroCells_is (k : Nat) : Builtin.zeroCells (Value.cells (.int .u8 0)) k = Array.replicate k (.int .u8 0) := by
  unfold Builtin.zeroCells
  apply Array.ext
  · simp [Value.cells]
  · intro i h1 h2
    simp [Value.cells, Nat.mod_one]
theorem rowB_size (l : List UInt8) (c : Nat) (h : l.length ≤ c) : (rowB l c).size = c := by
  unfold rowB
  rw [zeroCells_is]
  simp
  omega
theorem rowB_at (l : List UInt8) (c j : Nat) (y : Value) (h : (rowB l c)[j]? = some y) : y = .int .u8 (bAt l j) := by
  unfold rowB at h
  rw [zeroCells_is] at h
  by_cases hj : j < l.length
  · rw [Array.getElem?_append_left (by simpa using hj)] at h
    rw [List.getElem?_toArray, List.getElem?_map, List.getElem?_eq_getElem hj, Option.map_some, u8v_at l j hj] at h
    exact (Option.some.inj h).symm
  · rw [Array.getElem?_append_right (by simp; omega), Array.getElem?_replicate] at h
    rw [bAt_beyond l j (by omega)]
    split at h
    · exact (Option.some.inj h).symm
    · cases h
/-- A row that an append has made is one of the call's own. -/
theorem rowB_bo {w : World} {base g c : Nat} {l : List UInt8} {e : TypeId} (hb : Blk w g (rowB l c) e) (h1 : l.length ≤ c) (h2 : c ≤ maxLen) (hg : base ≤ g) : Bo e w base (.slice (some ⟨g, 0, none⟩) l.length c) l := by
  refine ⟨by simp, .inr ⟨g, c, rowB l c, rfl, hg, hb, h1, h2, by rw [rowB_size l c h1]; omega, ?_⟩⟩
  unfold rowB
  rw [Nat.mul_one, Array.toList_append, List.take_left' (by simp)]
/-- 'append([]byte(nil), u..)' of nothing. -/
theorem run_append_none {P : Program} {w : World} {t ty e : TypeId} (hT : RowTy P t e (.int .u8 0) 1) {lo hi : Nat} {u : Value} {m : List UInt8} (hu : Bs w lo hi u m) (h0 : m.length = 0) :
    (Builtin.append_ #[t, t] ty #[.slice none 0 0, u]).run P w = .ok (.slice none 0 0) w := by
  obtain ⟨i, hi, hz, hs, hb⟩ := hT.info
  obtain ⟨sp, sc, rfl, g1, g2, g3⟩ := hu.shape
  rw [h0]
  cases sp <;> simp [Builtin.append_, run_underlying hT.sl, sizeOf, typeInfo, hi, Builtin.lenOf, Builtin.firstCells, loadCells, loadCellsFrom]
theorem bAt_append_right (a b : List UInt8) (i : Nat) : bAt (a ++ b) (a.length + i) = bAt b i := by
  unfold bAt
  simp [List.getD_eq_getElem?_getD, List.getElem?_append_right]
theorem bAt_append_left (a b : List UInt8) (i : Nat) (h : i < a.length) : bAt (a ++ b) i = bAt a i := by
  unfold bAt
  simp [List.getD_eq_getElem?_getD, List.getElem?_append_left h]
/-- A text whose first part is l doesn't lie within a row that holds l and noughts alone. -/
theorem text_apart {w : World} {g c lo hi : Nat} {l m : List UInt8} {tag : Int} {e : TypeId} {u : Value} (hb : Blk w g (rowB l c) e) (h0 : 0 < l.length) (h1 : l.length < 256) (hu : Bs w lo hi u (textB tag [l, m])) : u.ownBlock ≠ some g := by
  intro hg
  have hx : textB tag [l, m] = byteOf tag :: (leB l.length ++ (l ++ (leB m.length ++ m))) := by simp [textB, lumpB]
  have hlen : (textB tag [l, m]).length = 17 + l.length + m.length := by rw [hx]; simp [leB_length]; omega
  obtain ⟨sp, sc, rfl, _, _, _⟩ := hu.shape
  obtain ⟨b, o, rfl, _, _, _, hc⟩ := hu.ne (by omega)
  simp only [Value.ownBlock, Option.some.injEq] at hg
  subst hg
  have key : ∀ i, i < 17 + l.length + m.length → bAt (textB tag [l, m]) i = bAt l (o + i) := fun i hi => by
    have h2 := hc i (by omega)
    rw [hb.cell] at h2
    have h3 := rowB_at l c (o + i) _ h2
    injection h3
  have part : ∀ i, i < l.length → bAt l i = bAt l (o + (9 + i)) := fun i hi => by
    rw [← key (9 + i) (by omega), hx, show 9 + i = (8 + i) + 1 by omega, bAt_succ, show 8 + i = (leB l.length).length + i by rw [leB_length], bAt_append_right, bAt_append_left _ _ _ hi]
  have zero : ∀ n i, l.length ≤ i + n → bAt l i = 0 := fun n => by
    induction n with
    | zero => intro i hi; exact bAt_beyond l i (by omega)
    | succ n ih =>
      intro i hi
      by_cases hil : i < l.length
      · rw [part i hil]; exact ih _ (by omega)
      · exact bAt_beyond l i (by omega)
  have one := key 1 (by omega)
  rw [zero l.length (o + 1) (by omega), hx, bAt_succ, bAt_append_left _ _ _ (by rw [leB_length]; decide)] at one
  unfold leB at one
  rw [bAt_byteOf_cons] at one
  omega
end Go.Pm
namespace Go.Proofs.Ytffmblafpkdhlaa
open Go.RowKit Go.Pm

/-- Two texts of one part each, held against one another. -/
def planTwo (p q x y : List UInt8) : List Fct :=
  [{ k := 2, uses := [], fact := fun v W => ∃ lo hi lo' hi', Bss W lo hi lo' hi' v [p] },
   { k := 3, uses := [2], fact := fun v W => ∃ lo hi, Bs W lo hi v x },
   { k := 4, uses := [3], pure := fun v => v = .string ⟨x.toArray⟩ },
   { k := 7, uses := [], fact := fun v W => ∃ lo hi lo' hi', Bss W lo hi lo' hi' v [q] },
   { k := 8, uses := [7], fact := fun v W => ∃ lo hi, Bs W lo hi v y },
   { k := 9, uses := [8], pure := fun v => v = .string ⟨y.toArray⟩ }]
theorem planTwo_pure {p q x y : List UInt8} : ∀ f ∈ planTwo p q x y, ∃ v, f.pure v := by
  intro f hf
  simp only [planTwo, List.mem_cons, List.not_mem_nil, or_false] at hf
  rcases hf with rfl | rfl | rfl | rfl | rfl | rfl <;> first | exact ⟨_, rfl⟩ | exact ⟨undef, trivial⟩
theorem planTwo_keeps {base : World → Prop} {p q x y : List UInt8} {i : Nat} {W W' : World} (hk : Kept None W W') : (planOf base (planTwo p q x y)).keeps i W W' := by
  refine keeps_all fun f hf u hu => ?_
  simp only [planTwo, List.mem_cons, List.not_mem_nil, or_false] at hf
  rcases hf with rfl | rfl | rfl | rfl | rfl | rfl
  all_goals first
    | exact trivial
    | (obtain ⟨lo, hi, lo', hi', h⟩ := hu; exact ⟨lo, hi, lo', hi', h.kept hk (fun _ _ _ h => h) (fun _ _ _ h => h)⟩)
    | (obtain ⟨lo, hi, h⟩ := hu; exact ⟨lo, hi, h.kept hk (fun _ _ _ h => h)⟩)

/-- A text of two parts against that of both in one. -/
def planBoth (H : Nat) (tg : Int) (a b y : List UInt8) : List Fct :=
  [{ k := 3, uses := [], fact := fun v W => ∃ lo hi lo' hi', Bss W lo hi lo' hi' v [a, b] },
   { k := 4, uses := [3], fact := fun v W => ∃ lo hi, Bs W lo hi v (textB tg [a, b]) },
   { k := 5, uses := [4], pure := fun v => v = .string ⟨(textB tg [a, b]).toArray⟩ },
   { k := 8, uses := [], fact := fun v W => (a.length = 0 ∧ v = .slice none 0 0) ∨ (0 < a.length ∧ ∃ g c, v = .slice (some ⟨g, 0, none⟩) a.length c ∧ a.length ≤ c ∧ c ≤ maxLen ∧ H ≤ g ∧ Blk W g (rowB a c) 5) },
   { k := 10, uses := [8, 3], spends := [8, 3], later := [11, 12], fact := fun v W => ∃ lo hi, Bs W lo hi v (a ++ b) },
   { k := 11, uses := [10], fact := fun v W => ∃ lo hi lo' hi', Bss W lo hi lo' hi' v [a ++ b] },
   { k := 12, uses := [11], fact := fun v W => ∃ lo hi, Bs W lo hi v y },
   { k := 13, uses := [12], pure := fun v => v = .string ⟨y.toArray⟩ }]
theorem planBoth_pure {H : Nat} {tg : Int} {a b y : List UInt8} : ∀ f ∈ planBoth H tg a b y, ∃ v, f.pure v := by
  intro f hf
  simp only [planBoth, List.mem_cons, List.not_mem_nil, or_false] at hf
  rcases hf with rfl | rfl | rfl | rfl | rfl | rfl | rfl | rfl <;> first | exact ⟨_, rfl⟩ | exact ⟨undef, trivial⟩
theorem planBoth_keeps {base : World → Prop} {H : Nat} {tg : Int} {a b y : List UInt8} {i : Nat} {W W' : World} (hk : Kept None W W') : (planOf base (planBoth H tg a b y)).keeps i W W' := by
  refine keeps_all fun f hf u hu => ?_
  simp only [planBoth, List.mem_cons, List.not_mem_nil, or_false] at hf
  rcases hf with rfl | rfl | rfl | rfl | rfl | rfl | rfl | rfl
  · obtain ⟨lo, hi, lo', hi', h⟩ := hu; exact ⟨lo, hi, lo', hi', h.kept hk (fun _ _ _ h => h) (fun _ _ _ h => h)⟩
  · obtain ⟨lo, hi, h⟩ := hu; exact ⟨lo, hi, h.kept hk (fun _ _ _ h => h)⟩
  · trivial
  · rcases hu with h | ⟨h0, g, c, h1, h2, h3, h4, h5⟩
    · exact .inl h
    · exact .inr ⟨h0, g, c, h1, h2, h3, h4, h5.kept hk (fun h => h)⟩
  · obtain ⟨lo, hi, h⟩ := hu; exact ⟨lo, hi, h.kept hk (fun _ _ _ h => h)⟩
  · obtain ⟨lo, hi, lo', hi', h⟩ := hu; exact ⟨lo, hi, lo', hi', h.kept hk (fun _ _ _ h => h) (fun _ _ _ h => h)⟩
  · obtain ⟨lo, hi, h⟩ := hu; exact ⟨lo, hi, h.kept hk (fun _ _ _ h => h)⟩
  · trivial
/-- The second append writes to the first one's row alone: no text lies there. -/
theorem planBoth_keeps10 {base : World → Prop} {H g c : Nat} {tg : Int} {a b y : List UInt8} {W W' : World} (h0 : 0 < a.length) (h1 : a.length < 256) (hb : Blk W g (rowB a c) 5) (hk : Kept (Just g) W W') : (planOf base (planBoth H tg a b y)).keeps 10 W W' := by
  refine keeps_of fun f hf hs hl hne u hu => ?_
  simp only [planBoth, List.mem_cons, List.not_mem_nil, or_false] at hf
  rcases hf with rfl | rfl | rfl | rfl | rfl | rfl | rfl | rfl
  · exact absurd (List.Mem.tail _ (List.Mem.head _)) hs
  · obtain ⟨lo, hi, h⟩ := hu
    exact ⟨lo, hi, h.keptOwn hk (fun _ k hk' (e : k = g) => text_apart hb h0 h1 h (by rw [hk', e]))⟩
  · trivial
  · exact absurd (List.Mem.head _) hs
  · exact absurd rfl hne
  · exact absurd (List.Mem.head _) hl
  · exact absurd (List.Mem.tail _ (List.Mem.head _)) hl
  · trivial

/-- Two tags, by value. -/
def planTags (p r : List UInt8) : List Fct :=
  [{ k := 21, uses := [], fact := fun v W => ∃ lo hi lo' hi', Bss W lo hi lo' hi' v [p] },
   { k := 22, uses := [21], pure := fun v => v = hashV r },
   { k := 27, uses := [], fact := fun v W => ∃ lo hi lo' hi', Bss W lo hi lo' hi' v [p] },
   { k := 28, uses := [27], pure := fun v => v = hashV r }]
theorem planTags_pure {p r : List UInt8} : ∀ f ∈ planTags p r, ∃ v, f.pure v := by
  intro f hf
  simp only [planTags, List.mem_cons, List.not_mem_nil, or_false] at hf
  rcases hf with rfl | rfl | rfl | rfl <;> first | exact ⟨_, rfl⟩ | exact ⟨undef, trivial⟩
theorem planTags_keeps {base : World → Prop} {p r : List UInt8} {i : Nat} {W W' : World} (hk : Kept None W W') : (planOf base (planTags p r)).keeps i W W' := by
  refine keeps_all fun f hf u hu => ?_
  simp only [planTags, List.mem_cons, List.not_mem_nil, or_false] at hf
  rcases hf with rfl | rfl | rfl | rfl
  all_goals first
    | exact trivial
    | (obtain ⟨lo, hi, lo', hi', h⟩ := hu; exact ⟨lo, hi, lo', hi', h.kept hk (fun _ _ _ h => h) (fun _ _ _ h => h)⟩)
theorem zeros32 : ((#[.int .u8 0, .int .u8 0, .int .u8 0, .int .u8 0, .int .u8 0, .int .u8 0, .int .u8 0, .int .u8 0, .int .u8 0, .int .u8 0, .int .u8 0, .int .u8 0, .int .u8 0, .int .u8 0, .int .u8 0, .int .u8 0, .int .u8 0, .int .u8 0, .int .u8 0, .int .u8 0, .int .u8 0, .int .u8 0, .int .u8 0, .int .u8 0, .int .u8 0, .int .u8 0, .int .u8 0, .int .u8 0, .int .u8 0, .int .u8 0, .int .u8 0, .int .u8 0] : Array Value)) = ((List.replicate 32 (0 : UInt8)).map u8v).toArray := rfl

set_option maxRecDepth 100000 in
set_option maxHeartbeats 4000000 in
theorem spongeTexts (v u : Value) (tg ot : Int) (lo hi lo1 hi1 : Nat) (l m : List UInt8) (w : World) (ht0 : 0 ≤ tg) (ht1 : tg < 256) (ho0 : 0 ≤ ot) (ho1 : ot < 256) (hv : Bs w lo hi v l) (hu : Bs w lo1 hi1 u m) :
    Calls Try.prog 5 #[v, u, .int .u8 tg, .int .u8 ot] w fun e w' => e = .returned (.bool true) ∧ Kept None w w' := by
  obtain ⟨a, cap, rfl, g1, g2, g3⟩ := hv.shape
  obtain ⟨a', cap', rfl, g1', g2', g3'⟩ := hu.shape
  clear g3 g3'
  by_cases hl : 60 < l.length
  · have d1 : decide (60 < (l.length : Int)) = true := by simp; omega
    go_enter Try.func5, Try.ntmps5
    go_wp2_with fail
    refine (known _).mono ?_
    rintro e1 w1 ⟨rfl, k1⟩
    go_wp2
    go_ret
    exact ⟨rfl, k1⟩
  have d1 : decide (60 < (l.length : Int)) = false := by simp; omega
  by_cases hm : 60 < m.length
  · have d2 : decide (60 < (m.length : Int)) = true := by simp; omega
    go_enter Try.func5, Try.ntmps5
    go_wp2_with fail
    refine (known _).mono ?_
    rintro e1 w1 ⟨rfl, k1⟩
    go_wp2
    go_ret
    exact ⟨rfl, k1⟩
  have d2 : decide (60 < (m.length : Int)) = false := by simp; omega
  -- what the calls come to, under names
  have hl60 : l.length ≤ 60 := by omega
  have hm60 : m.length ≤ 60 := by omega
  have t1 := fun v lo hi lo' hi' w h => Sp.text tg v lo hi lo' hi' [l] w ht0 ht1 h (by simp) (by simp [total]; omega)
  have t2 := fun v lo hi lo' hi' w h => Sp.text tg v lo hi lo' hi' [m] w ht0 ht1 h (by simp) (by simp [total]; omega)
  have t3 := fun v lo hi lo' hi' w h => Sp.text tg v lo hi lo' hi' [l, m] w ht0 ht1 h (by simp) (by simp [total]; omega)
  have t4 := fun v lo hi lo' hi' w h => Sp.text tg v lo hi lo' hi' [l ++ m] w ht0 ht1 h (by simp) (by simp [total]; omega)
  have t5 := fun v lo hi lo' hi' w h => Sp.text ot v lo hi lo' hi' [l] w ho0 ho1 h (by simp) (by simp [total]; omega)
  have t6 := fun v lo hi lo' hi' w h => Sp.tag tg v lo hi lo' hi' [l] w ht0 ht1 h (by simp) (by simp [total]; omega)
  have t7 := fun v lo hi lo' hi' w h => Ref.tag tg v lo hi lo' hi' [l] w ht0 ht1 h (by simp) (by simp [total]; omega)
  have h12 : (textB tg [l] == textB tg [m]) = (l == m) := by rw [Bool.eq_iff_iff]; simpa using textB_one tg (by omega) (by omega)
  have h34 : (textB tg [l, m] == textB tg [l ++ m]) = false := by simpa using textB_two tg l m
  have h15 : (textB tg [l] == textB ot [l]) = (tg == ot) := by rw [Bool.eq_iff_iff]; simpa using textB_tag ht0 ht1 ho0 ho1 [l]
  have l1 := sumB_len (textB tg [l])
  obtain ⟨r, hr⟩ : ∃ r, r = sumB (textB tg [l]) := ⟨_, rfl⟩
  obtain ⟨x1, hx1⟩ : ∃ x, x = textB tg [l] := ⟨_, rfl⟩
  obtain ⟨x2, hx2⟩ : ∃ x, x = textB tg [m] := ⟨_, rfl⟩
  obtain ⟨x4, hx4⟩ : ∃ x, x = textB tg [l ++ m] := ⟨_, rfl⟩
  obtain ⟨x5, hx5⟩ : ∃ x, x = textB ot [l] := ⟨_, rfl⟩
  rw [← hr] at t6 t7 l1
  rw [← hx1] at t1 h12 h15
  rw [← hx2] at t2 h12
  rw [← hx4] at t4 h34
  rw [← hx5] at t5 h15
  have e1 := eqHash r (List.replicate 32 0) l1 (by simp)
  rw [← zeros32] at e1
  obtain ⟨zb, hzb⟩ : ∃ zb, zb = (r == List.replicate 32 0) := ⟨_, rfl⟩
  rw [← hzb] at e1
  have g1 := gHash
  have C := hid (And.intro t1 (And.intro t2 (And.intro t3 (And.intro t4 (And.intro t5 (And.intro t6 t7))))))
  have Q := hid (And.intro h12 (And.intro h34 h15))
  clear t1 t2 t3 t4 t5 t6 t7 h12 h34 h15 l1 hr hx1 hx2 hx4 hx5 hzb hl hm
  go_enter Try.func5, Try.ntmps5
  go_wp2_with fail
  refine (known _).mono ?_
  rintro e w1 ⟨rfl, k1⟩
  have hv1 := hv.kept k1 (fun _ _ _ h => h)
  have hu1 := hu.kept k1 (fun _ _ _ h => h)
  clear hv hu
  go_wp2
  refine wp_region_plan (Kept None w1) (planTwo l m x1 x2) [] (by kernel_rfl) (by kernel_rfl) (by kernel_rfl) rfl planTwo_pure (Kept.refl _ _).drew (fun j hj => by cases hj) ?_
  iterate 2 (refine wpPar_pure rfl (by rfl) _ (fun W hW => by
      go_simp
      exact rfl) ?_; simp only [Act.put, List.setIfInBounds_toArray, List.set_cons_zero, List.set_cons_succ])
  refine wpPar_adds rfl (by rfl) (fun W hW hd => ?_) (fun v2 _ => ?_)
  · unfold Gives
    go_simp
    have hb := Bss.new W #[.slice a l.length cap] 24 [l] 1 rfl (by decide) ⟨(hv1.kept hW (fun _ _ _ h => h)).all, trivial⟩
    exact ⟨hW.alloc _, trivial, ⟨_, _, _, _, hb⟩, planTwo_keeps ((Kept.refl None W).alloc _)⟩
  simp only [Act.put, List.setIfInBounds_toArray, List.set_cons_zero, List.set_cons_succ]
  refine wpPar_adds rfl (by rfl) (fun W hW hd => ?_) (fun v3 _ => ?_)
  · obtain ⟨lo3, hi3, lo4, hi4, hb3⟩ : ∃ lo hi lo' hi', Bss W lo hi lo' hi' v2 [l] := hd 2 (List.Mem.head _)
    unfold Gives
    go_simp
    refine gives_call (C.out.1 _ _ _ _ _ W hb3) ?_
    rintro e w3 ⟨v3, rfl, k3, b3⟩
    exact ⟨_, rfl, hW.then k3 (fun _ _ h => h), trivial, ⟨_, _, b3.bs (Nat.le_refl _)⟩, planTwo_keeps k3⟩
  simp only [Act.put, List.setIfInBounds_toArray, List.set_cons_zero, List.set_cons_succ]
  refine wpPar_adds rfl (by rfl) (fun W hW hd => ?_) (fun v hv' => ?_)
  · obtain ⟨lo3, hi3, hb3⟩ : ∃ lo hi, Bs W lo hi v3 (x1) := hd 3 (List.Mem.head _)
    have hcv := cvBytes hb3
    unfold Gives
    go_simp
    exact ⟨hW, rfl, trivial, planTwo_keeps (Kept.refl _ _)⟩
  obtain rfl : v = .string ⟨(x1).toArray⟩ := hv'
  simp only [Act.put, List.setIfInBounds_toArray, List.set_cons_zero, List.set_cons_succ]
  iterate 2 (refine wpPar_pure rfl (by rfl) _ (fun W hW => by
      go_simp
      exact rfl) ?_; simp only [Act.put, List.setIfInBounds_toArray, List.set_cons_zero, List.set_cons_succ])
  refine wpPar_adds rfl (by rfl) (fun W hW hd => ?_) (fun v7 _ => ?_)
  · unfold Gives
    go_simp
    have hb := Bss.new W #[.slice a' m.length cap'] 24 [m] 1 rfl (by decide) ⟨(hu1.kept hW (fun _ _ _ h => h)).all, trivial⟩
    exact ⟨hW.alloc _, trivial, ⟨_, _, _, _, hb⟩, planTwo_keeps ((Kept.refl None W).alloc _)⟩
  simp only [Act.put, List.setIfInBounds_toArray, List.set_cons_zero, List.set_cons_succ]
  refine wpPar_adds rfl (by rfl) (fun W hW hd => ?_) (fun v8 _ => ?_)
  · obtain ⟨lo3, hi3, lo4, hi4, hb3⟩ : ∃ lo hi lo' hi', Bss W lo hi lo' hi' v7 [m] := hd 7 (List.Mem.head _)
    unfold Gives
    go_simp
    refine gives_call (C.out.2.1 _ _ _ _ _ W hb3) ?_
    rintro e w3 ⟨v3, rfl, k3, b3⟩
    exact ⟨_, rfl, hW.then k3 (fun _ _ h => h), trivial, ⟨_, _, b3.bs (Nat.le_refl _)⟩, planTwo_keeps k3⟩
  simp only [Act.put, List.setIfInBounds_toArray, List.set_cons_zero, List.set_cons_succ]
  refine wpPar_adds rfl (by rfl) (fun W hW hd => ?_) (fun v hv' => ?_)
  · obtain ⟨lo3, hi3, hb3⟩ : ∃ lo hi, Bs W lo hi v8 (x2) := hd 8 (List.Mem.head _)
    have hcv := cvBytes hb3
    unfold Gives
    go_simp
    exact ⟨hW, rfl, trivial, planTwo_keeps (Kept.refl _ _)⟩
  obtain rfl : v = .string ⟨(x2).toArray⟩ := hv'
  simp only [Act.put, List.setIfInBounds_toArray, List.set_cons_zero, List.set_cons_succ]
  iterate 2 (refine wpPar_pure rfl (by rfl) _ (fun W hW => by
      have q1 := Q.out.1
      go_simp
      exact rfl) ?_; simp only [Act.put, List.setIfInBounds_toArray, List.set_cons_zero, List.set_cons_succ])
  refine wpPar_nil (fun w2 hw _ => ?_)
  have ka : Kept None w1 w2 := hw
  have k2 := k1.trans ka
  have hv2 := hv1.kept ka (fun _ _ _ h => h)
  have hu2 := hu1.kept ka (fun _ _ _ h => h)
  clear hw k1 ka hv1 hu1
  go_wp2
  refine wp_region_plan (Kept None w2) (planBoth w2.heap.size tg l m x4) [] (by kernel_rfl) (by kernel_rfl) (by kernel_rfl) rfl planBoth_pure (Kept.refl _ _).drew (fun j hj => by cases hj) ?_
  iterate 3 (refine wpPar_pure rfl (by rfl) _ (fun W hW => by
      go_simp
      exact rfl) ?_; simp only [Act.put, List.setIfInBounds_toArray, List.set_cons_zero, List.set_cons_succ])
  refine wpPar_adds rfl (by rfl) (fun W hW hd => ?_) (fun v3 _ => ?_)
  · unfold Gives
    go_simp
    have hb := Bss.new W #[.slice a l.length cap, .slice a' m.length cap'] 24 [l, m] 2 rfl (by decide) ⟨(hv2.kept hW (fun _ _ _ h => h)).all, (hu2.kept hW (fun _ _ _ h => h)).all, trivial⟩
    exact ⟨hW.alloc _, trivial, ⟨_, _, _, _, hb⟩, planBoth_keeps ((Kept.refl None W).alloc _)⟩
  simp only [Act.put, List.setIfInBounds_toArray, List.set_cons_zero, List.set_cons_succ]
  refine wpPar_adds rfl (by rfl) (fun W hW hd => ?_) (fun v4 _ => ?_)
  · obtain ⟨lo3, hi3, lo4, hi4, hb3⟩ : ∃ lo hi lo' hi', Bss W lo hi lo' hi' v3 [l, m] := hd 3 (List.Mem.head _)
    unfold Gives
    go_simp
    refine gives_call (C.out.2.2.1 _ _ _ _ _ W hb3) ?_
    rintro e w3 ⟨v3, rfl, k3, b3⟩
    exact ⟨_, rfl, hW.then k3 (fun _ _ h => h), trivial, ⟨_, _, b3.bs (Nat.le_refl _)⟩, planBoth_keeps k3⟩
  simp only [Act.put, List.setIfInBounds_toArray, List.set_cons_zero, List.set_cons_succ]
  refine wpPar_adds rfl (by rfl) (fun W hW hd => ?_) (fun v hv' => ?_)
  · obtain ⟨lo3, hi3, hb3⟩ : ∃ lo hi, Bs W lo hi v4 (textB tg [l, m]) := hd 4 (List.Mem.head _)
    have hcv := cvBytes hb3
    unfold Gives
    go_simp
    exact ⟨hW, rfl, trivial, planBoth_keeps (Kept.refl _ _)⟩
  obtain rfl : v = .string ⟨(textB tg [l, m]).toArray⟩ := hv'
  simp only [Act.put, List.setIfInBounds_toArray, List.set_cons_zero, List.set_cons_succ]
  iterate 2 (refine wpPar_pure rfl (by rfl) _ (fun W hW => by
      go_simp
      exact rfl) ?_; simp only [Act.put, List.setIfInBounds_toArray, List.set_cons_zero, List.set_cons_succ])
  refine wpPar_adds rfl (by rfl) (fun W hW hd => ?_) (fun v8 _ => ?_)
  · by_cases h0 : l.length = 0
    · have hr := run_append_none (P := Try.prog) (ty := 24) rtBytes (hv2.kept hW (fun _ _ _ h => h)) h0
      exact gives_append (.const (.slice none 0 0)) (.tmp 40) 24 rfl rfl rfl hr ⟨hW, trivial, .inl ⟨h0, rfl⟩, planBoth_keeps (Kept.refl _ _)⟩
    · obtain ⟨c9, w9, hr9, hb9, h91, h92, k99⟩ := run_append_first (P := Try.prog) (ty := 24) rtBytes (hv2.kept hW (fun _ _ _ h => h)) (by omega) (by omega)
      exact gives_append (.const (.slice none 0 0)) (.tmp 40) 24 rfl rfl rfl hr9 ⟨hW.then k99 (fun _ _ h => h), trivial, .inr ⟨by omega, _, _, rfl, h91, h92, hW.size, hb9⟩, planBoth_keeps k99⟩
  simp only [Act.put, List.setIfInBounds_toArray, List.set_cons_zero, List.set_cons_succ]
  refine wpPar_pure rfl (by rfl) _ (fun W hW => by
      go_simp
      exact rfl) ?_
  simp only [Act.put, List.setIfInBounds_toArray, List.set_cons_zero, List.set_cons_succ]
  refine wpPar_adds rfl (by rfl) (fun W hW hd => ?_) (fun v10 _ => ?_)
  · have hf : (l.length = 0 ∧ v8 = .slice none 0 0) ∨ (0 < l.length ∧ ∃ g c, v8 = .slice (some ⟨g, 0, none⟩) l.length c ∧ l.length ≤ c ∧ c ≤ maxLen ∧ w2.heap.size ≤ g ∧ Blk W g (rowB l c) 5) := hd 8 (List.Mem.head _)
    rcases hf with ⟨h0, rfl⟩ | ⟨h0, g, c, rfl, hc1, hc2, hg, hb⟩
    · have hl0 : l = [] := List.eq_nil_of_length_eq_zero h0
      obtain ⟨v', w', hr, ho, hk⟩ : ∃ v' w', (Builtin.append_ #[24, 24] 24 #[.slice none 0 0, .slice a' m.length cap']).run Try.prog W = .ok v' w' ∧ Ob w' W.heap.size v' m ∧ Kept None W w' := by
        obtain ⟨a9, n9, c9, w9, h1, h2, h3, _⟩ := run_append_bo (P := Try.prog) (ty := 24) (w := W) rtBytes (Bo.nil _ _ W.heap.size) (hu2.kept hW (fun _ _ _ h => h)) (by simp; omega) (Nat.le_refl _)
        exact ⟨_, _, h1, by simpa using h2, h3.mono (fun _ _ h => by cases h)⟩
      exact gives_append (.tmp 41) (.tmp 42) 24 rfl rfl rfl hr ⟨hW.then hk (fun _ _ h => h), trivial, ⟨_, _, by rw [hl0]; exact ho.bs (Nat.le_refl _)⟩, planBoth_keeps hk⟩
    · obtain ⟨a9, n9, c9, w9, h1, h2, h3, _⟩ := run_append_bo (P := Try.prog) (ty := 24) (w := W) rtBytes (rowB_bo hb hc1 hc2 hg) (hu2.kept hW (fun _ _ _ h => h)) (by omega) hW.size
      have hk : Kept (Just g) W w9 := h3.mono (fun i _ h => (Option.some.inj h).symm)
      exact gives_append (.tmp 41) (.tmp 42) 24 rfl rfl rfl h1 ⟨hW.then hk (fun i hi (h : i = g) => by omega), trivial, ⟨_, _, h2.bs (Nat.le_refl _)⟩, planBoth_keeps10 h0 (by omega) hb hk⟩
  simp only [Act.put, List.setIfInBounds_toArray, List.set_cons_zero, List.set_cons_succ]
  refine wpPar_adds rfl (by rfl) (fun W hW hd => ?_) (fun v11 _ => ?_)
  · obtain ⟨lo3, hi3, hb3⟩ : ∃ lo hi, Bs W lo hi v10 (l ++ m) := hd 10 (List.Mem.head _)
    obtain ⟨a10, c10, he, _⟩ := hb3.shape
    obtain ⟨n10, hn⟩ : ∃ n, n = (l ++ m).length := ⟨_, rfl⟩
    rw [← hn] at he
    subst he
    clear hn
    unfold Gives
    go_simp
    have hb := Bss.new W #[.slice a10 n10 c10] 24 [l ++ m] 1 rfl (by decide) ⟨hb3.all, trivial⟩
    exact ⟨hW.alloc _, trivial, ⟨_, _, _, _, hb⟩, planBoth_keeps ((Kept.refl None W).alloc _)⟩
  simp only [Act.put, List.setIfInBounds_toArray, List.set_cons_zero, List.set_cons_succ]
  refine wpPar_adds rfl (by rfl) (fun W hW hd => ?_) (fun v12 _ => ?_)
  · obtain ⟨lo3, hi3, lo4, hi4, hb3⟩ : ∃ lo hi lo' hi', Bss W lo hi lo' hi' v11 [l ++ m] := hd 11 (List.Mem.head _)
    unfold Gives
    go_simp
    refine gives_call (C.out.2.2.2.1 _ _ _ _ _ W hb3) ?_
    rintro e w3 ⟨v3, rfl, k3, b3⟩
    exact ⟨_, rfl, hW.then k3 (fun _ _ h => h), trivial, ⟨_, _, b3.bs (Nat.le_refl _)⟩, planBoth_keeps k3⟩
  simp only [Act.put, List.setIfInBounds_toArray, List.set_cons_zero, List.set_cons_succ]
  refine wpPar_adds rfl (by rfl) (fun W hW hd => ?_) (fun v hv' => ?_)
  · obtain ⟨lo3, hi3, hb3⟩ : ∃ lo hi, Bs W lo hi v12 (x4) := hd 12 (List.Mem.head _)
    have hcv := cvBytes hb3
    unfold Gives
    go_simp
    exact ⟨hW, rfl, trivial, planBoth_keeps (Kept.refl _ _)⟩
  obtain rfl : v = .string ⟨(x4).toArray⟩ := hv'
  simp only [Act.put, List.setIfInBounds_toArray, List.set_cons_zero, List.set_cons_succ]
  iterate 2 (refine wpPar_pure rfl (by rfl) _ (fun W hW => by
      have q1 := Q.out.2.1
      go_simp
      exact rfl) ?_; simp only [Act.put, List.setIfInBounds_toArray, List.set_cons_zero, List.set_cons_succ])
  refine wpPar_nil (fun w3 hw _ => ?_)
  have ka : Kept None w2 w3 := hw
  have k3 := k2.trans ka
  have hv3 := hv2.kept ka (fun _ _ _ h => h)
  have hu3 := hu2.kept ka (fun _ _ _ h => h)
  clear hw k2 ka hv2 hu2
  go_wp2
  refine wp_region_plan (Kept None w3) (planTwo l l x1 x5) [] (by kernel_rfl) (by kernel_rfl) (by kernel_rfl) rfl planTwo_pure (Kept.refl _ _).drew (fun j hj => by cases hj) ?_
  iterate 2 (refine wpPar_pure rfl (by rfl) _ (fun W hW => by
      go_simp
      exact rfl) ?_; simp only [Act.put, List.setIfInBounds_toArray, List.set_cons_zero, List.set_cons_succ])
  refine wpPar_adds rfl (by rfl) (fun W hW hd => ?_) (fun v2 _ => ?_)
  · unfold Gives
    go_simp
    have hb := Bss.new W #[.slice a l.length cap] 24 [l] 1 rfl (by decide) ⟨(hv3.kept hW (fun _ _ _ h => h)).all, trivial⟩
    exact ⟨hW.alloc _, trivial, ⟨_, _, _, _, hb⟩, planTwo_keeps ((Kept.refl None W).alloc _)⟩
  simp only [Act.put, List.setIfInBounds_toArray, List.set_cons_zero, List.set_cons_succ]
  refine wpPar_adds rfl (by rfl) (fun W hW hd => ?_) (fun v3 _ => ?_)
  · obtain ⟨lo3, hi3, lo4, hi4, hb3⟩ : ∃ lo hi lo' hi', Bss W lo hi lo' hi' v2 [l] := hd 2 (List.Mem.head _)
    unfold Gives
    go_simp
    refine gives_call (C.out.1 _ _ _ _ _ W hb3) ?_
    rintro e w3 ⟨v3, rfl, k3, b3⟩
    exact ⟨_, rfl, hW.then k3 (fun _ _ h => h), trivial, ⟨_, _, b3.bs (Nat.le_refl _)⟩, planTwo_keeps k3⟩
  simp only [Act.put, List.setIfInBounds_toArray, List.set_cons_zero, List.set_cons_succ]
  refine wpPar_adds rfl (by rfl) (fun W hW hd => ?_) (fun v hv' => ?_)
  · obtain ⟨lo3, hi3, hb3⟩ : ∃ lo hi, Bs W lo hi v3 (x1) := hd 3 (List.Mem.head _)
    have hcv := cvBytes hb3
    unfold Gives
    go_simp
    exact ⟨hW, rfl, trivial, planTwo_keeps (Kept.refl _ _)⟩
  obtain rfl : v = .string ⟨(x1).toArray⟩ := hv'
  simp only [Act.put, List.setIfInBounds_toArray, List.set_cons_zero, List.set_cons_succ]
  iterate 2 (refine wpPar_pure rfl (by rfl) _ (fun W hW => by
      go_simp
      exact rfl) ?_; simp only [Act.put, List.setIfInBounds_toArray, List.set_cons_zero, List.set_cons_succ])
  refine wpPar_adds rfl (by rfl) (fun W hW hd => ?_) (fun v7 _ => ?_)
  · unfold Gives
    go_simp
    have hb := Bss.new W #[.slice a l.length cap] 24 [l] 1 rfl (by decide) ⟨(hv3.kept hW (fun _ _ _ h => h)).all, trivial⟩
    exact ⟨hW.alloc _, trivial, ⟨_, _, _, _, hb⟩, planTwo_keeps ((Kept.refl None W).alloc _)⟩
  simp only [Act.put, List.setIfInBounds_toArray, List.set_cons_zero, List.set_cons_succ]
  refine wpPar_adds rfl (by rfl) (fun W hW hd => ?_) (fun v8 _ => ?_)
  · obtain ⟨lo3, hi3, lo4, hi4, hb3⟩ : ∃ lo hi lo' hi', Bss W lo hi lo' hi' v7 [l] := hd 7 (List.Mem.head _)
    unfold Gives
    go_simp
    refine gives_call (C.out.2.2.2.2.1 _ _ _ _ _ W hb3) ?_
    rintro e w3 ⟨v3, rfl, k3, b3⟩
    exact ⟨_, rfl, hW.then k3 (fun _ _ h => h), trivial, ⟨_, _, b3.bs (Nat.le_refl _)⟩, planTwo_keeps k3⟩
  simp only [Act.put, List.setIfInBounds_toArray, List.set_cons_zero, List.set_cons_succ]
  refine wpPar_adds rfl (by rfl) (fun W hW hd => ?_) (fun v hv' => ?_)
  · obtain ⟨lo3, hi3, hb3⟩ : ∃ lo hi, Bs W lo hi v8 (x5) := hd 8 (List.Mem.head _)
    have hcv := cvBytes hb3
    unfold Gives
    go_simp
    exact ⟨hW, rfl, trivial, planTwo_keeps (Kept.refl _ _)⟩
  obtain rfl : v = .string ⟨(x5).toArray⟩ := hv'
  simp only [Act.put, List.setIfInBounds_toArray, List.set_cons_zero, List.set_cons_succ]
  iterate 2 (refine wpPar_pure rfl (by rfl) _ (fun W hW => by
      have q1 := Q.out.2.2
      go_simp
      exact rfl) ?_; simp only [Act.put, List.setIfInBounds_toArray, List.set_cons_zero, List.set_cons_succ])
  refine wpPar_nil (fun w4 hw _ => ?_)
  have ka : Kept None w3 w4 := hw
  have k4 := k3.trans ka
  have hv4 := hv3.kept ka (fun _ _ _ h => h)
  have hu4 := hu3.kept ka (fun _ _ _ h => h)
  clear hw k3 ka hv3 hu3
  go_wp2
  refine wp_region_plan (Kept None w4) (planTags l r) [] (by kernel_rfl) (by kernel_rfl) (by kernel_rfl) rfl planTags_pure (Kept.refl _ _).drew (fun j hj => by cases hj) ?_
  iterate 5 (refine wpPar_pure rfl (by rfl) _ (fun W hW => by
      have c1 := cvBytes (hv4.kept hW (fun _ _ _ h => h))
      have c2 := cvBytes (hu4.kept hW (fun _ _ _ h => h))
      go_simp
      exact rfl) ?_; simp only [Act.put, List.setIfInBounds_toArray, List.set_cons_zero, List.set_cons_succ])
  iterate 16 (refine wpPar_pure rfl (by rfl) _ (fun W hW => by
      go_simp
      exact rfl) ?_; simp only [Act.put, List.setIfInBounds_toArray, List.set_cons_zero, List.set_cons_succ])
  refine wpPar_adds rfl (by rfl) (fun W hW hd => ?_) (fun v21 _ => ?_)
  · unfold Gives
    go_simp
    have hb := Bss.new W #[.slice a l.length cap] 24 [l] 1 rfl (by decide) ⟨(hv4.kept hW (fun _ _ _ h => h)).all, trivial⟩
    exact ⟨hW.alloc _, trivial, ⟨_, _, _, _, hb⟩, planTags_keeps ((Kept.refl None W).alloc _)⟩
  simp only [Act.put, List.setIfInBounds_toArray, List.set_cons_zero, List.set_cons_succ]
  refine wpPar_adds rfl (by rfl) (fun W hW hd => ?_) (fun v hv' => ?_)
  · obtain ⟨lo3, hi3, lo4, hi4, hb3⟩ : ∃ lo hi lo' hi', Bss W lo hi lo' hi' v21 [l] := hd 21 (List.Mem.head _)
    unfold Gives
    go_simp
    refine gives_call (C.out.2.2.2.2.2.1 _ _ _ _ _ W hb3) ?_
    rintro e w3 ⟨rfl, k3⟩
    exact ⟨_, rfl, hW.then k3 (fun _ _ h => h), rfl, trivial, planTags_keeps k3⟩
  obtain rfl : v = hashV r := hv'
  simp only [Act.put, List.setIfInBounds_toArray, List.set_cons_zero, List.set_cons_succ]
  iterate 4 (refine wpPar_pure rfl (by rfl) _ (fun W hW => by
      go_simp
      exact rfl) ?_; simp only [Act.put, List.setIfInBounds_toArray, List.set_cons_zero, List.set_cons_succ])
  refine wpPar_adds rfl (by rfl) (fun W hW hd => ?_) (fun v27 _ => ?_)
  · unfold Gives
    go_simp
    have hb := Bss.new W #[.slice a l.length cap] 24 [l] 1 rfl (by decide) ⟨(hv4.kept hW (fun _ _ _ h => h)).all, trivial⟩
    exact ⟨hW.alloc _, trivial, ⟨_, _, _, _, hb⟩, planTags_keeps ((Kept.refl None W).alloc _)⟩
  simp only [Act.put, List.setIfInBounds_toArray, List.set_cons_zero, List.set_cons_succ]
  refine wpPar_adds rfl (by rfl) (fun W hW hd => ?_) (fun v hv' => ?_)
  · obtain ⟨lo3, hi3, lo4, hi4, hb3⟩ : ∃ lo hi lo' hi', Bss W lo hi lo' hi' v27 [l] := hd 27 (List.Mem.head _)
    unfold Gives
    go_simp
    refine gives_call (C.out.2.2.2.2.2.2 _ _ _ _ _ W hb3) ?_
    rintro e w3 ⟨rfl, k3⟩
    exact ⟨_, rfl, hW.then k3 (fun _ _ h => h), rfl, trivial, planTags_keeps k3⟩
  obtain rfl : v = hashV r := hv'
  simp only [Act.put, List.setIfInBounds_toArray, List.set_cons_zero, List.set_cons_succ]
  iterate 5 (refine wpPar_pure rfl (by rfl) _ (fun W hW => by
      go_simp
      exact rfl) ?_; simp only [Act.put, List.setIfInBounds_toArray, List.set_cons_zero, List.set_cons_succ])
  refine wpPar_nil (fun w5 hw5 _ => ?_)
  have k5 : Kept None w w5 := k4.trans hw5
  go_wp2
  go_ret
  exact ⟨rfl, k5⟩
end Go.Proofs.Ytffmblafpkdhlaa
