/- postmarklaw1.BinBack: true. -/
import Derived.Test.YtjadlhpheagkfaaKnown1
import Derived.Test.YtjadlhpheagkfaaPar
import Derived.Deep.RegionHeld3
import Derived.Deep.QuietTactic
import Derived.BigQuiet
import Derived.Deep.DeepCutAuto
namespace Go.Proofs.Ytjadlhpheagkfaa
open Go.RowKit Go.Pm

/-- What is put together: of each a number, then a lump. -/
def backs : List Int → List (List UInt8) → List UInt8
  | n :: ns, l :: ls => (leB n ++ (leB l.length ++ l)) ++ backs ns ls
  | _, _ => []

theorem backs_take (ns : List Int) (ls : List (List UInt8)) (k : Nat) (hn : k < ns.length) (hl : k < ls.length) : backs (ns.take (k + 1)) (ls.take (k + 1)) = backs (ns.take k) (ls.take k) ++ (leB ns[k] ++ (leB ls[k].length ++ ls[k])) := by
  induction k generalizing ns ls with
  | zero =>
    match ns, ls, hn, hl with
    | n :: ns, l :: ls, _, _ => simp [backs]
  | succ k ih =>
    match ns, ls, hn, hl with
    | n :: ns, l :: ls, hn, hl =>
      have := ih ns ls (by simpa using hn) (by simpa using hl)
      simp only [List.take_succ_cons, backs, List.getElem_cons_succ]
      rw [this]
      simp [List.append_assoc]
theorem backs_full (ns : List Int) (ls : List (List UInt8)) (h : ls.length ≤ ns.length) : backs (ns.take ls.length) (ls.take ls.length) = backs ns ls := by
  induction ls generalizing ns with
  | nil => cases ns <;> simp [backs]
  | cons l ls ih =>
    match ns, h with
    | n :: ns, h => simp only [List.length_cons, List.take_succ_cons, backs]; rw [ih ns (by simpa using h)]
theorem backs_drop (ns : List Int) (ls : List (List UInt8)) (k : Nat) (hn : k < ns.length) (hl : k < ls.length) : backs (ns.drop k) (ls.drop k) = leB ns[k] ++ ((leB ls[k].length ++ ls[k]) ++ backs (ns.drop (k + 1)) (ls.drop (k + 1))) := by
  rw [List.drop_eq_getElem_cons hn, List.drop_eq_getElem_cons hl]
  simp [backs]
theorem backs_len (ns : List Int) (ls : List (List UInt8)) (k : Nat) (hn : k ≤ ns.length) (hl : k ≤ ls.length) (h : ∀ j, j < k → (ls.getD j []).length ≤ 40) : (backs (ns.take k) (ls.take k)).length ≤ 56 * k := by
  induction k with
  | zero => cases ns <;> cases ls <;> simp [backs]
  | succ k ih =>
    rw [backs_take ns ls k (by omega) (by omega)]
    have h1 := ih (by omega) (by omega) (fun j hj => h j (by omega))
    have h2 := h k (by omega)
    rw [List.getD_eq_getElem?_getD, List.getElem?_eq_getElem (by omega), Option.getD_some] at h2
    simp only [List.length_append, leB_length]
    omega

theorem held2 {w w' : World} {B : Nat} {p q : Addr} {x y : Value} {n : Nat} (h : w.cell? p = some x ∧ w.cell? q = some y ∧ n ≤ w.heap.size) (k : Kept (fun j => B ≤ j) w w') (hp : p.block < B) (hq : q.block < B) : w'.cell? p = some x ∧ w'.cell? q = some y ∧ n ≤ w'.heap.size :=
  ⟨(k.cell (block_lt_of_cell h.1) (by omega)).trans h.1, (k.cell (block_lt_of_cell h.2.1) (by omega)).trans h.2.1, Nat.le_trans h.2.2 k.size⟩

theorem held3 {w w' : World} {B : Nat} {p q : Addr} {x y u : Value} {lo hi : Nat} {l : List UInt8} (h : w.cell? p = some x ∧ w.cell? q = some y ∧ (convert 22 9 u).run Try.prog w = .ok (.string ⟨l.toArray⟩) w ∧ Bs w lo hi u l) (k : Kept (fun j => B ≤ j) w w') (hp : p.block < B) (hq : q.block < B) (hh : hi ≤ B) :
    w'.cell? p = some x ∧ w'.cell? q = some y ∧ (convert 22 9 u).run Try.prog w' = .ok (.string ⟨l.toArray⟩) w' ∧ Bs w' lo hi u l :=
  have hb := h.2.2.2.kept k (fun j _ h2 h3 => by omega)
  ⟨(k.cell (block_lt_of_cell h.1) (by omega)).trans h.1, (k.cell (block_lt_of_cell h.2.1) (by omega)).trans h.2.1, cvBytes hb, hb⟩

/-- The condition of the second loop: what each operation leaves. -/
def planBack (w : World) (lo r : Nat) (y : Int) (x z : List UInt8) : List Fct :=
  [{ k := 100, uses := [], fact := fun _ W => Bin.Rd W lo r r ⟨leB y ++ ((leB x.length ++ x) ++ z), 0⟩ ∧ w.heap.size ≤ r },
   { k := 1, uses := [100], spends := [100], later := [9], pure := fun v => v = .int .u64 y, fact := fun _ W => Bin.Rd W lo r r ⟨(leB x.length ++ x) ++ z, 0⟩ ∧ w.heap.size ≤ r },
   { k := 9, uses := [1, 100], spends := [1, 100], fact := fun v W => (Bin.Rd W lo r r ⟨z, 0⟩ ∧ w.heap.size ≤ r) ∧ ∃ hi, Bs W (r + 1) hi v x },
   { k := 10, uses := [9], pure := fun v => v = .string ⟨x.toArray⟩ },
   { k := 20, uses := [9], pure := fun v => v = .int .i64 0 }]

set_option maxHeartbeats 2000000 in
theorem binBack (v u : Value) (lo hi lo' hi' lo2 hi2 : Nat) (ls : List (List UInt8)) (ns : List Int) (w : World) (hv : Bss w lo hi lo' hi' v ls) (hu : Ns w lo2 hi2 u ns) (hh1 : hi ≤ w.heap.size) (hh2 : hi' ≤ w.heap.size) (hh3 : hi2 ≤ w.heap.size) :
    Calls Try.prog 4 #[v, u] w fun e w' => e = .returned (.bool true) ∧ Kept None w w' := by
  obtain ⟨a, cap, rfl, g1, g2, g3⟩ := hv.shape
  obtain ⟨⟨a', cap', hu1, g1', g2', g3', hu4⟩, hu2⟩ := id hu
  rw [List.length_map] at hu1 g1'
  subst hu1
  unfold maxLen at g2'
  by_cases hl : 10 < ls.length
  · go_enter Try.func4, Try.ntmps4
    go_wp2_with fail
    refine (known w).mono ?_
    rintro e1 w1 ⟨rfl, k1⟩
    go_wp2
    go_ret
    exact ⟨rfl, k1⟩
  by_cases hl' : ns.length < ls.length
  · go_enter Try.func4, Try.ntmps4
    go_wp2_with fail
    refine (known w).mono ?_
    rintro e1 w1 ⟨rfl, k1⟩
    go_wp2
    go_ret
    exact ⟨rfl, k1⟩
  have d1 : decide (10 < (ls.length : Int)) = false := by simp; omega
  have d2 : decide ((ns.length : Int) < (ls.length : Int)) = false := by simp; omega
  go_enter Try.func4, Try.ntmps4
  go_wp2_with fail
  refine (known w).mono ?_
  rintro e1 w1 ⟨rfl, k1⟩
  go_wp2_with fail
  go_loopw [5, 6] (fun o i wr => ∃ k : Nat, k ≤ ls.length ∧ i = .int .i64 k ∧ (∃ a n c, o = .slice a n c) ∧ Ob wr w.heap.size o (backs (ns.take k) (ls.take k)) ∧ Kept None w wr ∧ (∀ j, j < k → (ls.getD j []).length ≤ 40)) (fun _ i _ => ls.length - (intOf i).toNat)
  case atStart => exact ⟨0, by omega, rfl, ⟨_, _, _, rfl⟩, Bo.nil _ _ _, k1, fun j h => by omega⟩
  case round =>
    obtain ⟨k, hk, rfl, ⟨ao, no, co, rfl⟩, hb, hkk, h40⟩ := hrel
    by_cases hlt : k < ls.length
    · have hvr := hv.kept hkk (fun _ _ _ h => h) (fun _ _ _ h => h)
      obtain ⟨b, o, rfl, q1, q2, q3, hc⟩ := Bss.at hvr (by omega)
      obtain ⟨ac, cc, hc', hb'⟩ := hc k hlt
      have hur := Vs.kept hu.1 hkk (fun _ _ _ h => h)
      obtain ⟨b2, o2, rfl, p1, p2, p3, hd⟩ := Vs.ne hur (by simp; omega)
      have hd' := hd k (.int .u64 ns[k]) (by simp [u64v])
      have hn := hu2 ns[k] (List.getElem_mem _)
      generalize hx : ls[k] = x at *
      generalize hy : ns[k] = y at *
      clear hc hd hvr hur g3' g3
      by_cases hx40 : 40 < x.length
      · go_wp2
        go_ret
        exact ⟨rfl, hkk⟩
      · go_wp2_with fail
        have hbl : (backs (ns.take k) (ls.take k)).length ≤ 560 := by have := backs_len ns ls k (by omega) hk h40; omega
        have hbt := backs_take ns ls k (by omega) hlt
        have h41 : ∀ j, j < k + 1 → (ls.getD j []).length ≤ 40 := fun j hj => by
          by_cases hjk : j = k
          · subst hjk
            rw [List.getD_eq_getElem?_getD, List.getElem?_eq_getElem hlt, Option.getD_some, hx]
            omega
          · exact h40 j (by omega)
        rw [hx, hy] at hbt
        have HBT := hid hbt
        have H41 := hid h41
        clear hbt h41 hx hy
        have hsz := hkk.size
        have bN : b < w.heap.size := by omega
        have b2N : b2 < w.heap.size := by omega
        clear hu4 hu2 hu hv q1 q2 q3 p1 p2 p3 h40
        have i1 : (0 : Int) ≤ k := by omega
        have i2 : (k : Int) < ns.length := by omega
        have i3 : (k : Int) < ls.length := by omega
        have hb := hb.drew
        have hkk := hkk.drew
        have hb' := hb'.kept ((Kept.refl None wr).drew) (fun _ _ _ h => h)
        have hsz2 : wr.drew.heap.size ≤ wr.drew.heap.size := Nat.le_refl _
        have hsep : ∀ j, (Value.slice ao no co).ownBlock = some j → j < wr.drew.heap.size := fun j h => (hb.own j h).2
        go_region_held3 (fun W => W.cell? ⟨b2, o2 + k, none⟩ = some (.int .u64 y) ∧ W.cell? ⟨b, o + k, none⟩ = some (.slice ac x.length cc) ∧ wr.heap.size ≤ W.heap.size) (first | exact held2 (by assumption) (by assumption) b2N bN | exact held2 ⟨hd', hc', Nat.le_refl _⟩ (Kept.refl _ _).drew b2N bN)
          (first
            | (go_at_call 10; refine (Bin.num y _ hn.1 hn.2).mono ?_; rintro e w2 ⟨v2, rfl, k2, hN⟩; have hN := hN.bs (Nat.le_refl _); have hb := hb.kept k2 (fun _ _ h => h); have hkk := hkk.then k2 (fun _ _ h => h); have hlo := hsz2; have hsz2 := Nat.le_trans hsz2 k2.size; have hb' := hb'.kept k2 (fun _ _ _ h => h); (try have hL := hL.kept k2 (fun _ _ _ h => h)); have hst := k2.mono (T := fun j => w.heap.size ≤ j) (fun _ _ h => h.elim))
            | (go_at_call 8; refine (Bin.lump _ _ _ x _ hb' (by omega)).mono ?_; rintro e w2 ⟨v2, rfl, k2, hL⟩; have hL := hL.bs (Nat.le_refl _); have hb := hb.kept k2 (fun _ _ h => h); have hb' := hb'.kept k2 (fun _ _ _ h => h); have hkk := hkk.then k2 (fun _ _ h => h); have hlo := hsz2; have hsz2 := Nat.le_trans hsz2 k2.size; (try have hN := hN.kept k2 (fun _ _ _ h => h)); have hst := k2.mono (T := fun j => w.heap.size ≤ j) (fun _ _ h => h.elim))
            | (refine step_append_bo rfl (.tmp 33) (.tmp 38) 22 rfl rtBytes rfl rfl hb hN (by rw [leB_length]; omega) (by omega) ?_; intro a3 n3 c3 w3 hb3 k3; have hst := k3.mono (T := fun j => w.heap.size ≤ j) (fun j _ h => (hb.own j h).1); have hkk := Kept.own hkk k3 (fun j h => (hb.own j h).1); have hsz2 := Nat.le_trans hsz2 k3.size; have hb' := hb'.kept k3 (fun j _ h2 h => by have := (hb.own j h).1; omega); (try have hL := hL.kept k3 (fun j h1 _ h => by have := hsep j h; omega)); have hb := hb3)
            | (refine step_append_bo rfl (.tmp 39) (.tmp 44) 22 rfl rtBytes rfl rfl hb hL (by simp [leB_length]; omega) (by omega) ?_; intro a3 n3 c3 w3 hb3 k3; have hst := k3.mono (T := fun j => w.heap.size ≤ j) (fun j _ h => (hb.own j h).1); have hkk := Kept.own hkk k3 (fun j h => (hb.own j h).1); have hsz2 := Nat.le_trans hsz2 k3.size; have hb := hb3))
        all_goals
          rw [List.append_assoc, ← HBT.out] at hb
          have hb4 := hid hb
          clear hst hb hb' hsep hsz2
          go_wp2
          go_roundw
          case rel => exact ⟨k + 1, by omega, by go_num, ⟨_, _, _, rfl⟩, hb4.out, hkk, H41.out⟩
          case measure => simp [intOf]; omega
    · have hk8 : k = ls.length := by omega
      have hbf : Ob wr w.heap.size (.slice ao no co) (backs ns ls) := by rw [← backs_full ns ls (by omega), ← hk8]; exact hb
      have hlen : (backs ns ls).length ≤ 560 := by rw [← backs_full ns ls (by omega)]; have := backs_len ns ls ls.length (by omega) (Nat.le_refl _) (by rw [← hk8]; exact h40); omega
      have h40' : ∀ j (h : j < ls.length), ls[j].length ≤ 40 := fun j h => by
        have := h40 j (by omega)
        rw [List.getD_eq_getElem?_getD, List.getElem?_eq_getElem h, Option.getD_some] at this
        exact this
      have H40 := hid h40'
      clear h40 h40' hb hk8
      go_wp2_with fail
      refine (Bin.new _ _ _ _ _ (hbf.bs (Nat.le_refl _)) (by omega)).mono ?_
      rintro e2 w2 ⟨r, rfl, k2, hr, rd2⟩
      have k02 := hkk.then k2 (fun _ _ h => h)
      have s1 := hkk.size
      have s2 := k02.size
      have hr2 := rd2.lt
      have hwr : w.heap.size ≤ r := by omega
      clear hkk k2 hbf
      obtain ⟨wo, rfl⟩ : ∃ wo : World, wo = wr := ⟨_, rfl⟩
      go_wp2_with fail
      go_loopw [8] (fun i ws => ∃ k : Nat, k ≤ ls.length ∧ i = .int .i64 k ∧ Kept None w ws ∧ Bin.Rd ws wo.heap.size r r ⟨backs (ns.drop k) (ls.drop k), 0⟩ ∧ (backs (ns.drop k) (ls.drop k)).length ≤ 560) (fun i _ => ls.length - (intOf i).toNat)
      case atStart => exact ⟨0, by omega, rfl, k02, rd2, hlen⟩
      case round =>
        clear rd2 k02
        obtain ⟨k, hk, rfl, hkk, hrd, hlk⟩ := hrel
        by_cases hlt : k < ls.length
        · obtain ⟨b, o, rfl, q1, q2, q3, hc⟩ := Bss.at hv (by omega)
          obtain ⟨ac, cc, hc', hb'⟩ := hc k hlt
          obtain ⟨b2, o2, rfl, p1, p2, p3, hd⟩ := Vs.ne hu.1 (by simp; omega)
          have hd' := hd k (.int .u64 ns[k]) (by simp [u64v])
          have hn := hu2 ns[k] (List.getElem_mem _)
          have hx40 := H40.out k hlt
          have hbd := backs_drop ns ls k (by omega) hlt
          have hnum := St.num_said ns[k] hn.1 hn.2 ((leB ls[k].length ++ ls[k]) ++ backs (ns.drop (k + 1)) (ls.drop (k + 1)))
          have hlump := St.lump_said ls[k] 40 (by omega) (by omega) (backs (ns.drop (k + 1)) (ls.drop (k + 1)))
          have hlk' : (backs (ns.drop (k + 1)) (ls.drop (k + 1))).length ≤ 560 := by rw [hbd] at hlk; simp only [List.length_append] at hlk; omega
          have hl2 : ((leB ls[k].length ++ ls[k]) ++ backs (ns.drop (k + 1)) (ls.drop (k + 1))).length ≤ 600 := by rw [hbd] at hlk; simp only [List.length_append] at hlk ⊢; omega
          rw [hbd] at hrd
          generalize hx : ls[k] = x at *
          generalize hy : ns[k] = y at *
          generalize hz : backs (ns.drop (k + 1)) (ls.drop (k + 1)) = z at *
          have HZ := hid hz
          have bN : b < w.heap.size := by omega
          have b2N : b2 < w.heap.size := by omega
          have hsz := hkk.size
          have hW1 : Hid (w.cell? ⟨b, o + k, none⟩ = some (.slice ac x.length cc)) := hc'
          have hW2 : Hid (w.cell? ⟨b2, o2 + k, none⟩ = some (.int .u64 y)) := hd'
          have hW3 : Hid (Bs w lo' hi' (.slice ac x.length cc) x) := hb'
          clear hc' hd' hb'
          have HN := hid hnum
          have HL := hid hlump
          clear hc hd g3' g3 hbd hx hy hz hlk hnum hlump hu4 hu2 hu hv q1 q2 q3 p1 p2 p3
          have i1 : (0 : Int) ≤ k := by omega
          have i2 : (k : Int) < ns.length := by omega
          have i3 : (k : Int) < ls.length := by omega
          go_wp2_with fail
          have hrd := hrd.kept ((Kept.refl None wr).drew) (fun _ _ _ h => h) (fun h => h)
          have hkk := hkk.drew
          have l1 : ∀ W, Kept None w W → W.cell? ⟨b2, o2 + k, none⟩ = some (.int .u64 y) := fun W h => (h.cell (p := ⟨b2, o2 + k, none⟩) b2N (fun h => h)).trans (hW2.out)
          have l2 : ∀ W, Kept None w W → W.cell? ⟨b, o + k, none⟩ = some (.slice ac x.length cc) := fun W h => (h.cell (p := ⟨b, o + k, none⟩) bN (fun h => h)).trans (hW1.out)
          have l3 : ∀ W, Kept None w W → (convert 22 9 (.slice ac x.length cc)).run Try.prog W = .ok (.string ⟨x.toArray⟩) W := fun W h => cvBytes (hW3.out.kept h (fun _ _ _ h => h))
          refine wp_region_plan (Kept None w) (planBack w wo.heap.size r y x z) [100] (by kernel_rfl) (by kernel_rfl) (by kernel_rfl) rfl ?_ hkk ?_ ?_
          · intro f hf
            simp only [planBack, List.mem_cons, List.not_mem_nil, or_false] at hf
            rcases hf with rfl | rfl | rfl | rfl | rfl
            · exact ⟨undef, trivial⟩
            · exact ⟨_, rfl⟩
            · exact ⟨undef, trivial⟩
            · exact ⟨_, rfl⟩
            · exact ⟨_, rfl⟩
          · intro k hk
            obtain rfl : k = 100 := by simpa using hk
            exact ⟨hrd, hwr⟩
          repeat (refine wpPar_pure rfl (by rfl) _ (fun W hW => by have hW' : Kept None w W := hW; go_simp; exact rfl) ?_; simp only [Act.put, List.setIfInBounds_toArray, List.set_cons_zero, List.set_cons_succ])
          refine wpPar_adds rfl (by rfl) (fun W hW hd => ?_) (fun v hv => ?_)
          · have hR : Bin.Rd W wo.heap.size r r ⟨leB y ++ ((leB x.length ++ x) ++ z), 0⟩ ∧ w.heap.size ≤ r := hd 100 (List.Mem.head _)
            clear hd
            unfold Gives
            go_simp
            refine gives_call (Bin.rnum _ _ _ _ _ hR.1 (Nat.le_refl _)) ?_
            rintro e w3 ⟨rfl, k3, hrd3⟩
            rw [HN.out.2] at hrd3
            refine ⟨_, rfl, Kept.then hW k3 (fun i hi (h : i = r) => by omega), congrArg _ HN.out.1, ⟨hrd3, hR.2⟩, keeps_of ?_⟩
            intro f hf hs hl hne u hfu
            simp only [planBack, List.mem_cons, List.not_mem_nil, or_false] at hf
            rcases hf with rfl | rfl | rfl | rfl | rfl
            · exact absurd (List.Mem.head _) hs
            · exact absurd rfl hne
            · exact absurd (List.Mem.head _) hl
            · trivial
            · trivial
          obtain rfl : v = .int .u64 y := hv
          simp only [Act.put, List.setIfInBounds_toArray, List.set_cons_zero, List.set_cons_succ]
          repeat (refine wpPar_pure rfl (by rfl) _ (fun W hW => by have hW' : Kept None w W := hW; go_simp; exact rfl) ?_; simp only [Act.put, List.setIfInBounds_toArray, List.set_cons_zero, List.set_cons_succ])
          refine wpPar_adds rfl (by rfl) (fun W hW hd => ?_) (fun v hv => ?_)
          · have hR : Bin.Rd W wo.heap.size r r ⟨(leB x.length ++ x) ++ z, 0⟩ ∧ w.heap.size ≤ r := hd 1 (List.Mem.head _)
            clear hd
            unfold Gives
            go_simp
            refine gives_call (Bin.rlump _ _ _ _ 40 _ hR.1 (by omega) (by omega) (Nat.le_refl _) (Nat.le_trans hl2 (by decide))) ?_
            rintro e w3 ⟨v3, rfl, k3, hb3, hrd3⟩
            rw [HL.out.2] at hrd3
            rw [HL.out.1] at hb3
            refine ⟨_, rfl, Kept.then hW k3 (fun i hi (h : i = r) => by omega), trivial, ⟨⟨hrd3, hR.2⟩, _, (hb3.bs (Nat.le_refl _)).wider hR.1.lt (Nat.le_refl _)⟩, keeps_of ?_⟩
            intro f hf hs hl hne u hfu
            simp only [planBack, List.mem_cons, List.not_mem_nil, or_false] at hf
            rcases hf with rfl | rfl | rfl | rfl | rfl
            · exact absurd (List.Mem.tail _ (List.Mem.head _)) hs
            · exact absurd (List.Mem.head _) hs
            · exact absurd rfl hne
            · trivial
            · trivial
          clear hv
          simp only [Act.put, List.setIfInBounds_toArray, List.set_cons_zero, List.set_cons_succ]
          refine wpPar_adds rfl (by rfl) (fun W hW hd => ?_) (fun v' hv' => ?_)
          · have hR : (Bin.Rd W wo.heap.size r r ⟨z, 0⟩ ∧ w.heap.size ≤ r) ∧ ∃ hi, Bs W (r + 1) hi v x := hd 9 (List.Mem.head _)
            clear hd
            obtain ⟨_, hi9, hb9⟩ := hR
            have hcv := cvBytes hb9
            unfold Gives
            go_simp
            exact ⟨hW, rfl, trivial, keeps_all fun f _ u hfu => hfu⟩
          obtain rfl : v' = .string ⟨x.toArray⟩ := hv'
          simp only [Act.put, List.setIfInBounds_toArray, List.set_cons_zero, List.set_cons_succ]
          repeat (refine wpPar_pure rfl (by rfl) _ (fun W hW => by have hW' : Kept None w W := hW; go_simp; exact rfl) ?_; simp only [Act.put, List.setIfInBounds_toArray, List.set_cons_zero, List.set_cons_succ])
          refine wpPar_adds rfl (by rfl) (fun W hW hd => ?_) (fun v' hv' => ?_)
          · have hR : (Bin.Rd W wo.heap.size r r ⟨z, 0⟩ ∧ w.heap.size ≤ r) ∧ ∃ hi, Bs W (r + 1) hi v x := hd 9 (List.Mem.head _)
            clear hd
            unfold Gives
            go_simp
            refine gives_call (Bin.rerr _ _ _ _ _ hR.1.1) ?_
            rintro e w3 ⟨rfl, rfl⟩
            exact ⟨_, rfl, hW, rfl, trivial, keeps_all fun f _ u hfu => hfu⟩
          obtain rfl : v' = .int .i64 0 := hv'
          simp only [Act.put, List.setIfInBounds_toArray, List.set_cons_zero, List.set_cons_succ]
          repeat (refine wpPar_pure rfl (by rfl) _ (fun W hW => by have hW' : Kept None w W := hW; go_simp; exact rfl) ?_; simp only [Act.put, List.setIfInBounds_toArray, List.set_cons_zero, List.set_cons_succ])
          refine wpPar_nil fun W hW hG => ?_
          have hR : (Bin.Rd W wo.heap.size r r ⟨z, 0⟩ ∧ w.heap.size ≤ r) ∧ ∃ hi, Bs W (r + 1) hi v x := hG 9
          have hW' : Kept None w W := hW
          clear hG hW hkk hrd l1 l2 l3 HN HL hW1 hW2 hW3
          rw [← HZ.out] at hR
          have hlz : (backs (ns.drop (k + 1)) (ls.drop (k + 1))).length ≤ 560 := by rw [HZ.out]; exact hlk'
          go_wp2
          go_roundw
          case rel => exact ⟨k + 1, by omega, by go_num, hW', hR.1.1, hlz⟩
          case measure => simp [intOf]; omega
        · have hk8 : k = ls.length := by omega
          have hdn : backs (ns.drop k) (ls.drop k) = [] := by rw [hk8, List.drop_of_length_le (Nat.le_refl ls.length)]; cases ns.drop ls.length <;> rfl
          rw [hdn] at hrd
          have hsz := hkk.size
          clear hdn hk8 hlk g3 g3' hu4 hu2 hu hv H40 hlen
          go_wp2_with fail
          refine (Bin.rleft _ _ _ _ _ hrd (by decide)).mono ?_
          rintro e6 w6 ⟨rfl, rfl⟩
          simp only [List.length_nil]
          go_wp2_with fail
          refine (Bin.rraw _ _ _ _ 0 _ hrd (by omega) (by omega) (Nat.le_refl _) (by decide)).mono ?_
          rintro e7 w7 ⟨v7, rfl, k7, b7, rd7⟩
          rw [show St.raw ⟨[], 0⟩ 0 = [] from rfl] at b7
          rw [show St.rawS ⟨[], 0⟩ 0 = ⟨[], 0⟩ from rfl] at rd7
          obtain ⟨a7, c7, rfl⟩ := b7.form
          simp only [List.length_nil]
          have k07 := hkk.then k7 (fun i hi (h : i = r) => by omega)
          clear hkk k7 hrd b7
          go_wp2_with fail
          refine (Bin.rerr _ _ _ _ _ rd7).mono ?_
          rintro e8 w8 ⟨rfl, rfl⟩
          go_wp2
          go_ret
          exact ⟨rfl, k07⟩
end Go.Proofs.Ytjadlhpheagkfaa
