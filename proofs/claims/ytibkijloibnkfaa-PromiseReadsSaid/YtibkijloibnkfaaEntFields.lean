/- postmarkref5.Fields: by contract. -/
import Derived.Test.YtibkijloibnkfaaEntA
namespace Go.Proofs.Ytibkijloibnkfaa
open Go.RowKit Go.Pm
namespace RUp
theorem fields_flat (n : ByteArray) (v : Int) (k : Nat) : lumpB (strB n) ++ leB (U6 v) ++ leB (k : Int) = fieldsB n v k := rfl
set_option maxRecDepth 100000 in
set_option maxHeartbeats 4000000 in
/-- postmarkref5.Fields. -/
theorem fields (n : ByteArray) (v : Int) (k : Nat) (w : World) (hn : n.size ≤ 274877906944) (hk : k < 18446744073709551616) : Calls Try.prog 77 #[entV n v k] w fun e w' => ∃ u, e = .returned u ∧ Kept None w w' ∧ Ob w' w.heap.size u (fieldsB n v k) := by
  have hsn := strB_len n
  have hv0 := U6_ge v
  have hv1 := U6_lt v
  have hw : IntKind.u64.wrap v = U6 v := by rw [IntKind.wrap_u64]
  have hf := fields_flat n v k
  obtain ⟨V, hV⟩ : ∃ V, V = U6 v := ⟨_, rfl⟩
  rw [← hV] at hv0 hv1 hw hf
  obtain ⟨L, hL⟩ : ∃ L, L = lumpB (strB n) := ⟨_, rfl⟩
  have hLl : L.length = 8 + n.size := by rw [hL, lumpB_len, hsn]
  have hj : ∀ v lo hi W, Bs W lo hi v (strB n) → Calls Try.prog 97 #[v] W fun en w' => ∃ v', en = .returned v' ∧ Kept None W w' ∧ Ob w' W.heap.size v' L := by
    intro v lo hi W h
    rw [hL]
    exact Ref.lump v lo hi (strB n) W h (by omega)
  rw [← hL] at hf
  obtain ⟨F, hF⟩ : ∃ F, F = fieldsB n v k := ⟨_, rfl⟩
  rw [← hF] at hf ⊢
  have H := hid (And.intro hj (And.intro hf (And.intro hLl (And.intro hn (And.intro hk (And.intro hv0 hv1))))))
  have B0 := Blk.new w #[.string n, .int .i64 v, .int .u64 (k : Int)] 53
  have k0 : Kept None w (w.alloc (.cells #[.string n, .int .i64 v, .int .u64 (k : Int)] 53)) := (Kept.refl _ _).alloc _
  clear hj hf hLl hF hL hV hn hk hv0 hv1
  go_enter Try.func77, Try.ntmps77
  have c0 := World.cell?_alloc_new w #[.string n, .int .i64 v, .int .u64 (k : Int)] 53
  clear c0
  go_wp2_with (first | (refine wpList_bytes rfl 9 29 5 _ rfl tString tBytes' tByte rfl (by have := H.out; omega) ?_; intro gB cB w2 hgB kB bB) | fail)
  refine (H.out.1 _ _ _ _ bB).mono ?_
  rintro e w3 ⟨u, rfl, k3, b3⟩
  have kk := kB.trans k3
  have B3 := B0.kept kk (fun h => h)
  have k03 := k0.trans kk
  have hs3 := k03.size
  have b3' := b3.base (base' := w.heap.size + 1) (B0.kept kB (fun h => h)).lt
  obtain ⟨aL, cL, rfl⟩ := b3.form
  have c1 : w3.cell? ⟨w.heap.size, 1, none⟩ = some (.int .i64 v) := B3.cell 1
  clear B0 k0 kB bB k3 kk b3
  go_wp2_with fail
  refine (Ref.num V _ H.out.2.2.2.2.2.1 H.out.2.2.2.2.2.2).mono ?_
  rintro e w4 ⟨u4, rfl, k4, b4⟩
  have B4 := B3.kept k4 (fun h => h)
  have k04 := k03.trans k4
  have hs4 : w.heap.size + 1 ≤ w4.heap.size := B4.lt
  have d4 := b4.bs (Nat.le_refl _)
  obtain ⟨a4, c4, rfl⟩ := b4.form
  have b3'' := b3'.kept k4 (fun _ _ h => h)
  clear B3 k03 k4 b4 b3' c1 hs3
  go_wp2_with (first | (at_builtin; refine wpList_append_bo (l := L) (m := leB V) (base := w.heap.size + 1) rfl _ _ 29 rfl rtBytes rfl rfl b3'' d4 (by have := H.out; rw [leB_length]; omega) hs4 ?k5) | fail)
  case k5 =>
    intro a5 n5 c5 w5 b5 k5
    have hne : ∀ k, (Value.slice aL L.length cL).ownBlock = some k → w.heap.size + 1 ≤ k := fun k hk => (b3''.own k hk).1
    have k05 := Kept.own k04 k5 (fun k hk => Nat.le_of_succ_le (hne k hk))
    have B5 := B4.kept k5 (fun h => absurd (hne _ h) (by omega))
    have c2 : w5.cell? ⟨w.heap.size, 2, none⟩ = some (.int .u64 (k : Int)) := B5.cell 2
    clear b3'' B4 k04 k5 hne d4 hs4
    go_wp2_with fail
    refine (Ref.num k _ (by omega) (by have := H.out; omega)).mono ?_
    rintro e w6 ⟨u6, rfl, k6, b6⟩
    have k06 := k05.trans k6
    have d6 := b6.bs (Nat.le_refl _)
    have hs6 : w.heap.size + 1 ≤ w6.heap.size := (B5.kept k6 (fun h => h)).lt
    obtain ⟨a6, c6, rfl⟩ := b6.form
    have b5' := b5.kept k6 (fun _ _ h => h)
    clear B5 k05 k6 b6 b5 c2
    go_wp2_with (first | (at_builtin; refine wpList_append_bo (l := L ++ leB V) (m := leB k) (base := w.heap.size + 1) rfl _ _ 29 rfl rtBytes rfl rfl b5' d6 (by have := H.out; rw [List.length_append, leB_length, leB_length]; omega) hs6 ?k7) | fail)
    case k7 =>
      intro a7 n7 c7 w7 b7 k7
      have k07 := Kept.own k06 k7 (fun k hk => Nat.le_of_succ_le (b5'.own k hk).1)
      rw [← List.append_assoc, H.out.2.1] at b7
      have b8 := b7.base (Nat.le_succ w.heap.size)
      clear b5' k06 k7 d6 b7
      go_wp2
      go_ret
      exact ⟨_, rfl, k07, b8⟩
end RUp
end Go.Proofs.Ytibkijloibnkfaa
