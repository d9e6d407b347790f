/- postmarklaw1.known: true. -/
import Derived.Test.YtjadlhpheagkfaaRefBin
import Derived.Lib.SlBytesConst
namespace Go.Proofs.Ytjadlhpheagkfaa
open Go.RowKit Go.Pm

theorem cvBytes {w : World} {lo hi : Nat} {v : Value} {l : List UInt8} (h : Bs w lo hi v l) : (convert 22 9 v).run Try.prog w = .ok (.string ⟨l.toArray⟩) w := run_string_bs tBytes' tByte tString h

/-- '[]byte("..")' of a constant. -/
theorem constBytes (w : World) (C : Array Value) (n c g : Nat) (hg : g = w.heap.size) : (convert 22 22 (.slice (some ⟨g, 0, none⟩) n c)).run Try.prog (w.alloc (.cells C 5)) = .ok (.slice (some ⟨g, 0, none⟩) n c) (w.alloc (.cells C 5 (C.size, C.size + 1))) := by
  subst hg; exact Lib.run_convert_bytes_const w 22 5 C n c tBytes' tByte

set_option maxHeartbeats 1000000 in
theorem known (w : World) : Calls Try.prog 7 #[] w fun e w' => e = .returned (.bool true) ∧ Kept None w w' := by
  have kc := fun (w : World) (C : Array Value) (n c g : Nat) (hg : g = w.heap.size) => constBytes w C n c g hg
  go_enter Try.func7, Try.ntmps7
  go_wp2_with fail
  refine (Bin.num 258 w (by omega) (by omega)).mono ?_
  rintro e1 w1 ⟨v1, rfl, k1, b1⟩
  go_wp2_with fail
  have bA := Bs.newMark w1 #[.int .u8 97, .int .u8 98] 5 (2, 3) 2 rfl (by decide) [97, 98] rfl
  refine (Bin.lump _ _ _ _ _ bA (by decide)).mono ?_
  rintro e2 w2 ⟨v2, rfl, k2, b2⟩
  have k12 := ((Kept.refl None w1).alloc (.cells #[.int .u8 97, .int .u8 98] 5 (2, 3))).then k2 (fun _ _ h => h)
  have b1' := b1.kept k12 (fun _ _ h => h)
  have sz1 := k1.size
  have sz2 := k12.size
  clear bA k2 b1
  go_wp2_with (at_builtin; refine wpList_append_bo (l := leB 258) (m := leB 2 ++ [97, 98]) (base := w.heap.size) (lo := w1.heap.size) (hi := w2.heap.size) rfl _ _ 22 rfl rtBytes rfl rfl ?h1 ?h2 ?h3 ?h4 ?h5)
  case h1 => exact b1'
  case h2 => exact (b2.base (by simp)).bs (Nat.le_refl _)
  case h3 => decide
  case h4 => omega
  intro a3 n3 c3 w3 b3 k3
  have k03 := Kept.own (k1.then k12 (fun _ _ h => h)) k3 (fun k hk => (b1'.own k hk).1)
  clear k12 k1 k3 b1' b2
  go_wp2_with fail
  refine (Bin.new _ _ _ _ _ (b3.bs (Nat.le_refl _)) (by decide)).mono ?_
  rintro e4 w4 ⟨r, rfl, k4, hr, rd4⟩
  have k04 := k03.then k4 (fun _ _ h => h)
  have sz3 := k03.size
  have hrw : w.heap.size ≤ r := by omega
  clear k03 k4 b3
  go_wp2_with fail
  refine (Bin.rnum _ _ _ _ _ rd4 (Nat.le_refl _)).mono ?_
  rintro e5 w5 ⟨rfl, k5, rd5⟩
  rw [show St.num ⟨leB 258 ++ (leB 2 ++ [97, 98]), 0⟩ = 258 from by kernel_rfl]
  rw [show St.numS ⟨leB 258 ++ (leB 2 ++ [97, 98]), 0⟩ = ⟨leB 2 ++ [97, 98], 0⟩ from by kernel_rfl] at rd5
  have k05 := k04.then k5 (fun i hi (h : i = r) => by omega)
  clear k04 k5 rd4
  go_wp2_with fail
  refine (Bin.rlump _ _ _ _ 5 _ rd5 (by decide) (by decide) (Nat.le_refl _) (by decide)).mono ?_
  rintro e6 w6 ⟨v6, rfl, k6, b6, rd6⟩
  rw [show St.lump ⟨leB 2 ++ [97, 98], 0⟩ 5 = [97, 98] from by kernel_rfl] at b6
  rw [show St.lumpS ⟨leB 2 ++ [97, 98], 0⟩ 5 = ⟨[], 0⟩ from by kernel_rfl] at rd6
  have k06 := k05.then k6 (fun i hi (h : i = r) => by omega)
  have sz5 := k05.size
  have h5 := rd5.lt
  clear k05 k6 rd5
  go_wp2_with fail
  refine (Bin.rleft _ _ _ _ _ rd6 (by decide)).mono ?_
  rintro e7 w7 ⟨rfl, rfl⟩
  simp only [List.length_nil]
  go_wp2_with fail
  refine (Bin.rerr _ _ _ _ _ rd6).mono ?_
  rintro e8 w8 ⟨rfl, rfl⟩
  go_wp2_with fail
  refine (Bin.rnum _ _ _ _ _ rd6 (Nat.le_refl _)).mono ?_
  rintro e9 w9 ⟨rfl, k9, rd9⟩
  rw [show St.numS ⟨[], 0⟩ = ⟨[], 21⟩ from by kernel_rfl] at rd9
  have k09 := k06.then k9 (fun i hi (h : i = r) => by omega)
  have b9 := b6.kept k9 (fun k hk (h : k = r) => by have := (b6.own k hk).1; omega)
  have sz9 := k9.size
  clear k06 k9 rd6 b6
  go_wp2_with fail
  refine (Bin.num 258 _ (by omega) (by omega)).mono ?_
  rintro e10 w10 ⟨v10, rfl, k10, b10⟩
  have c10 := cvBytes (b10.bs (Nat.le_refl _))
  rw [show (⟨(leB 258).toArray⟩ : ByteArray) = ⟨#[2, 1, 0, 0, 0, 0, 0, 0]⟩ from by kernel_rfl] at c10
  have b11 := b9.kept k10 (fun _ _ h => h)
  have c11 := cvBytes (b11.bs (Nat.le_refl _))
  have rd10 := rd9.kept k10 (fun _ _ _ h => h) (fun h => h)
  have k010 := k09.then k10 (fun _ _ h => h)
  have sz10 := k10.size
  clear k09 k10 b9 b10 b11 rd9
  go_wp2_with fail
  refine (Bin.rerr _ _ _ _ _ rd10).mono ?_
  rintro e11 w11 ⟨rfl, rfl⟩
  go_wp2_with fail
  have a1 := Bs.newMark w10 #[.int .u8 97] 5 (1, 2) 1 rfl (by decide) [97] rfl
  have a2 := a1.kept ((Kept.refl None _).alloc (.cells #[.int .u8 98] 5 (1, 2))) (fun _ _ _ h => h)
  have a3 := Bs.newMark (w10.alloc (.cells #[.int .u8 97] 5 (1, 2))) #[.int .u8 98] 5 (1, 2) 1 rfl (by decide) [98] rfl
  simp only [World.size_alloc] at a2 a3
  have hbs := Bss.new ((w10.alloc (.cells #[.int .u8 97] 5 (1, 2))).alloc (.cells #[.int .u8 98] 5 (1, 2))) #[.slice (some ⟨w10.heap.size, 0, none⟩) 1 1, .slice none 0 0, .slice (some ⟨w10.heap.size + 1, 0, none⟩) 1 1] 22
    [[97], [], [98]] 3 rfl (by decide) ⟨a2.all, Bs.nil _ _ _, a3.all, trivial⟩
  simp only [World.size_alloc] at hbs
  have HB := hid hbs
  clear a1 a2 a3 hbs
  refine (Bin.join _ _ _ _ _ _ _ HB.out (by decide)).mono ?_
  rintro e12 w12 ⟨v12, rfl, k12, b12⟩
  have c12 := cvBytes (b12.bs (Nat.le_refl _))
  rw [show (⟨(([[97], [], [98]] : List (List UInt8)).flatten).toArray⟩ : ByteArray) = ⟨#[97, 98]⟩ from by kernel_rfl] at c12
  have k012 := (((k010.alloc (.cells #[.int .u8 97] 5 (1, 2))).alloc (.cells #[.int .u8 98] 5 (1, 2))).alloc _).then k12 (fun _ _ h => h)
  clear k010 k12 b12 HB
  go_wp2
  go_ret
  exact ⟨rfl, k012⟩
end Go.Proofs.Ytjadlhpheagkfaa
