/- postmarklaw12.known: true. -/
import Derived.Test.YtdcpacfhifofdaaSx12
namespace Go.Proofs.Ytdcpacfhifofdaa
open Go.RowKit Go.Pm
namespace K12
open Dk
theorem okA (t : List UInt8) (b : List Nat) (h : Fl.Ok ⟨t, b⟩) (h1 : t.length ≤ 1099511627776) (h2 : b.length ≤ 1048576) (n : Int) (hn : -1 ≤ n ∧ n ≤ 9223372036854775807) : (d1 0 ⟨t, b⟩ 10 n).Ok := d1_ok h h1 h2 (by decide) hn
theorem ok0 : Fl.Ok ⟨[], []⟩ := Fl.ok_nil _
theorem ok3 : Fl.Ok ⟨[97, 98, 99, 100, 101, 102], [3]⟩ := Fl.ok_add (Fl.ok_nil [97, 98, 99]) [100, 101, 102]
theorem ok1 : Fl.Ok ⟨[97, 98, 99], [0]⟩ := Fl.ok_add ok0 [97, 98, 99]
set_option maxRecDepth 100000 in
set_option maxHeartbeats 4000000 in
theorem known (w : World) : Calls Try.prog 8 #[] w fun e w' => e = .returned (.bool true) ∧ Kept None w w' := by
  go_enter Try.func8, Try.ntmps8
  go_wp2_with fail
  refine (sx_new 10 w w None (Kept.refl _ _) (fun _ h => h.elim) (by decide) 0).mono ?_
  rintro e w1 ⟨d, rfl, s1, _⟩
  have S1 := hid s1
  clear s1
  have cv := constBytes w1 #[.int .u8 97, .int .u8 98, .int .u8 99] 3 3 w1.heap.size rfl
  go_wp2_with fail
  refine (app_lit S1.out (okA _ _ ok0 (by decide) (by decide) _ (by decide)) 0 (by decide) #[.int .u8 97, .int .u8 98, .int .u8 99] [97, 98, 99] rfl 3 rfl (by decide) _ rfl (d1_app (by decide) (by decide)).2).mono ?_
  rintro e w2 ⟨rfl, s⟩
  have S2 : Hid (Sx w w2 None d (d1 0 ⟨[97, 98, 99], [0]⟩ 10 (-1))) := hid s
  clear s cv
  go_wp2_with fail
  refine (sx_sync (i := 0) S2.out (okA _ _ ok1 (by decide) (by decide) _ (by decide)) (by decide)).mono ?_
  intro e w3 h3
  obtain ⟨rfl, s⟩ := drop_kept (d1_sync (j := 0)).2 (d1_sync (j := 0)).1 h3
  have S3 : Hid (Sx w w3 None d (d1 0 ⟨[97, 98, 99], []⟩ 10 (-1))) := hid s
  clear s h3
  have cv := constBytes w3 #[.int .u8 100, .int .u8 101, .int .u8 102] 3 3 w3.heap.size rfl
  go_wp2_with fail
  refine (app_lit S3.out (okA _ _ (Fl.ok_nil _) (by decide) (by decide) _ (by decide)) 0 (by decide) #[.int .u8 100, .int .u8 101, .int .u8 102] [100, 101, 102] rfl 3 rfl (by decide) _ rfl (d1_app (by decide) (by decide)).2).mono ?_
  rintro e w4 ⟨rfl, s⟩
  have S4 : Hid (Sx w w4 None d (d1 0 ⟨[97, 98, 99, 100, 101, 102], [3]⟩ 10 (-1))) := hid s
  clear s cv
  have cv := constBytes w4 #[.int .u8 103, .int .u8 104, .int .u8 105, .int .u8 106, .int .u8 107] 5 5 w4.heap.size rfl
  go_wp2_with fail
  refine (app_lit (D' := d1 0 ⟨[97, 98, 99, 100, 101, 102], [3]⟩ 10 (-1)) (E := 33) S4.out (okA _ _ ok3 (by decide) (by decide) _ (by decide)) 1 (by decide) #[.int .u8 103, .int .u8 104, .int .u8 105, .int .u8 106, .int .u8 107] [103, 104, 105, 106, 107] rfl 5 rfl (by decide) _ rfl rfl).mono ?_
  rintro e w5 ⟨rfl, s⟩
  have S5 := hid s
  clear s cv
  go_wp2_with fail
  refine (sx_sure (i := 0) (n := 3) S5.out (by decide) rfl).mono ?_
  rintro e w6 ⟨rfl, rfl⟩
  go_wp2_with fail
  refine (sx_crash (m := 1) (torn := 2) S5.out (okA _ _ ok3 (by decide) (by decide) _ (by decide)) (by decide) (by decide) (by decide)).mono ?_
  rintro e w7 ⟨rfl, s, _⟩
  have S7 : Hid (Sx w w7 None d (d1 0 ⟨[97, 98, 99, 100, 101], []⟩ 10 (-1))) := hid (by
    rw [d1_crash] at s
    exact s)
  clear s
  go_wp2_with fail
  refine (sx_cut (i := 0) (n := 9) S7.out (okA _ _ (Fl.ok_nil _) (by decide) (by decide) _ (by decide)) (by decide)).mono ?_
  intro e w8 h8
  obtain ⟨rfl, s⟩ := drop_kept (D' := d1 0 ⟨[97, 98, 99, 100, 101], []⟩ 10 (-1)) (E' := 36) rfl rfl h8
  have S8 := hid s
  clear s h8
  go_wp2_with fail
  refine (sx_fail (n := 0) S8.out).mono ?_
  rintro e w9 ⟨rfl, s, _⟩
  have S9 : Hid (Sx w w9 None d (d1 0 ⟨[97, 98, 99, 100, 101], []⟩ 10 0)) := hid s
  clear s
  go_wp2_with fail
  refine (sx_sync (i := 0) S9.out (okA _ _ (Fl.ok_nil _) (by decide) (by decide) _ (by decide)) (by decide)).mono ?_
  intro e w10 h10
  obtain ⟨rfl, s⟩ := drop_kept (D' := d1 0 ⟨[97, 98, 99, 100, 101], []⟩ 10 (-1)) (E' := 32) rfl rfl h10
  have S10 := hid s
  clear s h10
  go_wp2_with fail
  refine (sx_read (i := 0) (l := [97, 98, 99, 100, 101]) S10.out (okA _ _ (Fl.ok_nil _) (by decide) (by decide) _ (by decide)) (by decide) rfl).mono ?_
  rintro e w11 ⟨v, rfl, k11, b11⟩
  obtain ⟨a, c, rfl⟩ := b11.form
  have cs : (convert 22 9 (.slice a 5 c)).run Try.prog w11 = .ok (.string ⟨#[97, 98, 99, 100, 101]⟩) w11 := cvBytes (b11.bs (Nat.le_refl _))
  have S11 := hid (S10.out.keptN k11)
  clear k11 b11
  go_wp2_with fail
  refine (sx_sync (i := 0) S11.out (okA _ _ (Fl.ok_nil _) (by decide) (by decide) _ (by decide)) (by decide)).mono ?_
  intro e w12 h12
  obtain ⟨rfl, s⟩ := drop_kept (d1_sync (j := 0)).2 (d1_sync (j := 0)).1 h12
  have S12 := hid s
  clear s h12
  go_wp2
  go_ret
  exact ⟨rfl, S12.out.kept⟩
end K12
end Go.Proofs.Ytdcpacfhifofdaa
