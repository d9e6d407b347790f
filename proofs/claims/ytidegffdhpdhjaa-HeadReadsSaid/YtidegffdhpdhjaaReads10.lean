/- postmarklaw10.HeadReads: true. -/
import Derived.Test.YtidegffdhpdhjaaReads010
import Derived.Test.YtidegffdhpdhjaaReads110
import Derived.Test.YtidegffdhpdhjaaReads210
import Derived.Test.YtidegffdhpdhjaaReads310
namespace Go.Proofs.Ytidegffdhpdhjaa
open Go.RowKit Go.Pm
namespace H10
set_option maxRecDepth 100000 in
set_option maxHeartbeats 4000000 in
theorem reads (v : Value) (lo hi : Nat) (raw : List UInt8) (k at' c how : Nat) (x : List UInt8) (w : World) (hv : Bs w lo hi v raw) (hk : k < 256) (hx : x.length = 32) (ha : at' < 65536) (hc : c < 256) (_hh : how < 256) :
    Calls Try.prog 4 #[v, .int .u8 k, hashV x, .int .u16 at', .int .u8 c, .int .u8 how] w fun e w' => e = .returned (.bool true) ∧ Kept None w w' := by
  by_cases hl : 600 < raw.length
  · obtain ⟨ar, cr, rfl, g1, g2, g3⟩ := hv.shape
    clear g3 hv
    obtain ⟨R, hR⟩ : ∃ R, R = (x.map u8v).toArray := ⟨_, rfl⟩
    simp only [hashV]
    rw [← hR]
    have k1 : Kept None w (w.alloc (.cells R 23)) := (Kept.refl _ _).alloc _
    clear hR hx
    go_enter Try.func4, Try.ntmps4
    go_wp2_with fail
    refine (known _).mono ?_
    rintro e w2 ⟨rfl, kn⟩
    have k2 := k1.trans kn
    clear k1 kn
    go_wp2
    go_ret
    exact ⟨rfl, k2⟩
  have hq : (how : Int) % 4 = 0 ∨ (how : Int) % 4 = 1 ∨ (how : Int) % 4 = 2 ∨ (how : Int) % 4 = 3 := by omega
  rcases hq with h | h | h | h
  · exact reads_0 v lo hi raw k at' c how x w hv hk hc ha hl hx h
  · exact reads_1 v lo hi raw k at' c how x w hv hk hc ha hl hx h
  · exact reads_2 v lo hi raw k at' c how x w hv hk hc ha hl hx h
  · exact reads_3 v lo hi raw k at' c how x w hv hk hc ha hl hx h
end H10
end Go.Proofs.Ytidegffdhpdhjaa
