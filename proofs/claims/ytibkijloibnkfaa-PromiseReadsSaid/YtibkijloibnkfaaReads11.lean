/- postmarklaw11.PromiseReads: true. -/
import Derived.Test.YtibkijloibnkfaaReads011
import Derived.Test.YtibkijloibnkfaaReads111
import Derived.Test.YtibkijloibnkfaaReads211
import Derived.Test.YtibkijloibnkfaaReads311
import Derived.Test.YtibkijloibnkfaaReads411
namespace Go.Proofs.Ytibkijloibnkfaa
open Go.RowKit Go.Pm
namespace P11
set_option maxRecDepth 100000 in
set_option maxHeartbeats 4000000 in
theorem reads (v : Value) (lo hi : Nat) (raw : List UInt8) (k at' c how : Nat) (t : Int) (w : World) (hv : Bs w lo hi v raw) (hk : k < 256) (_h0 : -9223372036854775808 ≤ t) (_h1 : t < 9223372036854775808) (ha : at' < 65536) (hc : c < 256) (_hh : how < 256) :
    Calls Try.prog 4 #[v, .int .u8 k, .int .i64 t, .int .u16 at', .int .u8 c, .int .u8 how] w fun e w' => e = .returned (.bool true) ∧ Kept None w w' := by
  by_cases hl : 200 < raw.length
  · obtain ⟨ar, cr, rfl, g1, g2, g3⟩ := hv.shape
    clear g3 hv
    go_enter Try.func4, Try.ntmps4
    go_wp2_with fail
    refine (known w).mono ?_
    rintro e w2 ⟨rfl, k2⟩
    go_wp2
    go_ret
    exact ⟨rfl, k2⟩
  have hq : (how : Int) % 5 = 0 ∨ (how : Int) % 5 = 1 ∨ (how : Int) % 5 = 2 ∨ (how : Int) % 5 = 3 ∨ (how : Int) % 5 = 4 := by omega
  rcases hq with h | h | h | h | h
  · exact reads_0 v lo hi raw k at' c how t w hv hk hc ha hl h
  · exact reads_1 v lo hi raw k at' c how t w hv hk hc ha hl h
  · exact reads_2 v lo hi raw k at' c how t w hv hk hc ha hl h
  · exact reads_3 v lo hi raw k at' c how t w hv hk hc ha hl h
  · exact reads_4 v lo hi raw k at' c how t w hv hk hc ha hl h
end P11
end Go.Proofs.Ytibkijloibnkfaa
