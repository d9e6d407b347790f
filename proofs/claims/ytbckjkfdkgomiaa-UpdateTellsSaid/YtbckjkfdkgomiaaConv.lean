/- Bytes as texts, and constants as bytes. -/
import Derived.Test.YtbckjkfdkgomiaaBinA
import Derived.Lib.SlBytesConst
namespace Go.Proofs.Ytbckjkfdkgomiaa
open Go.RowKit Go.Pm

theorem cvBytes {w : World} {lo hi : Nat} {v : Value} {l : List UInt8} (h : Bs w lo hi v l) : (convert 32 9 v).run Try.prog w = .ok (.string ⟨l.toArray⟩) w := run_string_bs tBytes' tByte tString h

/-- '[]byte("..")' of a constant. -/
theorem constBytes (w : World) (C : Array Value) (n c g : Nat) (hg : g = w.heap.size) : (convert 32 32 (.slice (some ⟨g, 0, none⟩) n c)).run Try.prog (w.alloc (.cells C 5)) = .ok (.slice (some ⟨g, 0, none⟩) n c) (w.alloc (.cells C 5 (C.size, C.size + 1))) := by
  subst hg; exact Lib.run_convert_bytes_const w 32 5 C n c tBytes' tByte

end Go.Proofs.Ytbckjkfdkgomiaa
