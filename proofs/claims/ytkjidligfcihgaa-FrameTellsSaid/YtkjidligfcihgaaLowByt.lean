/- Bytes: what their types say; bytes as texts, and constants as bytes. -/
import Derived.Test.YtkjidligfcihgaaProg
import Derived.Test.YtkjidligfcihgaaLow
import Derived.Lib.SlBytesConst
namespace Go.Proofs.Ytkjidligfcihgaa
open Go.RowKit Go.Pm

theorem tBytes : Try.prog.underlying 22 = some (.slice (Try.prog.elem 22)) := by kernel_rfl
theorem tBytes' : Try.prog.underlying 22 = some (.slice 5) := by kernel_rfl
theorem tByte : Try.prog.underlying 5 = some (.int .u8) := by kernel_rfl
theorem tString : Try.prog.underlying 9 = some .string := by kernel_rfl
theorem zBytes : ∀ W, (sizeOf (Try.prog.elem 22)).run Try.prog W = .ok 1 W := fun _ => by kernel_rfl
theorem infoByte : (Try.prog.info? 5).map (fun i => (i.zero, i.size, i.bytes)) = some (some (.int .u8 0), 1, 1) := by kernel_rfl
theorem rtBytes : RowTy Try.prog 22 5 (.int .u8 0) 1 := ⟨by kernel_rfl, info_parts infoByte, rfl⟩
/-- Bytes that the call owns. -/
abbrev Ob (w : World) (base : Nat) (v : Value) (l : List UInt8) : Prop := Bo 5 w base v l


theorem cvBytes {w : World} {lo hi : Nat} {v : Value} {l : List UInt8} (h : Bs w lo hi v l) : (convert 22 9 v).run Try.prog w = .ok (.string ⟨l.toArray⟩) w := run_string_bs tBytes' tByte tString h

/-- '[]byte("..")' of a constant. -/
theorem constBytes (w : World) (C : Array Value) (n c g : Nat) (hg : g = w.heap.size) : (convert 22 22 (.slice (some ⟨g, 0, none⟩) n c)).run Try.prog (w.alloc (.cells C 5)) = .ok (.slice (some ⟨g, 0, none⟩) n c) (w.alloc (.cells C 5 (C.size, C.size + 1))) := by
  subst hg; exact Lib.run_convert_bytes_const w 22 5 C n c tBytes' tByte

end Go.Proofs.Ytkjidligfcihgaa
