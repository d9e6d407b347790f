/- Hashes of 32 bytes as values: what the layers from 8 on lean on. -/
import Derived.Test.YtibkijloibnkfaaApp7
import Derived.Deep.LoopGhost
import Derived.Deep.QuietTactic
import Derived.BigQuiet
import Derived.KernelRfl
import Derived.Deep.CutBlock
import Derived.Deep.DeepCutAuto
import Derived.Lib.Walk
namespace Go.Pm
open Go Go.RowKit
theorem Hs.ofBlk {w : World} {g : Nat} {h : List UInt8} {e : TypeId} (hb : Blk w g (h.map u8v).toArray e) (h32 : h.length = 32) : Hs w g (g + 1) (.slice (some ⟨g, 0, none⟩) 1 1) [h] := by
  refine ⟨H32.one h32, hsC_each (H32.one h32), ?_⟩
  exact Fs.ofBlk hb (by simp [hsC, h32]) (Nat.le_refl _) (by decide) (fun i x hx => by simpa [hsC] using hx)
theorem Hs.wider' {w : World} {lo hi lo' : Nat} {v : Value} {hs : List (List UInt8)} (h : Hs w lo hi v hs) (h1 : lo' ≤ lo) : Hs w lo' hi v hs := ⟨h.1, h.2.wider h1 (Nat.le_refl _)⟩
end Go.Pm
namespace Go.Proofs.Ytibkijloibnkfaa
open Go.RowKit Go.Pm
namespace Hk
theorem rtyK {P : Program} {t e : TypeId} {z : Value} {k bytes : Nat} (h1 : P.underlying t = some (.slice e)) (h2 : (P.info? e).map (fun i => (i.zero, i.size, i.bytes)) = some (some z, k, bytes)) (h3 : z.cells.size = k) (h4 : 0 < k) : RowTyK P t e z k bytes := by
  refine ⟨h1, ?_, h3, h4⟩
  cases hi : P.info? e with
  | none => rw [hi] at h2; cases h2
  | some i =>
    rw [hi] at h2
    simp only [Option.map_some, Option.some.injEq, Prod.mk.injEq] at h2
    exact ⟨i, rfl, h2.1, h2.2.1, h2.2.2⟩
theorem aH32 {l : List UInt8} (h : l.length = 32) : AggTy Try.prog 23 (l.map u8v).toArray.size := by
  rw [show (l.map u8v).toArray.size = 32 by simpa using h]; exact Sp.aH
theorem aH32' {l : List UInt8} (h : l.length = 32) : AggTy Try.prog 23 (l.map u8v).length := by rw [List.length_map, h]; exact Sp.aH
theorem rtHashes : RowTyK Try.prog 129 23 (.agg (Array.replicate 32 (.int .u8 0))) 32 32 := rtyK (by kernel_rfl) (by kernel_rfl) (by rfl) (by decide)
theorem uHash : Try.prog.underlying 23 = some (.array 32 5) := by kernel_rfl
theorem uByte : Try.prog.underlying 5 = some (.int .u8) := by kernel_rfl
theorem zByte : ∀ w, (sizeOf 5).run Try.prog w = .ok 1 w := fun _ => by kernel_rfl
/-- Two hashes, held against one another. -/
theorem eqHash (xs ys : List UInt8) (hx : xs.length = 32) (hy : ys.length = 32) : ∀ w, (binOp .eql 23 (.agg (xs.map u8v).toArray) (.agg (ys.map u8v).toArray)).run Try.prog w = .ok (.bool (xs == ys)) w := run_eql_hash uByte zByte uHash xs ys hx hy
theorem neqHash (xs ys : List UInt8) (hx : xs.length = 32) (hy : ys.length = 32) : ∀ w, (binOp .neq 23 (.agg (xs.map u8v).toArray) (.agg (ys.map u8v).toArray)).run Try.prog w = .ok (.bool (!(xs == ys))) w := run_neq_hash uByte zByte uHash xs ys hx hy
theorem zero_all32 : (#[.int .u8 0, .int .u8 0, .int .u8 0, .int .u8 0, .int .u8 0, .int .u8 0, .int .u8 0, .int .u8 0, .int .u8 0, .int .u8 0, .int .u8 0, .int .u8 0, .int .u8 0, .int .u8 0, .int .u8 0, .int .u8 0, .int .u8 0, .int .u8 0, .int .u8 0, .int .u8 0, .int .u8 0, .int .u8 0, .int .u8 0, .int .u8 0, .int .u8 0, .int .u8 0, .int .u8 0, .int .u8 0, .int .u8 0, .int .u8 0, .int .u8 0, .int .u8 0] : Array Value).all (·.oneCell') = true := u8v_all' zero32
end Hk
end Go.Proofs.Ytibkijloibnkfaa
