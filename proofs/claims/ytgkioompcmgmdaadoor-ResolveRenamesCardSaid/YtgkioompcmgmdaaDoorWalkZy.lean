/-
  The table of symbols of package syntax in memory. No conditions.
-/
import Derived.Test.YtgkioompcmgmdaaDoorWalkZb
namespace Go.Proofs.YtgkioompcmgmdaaDoor
open Go.RowKit

theorem sym_index : ∀ (k : Nat) (_ : k < 19) (w : World), (Instr.index 115 (.agg symArr) (.int .i64 k)).run Tryd.prog w = .ok (.agg #[.string (strB (symTab.getD k ([], 0, 0)).1), .int .i64 (symTab.getD k ([], 0, 0)).2.1, .int .i64 (symTab.getD k ([], 0, 0)).2.2]) w
  | 0, _, w => by kernel_rfl
  | 1, _, w => by kernel_rfl
  | 2, _, w => by kernel_rfl
  | 3, _, w => by kernel_rfl
  | 4, _, w => by kernel_rfl
  | 5, _, w => by kernel_rfl
  | 6, _, w => by kernel_rfl
  | 7, _, w => by kernel_rfl
  | 8, _, w => by kernel_rfl
  | 9, _, w => by kernel_rfl
  | 10, _, w => by kernel_rfl
  | 11, _, w => by kernel_rfl
  | 12, _, w => by kernel_rfl
  | 13, _, w => by kernel_rfl
  | 14, _, w => by kernel_rfl
  | 15, _, w => by kernel_rfl
  | 16, _, w => by kernel_rfl
  | 17, _, w => by kernel_rfl
  | 18, _, w => by kernel_rfl
  | k + 19, h, _ => absurd h (by omega)
/-- The table of symbols holds what start-up laid. -/
def SymAt (w : World) : Prop := ∃ T fr, w.heap[2]? = some (.cells symArr T fr)
theorem SymAt.below {w w' : World} (h : SymAt w) (hb : Below w.heap.size w w') : SymAt w' := by
  obtain ⟨T, fr, h⟩ := h; exact ⟨T, fr, below_blk hb h⟩

end Go.Proofs.YtgkioompcmgmdaaDoor
