/-
  What the table of operators of package eval holds, and what its functions return. No conditions.
-/
import Derived.Test.YtocebddhllfhpaaEvQ
import Derived.Laws.EntriesVeiled
namespace Go.Proofs.Ytocebddhllfhpaa
open Go.RowKit

/-- The table of operators. -/
def opTab : Array Value := #[.nilFunc, .nilFunc, .nilFunc, .nilFunc, .nilFunc, .nilFunc, .nilFunc, .nilFunc, .func (.func 17) #[] #[], .func (.func 18) #[] #[], .func (.func 20) #[] #[], .func (.func 21) #[] #[], .func (.func 22) #[] #[], .func (.func 23) #[] #[], .func (.func 24) #[] #[], .func (.func 25) #[] #[], .func (.func 26) #[] #[], .func (.func 27) #[] #[], .func (.func 28) #[] #[], .func (.func 29) #[] #[], .func (.func 30) #[] #[], .func (.func 31) #[] #[], .func (.func 32) #[] #[]]
/-- The table before it is filled. -/
abbrev opZ : Obj := .cells #[.nilFunc, .nilFunc, .nilFunc, .nilFunc, .nilFunc, .nilFunc, .nilFunc, .nilFunc, .nilFunc, .nilFunc, .nilFunc, .nilFunc, .nilFunc, .nilFunc, .nilFunc, .nilFunc, .nilFunc, .nilFunc, .nilFunc, .nilFunc, .nilFunc, .nilFunc, .nilFunc] 38
theorem infoOp : (Try.prog.info? 38).map (·.size) = some opTab.size := by kernel_rfl

theorem opOne : opTab.all (·.oneCell') = true := by simp [opTab, Value.oneCell']

set_option maxHeartbeats 1000000 in
set_option maxRecDepth 100000 in
theorem operators_any (w : World) : Calls Try.prog 12 #[] w fun e w' => e = .returned (.agg opTab) ∧ Below w.heap.size w w' := by
  go_enter Try.func12, Try.ntmps12
  go_wp2_with (refine wpList_store_row rfl 38 _ _ rfl w.heap.size opTab rfl rfl _ _ (new_blk w opZ) infoOp rfl opOne ?_)
  refine bodyPost_ret (results_cell_row rfl _ _ w.heap.size 38 _ _ _ rfl (setRow_same (new_blk w opZ)) Try.underlying38 rfl infoOp) rfl ?_
  exact ⟨rfl, (Keep.below (R := w.heap.size) (((Keep.refl _ w).alloc opZ).setRow (Nat.le_refl _) _) (Nat.le_refl _) (Nat.le_refl _))⟩
end Go.Proofs.Ytocebddhllfhpaa
