/-
  What the table of operators of package eval holds, and what its functions return. No conditions.
-/
import Derived.Test.YtocebddhllfhpaaDoorEvQ
import Derived.Laws.EntriesVeiled
namespace Go.Proofs.YtocebddhllfhpaaDoor
open Go.RowKit

/-- The table of operators. -/
def opTab : Array Value := #[.nilFunc, .nilFunc, .nilFunc, .nilFunc, .nilFunc, .nilFunc, .nilFunc, .nilFunc, .func (.func 29) #[] #[], .func (.func 30) #[] #[], .func (.func 32) #[] #[], .func (.func 33) #[] #[], .func (.func 34) #[] #[], .func (.func 35) #[] #[], .func (.func 36) #[] #[], .func (.func 37) #[] #[], .func (.func 38) #[] #[], .func (.func 39) #[] #[], .func (.func 40) #[] #[], .func (.func 41) #[] #[], .func (.func 42) #[] #[], .func (.func 43) #[] #[], .func (.func 44) #[] #[]]
/-- The table before it is filled. -/
abbrev opZ : Obj := .cells #[.nilFunc, .nilFunc, .nilFunc, .nilFunc, .nilFunc, .nilFunc, .nilFunc, .nilFunc, .nilFunc, .nilFunc, .nilFunc, .nilFunc, .nilFunc, .nilFunc, .nilFunc, .nilFunc, .nilFunc, .nilFunc, .nilFunc, .nilFunc, .nilFunc, .nilFunc, .nilFunc] 52
theorem infoOp : (Tryd.prog.info? 52).map (·.size) = some opTab.size := by kernel_rfl

theorem opOne : opTab.all (·.oneCell') = true := by simp [opTab, Value.oneCell']

set_option maxHeartbeats 1000000 in
set_option maxRecDepth 100000 in
theorem operators_any (w : World) : Calls Tryd.prog 26 #[] w fun e w' => e = .returned (.agg opTab) ∧ Below w.heap.size w w' := by
  go_enter Tryd.func26, Tryd.ntmps26
  go_wp2_with (refine wpList_store_row rfl 52 _ _ rfl w.heap.size opTab rfl rfl _ _ (new_blk w opZ) infoOp rfl opOne ?_)
  refine bodyPost_ret (results_cell_row rfl _ _ w.heap.size 52 _ _ _ rfl (setRow_same (new_blk w opZ)) Tryd.underlying52 rfl infoOp) rfl ?_
  exact ⟨rfl, (Keep.below (R := w.heap.size) (((Keep.refl _ w).alloc opZ).setRow (Nat.le_refl _) _) (Nat.le_refl _) (Nat.le_refl _))⟩
end Go.Proofs.YtocebddhllfhpaaDoor
