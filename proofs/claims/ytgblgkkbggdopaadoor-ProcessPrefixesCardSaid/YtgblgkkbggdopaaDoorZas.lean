/-
  Texts of a walk, laid together by a program of the prover's own (merge.py). No conditions beyond those that each text names.
-/
import Derived.Test.YtgblgkkbggdopaaDoorZaq
/-
  What good of the document's answer returns for the zero expression. No conditions.
-/
namespace Go.Proofs.YtgblgkkbggdopaaDoor
open Go.RowKit

set_option maxHeartbeats 4000000 in
set_option maxRecDepth 100000 in
theorem rgood_zero (A : Option Addr) (q : Nat) (w : World) :
    Calls Tryd.prog 74 #[.agg #[.int .i64 0, .int .i64 0, .string ⟨#[]⟩, .int .i64 0, .int .i64 0, .slice A 0 q]] w fun e' w' => e' = .returned (.bool false) ∧ Below w.heap.size w w' := by
  have hop' : ∀ w, Calls Tryd.prog 82 #[.int .i64 0] w fun e w' => e = .returned (.int .i64 (-1)) ∧ w' = w := fun w => rops_any 0 (by decide) w
  have HOP := Lib.hid hop'
  have HBW := Lib.hid (show Below w.heap.size w (w.alloc (.cells #[.int .i64 0, .int .i64 0, .string ⟨#[]⟩, .int .i64 0, .int .i64 0, .slice A 0 q] 92)) from (Below.refl _ _).alloc (Nat.le_refl _) _)
  clear hop'
  go_enter Tryd.func74, Tryd.ntmps74
  go_upto_region 2 with fail
  go_quiet ((go_at_call 82; exact Calls.quiet_of_same (HOP.out _)))
  go_wp2_with fail
  go_ret
  exact ⟨rfl, below_drewN HBW.out _⟩

end Go.Proofs.YtgblgkkbggdopaaDoor
