/-
  The laws' own check of the examples of chapter 4 returns true. No conditions.
-/
import Derived.Test.YtocebddhllfhpaaDoorEvVz
namespace Go.Proofs.YtocebddhllfhpaaDoor
open Go.RowKit

theorem zs_nil (w : World) : ZsAt w [] none 0 := ⟨rfl, by decide, fun h => absurd h (by decide)⟩

set_option maxHeartbeats 1000000 in
set_option maxRecDepth 100000 in
theorem awake4_any (w : World) : Calls Tryd.prog 6 #[] w fun e w' => e = .returned (.bool true) ∧ Below w.heap.size w w' := by
  have A1 : Hid (∀ w, Calls Tryd.prog 17 #[.int .i64 13, .int .i64 (-7), .int .i64 2] w fun e w' => e = .returned (.int .i64 (-3)) ∧ Below w.heap.size w w') := fun w => by have h := apply_any 13 (-7) 2 w; rwa [show apS 13 (-7) 2 = -3 by decide +kernel] at h
  have A2 : Hid (∀ w, Calls Tryd.prog 17 #[.int .i64 14, .int .i64 (-7), .int .i64 2] w fun e w' => e = .returned (.int .i64 (-1)) ∧ Below w.heap.size w w') := fun w => by have h := apply_any 14 (-7) 2 w; rwa [show apS 14 (-7) 2 = -1 by decide +kernel] at h
  have A3 : Hid (∀ w, Calls Tryd.prog 10 #[.agg #[.int .i64 1, .int .i64 5, .string ⟨#[]⟩, .int .i64 0, .int .i64 0, .slice none 0 0], .slice none 0 0, .agg #[.int .i64 0, .int .i64 0, .int .i64 0, .int .i64 0]] w fun e w' => e = .returned (.int .i64 5) ∧ Below w.heap.size w w') := fun w =>
    value_any [] ⟨0, 0, 0, 0⟩ (.mk 1 5 [] 0 0 []) (fun _ => True) w 1 5 ⟨#[]⟩ 0 0 none 0 0 none 0 0 (by simp only [ExL]; exact ⟨none, 0, rfl, Nat.le_refl _, fun h => absurd rfl h⟩) (zs_nil w)
  go_enter Tryd.func6, Tryd.ntmps6
  go_wp2_with fail
  refine (A1.out _).mono ?_
  rintro e w1 ⟨rfl, hb⟩
  have HB1 := Lib.hid hb
  clear hb
  go_wp2_with fail
  refine (A2.out _).mono ?_
  rintro e w2 ⟨rfl, hb⟩
  have HB2 := Lib.hid (HB1.out.trans (hb.mono HB1.out.size))
  clear hb
  go_wp2_with fail
  refine (A3.out _).mono ?_
  rintro e w3 ⟨rfl, hb⟩
  have HB3 := Lib.hid (HB2.out.trans (hb.mono HB2.out.size))
  clear hb
  go_wp2_with fail
  go_ret
  exact ⟨rfl, HB3.out⟩
end Go.Proofs.YtocebddhllfhpaaDoor
