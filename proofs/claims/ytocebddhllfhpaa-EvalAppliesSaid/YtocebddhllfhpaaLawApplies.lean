/-
  The walk of the law EvalApplies. No conditions.
-/
import Derived.Test.YtocebddhllfhpaaEvAw
import Derived.Test.YtocebddhllfhpaaEvRa
import Derived.Test.YtocebddhllfhpaaWalkMod
namespace Go.Proofs.Ytocebddhllfhpaa
open Go.RowKit

set_option maxHeartbeats 2000000 in
set_option maxRecDepth 100000 in
theorem evalApplies_any (op a b : Int) (w : World) : Calls Try.prog 3 #[.int .i64 op, .int .i64 a, .int .i64 b] w fun e w' => e = .returned (.bool true) ∧ Below w.heap.size w w' := by
  obtain ⟨R, hR⟩ : ∃ R, apS op a b = R := ⟨_, rfl⟩
  have HA := Lib.hid (apply_any op a b)
  have HR := Lib.hid (rapply_any op a b)
  rw [hR] at HA HR
  clear hR
  go_enter Try.func3, Try.ntmps3
  go_wp2_with fail
  refine (awake4_any _).mono ?_
  rintro e w1 ⟨rfl, hb⟩
  have HB1 := Lib.hid hb
  clear hb
  go_wp2_with fail
  refine (mod_any op 15 _ (by decide) (by decide)).mono ?_
  rintro e w2 ⟨k, hk, rfl, rfl⟩
  have hk' : (k : Int) < 15 := by omega
  obtain ⟨Q, hQ⟩ : ∃ Q, apS (8 + (k : Int)) a b = Q := ⟨_, rfl⟩
  have HA2 := Lib.hid (apply_any (8 + (k : Int)) a b)
  have HR2 := Lib.hid (rapply_any (8 + (k : Int)) a b)
  rw [hQ] at HA2 HR2
  clear hQ
  go_wp2_with fail
  refine (HA.out _).mono ?_
  rintro e w3 ⟨rfl, hb⟩
  have HB3 := Lib.hid (HB1.out.trans (hb.mono HB1.out.size))
  clear hb
  go_wp2_with fail
  refine (HR.out _).mono ?_
  rintro e w4 ⟨rfl, rfl⟩
  go_wp2_with fail
  refine (HA2.out _).mono ?_
  rintro e w5 ⟨rfl, hb⟩
  have HB5 := Lib.hid (HB3.out.trans (hb.mono HB3.out.size))
  clear hb
  go_wp2_with fail
  refine (HR2.out _).mono ?_
  rintro e w6 ⟨rfl, rfl⟩
  go_wp2_with fail
  go_ret
  exact ⟨rfl, HB5.out⟩
end Go.Proofs.Ytocebddhllfhpaa
