/-
  The law ImageComposes of package rollbacknetlaw07 returns true for every two lists of pages and a bool, and leaves its arguments as they were. Conditions: none.
-/
import Derived.Test.YtkhaapdokhhbdaaLiftP7
import Derived.Test.YtkhaapdokhhbdaaLawCo
namespace Go.Proofs.Ytkhaapdokhhbdaa.imageComposes
open Go.ChangeShapes Go.WideShapes Go.ChangeAt Go.RowKit

set_option maxRecDepth 100000 in
theorem lifted (os : Os) (started : os.Started) (H : Type) (enc : TypeId × Value → H) :
    ReturnsInHanded {} Try.checked os 5 .any (Rows.imageComposesSpec.pre6 enc Try.prog Try.f5 Rows.imageComposesRow.domain false) (Rows.imageComposesSpec.post enc Try.prog Try.f5 false true false false) := by
  refine returnsInHanded_of_change_sized (C := Try.checked) own started (by kernel_rfl) Try.func5
    (ChangeSpec.witness6 (enc := enc) (C := Try.checked) false ⟨#[], #[.slice none 0 0, .slice none 0 0, .bool false], []⟩ 8 (by kernel_rfl) (by kernel_rfl) (by kernel_rfl) (by kernel_rfl)) ?_
  intro W base args ds gs before hval0 hW hcnd hsz _
  have hval : ∀ (j : Nat) t v, Try.f5.params[j]? = some t → args[j]? = some v → Value.okWide Try.prog W .any base t v := hval0
  have hW' := hW
  obtain ⟨p, q, hA0, hV, rfl, hfz, hnd⟩ := hW
  have hA : DataW.TrodAll enc Try.prog W 0 (fun _ => true) true Try.f5.params.toList args.toList ds p := hA0
  have hA' := hA
  rw [Try.params5] at hA hval
  obtain ⟨v0, vs0, d0, ds0, p0, q0, hargs, rfl, rfl, h0, r0⟩ := trodAll_cons hA
  obtain ⟨v1, vs1, d1, ds1, p1, q1, rfl, rfl, rfl, h1, r1⟩ := trodAll_cons r0
  obtain ⟨v2, vs2, d2, ds2, p2, q2, rfl, rfl, rfl, h2, r2⟩ := trodAll_cons r1
  obtain ⟨rfl, rfl, rfl⟩ := trodAll_nil r2
  obtain rfl : args = #[v0, v1, v2] := by cases args; simp_all
  obtain ⟨rfl, rfl⟩ := trodVars_none hV
  obtain ⟨A0, n0, c0, ps0, rfl, hz0, hc0, hn0, hw0⟩ := open_pgs (hval 0 29 v0 rfl rfl) h0
  obtain ⟨A1, n1, c1, ps1, rfl, hz1, hc1, hn1, hw1⟩ := open_pgs (hval 1 29 v1 rfl rfl) h1
  obtain ⟨a2, rfl, rfl, rfl⟩ := open_bool Try.underlying4 (hval 2 4 v2 rfl rfl) h2
  have hwe0 : Wee ps0 := fun p hp => ⟨(hw0 p hp).1, by
    rcases (hw0 p hp).2 with h | ⟨k, h1, h2⟩
    · omega
    · have := List.all_eq_true.1 hsz k (DataW.weights_mem_each (j := 0) (t := 29) (d := d0) rfl rfl k h2)
      simp only [decide_eq_true_eq] at this
      unfold reachBytes at this
      omega⟩
  have hwe1 : Wee ps1 := fun p hp => ⟨(hw1 p hp).1, by
    rcases (hw1 p hp).2 with h | ⟨k, h1, h2⟩
    · omega
    · have := List.all_eq_true.1 hsz k (DataW.weights_mem_each (j := 1) (t := 29) (d := d1) rfl rfl k h2)
      simp only [decide_eq_true_eq] at this
      unfold reachBytes at this
      omega⟩
  clear hA0 hval0
  simp only [List.append_nil] at hW' hA'
  refine (imageComposes_any ps0 ps1 A0 A1 n0 n1 c0 c1 a2 W hz0 hz1 hn0 hn1 hwe0 hwe1).mono fun e W' ⟨he, hb⟩ => ?_
  subst he
  exact ⟨_, rfl, lift_post rfl rfl rfl (by kernel_rfl) hW' hA' hb⟩

theorem proved : Rows.ImageComposesSaid :=
  OpenClaim.holds_of_wide 5 Try.f5 rfl rfl rfl rfl rfl rfl rfl ⟨rfl, rfl, rfl, rfl, rfl⟩ rfl rfl rfl rfl rfl (by kernel_rfl) Try.func5 (by kernel_rfl)
    (of_decide_eq_true (by kernel_rfl)) (by unfold Func.isWrapper; first | (rw [if_pos (by decide +kernel)]; kernel_rfl) | (rw [if_neg (by decide +kernel)]; exact ⟨rfl, rfl⟩))
    (fun os started H enc _ => lifted os started H enc)
end Go.Proofs.Ytkhaapdokhhbdaa.imageComposes
