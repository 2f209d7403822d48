/-
  stmts of the resolver for every list of statements whose names are declared and stand for what they are declared as. Conditions: at most 100000 parts.
-/
import Derived.Test.YtgkioompcmgmdaaDoorWalkRu
import Derived.Test.YtgkioompcmgmdaaDoorWalkRv
namespace Go.Proofs.YtgkioompcmgmdaaDoor
open Go.RowKit

theorem ry_zero (f : Pl) : RyC f 0 := by
  intro l h hn hok R S w A m c hr hl
  have hl0 : l = [] := by
    cases l with
    | nil => rfl
    | cons s r => have := St.big_pos s; simp only [St.bigL] at h; omega
  subst hl0
  obtain ⟨A', c', e1, hc, _⟩ := hl
  simp only [Value.slice.injEq, List.length_nil] at e1
  obtain ⟨rfl, rfl, rfl⟩ := e1
  refine (stmts_nil _ _ _ _).mono ?_
  rintro e w' ⟨rfl, rfl⟩
  exact ⟨_, rfl, sts_nil _ _, Below.refl _ _⟩
theorem rstmts_all (f : Pl) : ∀ n, RyC f n
  | 0 => ry_zero f
  | n + 1 => rstmts_step f n (rstmts_all f n)
end Go.Proofs.YtgkioompcmgmdaaDoor
