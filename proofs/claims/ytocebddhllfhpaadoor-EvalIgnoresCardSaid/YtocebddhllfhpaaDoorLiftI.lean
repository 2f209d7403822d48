/-
  How a list of ints opens, and how long it can be at the most. No conditions of its own.
-/
import Derived.Test.YtocebddhllfhpaaDoorLiftG
import Derived.SizedLaws
namespace Go.Proofs.YtocebddhllfhpaaDoor
open Go.ChangeShapes Go.WideShapes Go.ChangeAt Go.RowKit

theorem bytesI : Tryd.prog.bytesOf 3 = 8 := by kernel_rfl
section
variable {H : Type} {enc : TypeId × Value → H}
set_option maxRecDepth 100000 in
theorem open_zs2 {W : World} {base : Nat} {v1 : Value} {d1 : DataW H} {p1 : List MemPlace} (hval : Value.okWide Tryd.prog W .any base 23 v1) (h1 : DataW.Trod enc Tryd.prog W 0 (fun _ => true) true 23 v1 d1 p1) :
    ∃ A n c zs, v1 = .slice A n c ∧ ZsAt W zs A n ∧ (n = 0 ∨ ∃ el sp, d1 = .slice el sp ∧ el.length = n) := by
  obtain ⟨A, n, c, zs, rfl, hz, _⟩ := open_zs hval h1
  refine ⟨A, n, c, zs, rfl, hz, ?_⟩
  obtain ⟨fuel, hf⟩ := h1
  rcases open_ints Tryd.underlying23 Tryd.underlying3 cellsI hf with ⟨hcs, hx⟩ | ⟨a, len', cap', zs', hcs, _, hl, hm, hz', hx, hcell, hwz⟩
  · simp [Value.cells] at hcs
    exact .inl hcs.2.1
  · simp [Value.cells] at hcs
    obtain ⟨rfl, e1, e2⟩ := hcs
    subst e1 e2
    simp only [if_true] at hz'
    refine .inr ⟨_, _, congrArg Prod.fst hx, ?_⟩
    simp only [lits, List.length_map, List.length_take]
    omega
end
end Go.Proofs.YtocebddhllfhpaaDoor
