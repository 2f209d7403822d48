/-
  What a list of bytes that came in reads as. No conditions of its own.
-/
import Derived.Test.YtadikcioacaphaaLift7
import Derived.Test.YtadikcioacaphaaWalkRw8
namespace Go.Proofs.Ytadikcioacaphaa
open Go.ChangeShapes Go.WideShapes Go.ChangeAt Go.RowKit

section
variable {H : Type} {enc : TypeId × Value → H}
theorem cells8' : Try.prog.cellsOf 5 = 1 := by kernel_rfl
set_option maxRecDepth 100000 in
/-- What a slice of bytes that came in gives. -/
theorem open_bs {W : World} {base : Nat} {v1 : Value} {d1 : DataW H} {p1 : List MemPlace} (hval : Value.okWide Try.prog W .any base 22 v1) (h1 : DataW.Trod enc Try.prog W 0 (fun _ => true) true 22 v1 d1 p1) :
    ∃ A n c bs, v1 = .slice A n c ∧ (n ≤ 1099511627776 → BsIn W.heap.size W bs A n c) ∧ n ≤ c ∧ c ≤ 9223372036854775807 := by
  obtain ⟨A, len, cap, rfl⟩ := okWide_slice Try.underlying22 hval
  have hhas : ∀ a, A = some a → a.spot = none ∧ a.block < W.heap.size := fun a e => by
    subst e
    simp only [Value.okWide, Try.underlying22, Cell.okWide, Cell.ok] at hval
    obtain ⟨_, _, _, hs, row, cells, hsh, _⟩ := hval
    refine ⟨hs, ?_⟩
    rcases Nat.lt_or_ge a.block W.heap.size with h | h
    · exact h
    · unfold World.shape? at hsh
      rw [Array.getElem?_eq_none h] at hsh
      simp at hsh
  obtain ⟨fuel, hf⟩ := h1
  rcases open_ints Try.underlying22 Try.underlying5 cells8' hf with ⟨hcs, hx⟩ | ⟨a, len', cap', zs, hcs, _, hl, hm, hz, hx, hcell, hwz⟩
  · simp [Value.cells] at hcs
    obtain ⟨rfl, rfl, rfl⟩ := hcs
    exact ⟨none, 0, 0, [], rfl, fun _ => ⟨rfl, Nat.le_refl _, ⟨rfl, fun h => absurd h (by decide)⟩, fun b o e => (by cases e), fun _ => rfl, fun a e => (by cases e), fun b hb => (by simp at hb), by decide⟩, Nat.le_refl _, by decide⟩
  · simp [Value.cells] at hcs
    obtain ⟨rfl, rfl, rfl⟩ := hcs
    simp only [if_true] at hz
    unfold maxLen at hm
    have htl : (zs.take len).length = len := by rw [List.length_take]; omega
    obtain ⟨hsp, hblk⟩ := hhas a rfl
    refine ⟨some a, len, cap, (zs.take len).map Int.toNat, rfl, fun h40 => ?_, hl, by omega⟩
    obtain ⟨ab, ao, spot⟩ := a
    have hspot : spot = none := hsp
    subst hspot
    have hce : ∀ i, i < len → W.cell? ⟨ab, ao + i, none⟩ = some (.int .u8 (((zs.take len).map Int.toNat).getD i 0 : Nat)) ∧ ((zs.take len).map Int.toNat).getD i 0 ≤ 255 := fun i hin => by
      have hci := hcell i (by omega)
      rw [Addr.add_lit] at hci
      have hb := range_u8 hwz i
      rw [← List.getD_eq_getElem?_getD] at hb
      have e : ((zs.take len).map Int.toNat).getD i 0 = (zs.getD i 0).toNat := by
        rw [List.getD_eq_getElem?_getD, List.getElem?_map, List.getElem?_take_of_lt hin, List.getD_eq_getElem?_getD, List.getElem?_eq_getElem (by omega)]
        rfl
      rw [e, hci, Int.toNat_of_nonneg hb.1]
      exact ⟨rfl, by omega⟩
    refine ⟨by rw [List.length_map, htl], hl, ⟨by rw [bC_len, List.length_map, htl, Nat.mul_one], fun h0 => ⟨ab, ao, rfl, fun j u hj => ?_⟩⟩, fun b o e => ?_, fun e => (by cases e), fun a e => (by cases e; rfl), fun b hb => ?_, h40⟩
    · have hjl := (List.getElem?_eq_some_iff.1 hj).1
      rw [bC_len, List.length_map, htl] at hjl
      have hc := (hce j hjl).1
      rw [bC, List.getElem?_map, List.getElem?_eq_getElem (by rw [List.length_map, htl]; exact hjl)] at hj
      rw [hc, List.getD_eq_getElem?_getD, List.getElem?_eq_getElem (by rw [List.length_map, htl]; exact hjl)]
      exact hj
    · cases e
      exact hblk
    · obtain ⟨i, hi, rfl⟩ := List.getElem_of_mem hb
      have hi' := hi
      rw [List.length_map, htl] at hi'
      have := (hce i hi').2
      rwa [List.getD_eq_getElem?_getD, List.getElem?_eq_getElem hi] at this
end
end Go.Proofs.Ytadikcioacaphaa
