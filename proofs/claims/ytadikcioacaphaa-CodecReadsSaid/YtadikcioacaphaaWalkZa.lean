/-
  What it says that a slice of ints reads as a list of numbers. No conditions.
-/
import Derived.Test.YtadikcioacaphaaImQ
namespace Go.Proofs.Ytadikcioacaphaa
open Go.RowKit

/-- The slice at A with n cells reads as zs. -/
def ZsAt (w : World) (zs : List Int) (A : Option Addr) (n : Nat) : Prop :=
  n = zs.length ∧ n ≤ 9223372036854775807 ∧ (0 < n → ∃ b o, A = some ⟨b, o, none⟩ ∧ ∀ i, i < n → w.cell? ⟨b, o + i, none⟩ = some (.int .i64 (zs.getD i 0)))
theorem ZsAt.below {w w' : World} {zs : List Int} {A : Option Addr} {n : Nat} (h : ZsAt w zs A n) (hb : Below w.heap.size w w') : ZsAt w' zs A n := by
  obtain ⟨h1, h2, h3⟩ := h
  refine ⟨h1, h2, fun h0 => ?_⟩
  obtain ⟨b, o, hA, hi⟩ := h3 h0
  exact ⟨b, o, hA, fun i hin => (hb.cell (p := ⟨b, _, none⟩) (World.block_lt_of_cell? w _ (hi i hin))).trans (hi i hin)⟩
/-- A list of ints that is owned. -/
theorem ZsAt.own {w : World} {base L c : Nat} {A : Option Addr} {xs : List Int} (h : w.ownsRow base 3 1 (.slice A L c) L (xs.map (Value.int .i64))) (hm : L ≤ 9223372036854775807) : ZsAt w xs A L := by
  obtain ⟨hl, hr⟩ := h
  rw [List.length_map, Nat.mul_one] at hl
  refine ⟨hl.symm, hm, fun h0 => ?_⟩
  rcases hr with ⟨_, hz⟩ | ⟨g, cap, cur, e, hg, hb, h1, h2, h3, h4⟩
  · omega
  · injection e with e1 e2 e3
    subst e1 e3
    refine ⟨g, 0, rfl, fun i hi => ?_⟩
    have hi' : i < xs.length := by omega
    have hx : xs[i]? = some (xs.getD i 0) := by rw [List.getD_eq_getElem?_getD, List.getElem?_eq_getElem hi']; rfl
    have hmm : (xs.map (Value.int .i64))[i]? = some (.int .i64 (xs.getD i 0)) := by rw [List.getElem?_map, hx]; rfl
    rw [← h4, Nat.mul_one, List.getElem?_take_of_lt (by omega)] at hmm
    rw [Nat.zero_add, Lib.cell_of_heap hb, ← Array.getElem?_toList]
    exact hmm
end Go.Proofs.Ytadikcioacaphaa
