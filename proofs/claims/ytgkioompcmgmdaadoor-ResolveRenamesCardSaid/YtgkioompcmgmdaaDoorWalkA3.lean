/-
  The laws' own check of the example of chapter 3 returns true. No conditions.
-/
import Derived.Test.YtgkioompcmgmdaaDoorWalkRv
namespace Go.Proofs.YtgkioompcmgmdaaDoor
open Go.RowKit

/-- The declarations of the example. -/
def exL : List Vr := [⟨[120], 0, 3⟩, ⟨[97], 2, 0⟩, ⟨[121], 0, 0⟩]
theorem exL_res : resV exL = (0, [3, 0, 0, 0]) := by kernel_rfl
theorem exL_look : lookS [121] exL 0 = (3, 0, true) := by kernel_rfl

theorem vrs_at {w : World} {b : Nat} {T : TypeId} {fr : Nat × Nat} {l : List Vr} (h : w.heap[b]? = some (.cells (l.flatMap vrCells).toArray T fr)) (c : Nat) (hc : l.length ≤ c) : VrSlice (fun _ => True) w l (.slice (some ⟨b, 0, none⟩) l.length c) :=
  ⟨_, c, rfl, hc, fun _ => ⟨b, 0, rfl, trivial, fun j u hj => by rw [Nat.zero_add, Lib.cell_of_heap h, List.getElem?_toArray]; exact hj⟩⟩

set_option maxHeartbeats 2000000 in
set_option maxRecDepth 100000 in
theorem awake3_any (w : World) : Calls Tryd.prog 5 #[] w fun e w' => e = .returned (.bool true) ∧ Below w.heap.size w w' := by
  have HRS : Hid (∀ (W : World) (b : Nat), W.heap[b]? = some (.cells (exL.flatMap vrCells).toArray 43 (0, 0)) → Calls Tryd.prog 9 #[.agg #[.slice (some ⟨b, 0, none⟩) 3 3, .slice none 0 0, .slice none 0 0, .slice none 0 0, .slice none 0 0]] W fun e w' => Below W.heap.size W w' ∧ ∃ g c, e = .returned (.tuple #[.agg #[.slice (some ⟨g, 0, none⟩) 4 c, .slice none 0 0, .slice none 0 0, .slice none 0 0, .slice none 0 0], .int .i64 0]) ∧ 4 ≤ c ∧ w'.cell? ⟨g, 0, none⟩ = some (.int .i64 3)) := fun W b h => by
    have h1 := resolve_vars exL (by decide) (by decide) (fun _ => True) W (some ⟨b, 0, none⟩) 3 3 (vrs_at h 3 (by decide))
    rw [exL_res] at h1
    refine h1.mono ?_
    rintro e w' ⟨hb, A, c, rfl, hown⟩
    refine ⟨hb, ?_⟩
    obtain ⟨_, ⟨h2, h3⟩ | ⟨g, cap, cur, h2, h3, h4, h5, _⟩⟩ := id hown
    · cases h3
    · injection h2 with e1 e2 e3
      subst e1 e3
      have hc := hown.cells (g := g) rfl 0 (.int .i64 3) rfl
      exact ⟨g, c, rfl, h5, by simpa [Addr.add] using hc⟩
  have HLK : Hid (∀ (W : World) (b : Nat), W.heap[b]? = some (.cells (exL.flatMap vrCells).toArray 43 (0, 0)) → Calls Tryd.prog 15 #[.slice (some ⟨b, 0, none⟩) 3 3, .string { data := #[121] }] W fun e w' => e = .returned (.tuple #[.int .i64 3, .int .i64 0, .bool true]) ∧ Below W.heap.size W w') := fun W b h => by
    have h1 := lookup_any (fun _ => True) exL [121] (some ⟨b, 0, none⟩) 3 3 W (vrs_at h 3 (by decide)) (by decide)
    rw [exL_look] at h1
    exact h1
  go_enter Tryd.func5, Tryd.ntmps5
  go_wp2_with fail
  refine (HRS.out _ _ (rv_prog w _ _)).mono ?_
  rintro e w1 ⟨hb, g, c, rfl, hc4, hc⟩
  have HB1 := Lib.hid ((rv_below w _ _).trans (hb.mono (by rw [new_size, new_size]; omega)))
  have HX1 := Lib.hid (below_blk hb (rv_prog w _ _))
  have HY1 := Lib.hid (below_blk hb (rv_code w _ _))
  obtain ⟨d0, d1, d2, d3, d4, _, _, _, _, _, hz⟩ := box5 HY1.out
  have hg : g < w1.heap.size := World.block_lt_of_cell? w1 _ hc
  have HC := Lib.hid hc
  clear hb HRS d1 d2 d3 d4
  go_wp2_with fail
  refine (HLK.out _ _ ((alloc_blk w1 _ (lt_of_block HX1.out)).trans HX1.out)).mono ?_
  rintro e w2 ⟨rfl, hb⟩
  have HB2 := Lib.hid ((HB1.out.alloc HB1.out.size (.cells #[.slice (some ⟨g, 0, none⟩) 4 c, .slice none 0 0, .slice none 0 0, .slice none 0 0, .slice none 0 0] 35)).trans (hb.mono (by rw [new_size]; have := HB1.out.size; omega)))
  obtain ⟨g0, g1, g2, g3, g4, _, _, _, _, _, hz2⟩ := box5 (below_blk hb (new_blk w1 (.cells #[.slice (some ⟨g, 0, none⟩) 4 c, .slice none 0 0, .slice none 0 0, .slice none 0 0, .slice none 0 0] 35)))
  have q := (hb.cell (p := ⟨g, 0, none⟩) (by rw [new_size]; show g < _; omega)).trans ((World.cell?_of_block (w := w1) (a := ⟨g, 0, none⟩) (alloc_blk w1 _ hg)).trans HC.out)
  clear hb HLK d0 g1 g2 g3 g4
  go_wp2_with fail
  go_ret
  exact ⟨rfl, HB2.out⟩
end Go.Proofs.YtgkioompcmgmdaaDoor
