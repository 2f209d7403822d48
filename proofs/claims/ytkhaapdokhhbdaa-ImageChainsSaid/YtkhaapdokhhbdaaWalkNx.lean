/-
  What Next and Int of rollbacknetmake do: a choice, and a number that is drawn by choices. Condition: the list of choices is one that the call was given.
-/
import Derived.Test.YtkhaapdokhhbdaaWalkCodes
namespace Go.Proofs.Ytkhaapdokhhbdaa
open Go.RowKit

set_option maxHeartbeats 1000000 in
set_option maxRecDepth 100000 in
theorem next_keep (B cb m : Nat) (w : World) (h0 : CodesIn B w cb) (hm0 : 0 < m) (hm2 : m ≤ 100000) :
    Calls Try.prog 25 #[.pointer (some ⟨cb, 0, none⟩), .int .i64 m] w fun e w' => ∃ j : Nat, j < m ∧ e = .returned (.int .i64 j) ∧ CodesIn B w' cb ∧ Keep cb w w' := by
  obtain ⟨A, n, c, k, h⟩ := h0
  have H := Lib.hid h
  by_cases hk : k < n
  · have q : decide (k < n) = true := decide_eq_true hk
    go_enter Try.func25, Try.ntmps25
    go_wp2_with fail
    refine (left_any B cb A n c k _ H.out).mono ?_
    rintro e w1 ⟨rfl, m1, hw1⟩
    have hb1 : Below w.heap.size w w1 := by rw [hw1]; exact below_drewN (Below.refl _ _) m1
    have H1 := Lib.hid (H.out.below hb1)
    have HB1 := Lib.hid hb1
    clear hw1 hb1
    obtain ⟨c0, c1, fz, _, hc, hm, _, hl⟩ := H1.out
    clear hl
    have hn : n ≤ 9223372036854775807 := by omega
    go_upto_region 4 with fail
    obtain ⟨w2, hw2⟩ : ∃ w2, w1.setCell ⟨cb, 1, none⟩ (.int .i64 ((k : Int) + 1)) = w2 := ⟨_, rfl⟩
    have H2 := Lib.hid (hw2 ▸ H1.out.step hk)
    have HK2 := Lib.hid (show Keep cb w w2 by rw [← hw2]; exact (Keep.of_below HB1.out).setR (p := ⟨cb, 1, none⟩) rfl _)
    simp only [hw2]
    clear hw2 c0 c1 fz
    obtain ⟨c0, c1, _, _, _, _, _, hl⟩ := H2.out
    obtain ⟨b, o, rfl, hlt, hi⟩ := hl (by omega)
    obtain ⟨u, hu, hu2⟩ := hi k hk
    clear hl hi
    have hsub : (((k + 1 : Nat) : Int)) - 1 = (k : Int) := by omega
    go_quiet (fail)
    go_wp2
    go_ret
    exact ⟨u % m, Nat.mod_lt _ hm0, by rw [Int.natCast_emod]; rfl, ⟨_, n, c, k + 1, H2.out.below (below_drewN (Below.refl _ _) nq)⟩, HK2.out.trans (Keep.of_below (below_drewN (Below.refl _ _) nq))⟩
  · have q : decide (k < n) = false := decide_eq_false hk
    go_enter Try.func25, Try.ntmps25
    go_wp2_with fail
    refine (left_any B cb A n c k _ H.out).mono ?_
    rintro e w1 ⟨rfl, m1, rfl⟩
    go_wp2
    go_ret
    exact ⟨0, hm0, rfl, ⟨A, n, c, k, H.out.below (below_drewN (Below.refl _ _) m1)⟩, Keep.of_below (below_drewN (Below.refl _ _) m1)⟩
theorem CodesIn.lt {B cb : Nat} {w : World} (h : CodesIn B w cb) : cb < w.heap.size := by
  obtain ⟨_, _, _, _, h⟩ := h; exact h.lt
/-- Blocks behind the list of choices have been written. -/
theorem CodesIn.up {B cb : Nat} {w w' : World} (h : CodesIn B w cb) (hb : ∀ k, k ≤ cb → w'.heap[k]? = w.heap[k]?) : CodesIn B w' cb := by
  obtain ⟨A, n, c, k, h⟩ := h
  have hc : ∀ b o, b ≤ cb → w'.cell? ⟨b, o, none⟩ = w.cell? ⟨b, o, none⟩ := fun b o hb' => World.cell?_of_block (w := w) (a := ⟨b, o, none⟩) (hb b hb')
  refine ⟨A, n, c, k, (hc _ _ (Nat.le_refl _)).trans h.c0, (hc _ _ (Nat.le_refl _)).trans h.c1, (World.frozen?_of_block (w := w) (a := ⟨cb, 1, none⟩) (hb cb (Nat.le_refl _))).trans h.fz, h.hk, h.hc, h.hm, h.hB, fun h0 => ?_⟩
  obtain ⟨b, o, hA, hlt, hi⟩ := h.hl h0
  refine ⟨b, o, hA, hlt, fun i hin => ?_⟩
  obtain ⟨u, hu, hu2⟩ := hi i hin
  exact ⟨u, (hc _ _ (Nat.le_of_lt (Nat.lt_of_lt_of_le hlt h.hB))).trans hu, hu2⟩
def inL : Nat → Int | 0 => 9223372036854775807 | 1 => -9223372036854775808 | 2 => 2147483648 | 3 => -1 | 4 => 63 | 5 => 64 | 6 => -65 | 7 => 127 | 8 => 128 | _ => 1099511627776
theorem in_cell {w : World} {n : Nat} {T : TypeId} {fr : Nat × Nat} (h : w.heap[n]? = some (.cells #[.int .i64 9223372036854775807, .int .i64 (-9223372036854775808), .int .i64 2147483648, .int .i64 (-1), .int .i64 63, .int .i64 64, .int .i64 (-65), .int .i64 127, .int .i64 128, .int .i64 1099511627776] T fr)) : ∀ k, k < 10 → w.cell? ⟨n, k, none⟩ = some (.int .i64 (inL k)) := fun k hk => by
  rw [Lib.cell_of_heap h]
  match k, hk with
  | 0, _ => rfl
  | 1, _ => rfl
  | 2, _ => rfl
  | 3, _ => rfl
  | 4, _ => rfl
  | 5, _ => rfl
  | 6, _ => rfl
  | 7, _ => rfl
  | 8, _ => rfl
  | 9, _ => rfl
theorem in_wf (k : Nat) : -9223372036854775808 ≤ inL k ∧ inL k ≤ 9223372036854775807 := by
  unfold inL; split <;> decide
set_option maxHeartbeats 1000000 in
set_option maxRecDepth 100000 in
theorem int_any (B cb : Nat) (w : World) (h : CodesIn B w cb) :
    Calls Try.prog 26 #[.pointer (some ⟨cb, 0, none⟩)] w fun e w' => ∃ z : Int, e = .returned (.int .i64 z) ∧ (-9223372036854775808 ≤ z ∧ z ≤ 9223372036854775807) ∧ CodesIn B w' cb ∧ Keep cb w w' := by
  have hcb := h.lt
  obtain ⟨W, hW⟩ : ∃ W, w.alloc (.cells #[.int .i64 9223372036854775807, .int .i64 (-9223372036854775808), .int .i64 2147483648, .int .i64 (-1), .int .i64 63, .int .i64 64, .int .i64 (-65), .int .i64 127, .int .i64 128, .int .i64 1099511627776] 3) = W := ⟨_, rfl⟩
  have hx : W.heap[w.heap.size]? = _ := hW ▸ new_blk w _
  have HC := Lib.hid (show CodesIn B W cb by rw [← hW]; exact h.up fun k hk => alloc_blk w _ (by omega))
  have HK := Lib.hid (show Keep cb w W by rw [← hW]; exact (Keep.refl cb w).alloc _)
  have HX := Lib.hid hx
  clear h hx
  go_enter Try.func26, Try.ntmps26
  go_wp2_with fail
  refine (next_keep B cb 6 _ HC.out (by decide) (by decide)).mono ?_
  rintro e w1 ⟨j, hj, rfl, hc, hk⟩
  have HC1 := Lib.hid hc
  have HK1 := Lib.hid (HK.out.trans hk)
  have HX1 := Lib.hid (hk.blk HX.out (by omega))
  clear hc hk hW
  by_cases h5 : j = 5
  · subst h5
    go_wp2_with fail
    refine (next_keep B cb 10 _ HC1.out (by decide) (by decide)).mono ?_
    rintro e w2 ⟨i, hi, rfl, hc, hk⟩
    have HC2 := Lib.hid hc
    have HK2 := Lib.hid (HK1.out.trans hk)
    have c := in_cell (hk.blk HX1.out (by omega)) i hi
    obtain ⟨z, hz⟩ : ∃ z, inL i = z := ⟨_, rfl⟩
    have HZ := Lib.hid (in_wf i)
    rw [hz] at c HZ
    have hi' : (i : Int) < 10 := by omega
    clear hc hk hz
    go_wp2_with fail
    go_ret
    exact ⟨z, rfl, HZ.out, HC2.out, HK2.out⟩
  · have h5' : ((j : Int) == 5) = false := beq_eq_false_iff_ne.2 (by omega)
    clear h5
    go_wp2_with fail
    refine (next_keep B cb 12 _ HC1.out (by decide) (by decide)).mono ?_
    rintro e w2 ⟨i, hi, rfl, hc, hk⟩
    have HC2 := Lib.hid hc
    have HK2 := Lib.hid (HK1.out.trans hk)
    have hi' : (i : Int) < 12 := by omega
    clear hc hk
    go_wp2_with fail
    go_ret
    exact ⟨_, rfl, by omega, HC2.out, HK2.out⟩
end Go.Proofs.Ytkhaapdokhhbdaa
