/-
  What Int of rollbacknetmake does: a number that is drawn by choices; and how large a drawn expression is. Condition: the list of choices is one that the call was given.
-/
import Derived.Test.YtocebddhllfhpaaDoorWalkMe
namespace Go.Proofs.YtocebddhllfhpaaDoor
open Go.RowKit

def inL : Nat → Int | 0 => 9223372036854775807 | 1 => -9223372036854775808 | 2 => 2147483648 | 3 => -1 | 4 => 63 | 5 => 64 | 6 => -65 | 7 => 127 | 8 => 128 | _ => 1099511627776
theorem in_cell {w : World} {n : Nat} {T : TypeId} {fr : Nat × Nat} (h : w.heap[n]? = some (.cells #[.int .i64 9223372036854775807, .int .i64 (-9223372036854775808), .int .i64 2147483648, .int .i64 (-1), .int .i64 63, .int .i64 64, .int .i64 (-65), .int .i64 127, .int .i64 128, .int .i64 1099511627776] T fr)) : ∀ k, k < 10 → w.cell? ⟨n, k, none⟩ = some (.int .i64 (inL k)) := fun k hk => by
  rw [Lib.cell_of_heap h]
  match k, hk with
  | 0, _ => rfl
  | 1, _ => rfl
  | 2, _ => rfl
  | 3, _ => rfl
  | 4, _ => rfl
  | 5, _ => rfl
  | 6, _ => rfl
  | 7, _ => rfl
  | 8, _ => rfl
  | 9, _ => rfl
theorem in_wf (k : Nat) : -9223372036854775808 ≤ inL k ∧ inL k ≤ 9223372036854775807 := by
  unfold inL; split <;> decide

set_option maxHeartbeats 1000000 in
set_option maxRecDepth 100000 in
theorem int_any (B cb : Nat) (w : World) (h : CodesIn B w cb) :
    Calls Tryd.prog 16 #[.pointer (some ⟨cb, 0, none⟩)] w fun e w' => ∃ z : Int, e = .returned (.int .i64 z) ∧ (-9223372036854775808 ≤ z ∧ z ≤ 9223372036854775807) ∧ CodesIn B w' cb ∧ Keep cb w w' := by
  have hcb := h.lt
  obtain ⟨W, hW⟩ : ∃ W, w.alloc (.cells #[.int .i64 9223372036854775807, .int .i64 (-9223372036854775808), .int .i64 2147483648, .int .i64 (-1), .int .i64 63, .int .i64 64, .int .i64 (-65), .int .i64 127, .int .i64 128, .int .i64 1099511627776] 3) = W := ⟨_, rfl⟩
  have hx : W.heap[w.heap.size]? = _ := hW ▸ new_blk w _
  have HC := Lib.hid (show CodesIn B W cb by rw [← hW]; exact h.up fun k hk => alloc_blk w _ (by omega))
  have HK := Lib.hid (show Keep cb w W by rw [← hW]; exact (Keep.refl cb w).alloc _)
  have HX := Lib.hid hx
  clear h hx
  go_enter Tryd.func16, Tryd.ntmps16
  go_wp2_with fail
  refine (next_keep B cb 6 _ HC.out (by decide) (by decide)).mono ?_
  rintro e w1 ⟨j, hj, rfl, hc, hk⟩
  have HC1 := Lib.hid hc
  have HK1 := Lib.hid (HK.out.trans hk)
  have HX1 := Lib.hid (hk.blk HX.out (by omega))
  clear hc hk hW
  by_cases h5 : j = 5
  · subst h5
    go_wp2_with fail
    refine (next_keep B cb 10 _ HC1.out (by decide) (by decide)).mono ?_
    rintro e w2 ⟨i, hi, rfl, hc, hk⟩
    have HC2 := Lib.hid hc
    have HK2 := Lib.hid (HK1.out.trans hk)
    have c := in_cell (hk.blk HX1.out (by omega)) i hi
    obtain ⟨z, hz⟩ : ∃ z, inL i = z := ⟨_, rfl⟩
    have HZ := Lib.hid (in_wf i)
    rw [hz] at c HZ
    have hi' : (i : Int) < 10 := by omega
    clear hc hk hz
    go_wp2_with fail
    go_ret
    exact ⟨z, rfl, HZ.out, HC2.out, HK2.out⟩
  · have h5' : ((j : Int) == 5) = false := beq_eq_false_iff_ne.2 (by omega)
    clear h5
    go_wp2_with fail
    refine (next_keep B cb 12 _ HC1.out (by decide) (by decide)).mono ?_
    rintro e w2 ⟨i, hi, rfl, hc, hk⟩
    have HC2 := Lib.hid hc
    have HK2 := Lib.hid (HK1.out.trans hk)
    have hi' : (i : Int) < 12 := by omega
    clear hc hk
    go_wp2_with fail
    go_ret
    exact ⟨_, rfl, by omega, HC2.out, HK2.out⟩

theorem drE_big : ∀ (d : Nat) (e : Ex), drE d e → e.big + 1 ≤ 2 ^ d
  | 0, e, h => h.elim
  | d + 1, .mk op v nm sl sz args, h => by
    simp only [drE] at h
    have hp : 1 ≤ 2 ^ d := Nat.one_le_two_pow
    obtain ⟨_, _, ⟨_, _, _, _, rfl⟩ | ⟨_, _, _, rfl⟩ | ⟨_, _, _, _, rfl⟩ | ⟨_, _, _, e, rfl, h1⟩ | ⟨_, _, _, _, e, rfl, h1⟩ | ⟨_, _, _, _, a, b, rfl, h1, h2⟩⟩ := h
    · simp only [Ex.big, Ex.bigL, Nat.pow_succ]; omega
    · simp only [Ex.big, Ex.bigL, Nat.pow_succ]; omega
    · simp only [Ex.big, Ex.bigL, Nat.pow_succ]; omega
    · have := drE_big d e h1
      simp only [Ex.big, Ex.bigL, Nat.pow_succ]; omega
    · have := drE_big d e h1
      simp only [Ex.big, Ex.bigL, Nat.pow_succ]; omega
    · have := drE_big d a h1
      have := drE_big d b h2
      simp only [Ex.big, Ex.bigL, Nat.pow_succ]; omega
end Go.Proofs.YtocebddhllfhpaaDoor
