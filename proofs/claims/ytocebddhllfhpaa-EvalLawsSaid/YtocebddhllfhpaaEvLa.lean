/-
  Plain facts on the results of operators: laws of arithmetic and logic. Conditions: operands are 64-bit ints where it is said.
-/
import Derived.Test.YtocebddhllfhpaaEvAw
namespace Go.Proofs.Ytocebddhllfhpaa
open Go.RowKit

/-- The operators whose operands may be exchanged. -/
def cmL : Nat → Int | 0 => 10 | 1 => 12 | 2 => 19 | 3 => 20 | 4 => 21 | _ => 22
/-- The pairs of opposites. -/
def opL0 : Nat → Int | 0 => 15 | 1 => 16 | _ => 19
def opL1 : Nat → Int | 0 => 18 | 1 => 17 | _ => 20
theorem tB_le (b : Bool) : 0 ≤ tB b ∧ tB b ≤ 1 := by cases b <;> simp [tB]

theorem ap_comm (a b : Int) : ∀ k, k < 6 → apS (cmL k) a b = apS (cmL k) b a := fun k hk => by
  match k, hk with
  | 0, _ => simp only [cmL, apS_10, Int.add_comm]
  | 1, _ => simp only [cmL, apS_12, Int.mul_comm]
  | 2, _ => simp only [cmL, apS_19, eq_comm]
  | 3, _ => simp only [cmL, apS_20, ne_comm]
  | 4, _ => simp only [cmL, apS_21, and_comm]
  | 5, _ => simp only [cmL, apS_22, or_comm]
theorem tB_not (p q : Prop) [Decidable p] [Decidable q] (h : p ↔ ¬ q) : tB (decide p) + tB (decide q) = 1 := by
  by_cases hq : q
  · have hp : ¬ p := fun hp => h.1 hp hq
    simp [tB, hp, hq]
  · have hp : p := h.2 hq
    simp [tB, hp, hq]
theorem ap_opp (a b : Int) : ∀ k, k < 3 → ∃ x y, apS (opL0 k) a b = x ∧ apS (opL1 k) a b = y ∧ x + y = 1 ∧ 0 ≤ x ∧ 0 ≤ y := fun k hk => by
  match k, hk with
  | 0, _ => exact ⟨_, _, rfl, rfl, by simp only [opL0, opL1, apS_15, apS_18]; exact tB_not _ _ (by omega), by simp only [opL0, apS_15]; exact (tB_le _).1, by simp only [opL1, apS_18]; exact (tB_le _).1⟩
  | 1, _ => exact ⟨_, _, rfl, rfl, by simp only [opL0, opL1, apS_16, apS_17]; exact tB_not _ _ (by omega), by simp only [opL0, apS_16]; exact (tB_le _).1, by simp only [opL1, apS_17]; exact (tB_le _).1⟩
  | 2, _ => exact ⟨_, _, rfl, rfl, by simp only [opL0, opL1, apS_19, apS_20]; exact tB_not _ _ (by omega), by simp only [opL0, apS_19]; exact (tB_le _).1, by simp only [opL1, apS_20]; exact (tB_le _).1⟩

theorem ap_div (a b : Int) (ha : -9223372036854775808 ≤ a ∧ a ≤ 9223372036854775807) (hb : b ≠ 0) : wrap64 (wrap64 (apS 13 a b * b) + apS 14 a b) = a := by
  rw [apS_13, apS_14, if_neg hb, if_neg hb]
  have hd := Int.tmod_add_mul_tdiv a b
  by_cases h1 : b = -1
  · subst h1
    simp only [Int.tmod_neg, Int.tmod_one, Int.tdiv_neg, Int.tdiv_one]
    unfold wrap64
    omega
  · have hle : (a.tdiv b).natAbs ≤ a.natAbs := by rw [Int.natAbs_tdiv]; exact Nat.div_le_self _ _
    have hne : a.tdiv b ≠ 9223372036854775808 := fun h => by
      have h2 : a.natAbs / b.natAbs = 9223372036854775808 := by have := Int.natAbs_tdiv a b; rw [h] at this; exact this.symm
      by_cases h3 : b.natAbs = 1
      · have hb1 : b = 1 := by omega
        subst hb1
        rw [Int.tdiv_one] at h
        omega
      · have h4 : 2 ≤ b.natAbs := by omega
        have h5 : a.natAbs / b.natAbs ≤ a.natAbs / 2 := Nat.div_le_div_left h4 (by decide)
        omega
    rw [IntWalk.wrap64_in (a.tdiv b) (by omega)]
    rw [Int.mul_comm] at hd
    generalize a.tdiv b * b = P at *
    unfold wrap64
    omega
theorem ap_div0 (a : Int) : apS 13 a 0 = 0 ∧ apS 14 a 0 = 0 := ⟨by rw [apS_13, if_pos rfl], by rw [apS_14, if_pos rfl]⟩
theorem ap_sub (a b : Int) (ha : -9223372036854775808 ≤ a ∧ a ≤ 9223372036854775807) : apS 11 (apS 10 a b) b = a := by
  rw [apS_11, apS_10]; unfold wrap64; omega
theorem ap_neg (a b : Int) (ha : -9223372036854775808 ≤ a ∧ a ≤ 9223372036854775807) : apS 8 (apS 8 a b) a = a := by
  rw [apS_8, apS_8]; unfold wrap64; omega
theorem ap_less (a b : Int) : apS 15 a b = apS 17 b a := by rw [apS_15, apS_17]
theorem ap_not (a b : Int) : apS 22 (apS 9 a 0) (apS 9 b 0) = apS 9 (apS 21 a b) 0 := by
  simp only [apS_9, apS_22, apS_21]
  by_cases h1 : a = 0 <;> by_cases h2 : b = 0 <;> simp [h1, h2, tB]
end Go.Proofs.Ytocebddhllfhpaa
