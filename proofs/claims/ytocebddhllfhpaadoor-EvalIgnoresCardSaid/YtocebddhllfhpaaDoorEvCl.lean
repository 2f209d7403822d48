/-
  What the functions in the table of operators of package eval return. No conditions.
-/
import Derived.Test.YtocebddhllfhpaaDoorEvOps
namespace Go.Proofs.YtocebddhllfhpaaDoor
open Go.RowKit

/-- 1 for true and 0 for false. -/
def tB (b : Bool) : Int := if b then 1 else 0
/-- The result of an operator. -/
def apS (op a b : Int) : Int :=
  if op = 8 then wrap64 (-a) else
  if op = 9 then tB (decide (a = 0)) else
  if op = 10 then wrap64 (a + b) else
  if op = 11 then wrap64 (a - b) else
  if op = 12 then wrap64 (a * b) else
  if op = 13 then (if b = 0 then 0 else wrap64 (a.tdiv b)) else
  if op = 14 then (if b = 0 then 0 else a.tmod b) else
  if op = 15 then tB (decide (a < b)) else
  if op = 16 then tB (decide (a ≤ b)) else
  if op = 17 then tB (decide (b < a)) else
  if op = 18 then tB (decide (b ≤ a)) else
  if op = 19 then tB (decide (a = b)) else
  if op = 20 then tB (decide (a ≠ b)) else
  if op = 21 then tB (decide (a ≠ 0 ∧ b ≠ 0)) else
  if op = 22 then tB (decide (a ≠ 0 ∨ b ≠ 0)) else
  0

theorem apS_8 (a b : Int) : apS 8 a b = wrap64 (-a) := by simp [apS]
theorem apS_9 (a b : Int) : apS 9 a b = tB (decide (a = 0)) := by simp [apS]
theorem apS_10 (a b : Int) : apS 10 a b = wrap64 (a + b) := by simp [apS]
theorem apS_11 (a b : Int) : apS 11 a b = wrap64 (a - b) := by simp [apS]
theorem apS_12 (a b : Int) : apS 12 a b = wrap64 (a * b) := by simp [apS]
theorem apS_13 (a b : Int) : apS 13 a b = (if b = 0 then 0 else wrap64 (a.tdiv b)) := by simp [apS]
theorem apS_14 (a b : Int) : apS 14 a b = (if b = 0 then 0 else a.tmod b) := by simp [apS]
theorem apS_15 (a b : Int) : apS 15 a b = tB (decide (a < b)) := by simp [apS]
theorem apS_16 (a b : Int) : apS 16 a b = tB (decide (a ≤ b)) := by simp [apS]
theorem apS_17 (a b : Int) : apS 17 a b = tB (decide (b < a)) := by simp [apS]
theorem apS_18 (a b : Int) : apS 18 a b = tB (decide (b ≤ a)) := by simp [apS]
theorem apS_19 (a b : Int) : apS 19 a b = tB (decide (a = b)) := by simp [apS]
theorem apS_20 (a b : Int) : apS 20 a b = tB (decide (a ≠ b)) := by simp [apS]
theorem apS_21 (a b : Int) : apS 21 a b = tB (decide (a ≠ 0 ∧ b ≠ 0)) := by simp [apS]
theorem apS_22 (a b : Int) : apS 22 a b = tB (decide (a ≠ 0 ∨ b ≠ 0)) := by simp [apS]
theorem apS_no (op a b : Int) (h : op < 8 ∨ 22 < op) : apS op a b = 0 := by
  unfold apS
  iterate 15 rw [if_neg (by omega)]

set_option maxHeartbeats 400000 in
theorem truth_any (b : Bool) (w : World) : Calls Tryd.prog 31 #[.bool b] w fun e w' => e = .returned (.int .i64 (tB b)) ∧ w' = w := by
  cases b <;>
  · go_enter Tryd.func31, Tryd.ntmps31
    go_wp2
    go_ret
    exact ⟨rfl, rfl⟩

set_option maxHeartbeats 400000 in
theorem clo_8 (a b : Int) (w : World) : Calls Tryd.prog 29 #[.int .i64 a, .int .i64 b] w fun e w' => e = .returned (.int .i64 (apS 8 a b)) ∧ w' = w := by
  rw [apS_8]
  go_enter Tryd.func29, Tryd.ntmps29
  go_wp2
  go_ret
  exact ⟨rfl, rfl⟩

set_option maxHeartbeats 400000 in
theorem clo_9 (a b : Int) (w : World) : Calls Tryd.prog 30 #[.int .i64 a, .int .i64 b] w fun e w' => e = .returned (.int .i64 (apS 9 a b)) ∧ w' = w := by
  rw [apS_9]
  go_enter Tryd.func30, Tryd.ntmps30
  go_wp2_with (go_at_call 31; refine (truth_any _ _).mono ?_; rintro e w' ⟨rfl, rfl⟩)
  go_ret
  exact ⟨ret_int (by first | rfl | simp [bne, Bool.beq_eq_decide_eq]), rfl⟩

set_option maxHeartbeats 400000 in
theorem clo_10 (a b : Int) (w : World) : Calls Tryd.prog 32 #[.int .i64 a, .int .i64 b] w fun e w' => e = .returned (.int .i64 (apS 10 a b)) ∧ w' = w := by
  rw [apS_10]
  go_enter Tryd.func32, Tryd.ntmps32
  go_wp2
  go_ret
  exact ⟨rfl, rfl⟩

set_option maxHeartbeats 400000 in
theorem clo_11 (a b : Int) (w : World) : Calls Tryd.prog 33 #[.int .i64 a, .int .i64 b] w fun e w' => e = .returned (.int .i64 (apS 11 a b)) ∧ w' = w := by
  rw [apS_11]
  go_enter Tryd.func33, Tryd.ntmps33
  go_wp2
  go_ret
  exact ⟨rfl, rfl⟩

set_option maxHeartbeats 400000 in
theorem clo_12 (a b : Int) (w : World) : Calls Tryd.prog 34 #[.int .i64 a, .int .i64 b] w fun e w' => e = .returned (.int .i64 (apS 12 a b)) ∧ w' = w := by
  rw [apS_12]
  go_enter Tryd.func34, Tryd.ntmps34
  go_wp2
  go_ret
  exact ⟨rfl, rfl⟩

set_option maxHeartbeats 400000 in
theorem clo_13 (a b : Int) (w : World) : Calls Tryd.prog 35 #[.int .i64 a, .int .i64 b] w fun e w' => e = .returned (.int .i64 (apS 13 a b)) ∧ w' = w := by
  rw [apS_13]
  by_cases h : b = 0
  · subst h
    go_enter Tryd.func35, Tryd.ntmps35
    go_wp2
    go_ret
    exact ⟨rfl, rfl⟩
  · rw [if_neg h]
    have h' : (b == 0) = false := beq_eq_false_iff_ne.2 h
    go_enter Tryd.func35, Tryd.ntmps35
    go_wp2
    go_ret
    exact ⟨rfl, rfl⟩

set_option maxHeartbeats 400000 in
theorem clo_14 (a b : Int) (w : World) : Calls Tryd.prog 36 #[.int .i64 a, .int .i64 b] w fun e w' => e = .returned (.int .i64 (apS 14 a b)) ∧ w' = w := by
  rw [apS_14]
  by_cases h : b = 0
  · subst h
    go_enter Tryd.func36, Tryd.ntmps36
    go_wp2
    go_ret
    exact ⟨rfl, rfl⟩
  · rw [if_neg h]
    have h' : (b == 0) = false := beq_eq_false_iff_ne.2 h
    go_enter Tryd.func36, Tryd.ntmps36
    go_wp2
    go_ret
    exact ⟨rfl, rfl⟩

set_option maxHeartbeats 400000 in
theorem clo_15 (a b : Int) (w : World) : Calls Tryd.prog 37 #[.int .i64 a, .int .i64 b] w fun e w' => e = .returned (.int .i64 (apS 15 a b)) ∧ w' = w := by
  rw [apS_15]
  go_enter Tryd.func37, Tryd.ntmps37
  go_wp2_with (go_at_call 31; refine (truth_any _ _).mono ?_; rintro e w' ⟨rfl, rfl⟩)
  go_ret
  exact ⟨ret_int (by first | rfl | simp [bne, Bool.beq_eq_decide_eq]), rfl⟩

set_option maxHeartbeats 400000 in
theorem clo_16 (a b : Int) (w : World) : Calls Tryd.prog 38 #[.int .i64 a, .int .i64 b] w fun e w' => e = .returned (.int .i64 (apS 16 a b)) ∧ w' = w := by
  rw [apS_16]
  go_enter Tryd.func38, Tryd.ntmps38
  go_wp2_with (go_at_call 31; refine (truth_any _ _).mono ?_; rintro e w' ⟨rfl, rfl⟩)
  go_ret
  exact ⟨ret_int (by first | rfl | simp [bne, Bool.beq_eq_decide_eq]), rfl⟩

set_option maxHeartbeats 400000 in
theorem clo_17 (a b : Int) (w : World) : Calls Tryd.prog 39 #[.int .i64 a, .int .i64 b] w fun e w' => e = .returned (.int .i64 (apS 17 a b)) ∧ w' = w := by
  rw [apS_17]
  go_enter Tryd.func39, Tryd.ntmps39
  go_wp2_with (go_at_call 31; refine (truth_any _ _).mono ?_; rintro e w' ⟨rfl, rfl⟩)
  go_ret
  exact ⟨ret_int (by first | rfl | simp [bne, Bool.beq_eq_decide_eq]), rfl⟩

set_option maxHeartbeats 400000 in
theorem clo_18 (a b : Int) (w : World) : Calls Tryd.prog 40 #[.int .i64 a, .int .i64 b] w fun e w' => e = .returned (.int .i64 (apS 18 a b)) ∧ w' = w := by
  rw [apS_18]
  go_enter Tryd.func40, Tryd.ntmps40
  go_wp2_with (go_at_call 31; refine (truth_any _ _).mono ?_; rintro e w' ⟨rfl, rfl⟩)
  go_ret
  exact ⟨ret_int (by first | rfl | simp [bne, Bool.beq_eq_decide_eq]), rfl⟩

set_option maxHeartbeats 400000 in
theorem clo_19 (a b : Int) (w : World) : Calls Tryd.prog 41 #[.int .i64 a, .int .i64 b] w fun e w' => e = .returned (.int .i64 (apS 19 a b)) ∧ w' = w := by
  rw [apS_19]
  go_enter Tryd.func41, Tryd.ntmps41
  go_wp2_with (go_at_call 31; refine (truth_any _ _).mono ?_; rintro e w' ⟨rfl, rfl⟩)
  go_ret
  exact ⟨ret_int (by first | rfl | simp [bne, Bool.beq_eq_decide_eq]), rfl⟩

set_option maxHeartbeats 400000 in
theorem clo_20 (a b : Int) (w : World) : Calls Tryd.prog 42 #[.int .i64 a, .int .i64 b] w fun e w' => e = .returned (.int .i64 (apS 20 a b)) ∧ w' = w := by
  rw [apS_20]
  go_enter Tryd.func42, Tryd.ntmps42
  go_wp2_with (go_at_call 31; refine (truth_any _ _).mono ?_; rintro e w' ⟨rfl, rfl⟩)
  go_ret
  exact ⟨ret_int (by first | rfl | simp [bne, Bool.beq_eq_decide_eq]), rfl⟩

set_option maxHeartbeats 400000 in
theorem clo_21 (a b : Int) (w : World) : Calls Tryd.prog 43 #[.int .i64 a, .int .i64 b] w fun e w' => e = .returned (.int .i64 (apS 21 a b)) ∧ w' = w := by
  rw [apS_21]
  by_cases h1 : a = 0 <;> by_cases h2 : b = 0 <;>
  · go_enter Tryd.func43, Tryd.ntmps43
    go_wp2_with (go_at_call 31; refine (truth_any _ _).mono ?_; rintro e w' ⟨rfl, rfl⟩)
    go_ret
    exact ⟨ret_int (by simp [h1, h2, tB]), rfl⟩

set_option maxHeartbeats 400000 in
theorem clo_22 (a b : Int) (w : World) : Calls Tryd.prog 44 #[.int .i64 a, .int .i64 b] w fun e w' => e = .returned (.int .i64 (apS 22 a b)) ∧ w' = w := by
  rw [apS_22]
  by_cases h1 : a = 0 <;> by_cases h2 : b = 0 <;>
  · go_enter Tryd.func44, Tryd.ntmps44
    go_wp2_with (go_at_call 31; refine (truth_any _ _).mono ?_; rintro e w' ⟨rfl, rfl⟩)
    go_ret
    exact ⟨ret_int (by simp [h1, h2, tB]), rfl⟩
end Go.Proofs.YtocebddhllfhpaaDoor
