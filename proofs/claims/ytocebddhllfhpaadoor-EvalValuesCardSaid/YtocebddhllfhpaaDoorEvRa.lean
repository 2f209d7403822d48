/-
  What Apply of the document's answer returns: what Apply of package eval does. No conditions.
-/
import Derived.Test.YtocebddhllfhpaaDoorEvCl
namespace Go.Proofs.YtocebddhllfhpaaDoor
open Go.RowKit

set_option maxHeartbeats 400000 in
theorem rtruth_any (b : Bool) (w : World) : Calls Tryd.prog 28 #[.bool b] w fun e w' => e = .returned (.int .i64 (tB b)) ∧ w' = w := by
  cases b <;>
  · go_enter Tryd.func28, Tryd.ntmps28
    go_wp2
    go_ret
    exact ⟨rfl, rfl⟩

set_option maxHeartbeats 1000000 in
set_option maxRecDepth 100000 in
theorem rapply_8 (a b : Int) (w : World) : Calls Tryd.prog 25 #[.int .i64 8, .int .i64 a, .int .i64 b] w fun e w' => e = .returned (.int .i64 (apS 8 a b)) ∧ w' = w := by
  rw [apS_8]
  go_enter Tryd.func25, Tryd.ntmps25
  go_wp2
  go_ret
  exact ⟨rfl, rfl⟩

set_option maxHeartbeats 1000000 in
set_option maxRecDepth 100000 in
theorem rapply_9 (a b : Int) (w : World) : Calls Tryd.prog 25 #[.int .i64 9, .int .i64 a, .int .i64 b] w fun e w' => e = .returned (.int .i64 (apS 9 a b)) ∧ w' = w := by
  rw [apS_9]
  go_enter Tryd.func25, Tryd.ntmps25
  go_wp2_with (go_at_call 28; refine (rtruth_any _ _).mono ?_; rintro e w' ⟨rfl, rfl⟩)
  go_ret
  exact ⟨ret_int (by first | rfl | simp [bne, Bool.beq_eq_decide_eq]), rfl⟩

set_option maxHeartbeats 1000000 in
set_option maxRecDepth 100000 in
theorem rapply_10 (a b : Int) (w : World) : Calls Tryd.prog 25 #[.int .i64 10, .int .i64 a, .int .i64 b] w fun e w' => e = .returned (.int .i64 (apS 10 a b)) ∧ w' = w := by
  rw [apS_10]
  go_enter Tryd.func25, Tryd.ntmps25
  go_wp2
  go_ret
  exact ⟨rfl, rfl⟩

set_option maxHeartbeats 1000000 in
set_option maxRecDepth 100000 in
theorem rapply_11 (a b : Int) (w : World) : Calls Tryd.prog 25 #[.int .i64 11, .int .i64 a, .int .i64 b] w fun e w' => e = .returned (.int .i64 (apS 11 a b)) ∧ w' = w := by
  rw [apS_11]
  go_enter Tryd.func25, Tryd.ntmps25
  go_wp2
  go_ret
  exact ⟨rfl, rfl⟩

set_option maxHeartbeats 1000000 in
set_option maxRecDepth 100000 in
theorem rapply_12 (a b : Int) (w : World) : Calls Tryd.prog 25 #[.int .i64 12, .int .i64 a, .int .i64 b] w fun e w' => e = .returned (.int .i64 (apS 12 a b)) ∧ w' = w := by
  rw [apS_12]
  go_enter Tryd.func25, Tryd.ntmps25
  go_wp2
  go_ret
  exact ⟨rfl, rfl⟩

set_option maxHeartbeats 1000000 in
set_option maxRecDepth 100000 in
theorem rapply_13 (a b : Int) (w : World) : Calls Tryd.prog 25 #[.int .i64 13, .int .i64 a, .int .i64 b] w fun e w' => e = .returned (.int .i64 (apS 13 a b)) ∧ w' = w := by
  rw [apS_13]
  by_cases h : b = 0
  · subst h
    go_enter Tryd.func25, Tryd.ntmps25
    go_wp2
    go_ret
    exact ⟨rfl, rfl⟩
  · rw [if_neg h]
    have h' : (b == 0) = false := beq_eq_false_iff_ne.2 h
    by_cases h1 : b = -1
    · subst h1
      go_enter Tryd.func25, Tryd.ntmps25
      go_wp2
      go_ret
      exact ⟨ret_int (by simp), rfl⟩
    · have h1' : (b == -1) = false := beq_eq_false_iff_ne.2 h1
      go_enter Tryd.func25, Tryd.ntmps25
      go_wp2
      go_ret
      exact ⟨rfl, rfl⟩

set_option maxHeartbeats 1000000 in
set_option maxRecDepth 100000 in
theorem rapply_14 (a b : Int) (w : World) : Calls Tryd.prog 25 #[.int .i64 14, .int .i64 a, .int .i64 b] w fun e w' => e = .returned (.int .i64 (apS 14 a b)) ∧ w' = w := by
  rw [apS_14]
  by_cases h : b = 0
  · subst h
    go_enter Tryd.func25, Tryd.ntmps25
    go_wp2
    go_ret
    exact ⟨rfl, rfl⟩
  · rw [if_neg h]
    have h' : (b == 0) = false := beq_eq_false_iff_ne.2 h
    by_cases h1 : b = -1
    · subst h1
      go_enter Tryd.func25, Tryd.ntmps25
      go_wp2
      go_ret
      exact ⟨ret_int (by simp), rfl⟩
    · have h1' : (b == -1) = false := beq_eq_false_iff_ne.2 h1
      go_enter Tryd.func25, Tryd.ntmps25
      go_wp2
      go_ret
      exact ⟨rfl, rfl⟩

set_option maxHeartbeats 1000000 in
set_option maxRecDepth 100000 in
theorem rapply_15 (a b : Int) (w : World) : Calls Tryd.prog 25 #[.int .i64 15, .int .i64 a, .int .i64 b] w fun e w' => e = .returned (.int .i64 (apS 15 a b)) ∧ w' = w := by
  rw [apS_15]
  go_enter Tryd.func25, Tryd.ntmps25
  go_wp2_with (go_at_call 28; refine (rtruth_any _ _).mono ?_; rintro e w' ⟨rfl, rfl⟩)
  go_ret
  exact ⟨ret_int (by first | rfl | simp [bne, Bool.beq_eq_decide_eq]), rfl⟩

set_option maxHeartbeats 1000000 in
set_option maxRecDepth 100000 in
theorem rapply_16 (a b : Int) (w : World) : Calls Tryd.prog 25 #[.int .i64 16, .int .i64 a, .int .i64 b] w fun e w' => e = .returned (.int .i64 (apS 16 a b)) ∧ w' = w := by
  rw [apS_16]
  go_enter Tryd.func25, Tryd.ntmps25
  go_wp2_with (go_at_call 28; refine (rtruth_any _ _).mono ?_; rintro e w' ⟨rfl, rfl⟩)
  go_ret
  exact ⟨ret_int (by first | rfl | simp [bne, Bool.beq_eq_decide_eq]), rfl⟩

set_option maxHeartbeats 1000000 in
set_option maxRecDepth 100000 in
theorem rapply_17 (a b : Int) (w : World) : Calls Tryd.prog 25 #[.int .i64 17, .int .i64 a, .int .i64 b] w fun e w' => e = .returned (.int .i64 (apS 17 a b)) ∧ w' = w := by
  rw [apS_17]
  go_enter Tryd.func25, Tryd.ntmps25
  go_wp2_with (go_at_call 28; refine (rtruth_any _ _).mono ?_; rintro e w' ⟨rfl, rfl⟩)
  go_ret
  exact ⟨ret_int (by first | rfl | simp [bne, Bool.beq_eq_decide_eq]), rfl⟩

set_option maxHeartbeats 1000000 in
set_option maxRecDepth 100000 in
theorem rapply_18 (a b : Int) (w : World) : Calls Tryd.prog 25 #[.int .i64 18, .int .i64 a, .int .i64 b] w fun e w' => e = .returned (.int .i64 (apS 18 a b)) ∧ w' = w := by
  rw [apS_18]
  go_enter Tryd.func25, Tryd.ntmps25
  go_wp2_with (go_at_call 28; refine (rtruth_any _ _).mono ?_; rintro e w' ⟨rfl, rfl⟩)
  go_ret
  exact ⟨ret_int (by first | rfl | simp [bne, Bool.beq_eq_decide_eq]), rfl⟩

set_option maxHeartbeats 1000000 in
set_option maxRecDepth 100000 in
theorem rapply_19 (a b : Int) (w : World) : Calls Tryd.prog 25 #[.int .i64 19, .int .i64 a, .int .i64 b] w fun e w' => e = .returned (.int .i64 (apS 19 a b)) ∧ w' = w := by
  rw [apS_19]
  go_enter Tryd.func25, Tryd.ntmps25
  go_wp2_with (go_at_call 28; refine (rtruth_any _ _).mono ?_; rintro e w' ⟨rfl, rfl⟩)
  go_ret
  exact ⟨ret_int (by first | rfl | simp [bne, Bool.beq_eq_decide_eq]), rfl⟩

set_option maxHeartbeats 1000000 in
set_option maxRecDepth 100000 in
theorem rapply_20 (a b : Int) (w : World) : Calls Tryd.prog 25 #[.int .i64 20, .int .i64 a, .int .i64 b] w fun e w' => e = .returned (.int .i64 (apS 20 a b)) ∧ w' = w := by
  rw [apS_20]
  go_enter Tryd.func25, Tryd.ntmps25
  go_wp2_with (go_at_call 28; refine (rtruth_any _ _).mono ?_; rintro e w' ⟨rfl, rfl⟩)
  go_ret
  exact ⟨ret_int (by first | rfl | simp [bne, Bool.beq_eq_decide_eq]), rfl⟩

set_option maxHeartbeats 1000000 in
set_option maxRecDepth 100000 in
theorem rapply_21 (a b : Int) (w : World) : Calls Tryd.prog 25 #[.int .i64 21, .int .i64 a, .int .i64 b] w fun e w' => e = .returned (.int .i64 (apS 21 a b)) ∧ w' = w := by
  rw [apS_21]
  by_cases h1 : a = 0 <;> by_cases h2 : b = 0 <;>
  · go_enter Tryd.func25, Tryd.ntmps25
    go_wp2_with (go_at_call 28; refine (rtruth_any _ _).mono ?_; rintro e w' ⟨rfl, rfl⟩)
    go_ret
    exact ⟨ret_int (by simp [h1, h2, tB]), rfl⟩

set_option maxHeartbeats 1000000 in
set_option maxRecDepth 100000 in
theorem rapply_22 (a b : Int) (w : World) : Calls Tryd.prog 25 #[.int .i64 22, .int .i64 a, .int .i64 b] w fun e w' => e = .returned (.int .i64 (apS 22 a b)) ∧ w' = w := by
  rw [apS_22]
  by_cases h1 : a = 0 <;> by_cases h2 : b = 0 <;>
  · go_enter Tryd.func25, Tryd.ntmps25
    go_wp2_with (go_at_call 28; refine (rtruth_any _ _).mono ?_; rintro e w' ⟨rfl, rfl⟩)
    go_ret
    exact ⟨ret_int (by simp [h1, h2, tB]), rfl⟩

set_option maxHeartbeats 2000000 in
set_option maxRecDepth 100000 in
theorem rapply_out (op a b : Int) (h : op < 8 ∨ 22 < op) (w : World) : Calls Tryd.prog 25 #[.int .i64 op, .int .i64 a, .int .i64 b] w fun e w' => e = .returned (.int .i64 (apS op a b)) ∧ w' = w := by
  rw [apS_no _ _ _ h]
  have h8 : (op == 8) = false := beq_eq_false_iff_ne.2 (by omega)
  have h9 : (op == 9) = false := beq_eq_false_iff_ne.2 (by omega)
  have h10 : (op == 10) = false := beq_eq_false_iff_ne.2 (by omega)
  have h11 : (op == 11) = false := beq_eq_false_iff_ne.2 (by omega)
  have h12 : (op == 12) = false := beq_eq_false_iff_ne.2 (by omega)
  have h13 : (op == 13) = false := beq_eq_false_iff_ne.2 (by omega)
  have h14 : (op == 14) = false := beq_eq_false_iff_ne.2 (by omega)
  have h15 : (op == 15) = false := beq_eq_false_iff_ne.2 (by omega)
  have h16 : (op == 16) = false := beq_eq_false_iff_ne.2 (by omega)
  have h17 : (op == 17) = false := beq_eq_false_iff_ne.2 (by omega)
  have h18 : (op == 18) = false := beq_eq_false_iff_ne.2 (by omega)
  have h19 : (op == 19) = false := beq_eq_false_iff_ne.2 (by omega)
  have h20 : (op == 20) = false := beq_eq_false_iff_ne.2 (by omega)
  have h21 : (op == 21) = false := beq_eq_false_iff_ne.2 (by omega)
  have h22 : (op == 22) = false := beq_eq_false_iff_ne.2 (by omega)
  clear h
  go_enter Tryd.func25, Tryd.ntmps25
  go_wp2
  go_ret
  exact ⟨rfl, rfl⟩

/-- Apply of the answer, at every operator. -/
theorem rapply_any (op a b : Int) (w : World) : Calls Tryd.prog 25 #[.int .i64 op, .int .i64 a, .int .i64 b] w fun e w' => e = .returned (.int .i64 (apS op a b)) ∧ w' = w := by
  by_cases h : op < 8 ∨ 22 < op
  · exact rapply_out op a b h w
  · have h2 : op = 8 ∨ op = 9 ∨ op = 10 ∨ op = 11 ∨ op = 12 ∨ op = 13 ∨ op = 14 ∨ op = 15 ∨ op = 16 ∨ op = 17 ∨ op = 18 ∨ op = 19 ∨ op = 20 ∨ op = 21 ∨ op = 22 := by omega
    rcases h2 with rfl | rfl | rfl | rfl | rfl | rfl | rfl | rfl | rfl | rfl | rfl | rfl | rfl | rfl | rfl
    · exact rapply_8 a b w
    · exact rapply_9 a b w
    · exact rapply_10 a b w
    · exact rapply_11 a b w
    · exact rapply_12 a b w
    · exact rapply_13 a b w
    · exact rapply_14 a b w
    · exact rapply_15 a b w
    · exact rapply_16 a b w
    · exact rapply_17 a b w
    · exact rapply_18 a b w
    · exact rapply_19 a b w
    · exact rapply_20 a b w
    · exact rapply_21 a b w
    · exact rapply_22 a b w
end Go.Proofs.YtocebddhllfhpaaDoor
