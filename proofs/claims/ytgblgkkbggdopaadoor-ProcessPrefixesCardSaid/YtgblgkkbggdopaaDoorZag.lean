/-
  Texts of a walk, laid together by a program of the prover's own (merge.py). No conditions beyond those that each text names.
-/
import Derived.Test.YtgblgkkbggdopaaDoorZaf
/-
  What the functions in the table of operators of package eval return. No conditions.
-/
namespace Go.Proofs.YtgblgkkbggdopaaDoor
open Go.RowKit

/-- 1 for true and 0 for false. -/
def tB (b : Bool) : Int := if b then 1 else 0
/-- The result of an operator. -/
def apS (op a b : Int) : Int :=
  if op = 8 then wrap64 (-a) else
  if op = 9 then tB (decide (a = 0)) else
  if op = 10 then wrap64 (a + b) else
  if op = 11 then wrap64 (a - b) else
  if op = 12 then wrap64 (a * b) else
  if op = 13 then (if b = 0 then 0 else wrap64 (a.tdiv b)) else
  if op = 14 then (if b = 0 then 0 else a.tmod b) else
  if op = 15 then tB (decide (a < b)) else
  if op = 16 then tB (decide (a ≤ b)) else
  if op = 17 then tB (decide (b < a)) else
  if op = 18 then tB (decide (b ≤ a)) else
  if op = 19 then tB (decide (a = b)) else
  if op = 20 then tB (decide (a ≠ b)) else
  if op = 21 then tB (decide (a ≠ 0 ∧ b ≠ 0)) else
  if op = 22 then tB (decide (a ≠ 0 ∨ b ≠ 0)) else
  0

theorem apS_8 (a b : Int) : apS 8 a b = wrap64 (-a) := by simp [apS]
theorem apS_9 (a b : Int) : apS 9 a b = tB (decide (a = 0)) := by simp [apS]
theorem apS_10 (a b : Int) : apS 10 a b = wrap64 (a + b) := by simp [apS]
theorem apS_11 (a b : Int) : apS 11 a b = wrap64 (a - b) := by simp [apS]
theorem apS_12 (a b : Int) : apS 12 a b = wrap64 (a * b) := by simp [apS]
theorem apS_13 (a b : Int) : apS 13 a b = (if b = 0 then 0 else wrap64 (a.tdiv b)) := by simp [apS]
theorem apS_14 (a b : Int) : apS 14 a b = (if b = 0 then 0 else a.tmod b) := by simp [apS]
theorem apS_15 (a b : Int) : apS 15 a b = tB (decide (a < b)) := by simp [apS]
theorem apS_16 (a b : Int) : apS 16 a b = tB (decide (a ≤ b)) := by simp [apS]
theorem apS_17 (a b : Int) : apS 17 a b = tB (decide (b < a)) := by simp [apS]
theorem apS_18 (a b : Int) : apS 18 a b = tB (decide (b ≤ a)) := by simp [apS]
theorem apS_19 (a b : Int) : apS 19 a b = tB (decide (a = b)) := by simp [apS]
theorem apS_20 (a b : Int) : apS 20 a b = tB (decide (a ≠ b)) := by simp [apS]
theorem apS_21 (a b : Int) : apS 21 a b = tB (decide (a ≠ 0 ∧ b ≠ 0)) := by simp [apS]
theorem apS_22 (a b : Int) : apS 22 a b = tB (decide (a ≠ 0 ∨ b ≠ 0)) := by simp [apS]
theorem apS_no (op a b : Int) (h : op < 8 ∨ 22 < op) : apS op a b = 0 := by
  unfold apS
  iterate 15 rw [if_neg (by omega)]

set_option maxHeartbeats 400000 in
theorem truth_any (b : Bool) (w : World) : Calls Tryd.prog 107 #[.bool b] w fun e w' => e = .returned (.int .i64 (tB b)) ∧ w' = w := by
  cases b <;>
  · go_enter Tryd.func107, Tryd.ntmps107
    go_wp2
    go_ret
    exact ⟨rfl, rfl⟩

set_option maxHeartbeats 400000 in
theorem clo_8 (a b : Int) (w : World) : Calls Tryd.prog 105 #[.int .i64 a, .int .i64 b] w fun e w' => e = .returned (.int .i64 (apS 8 a b)) ∧ w' = w := by
  rw [apS_8]
  go_enter Tryd.func105, Tryd.ntmps105
  go_wp2
  go_ret
  exact ⟨rfl, rfl⟩

set_option maxHeartbeats 400000 in
theorem clo_9 (a b : Int) (w : World) : Calls Tryd.prog 106 #[.int .i64 a, .int .i64 b] w fun e w' => e = .returned (.int .i64 (apS 9 a b)) ∧ w' = w := by
  rw [apS_9]
  go_enter Tryd.func106, Tryd.ntmps106
  go_wp2_with (go_at_call 107; refine (truth_any _ _).mono ?_; rintro e w' ⟨rfl, rfl⟩)
  go_ret
  exact ⟨ret_int (by first | rfl | simp [bne, Bool.beq_eq_decide_eq]), rfl⟩

set_option maxHeartbeats 400000 in
theorem clo_10 (a b : Int) (w : World) : Calls Tryd.prog 108 #[.int .i64 a, .int .i64 b] w fun e w' => e = .returned (.int .i64 (apS 10 a b)) ∧ w' = w := by
  rw [apS_10]
  go_enter Tryd.func108, Tryd.ntmps108
  go_wp2
  go_ret
  exact ⟨rfl, rfl⟩

set_option maxHeartbeats 400000 in
theorem clo_11 (a b : Int) (w : World) : Calls Tryd.prog 109 #[.int .i64 a, .int .i64 b] w fun e w' => e = .returned (.int .i64 (apS 11 a b)) ∧ w' = w := by
  rw [apS_11]
  go_enter Tryd.func109, Tryd.ntmps109
  go_wp2
  go_ret
  exact ⟨rfl, rfl⟩

set_option maxHeartbeats 400000 in
theorem clo_12 (a b : Int) (w : World) : Calls Tryd.prog 110 #[.int .i64 a, .int .i64 b] w fun e w' => e = .returned (.int .i64 (apS 12 a b)) ∧ w' = w := by
  rw [apS_12]
  go_enter Tryd.func110, Tryd.ntmps110
  go_wp2
  go_ret
  exact ⟨rfl, rfl⟩

set_option maxHeartbeats 400000 in
theorem clo_13 (a b : Int) (w : World) : Calls Tryd.prog 111 #[.int .i64 a, .int .i64 b] w fun e w' => e = .returned (.int .i64 (apS 13 a b)) ∧ w' = w := by
  rw [apS_13]
  by_cases h : b = 0
  · subst h
    go_enter Tryd.func111, Tryd.ntmps111
    go_wp2
    go_ret
    exact ⟨rfl, rfl⟩
  · rw [if_neg h]
    have h' : (b == 0) = false := beq_eq_false_iff_ne.2 h
    go_enter Tryd.func111, Tryd.ntmps111
    go_wp2
    go_ret
    exact ⟨rfl, rfl⟩

set_option maxHeartbeats 400000 in
theorem clo_14 (a b : Int) (w : World) : Calls Tryd.prog 112 #[.int .i64 a, .int .i64 b] w fun e w' => e = .returned (.int .i64 (apS 14 a b)) ∧ w' = w := by
  rw [apS_14]
  by_cases h : b = 0
  · subst h
    go_enter Tryd.func112, Tryd.ntmps112
    go_wp2
    go_ret
    exact ⟨rfl, rfl⟩
  · rw [if_neg h]
    have h' : (b == 0) = false := beq_eq_false_iff_ne.2 h
    go_enter Tryd.func112, Tryd.ntmps112
    go_wp2
    go_ret
    exact ⟨rfl, rfl⟩

set_option maxHeartbeats 400000 in
theorem clo_15 (a b : Int) (w : World) : Calls Tryd.prog 113 #[.int .i64 a, .int .i64 b] w fun e w' => e = .returned (.int .i64 (apS 15 a b)) ∧ w' = w := by
  rw [apS_15]
  go_enter Tryd.func113, Tryd.ntmps113
  go_wp2_with (go_at_call 107; refine (truth_any _ _).mono ?_; rintro e w' ⟨rfl, rfl⟩)
  go_ret
  exact ⟨ret_int (by first | rfl | simp [bne, Bool.beq_eq_decide_eq]), rfl⟩

set_option maxHeartbeats 400000 in
theorem clo_16 (a b : Int) (w : World) : Calls Tryd.prog 114 #[.int .i64 a, .int .i64 b] w fun e w' => e = .returned (.int .i64 (apS 16 a b)) ∧ w' = w := by
  rw [apS_16]
  go_enter Tryd.func114, Tryd.ntmps114
  go_wp2_with (go_at_call 107; refine (truth_any _ _).mono ?_; rintro e w' ⟨rfl, rfl⟩)
  go_ret
  exact ⟨ret_int (by first | rfl | simp [bne, Bool.beq_eq_decide_eq]), rfl⟩

set_option maxHeartbeats 400000 in
theorem clo_17 (a b : Int) (w : World) : Calls Tryd.prog 115 #[.int .i64 a, .int .i64 b] w fun e w' => e = .returned (.int .i64 (apS 17 a b)) ∧ w' = w := by
  rw [apS_17]
  go_enter Tryd.func115, Tryd.ntmps115
  go_wp2_with (go_at_call 107; refine (truth_any _ _).mono ?_; rintro e w' ⟨rfl, rfl⟩)
  go_ret
  exact ⟨ret_int (by first | rfl | simp [bne, Bool.beq_eq_decide_eq]), rfl⟩

set_option maxHeartbeats 400000 in
theorem clo_18 (a b : Int) (w : World) : Calls Tryd.prog 116 #[.int .i64 a, .int .i64 b] w fun e w' => e = .returned (.int .i64 (apS 18 a b)) ∧ w' = w := by
  rw [apS_18]
  go_enter Tryd.func116, Tryd.ntmps116
  go_wp2_with (go_at_call 107; refine (truth_any _ _).mono ?_; rintro e w' ⟨rfl, rfl⟩)
  go_ret
  exact ⟨ret_int (by first | rfl | simp [bne, Bool.beq_eq_decide_eq]), rfl⟩

set_option maxHeartbeats 400000 in
theorem clo_19 (a b : Int) (w : World) : Calls Tryd.prog 117 #[.int .i64 a, .int .i64 b] w fun e w' => e = .returned (.int .i64 (apS 19 a b)) ∧ w' = w := by
  rw [apS_19]
  go_enter Tryd.func117, Tryd.ntmps117
  go_wp2_with (go_at_call 107; refine (truth_any _ _).mono ?_; rintro e w' ⟨rfl, rfl⟩)
  go_ret
  exact ⟨ret_int (by first | rfl | simp [bne, Bool.beq_eq_decide_eq]), rfl⟩

set_option maxHeartbeats 400000 in
theorem clo_20 (a b : Int) (w : World) : Calls Tryd.prog 118 #[.int .i64 a, .int .i64 b] w fun e w' => e = .returned (.int .i64 (apS 20 a b)) ∧ w' = w := by
  rw [apS_20]
  go_enter Tryd.func118, Tryd.ntmps118
  go_wp2_with (go_at_call 107; refine (truth_any _ _).mono ?_; rintro e w' ⟨rfl, rfl⟩)
  go_ret
  exact ⟨ret_int (by first | rfl | simp [bne, Bool.beq_eq_decide_eq]), rfl⟩

set_option maxHeartbeats 400000 in
theorem clo_21 (a b : Int) (w : World) : Calls Tryd.prog 119 #[.int .i64 a, .int .i64 b] w fun e w' => e = .returned (.int .i64 (apS 21 a b)) ∧ w' = w := by
  rw [apS_21]
  by_cases h1 : a = 0 <;> by_cases h2 : b = 0 <;>
  · go_enter Tryd.func119, Tryd.ntmps119
    go_wp2_with (go_at_call 107; refine (truth_any _ _).mono ?_; rintro e w' ⟨rfl, rfl⟩)
    go_ret
    exact ⟨ret_int (by simp [h1, h2, tB]), rfl⟩

set_option maxHeartbeats 400000 in
theorem clo_22 (a b : Int) (w : World) : Calls Tryd.prog 120 #[.int .i64 a, .int .i64 b] w fun e w' => e = .returned (.int .i64 (apS 22 a b)) ∧ w' = w := by
  rw [apS_22]
  by_cases h1 : a = 0 <;> by_cases h2 : b = 0 <;>
  · go_enter Tryd.func120, Tryd.ntmps120
    go_wp2_with (go_at_call 107; refine (truth_any _ _).mono ?_; rintro e w' ⟨rfl, rfl⟩)
    go_ret
    exact ⟨ret_int (by simp [h1, h2, tB]), rfl⟩
end Go.Proofs.YtgblgkkbggdopaaDoor

/-
  What Apply of package eval returns. No conditions.
-/
namespace Go.Proofs.YtgblgkkbggdopaaDoor
open Go.RowKit

theorem fn_nil (fn : Fn) (w : World) : (binOp .eql 46 (.func fn #[] #[]) .nilFunc).run Tryd.prog w = .ok (.bool false) w := by kernel_rfl
theorem nil_nil (w : World) : (binOp .eql 46 .nilFunc .nilFunc).run Tryd.prog w = .ok (.bool true) w := by kernel_rfl

set_option maxHeartbeats 1000000 in
set_option maxRecDepth 100000 in
theorem apply_0 (a b : Int) (w : World) : Calls Tryd.prog 103 #[.int .i64 0, .int .i64 a, .int .i64 b] w fun e w' => e = .returned (.int .i64 (apS 0 a b)) ∧ Below w.heap.size w w' := by
  rw [apS_no _ _ _ (by omega)]
  go_enter Tryd.func103, Tryd.ntmps103
  go_wp2_with fail
  refine (operators_any w).mono ?_
  rintro e w1 ⟨rfl, hb⟩
  have HB := Lib.hid hb
  clear hb
  go_upto_region 2 with (refine wpList_store_row rfl 146 _ _ rfl w1.heap.size opTab rfl rfl _ _ (new_blk w1 opZ) infoOp rfl opOne ?_)
  obtain ⟨w2, hw2⟩ : ∃ w2, (w1.alloc opZ).setRow w1.heap.size opTab = w2 := ⟨_, rfl⟩
  have hx : w2.heap[w1.heap.size]? = some (.cells opTab 146 (0, 0)) := hw2 ▸ setRow_same (new_blk w1 opZ)
  have hk2 : Below w.heap.size w w2 := by
    rw [← hw2]
    exact (Keep.below (R := w1.heap.size) (((Keep.of_below HB.out).alloc opZ).setRow HB.out.size _) (Nat.le_refl _) HB.out.size)
  have HK2 := Lib.hid hk2
  simp only [hw2]
  clear hw2 hk2
  have c : w2.cell? ⟨w1.heap.size, 0, none⟩ = some (.nilFunc) := by rw [Lib.cell_of_heap hx]; rfl
  clear hx
  have qf := nil_nil
  go_wp2_with fail
  go_ret
  exact ⟨rfl, HK2.out⟩

set_option maxHeartbeats 1000000 in
set_option maxRecDepth 100000 in
theorem apply_1 (a b : Int) (w : World) : Calls Tryd.prog 103 #[.int .i64 1, .int .i64 a, .int .i64 b] w fun e w' => e = .returned (.int .i64 (apS 1 a b)) ∧ Below w.heap.size w w' := by
  rw [apS_no _ _ _ (by omega)]
  go_enter Tryd.func103, Tryd.ntmps103
  go_wp2_with fail
  refine (operators_any w).mono ?_
  rintro e w1 ⟨rfl, hb⟩
  have HB := Lib.hid hb
  clear hb
  go_upto_region 2 with (refine wpList_store_row rfl 146 _ _ rfl w1.heap.size opTab rfl rfl _ _ (new_blk w1 opZ) infoOp rfl opOne ?_)
  obtain ⟨w2, hw2⟩ : ∃ w2, (w1.alloc opZ).setRow w1.heap.size opTab = w2 := ⟨_, rfl⟩
  have hx : w2.heap[w1.heap.size]? = some (.cells opTab 146 (0, 0)) := hw2 ▸ setRow_same (new_blk w1 opZ)
  have hk2 : Below w.heap.size w w2 := by
    rw [← hw2]
    exact (Keep.below (R := w1.heap.size) (((Keep.of_below HB.out).alloc opZ).setRow HB.out.size _) (Nat.le_refl _) HB.out.size)
  have HK2 := Lib.hid hk2
  simp only [hw2]
  clear hw2 hk2
  have c : w2.cell? ⟨w1.heap.size, 1, none⟩ = some (.nilFunc) := by rw [Lib.cell_of_heap hx]; rfl
  clear hx
  have qf := nil_nil
  go_wp2_with fail
  go_ret
  exact ⟨rfl, HK2.out⟩

set_option maxHeartbeats 1000000 in
set_option maxRecDepth 100000 in
theorem apply_2 (a b : Int) (w : World) : Calls Tryd.prog 103 #[.int .i64 2, .int .i64 a, .int .i64 b] w fun e w' => e = .returned (.int .i64 (apS 2 a b)) ∧ Below w.heap.size w w' := by
  rw [apS_no _ _ _ (by omega)]
  go_enter Tryd.func103, Tryd.ntmps103
  go_wp2_with fail
  refine (operators_any w).mono ?_
  rintro e w1 ⟨rfl, hb⟩
  have HB := Lib.hid hb
  clear hb
  go_upto_region 2 with (refine wpList_store_row rfl 146 _ _ rfl w1.heap.size opTab rfl rfl _ _ (new_blk w1 opZ) infoOp rfl opOne ?_)
  obtain ⟨w2, hw2⟩ : ∃ w2, (w1.alloc opZ).setRow w1.heap.size opTab = w2 := ⟨_, rfl⟩
  have hx : w2.heap[w1.heap.size]? = some (.cells opTab 146 (0, 0)) := hw2 ▸ setRow_same (new_blk w1 opZ)
  have hk2 : Below w.heap.size w w2 := by
    rw [← hw2]
    exact (Keep.below (R := w1.heap.size) (((Keep.of_below HB.out).alloc opZ).setRow HB.out.size _) (Nat.le_refl _) HB.out.size)
  have HK2 := Lib.hid hk2
  simp only [hw2]
  clear hw2 hk2
  have c : w2.cell? ⟨w1.heap.size, 2, none⟩ = some (.nilFunc) := by rw [Lib.cell_of_heap hx]; rfl
  clear hx
  have qf := nil_nil
  go_wp2_with fail
  go_ret
  exact ⟨rfl, HK2.out⟩

set_option maxHeartbeats 1000000 in
set_option maxRecDepth 100000 in
theorem apply_3 (a b : Int) (w : World) : Calls Tryd.prog 103 #[.int .i64 3, .int .i64 a, .int .i64 b] w fun e w' => e = .returned (.int .i64 (apS 3 a b)) ∧ Below w.heap.size w w' := by
  rw [apS_no _ _ _ (by omega)]
  go_enter Tryd.func103, Tryd.ntmps103
  go_wp2_with fail
  refine (operators_any w).mono ?_
  rintro e w1 ⟨rfl, hb⟩
  have HB := Lib.hid hb
  clear hb
  go_upto_region 2 with (refine wpList_store_row rfl 146 _ _ rfl w1.heap.size opTab rfl rfl _ _ (new_blk w1 opZ) infoOp rfl opOne ?_)
  obtain ⟨w2, hw2⟩ : ∃ w2, (w1.alloc opZ).setRow w1.heap.size opTab = w2 := ⟨_, rfl⟩
  have hx : w2.heap[w1.heap.size]? = some (.cells opTab 146 (0, 0)) := hw2 ▸ setRow_same (new_blk w1 opZ)
  have hk2 : Below w.heap.size w w2 := by
    rw [← hw2]
    exact (Keep.below (R := w1.heap.size) (((Keep.of_below HB.out).alloc opZ).setRow HB.out.size _) (Nat.le_refl _) HB.out.size)
  have HK2 := Lib.hid hk2
  simp only [hw2]
  clear hw2 hk2
  have c : w2.cell? ⟨w1.heap.size, 3, none⟩ = some (.nilFunc) := by rw [Lib.cell_of_heap hx]; rfl
  clear hx
  have qf := nil_nil
  go_wp2_with fail
  go_ret
  exact ⟨rfl, HK2.out⟩

set_option maxHeartbeats 1000000 in
set_option maxRecDepth 100000 in
theorem apply_4 (a b : Int) (w : World) : Calls Tryd.prog 103 #[.int .i64 4, .int .i64 a, .int .i64 b] w fun e w' => e = .returned (.int .i64 (apS 4 a b)) ∧ Below w.heap.size w w' := by
  rw [apS_no _ _ _ (by omega)]
  go_enter Tryd.func103, Tryd.ntmps103
  go_wp2_with fail
  refine (operators_any w).mono ?_
  rintro e w1 ⟨rfl, hb⟩
  have HB := Lib.hid hb
  clear hb
  go_upto_region 2 with (refine wpList_store_row rfl 146 _ _ rfl w1.heap.size opTab rfl rfl _ _ (new_blk w1 opZ) infoOp rfl opOne ?_)
  obtain ⟨w2, hw2⟩ : ∃ w2, (w1.alloc opZ).setRow w1.heap.size opTab = w2 := ⟨_, rfl⟩
  have hx : w2.heap[w1.heap.size]? = some (.cells opTab 146 (0, 0)) := hw2 ▸ setRow_same (new_blk w1 opZ)
  have hk2 : Below w.heap.size w w2 := by
    rw [← hw2]
    exact (Keep.below (R := w1.heap.size) (((Keep.of_below HB.out).alloc opZ).setRow HB.out.size _) (Nat.le_refl _) HB.out.size)
  have HK2 := Lib.hid hk2
  simp only [hw2]
  clear hw2 hk2
  have c : w2.cell? ⟨w1.heap.size, 4, none⟩ = some (.nilFunc) := by rw [Lib.cell_of_heap hx]; rfl
  clear hx
  have qf := nil_nil
  go_wp2_with fail
  go_ret
  exact ⟨rfl, HK2.out⟩

set_option maxHeartbeats 1000000 in
set_option maxRecDepth 100000 in
theorem apply_5 (a b : Int) (w : World) : Calls Tryd.prog 103 #[.int .i64 5, .int .i64 a, .int .i64 b] w fun e w' => e = .returned (.int .i64 (apS 5 a b)) ∧ Below w.heap.size w w' := by
  rw [apS_no _ _ _ (by omega)]
  go_enter Tryd.func103, Tryd.ntmps103
  go_wp2_with fail
  refine (operators_any w).mono ?_
  rintro e w1 ⟨rfl, hb⟩
  have HB := Lib.hid hb
  clear hb
  go_upto_region 2 with (refine wpList_store_row rfl 146 _ _ rfl w1.heap.size opTab rfl rfl _ _ (new_blk w1 opZ) infoOp rfl opOne ?_)
  obtain ⟨w2, hw2⟩ : ∃ w2, (w1.alloc opZ).setRow w1.heap.size opTab = w2 := ⟨_, rfl⟩
  have hx : w2.heap[w1.heap.size]? = some (.cells opTab 146 (0, 0)) := hw2 ▸ setRow_same (new_blk w1 opZ)
  have hk2 : Below w.heap.size w w2 := by
    rw [← hw2]
    exact (Keep.below (R := w1.heap.size) (((Keep.of_below HB.out).alloc opZ).setRow HB.out.size _) (Nat.le_refl _) HB.out.size)
  have HK2 := Lib.hid hk2
  simp only [hw2]
  clear hw2 hk2
  have c : w2.cell? ⟨w1.heap.size, 5, none⟩ = some (.nilFunc) := by rw [Lib.cell_of_heap hx]; rfl
  clear hx
  have qf := nil_nil
  go_wp2_with fail
  go_ret
  exact ⟨rfl, HK2.out⟩

set_option maxHeartbeats 1000000 in
set_option maxRecDepth 100000 in
theorem apply_6 (a b : Int) (w : World) : Calls Tryd.prog 103 #[.int .i64 6, .int .i64 a, .int .i64 b] w fun e w' => e = .returned (.int .i64 (apS 6 a b)) ∧ Below w.heap.size w w' := by
  rw [apS_no _ _ _ (by omega)]
  go_enter Tryd.func103, Tryd.ntmps103
  go_wp2_with fail
  refine (operators_any w).mono ?_
  rintro e w1 ⟨rfl, hb⟩
  have HB := Lib.hid hb
  clear hb
  go_upto_region 2 with (refine wpList_store_row rfl 146 _ _ rfl w1.heap.size opTab rfl rfl _ _ (new_blk w1 opZ) infoOp rfl opOne ?_)
  obtain ⟨w2, hw2⟩ : ∃ w2, (w1.alloc opZ).setRow w1.heap.size opTab = w2 := ⟨_, rfl⟩
  have hx : w2.heap[w1.heap.size]? = some (.cells opTab 146 (0, 0)) := hw2 ▸ setRow_same (new_blk w1 opZ)
  have hk2 : Below w.heap.size w w2 := by
    rw [← hw2]
    exact (Keep.below (R := w1.heap.size) (((Keep.of_below HB.out).alloc opZ).setRow HB.out.size _) (Nat.le_refl _) HB.out.size)
  have HK2 := Lib.hid hk2
  simp only [hw2]
  clear hw2 hk2
  have c : w2.cell? ⟨w1.heap.size, 6, none⟩ = some (.nilFunc) := by rw [Lib.cell_of_heap hx]; rfl
  clear hx
  have qf := nil_nil
  go_wp2_with fail
  go_ret
  exact ⟨rfl, HK2.out⟩

set_option maxHeartbeats 1000000 in
set_option maxRecDepth 100000 in
theorem apply_7 (a b : Int) (w : World) : Calls Tryd.prog 103 #[.int .i64 7, .int .i64 a, .int .i64 b] w fun e w' => e = .returned (.int .i64 (apS 7 a b)) ∧ Below w.heap.size w w' := by
  rw [apS_no _ _ _ (by omega)]
  go_enter Tryd.func103, Tryd.ntmps103
  go_wp2_with fail
  refine (operators_any w).mono ?_
  rintro e w1 ⟨rfl, hb⟩
  have HB := Lib.hid hb
  clear hb
  go_upto_region 2 with (refine wpList_store_row rfl 146 _ _ rfl w1.heap.size opTab rfl rfl _ _ (new_blk w1 opZ) infoOp rfl opOne ?_)
  obtain ⟨w2, hw2⟩ : ∃ w2, (w1.alloc opZ).setRow w1.heap.size opTab = w2 := ⟨_, rfl⟩
  have hx : w2.heap[w1.heap.size]? = some (.cells opTab 146 (0, 0)) := hw2 ▸ setRow_same (new_blk w1 opZ)
  have hk2 : Below w.heap.size w w2 := by
    rw [← hw2]
    exact (Keep.below (R := w1.heap.size) (((Keep.of_below HB.out).alloc opZ).setRow HB.out.size _) (Nat.le_refl _) HB.out.size)
  have HK2 := Lib.hid hk2
  simp only [hw2]
  clear hw2 hk2
  have c : w2.cell? ⟨w1.heap.size, 7, none⟩ = some (.nilFunc) := by rw [Lib.cell_of_heap hx]; rfl
  clear hx
  have qf := nil_nil
  go_wp2_with fail
  go_ret
  exact ⟨rfl, HK2.out⟩

set_option maxHeartbeats 1000000 in
set_option maxRecDepth 100000 in
theorem apply_8 (a b : Int) (w : World) : Calls Tryd.prog 103 #[.int .i64 8, .int .i64 a, .int .i64 b] w fun e w' => e = .returned (.int .i64 (apS 8 a b)) ∧ Below w.heap.size w w' := by
  obtain ⟨R, hR⟩ : ∃ R, apS 8 a b = R := ⟨_, rfl⟩
  have HC := Lib.hid (clo_8 a b)
  rw [hR] at HC ⊢
  clear hR
  go_enter Tryd.func103, Tryd.ntmps103
  go_wp2_with fail
  refine (operators_any w).mono ?_
  rintro e w1 ⟨rfl, hb⟩
  have HB := Lib.hid hb
  clear hb
  go_upto_region 2 with (refine wpList_store_row rfl 146 _ _ rfl w1.heap.size opTab rfl rfl _ _ (new_blk w1 opZ) infoOp rfl opOne ?_)
  obtain ⟨w2, hw2⟩ : ∃ w2, (w1.alloc opZ).setRow w1.heap.size opTab = w2 := ⟨_, rfl⟩
  have hx : w2.heap[w1.heap.size]? = some (.cells opTab 146 (0, 0)) := hw2 ▸ setRow_same (new_blk w1 opZ)
  have hk2 : Below w.heap.size w w2 := by
    rw [← hw2]
    exact (Keep.below (R := w1.heap.size) (((Keep.of_below HB.out).alloc opZ).setRow HB.out.size _) (Nat.le_refl _) HB.out.size)
  have HK2 := Lib.hid hk2
  simp only [hw2]
  clear hw2 hk2
  have c : w2.cell? ⟨w1.heap.size, 8, none⟩ = some (.func (.func 105) #[] #[]) := by rw [Lib.cell_of_heap hx]; rfl
  clear hx
  have qf := fn_nil
  go_wp2_with fail
  refine (HC.out _).mono ?_
  rintro e w3 ⟨rfl, rfl⟩
  go_wp2_with fail
  go_ret
  exact ⟨rfl, HK2.out⟩

set_option maxHeartbeats 1000000 in
set_option maxRecDepth 100000 in
theorem apply_9 (a b : Int) (w : World) : Calls Tryd.prog 103 #[.int .i64 9, .int .i64 a, .int .i64 b] w fun e w' => e = .returned (.int .i64 (apS 9 a b)) ∧ Below w.heap.size w w' := by
  obtain ⟨R, hR⟩ : ∃ R, apS 9 a b = R := ⟨_, rfl⟩
  have HC := Lib.hid (clo_9 a b)
  rw [hR] at HC ⊢
  clear hR
  go_enter Tryd.func103, Tryd.ntmps103
  go_wp2_with fail
  refine (operators_any w).mono ?_
  rintro e w1 ⟨rfl, hb⟩
  have HB := Lib.hid hb
  clear hb
  go_upto_region 2 with (refine wpList_store_row rfl 146 _ _ rfl w1.heap.size opTab rfl rfl _ _ (new_blk w1 opZ) infoOp rfl opOne ?_)
  obtain ⟨w2, hw2⟩ : ∃ w2, (w1.alloc opZ).setRow w1.heap.size opTab = w2 := ⟨_, rfl⟩
  have hx : w2.heap[w1.heap.size]? = some (.cells opTab 146 (0, 0)) := hw2 ▸ setRow_same (new_blk w1 opZ)
  have hk2 : Below w.heap.size w w2 := by
    rw [← hw2]
    exact (Keep.below (R := w1.heap.size) (((Keep.of_below HB.out).alloc opZ).setRow HB.out.size _) (Nat.le_refl _) HB.out.size)
  have HK2 := Lib.hid hk2
  simp only [hw2]
  clear hw2 hk2
  have c : w2.cell? ⟨w1.heap.size, 9, none⟩ = some (.func (.func 106) #[] #[]) := by rw [Lib.cell_of_heap hx]; rfl
  clear hx
  have qf := fn_nil
  go_wp2_with fail
  refine (HC.out _).mono ?_
  rintro e w3 ⟨rfl, rfl⟩
  go_wp2_with fail
  go_ret
  exact ⟨rfl, HK2.out⟩

set_option maxHeartbeats 1000000 in
set_option maxRecDepth 100000 in
theorem apply_10 (a b : Int) (w : World) : Calls Tryd.prog 103 #[.int .i64 10, .int .i64 a, .int .i64 b] w fun e w' => e = .returned (.int .i64 (apS 10 a b)) ∧ Below w.heap.size w w' := by
  obtain ⟨R, hR⟩ : ∃ R, apS 10 a b = R := ⟨_, rfl⟩
  have HC := Lib.hid (clo_10 a b)
  rw [hR] at HC ⊢
  clear hR
  go_enter Tryd.func103, Tryd.ntmps103
  go_wp2_with fail
  refine (operators_any w).mono ?_
  rintro e w1 ⟨rfl, hb⟩
  have HB := Lib.hid hb
  clear hb
  go_upto_region 2 with (refine wpList_store_row rfl 146 _ _ rfl w1.heap.size opTab rfl rfl _ _ (new_blk w1 opZ) infoOp rfl opOne ?_)
  obtain ⟨w2, hw2⟩ : ∃ w2, (w1.alloc opZ).setRow w1.heap.size opTab = w2 := ⟨_, rfl⟩
  have hx : w2.heap[w1.heap.size]? = some (.cells opTab 146 (0, 0)) := hw2 ▸ setRow_same (new_blk w1 opZ)
  have hk2 : Below w.heap.size w w2 := by
    rw [← hw2]
    exact (Keep.below (R := w1.heap.size) (((Keep.of_below HB.out).alloc opZ).setRow HB.out.size _) (Nat.le_refl _) HB.out.size)
  have HK2 := Lib.hid hk2
  simp only [hw2]
  clear hw2 hk2
  have c : w2.cell? ⟨w1.heap.size, 10, none⟩ = some (.func (.func 108) #[] #[]) := by rw [Lib.cell_of_heap hx]; rfl
  clear hx
  have qf := fn_nil
  go_wp2_with fail
  refine (HC.out _).mono ?_
  rintro e w3 ⟨rfl, rfl⟩
  go_wp2_with fail
  go_ret
  exact ⟨rfl, HK2.out⟩

set_option maxHeartbeats 1000000 in
set_option maxRecDepth 100000 in
theorem apply_11 (a b : Int) (w : World) : Calls Tryd.prog 103 #[.int .i64 11, .int .i64 a, .int .i64 b] w fun e w' => e = .returned (.int .i64 (apS 11 a b)) ∧ Below w.heap.size w w' := by
  obtain ⟨R, hR⟩ : ∃ R, apS 11 a b = R := ⟨_, rfl⟩
  have HC := Lib.hid (clo_11 a b)
  rw [hR] at HC ⊢
  clear hR
  go_enter Tryd.func103, Tryd.ntmps103
  go_wp2_with fail
  refine (operators_any w).mono ?_
  rintro e w1 ⟨rfl, hb⟩
  have HB := Lib.hid hb
  clear hb
  go_upto_region 2 with (refine wpList_store_row rfl 146 _ _ rfl w1.heap.size opTab rfl rfl _ _ (new_blk w1 opZ) infoOp rfl opOne ?_)
  obtain ⟨w2, hw2⟩ : ∃ w2, (w1.alloc opZ).setRow w1.heap.size opTab = w2 := ⟨_, rfl⟩
  have hx : w2.heap[w1.heap.size]? = some (.cells opTab 146 (0, 0)) := hw2 ▸ setRow_same (new_blk w1 opZ)
  have hk2 : Below w.heap.size w w2 := by
    rw [← hw2]
    exact (Keep.below (R := w1.heap.size) (((Keep.of_below HB.out).alloc opZ).setRow HB.out.size _) (Nat.le_refl _) HB.out.size)
  have HK2 := Lib.hid hk2
  simp only [hw2]
  clear hw2 hk2
  have c : w2.cell? ⟨w1.heap.size, 11, none⟩ = some (.func (.func 109) #[] #[]) := by rw [Lib.cell_of_heap hx]; rfl
  clear hx
  have qf := fn_nil
  go_wp2_with fail
  refine (HC.out _).mono ?_
  rintro e w3 ⟨rfl, rfl⟩
  go_wp2_with fail
  go_ret
  exact ⟨rfl, HK2.out⟩

set_option maxHeartbeats 1000000 in
set_option maxRecDepth 100000 in
theorem apply_12 (a b : Int) (w : World) : Calls Tryd.prog 103 #[.int .i64 12, .int .i64 a, .int .i64 b] w fun e w' => e = .returned (.int .i64 (apS 12 a b)) ∧ Below w.heap.size w w' := by
  obtain ⟨R, hR⟩ : ∃ R, apS 12 a b = R := ⟨_, rfl⟩
  have HC := Lib.hid (clo_12 a b)
  rw [hR] at HC ⊢
  clear hR
  go_enter Tryd.func103, Tryd.ntmps103
  go_wp2_with fail
  refine (operators_any w).mono ?_
  rintro e w1 ⟨rfl, hb⟩
  have HB := Lib.hid hb
  clear hb
  go_upto_region 2 with (refine wpList_store_row rfl 146 _ _ rfl w1.heap.size opTab rfl rfl _ _ (new_blk w1 opZ) infoOp rfl opOne ?_)
  obtain ⟨w2, hw2⟩ : ∃ w2, (w1.alloc opZ).setRow w1.heap.size opTab = w2 := ⟨_, rfl⟩
  have hx : w2.heap[w1.heap.size]? = some (.cells opTab 146 (0, 0)) := hw2 ▸ setRow_same (new_blk w1 opZ)
  have hk2 : Below w.heap.size w w2 := by
    rw [← hw2]
    exact (Keep.below (R := w1.heap.size) (((Keep.of_below HB.out).alloc opZ).setRow HB.out.size _) (Nat.le_refl _) HB.out.size)
  have HK2 := Lib.hid hk2
  simp only [hw2]
  clear hw2 hk2
  have c : w2.cell? ⟨w1.heap.size, 12, none⟩ = some (.func (.func 110) #[] #[]) := by rw [Lib.cell_of_heap hx]; rfl
  clear hx
  have qf := fn_nil
  go_wp2_with fail
  refine (HC.out _).mono ?_
  rintro e w3 ⟨rfl, rfl⟩
  go_wp2_with fail
  go_ret
  exact ⟨rfl, HK2.out⟩

set_option maxHeartbeats 1000000 in
set_option maxRecDepth 100000 in
theorem apply_13 (a b : Int) (w : World) : Calls Tryd.prog 103 #[.int .i64 13, .int .i64 a, .int .i64 b] w fun e w' => e = .returned (.int .i64 (apS 13 a b)) ∧ Below w.heap.size w w' := by
  obtain ⟨R, hR⟩ : ∃ R, apS 13 a b = R := ⟨_, rfl⟩
  have HC := Lib.hid (clo_13 a b)
  rw [hR] at HC ⊢
  clear hR
  go_enter Tryd.func103, Tryd.ntmps103
  go_wp2_with fail
  refine (operators_any w).mono ?_
  rintro e w1 ⟨rfl, hb⟩
  have HB := Lib.hid hb
  clear hb
  go_upto_region 2 with (refine wpList_store_row rfl 146 _ _ rfl w1.heap.size opTab rfl rfl _ _ (new_blk w1 opZ) infoOp rfl opOne ?_)
  obtain ⟨w2, hw2⟩ : ∃ w2, (w1.alloc opZ).setRow w1.heap.size opTab = w2 := ⟨_, rfl⟩
  have hx : w2.heap[w1.heap.size]? = some (.cells opTab 146 (0, 0)) := hw2 ▸ setRow_same (new_blk w1 opZ)
  have hk2 : Below w.heap.size w w2 := by
    rw [← hw2]
    exact (Keep.below (R := w1.heap.size) (((Keep.of_below HB.out).alloc opZ).setRow HB.out.size _) (Nat.le_refl _) HB.out.size)
  have HK2 := Lib.hid hk2
  simp only [hw2]
  clear hw2 hk2
  have c : w2.cell? ⟨w1.heap.size, 13, none⟩ = some (.func (.func 111) #[] #[]) := by rw [Lib.cell_of_heap hx]; rfl
  clear hx
  have qf := fn_nil
  go_wp2_with fail
  refine (HC.out _).mono ?_
  rintro e w3 ⟨rfl, rfl⟩
  go_wp2_with fail
  go_ret
  exact ⟨rfl, HK2.out⟩

set_option maxHeartbeats 1000000 in
set_option maxRecDepth 100000 in
theorem apply_14 (a b : Int) (w : World) : Calls Tryd.prog 103 #[.int .i64 14, .int .i64 a, .int .i64 b] w fun e w' => e = .returned (.int .i64 (apS 14 a b)) ∧ Below w.heap.size w w' := by
  obtain ⟨R, hR⟩ : ∃ R, apS 14 a b = R := ⟨_, rfl⟩
  have HC := Lib.hid (clo_14 a b)
  rw [hR] at HC ⊢
  clear hR
  go_enter Tryd.func103, Tryd.ntmps103
  go_wp2_with fail
  refine (operators_any w).mono ?_
  rintro e w1 ⟨rfl, hb⟩
  have HB := Lib.hid hb
  clear hb
  go_upto_region 2 with (refine wpList_store_row rfl 146 _ _ rfl w1.heap.size opTab rfl rfl _ _ (new_blk w1 opZ) infoOp rfl opOne ?_)
  obtain ⟨w2, hw2⟩ : ∃ w2, (w1.alloc opZ).setRow w1.heap.size opTab = w2 := ⟨_, rfl⟩
  have hx : w2.heap[w1.heap.size]? = some (.cells opTab 146 (0, 0)) := hw2 ▸ setRow_same (new_blk w1 opZ)
  have hk2 : Below w.heap.size w w2 := by
    rw [← hw2]
    exact (Keep.below (R := w1.heap.size) (((Keep.of_below HB.out).alloc opZ).setRow HB.out.size _) (Nat.le_refl _) HB.out.size)
  have HK2 := Lib.hid hk2
  simp only [hw2]
  clear hw2 hk2
  have c : w2.cell? ⟨w1.heap.size, 14, none⟩ = some (.func (.func 112) #[] #[]) := by rw [Lib.cell_of_heap hx]; rfl
  clear hx
  have qf := fn_nil
  go_wp2_with fail
  refine (HC.out _).mono ?_
  rintro e w3 ⟨rfl, rfl⟩
  go_wp2_with fail
  go_ret
  exact ⟨rfl, HK2.out⟩

set_option maxHeartbeats 1000000 in
set_option maxRecDepth 100000 in
theorem apply_15 (a b : Int) (w : World) : Calls Tryd.prog 103 #[.int .i64 15, .int .i64 a, .int .i64 b] w fun e w' => e = .returned (.int .i64 (apS 15 a b)) ∧ Below w.heap.size w w' := by
  obtain ⟨R, hR⟩ : ∃ R, apS 15 a b = R := ⟨_, rfl⟩
  have HC := Lib.hid (clo_15 a b)
  rw [hR] at HC ⊢
  clear hR
  go_enter Tryd.func103, Tryd.ntmps103
  go_wp2_with fail
  refine (operators_any w).mono ?_
  rintro e w1 ⟨rfl, hb⟩
  have HB := Lib.hid hb
  clear hb
  go_upto_region 2 with (refine wpList_store_row rfl 146 _ _ rfl w1.heap.size opTab rfl rfl _ _ (new_blk w1 opZ) infoOp rfl opOne ?_)
  obtain ⟨w2, hw2⟩ : ∃ w2, (w1.alloc opZ).setRow w1.heap.size opTab = w2 := ⟨_, rfl⟩
  have hx : w2.heap[w1.heap.size]? = some (.cells opTab 146 (0, 0)) := hw2 ▸ setRow_same (new_blk w1 opZ)
  have hk2 : Below w.heap.size w w2 := by
    rw [← hw2]
    exact (Keep.below (R := w1.heap.size) (((Keep.of_below HB.out).alloc opZ).setRow HB.out.size _) (Nat.le_refl _) HB.out.size)
  have HK2 := Lib.hid hk2
  simp only [hw2]
  clear hw2 hk2
  have c : w2.cell? ⟨w1.heap.size, 15, none⟩ = some (.func (.func 113) #[] #[]) := by rw [Lib.cell_of_heap hx]; rfl
  clear hx
  have qf := fn_nil
  go_wp2_with fail
  refine (HC.out _).mono ?_
  rintro e w3 ⟨rfl, rfl⟩
  go_wp2_with fail
  go_ret
  exact ⟨rfl, HK2.out⟩

set_option maxHeartbeats 1000000 in
set_option maxRecDepth 100000 in
theorem apply_16 (a b : Int) (w : World) : Calls Tryd.prog 103 #[.int .i64 16, .int .i64 a, .int .i64 b] w fun e w' => e = .returned (.int .i64 (apS 16 a b)) ∧ Below w.heap.size w w' := by
  obtain ⟨R, hR⟩ : ∃ R, apS 16 a b = R := ⟨_, rfl⟩
  have HC := Lib.hid (clo_16 a b)
  rw [hR] at HC ⊢
  clear hR
  go_enter Tryd.func103, Tryd.ntmps103
  go_wp2_with fail
  refine (operators_any w).mono ?_
  rintro e w1 ⟨rfl, hb⟩
  have HB := Lib.hid hb
  clear hb
  go_upto_region 2 with (refine wpList_store_row rfl 146 _ _ rfl w1.heap.size opTab rfl rfl _ _ (new_blk w1 opZ) infoOp rfl opOne ?_)
  obtain ⟨w2, hw2⟩ : ∃ w2, (w1.alloc opZ).setRow w1.heap.size opTab = w2 := ⟨_, rfl⟩
  have hx : w2.heap[w1.heap.size]? = some (.cells opTab 146 (0, 0)) := hw2 ▸ setRow_same (new_blk w1 opZ)
  have hk2 : Below w.heap.size w w2 := by
    rw [← hw2]
    exact (Keep.below (R := w1.heap.size) (((Keep.of_below HB.out).alloc opZ).setRow HB.out.size _) (Nat.le_refl _) HB.out.size)
  have HK2 := Lib.hid hk2
  simp only [hw2]
  clear hw2 hk2
  have c : w2.cell? ⟨w1.heap.size, 16, none⟩ = some (.func (.func 114) #[] #[]) := by rw [Lib.cell_of_heap hx]; rfl
  clear hx
  have qf := fn_nil
  go_wp2_with fail
  refine (HC.out _).mono ?_
  rintro e w3 ⟨rfl, rfl⟩
  go_wp2_with fail
  go_ret
  exact ⟨rfl, HK2.out⟩

set_option maxHeartbeats 1000000 in
set_option maxRecDepth 100000 in
theorem apply_17 (a b : Int) (w : World) : Calls Tryd.prog 103 #[.int .i64 17, .int .i64 a, .int .i64 b] w fun e w' => e = .returned (.int .i64 (apS 17 a b)) ∧ Below w.heap.size w w' := by
  obtain ⟨R, hR⟩ : ∃ R, apS 17 a b = R := ⟨_, rfl⟩
  have HC := Lib.hid (clo_17 a b)
  rw [hR] at HC ⊢
  clear hR
  go_enter Tryd.func103, Tryd.ntmps103
  go_wp2_with fail
  refine (operators_any w).mono ?_
  rintro e w1 ⟨rfl, hb⟩
  have HB := Lib.hid hb
  clear hb
  go_upto_region 2 with (refine wpList_store_row rfl 146 _ _ rfl w1.heap.size opTab rfl rfl _ _ (new_blk w1 opZ) infoOp rfl opOne ?_)
  obtain ⟨w2, hw2⟩ : ∃ w2, (w1.alloc opZ).setRow w1.heap.size opTab = w2 := ⟨_, rfl⟩
  have hx : w2.heap[w1.heap.size]? = some (.cells opTab 146 (0, 0)) := hw2 ▸ setRow_same (new_blk w1 opZ)
  have hk2 : Below w.heap.size w w2 := by
    rw [← hw2]
    exact (Keep.below (R := w1.heap.size) (((Keep.of_below HB.out).alloc opZ).setRow HB.out.size _) (Nat.le_refl _) HB.out.size)
  have HK2 := Lib.hid hk2
  simp only [hw2]
  clear hw2 hk2
  have c : w2.cell? ⟨w1.heap.size, 17, none⟩ = some (.func (.func 115) #[] #[]) := by rw [Lib.cell_of_heap hx]; rfl
  clear hx
  have qf := fn_nil
  go_wp2_with fail
  refine (HC.out _).mono ?_
  rintro e w3 ⟨rfl, rfl⟩
  go_wp2_with fail
  go_ret
  exact ⟨rfl, HK2.out⟩

set_option maxHeartbeats 1000000 in
set_option maxRecDepth 100000 in
theorem apply_18 (a b : Int) (w : World) : Calls Tryd.prog 103 #[.int .i64 18, .int .i64 a, .int .i64 b] w fun e w' => e = .returned (.int .i64 (apS 18 a b)) ∧ Below w.heap.size w w' := by
  obtain ⟨R, hR⟩ : ∃ R, apS 18 a b = R := ⟨_, rfl⟩
  have HC := Lib.hid (clo_18 a b)
  rw [hR] at HC ⊢
  clear hR
  go_enter Tryd.func103, Tryd.ntmps103
  go_wp2_with fail
  refine (operators_any w).mono ?_
  rintro e w1 ⟨rfl, hb⟩
  have HB := Lib.hid hb
  clear hb
  go_upto_region 2 with (refine wpList_store_row rfl 146 _ _ rfl w1.heap.size opTab rfl rfl _ _ (new_blk w1 opZ) infoOp rfl opOne ?_)
  obtain ⟨w2, hw2⟩ : ∃ w2, (w1.alloc opZ).setRow w1.heap.size opTab = w2 := ⟨_, rfl⟩
  have hx : w2.heap[w1.heap.size]? = some (.cells opTab 146 (0, 0)) := hw2 ▸ setRow_same (new_blk w1 opZ)
  have hk2 : Below w.heap.size w w2 := by
    rw [← hw2]
    exact (Keep.below (R := w1.heap.size) (((Keep.of_below HB.out).alloc opZ).setRow HB.out.size _) (Nat.le_refl _) HB.out.size)
  have HK2 := Lib.hid hk2
  simp only [hw2]
  clear hw2 hk2
  have c : w2.cell? ⟨w1.heap.size, 18, none⟩ = some (.func (.func 116) #[] #[]) := by rw [Lib.cell_of_heap hx]; rfl
  clear hx
  have qf := fn_nil
  go_wp2_with fail
  refine (HC.out _).mono ?_
  rintro e w3 ⟨rfl, rfl⟩
  go_wp2_with fail
  go_ret
  exact ⟨rfl, HK2.out⟩

set_option maxHeartbeats 1000000 in
set_option maxRecDepth 100000 in
theorem apply_19 (a b : Int) (w : World) : Calls Tryd.prog 103 #[.int .i64 19, .int .i64 a, .int .i64 b] w fun e w' => e = .returned (.int .i64 (apS 19 a b)) ∧ Below w.heap.size w w' := by
  obtain ⟨R, hR⟩ : ∃ R, apS 19 a b = R := ⟨_, rfl⟩
  have HC := Lib.hid (clo_19 a b)
  rw [hR] at HC ⊢
  clear hR
  go_enter Tryd.func103, Tryd.ntmps103
  go_wp2_with fail
  refine (operators_any w).mono ?_
  rintro e w1 ⟨rfl, hb⟩
  have HB := Lib.hid hb
  clear hb
  go_upto_region 2 with (refine wpList_store_row rfl 146 _ _ rfl w1.heap.size opTab rfl rfl _ _ (new_blk w1 opZ) infoOp rfl opOne ?_)
  obtain ⟨w2, hw2⟩ : ∃ w2, (w1.alloc opZ).setRow w1.heap.size opTab = w2 := ⟨_, rfl⟩
  have hx : w2.heap[w1.heap.size]? = some (.cells opTab 146 (0, 0)) := hw2 ▸ setRow_same (new_blk w1 opZ)
  have hk2 : Below w.heap.size w w2 := by
    rw [← hw2]
    exact (Keep.below (R := w1.heap.size) (((Keep.of_below HB.out).alloc opZ).setRow HB.out.size _) (Nat.le_refl _) HB.out.size)
  have HK2 := Lib.hid hk2
  simp only [hw2]
  clear hw2 hk2
  have c : w2.cell? ⟨w1.heap.size, 19, none⟩ = some (.func (.func 117) #[] #[]) := by rw [Lib.cell_of_heap hx]; rfl
  clear hx
  have qf := fn_nil
  go_wp2_with fail
  refine (HC.out _).mono ?_
  rintro e w3 ⟨rfl, rfl⟩
  go_wp2_with fail
  go_ret
  exact ⟨rfl, HK2.out⟩

set_option maxHeartbeats 1000000 in
set_option maxRecDepth 100000 in
theorem apply_20 (a b : Int) (w : World) : Calls Tryd.prog 103 #[.int .i64 20, .int .i64 a, .int .i64 b] w fun e w' => e = .returned (.int .i64 (apS 20 a b)) ∧ Below w.heap.size w w' := by
  obtain ⟨R, hR⟩ : ∃ R, apS 20 a b = R := ⟨_, rfl⟩
  have HC := Lib.hid (clo_20 a b)
  rw [hR] at HC ⊢
  clear hR
  go_enter Tryd.func103, Tryd.ntmps103
  go_wp2_with fail
  refine (operators_any w).mono ?_
  rintro e w1 ⟨rfl, hb⟩
  have HB := Lib.hid hb
  clear hb
  go_upto_region 2 with (refine wpList_store_row rfl 146 _ _ rfl w1.heap.size opTab rfl rfl _ _ (new_blk w1 opZ) infoOp rfl opOne ?_)
  obtain ⟨w2, hw2⟩ : ∃ w2, (w1.alloc opZ).setRow w1.heap.size opTab = w2 := ⟨_, rfl⟩
  have hx : w2.heap[w1.heap.size]? = some (.cells opTab 146 (0, 0)) := hw2 ▸ setRow_same (new_blk w1 opZ)
  have hk2 : Below w.heap.size w w2 := by
    rw [← hw2]
    exact (Keep.below (R := w1.heap.size) (((Keep.of_below HB.out).alloc opZ).setRow HB.out.size _) (Nat.le_refl _) HB.out.size)
  have HK2 := Lib.hid hk2
  simp only [hw2]
  clear hw2 hk2
  have c : w2.cell? ⟨w1.heap.size, 20, none⟩ = some (.func (.func 118) #[] #[]) := by rw [Lib.cell_of_heap hx]; rfl
  clear hx
  have qf := fn_nil
  go_wp2_with fail
  refine (HC.out _).mono ?_
  rintro e w3 ⟨rfl, rfl⟩
  go_wp2_with fail
  go_ret
  exact ⟨rfl, HK2.out⟩

set_option maxHeartbeats 1000000 in
set_option maxRecDepth 100000 in
theorem apply_21 (a b : Int) (w : World) : Calls Tryd.prog 103 #[.int .i64 21, .int .i64 a, .int .i64 b] w fun e w' => e = .returned (.int .i64 (apS 21 a b)) ∧ Below w.heap.size w w' := by
  obtain ⟨R, hR⟩ : ∃ R, apS 21 a b = R := ⟨_, rfl⟩
  have HC := Lib.hid (clo_21 a b)
  rw [hR] at HC ⊢
  clear hR
  go_enter Tryd.func103, Tryd.ntmps103
  go_wp2_with fail
  refine (operators_any w).mono ?_
  rintro e w1 ⟨rfl, hb⟩
  have HB := Lib.hid hb
  clear hb
  go_upto_region 2 with (refine wpList_store_row rfl 146 _ _ rfl w1.heap.size opTab rfl rfl _ _ (new_blk w1 opZ) infoOp rfl opOne ?_)
  obtain ⟨w2, hw2⟩ : ∃ w2, (w1.alloc opZ).setRow w1.heap.size opTab = w2 := ⟨_, rfl⟩
  have hx : w2.heap[w1.heap.size]? = some (.cells opTab 146 (0, 0)) := hw2 ▸ setRow_same (new_blk w1 opZ)
  have hk2 : Below w.heap.size w w2 := by
    rw [← hw2]
    exact (Keep.below (R := w1.heap.size) (((Keep.of_below HB.out).alloc opZ).setRow HB.out.size _) (Nat.le_refl _) HB.out.size)
  have HK2 := Lib.hid hk2
  simp only [hw2]
  clear hw2 hk2
  have c : w2.cell? ⟨w1.heap.size, 21, none⟩ = some (.func (.func 119) #[] #[]) := by rw [Lib.cell_of_heap hx]; rfl
  clear hx
  have qf := fn_nil
  go_wp2_with fail
  refine (HC.out _).mono ?_
  rintro e w3 ⟨rfl, rfl⟩
  go_wp2_with fail
  go_ret
  exact ⟨rfl, HK2.out⟩

set_option maxHeartbeats 1000000 in
set_option maxRecDepth 100000 in
theorem apply_22 (a b : Int) (w : World) : Calls Tryd.prog 103 #[.int .i64 22, .int .i64 a, .int .i64 b] w fun e w' => e = .returned (.int .i64 (apS 22 a b)) ∧ Below w.heap.size w w' := by
  obtain ⟨R, hR⟩ : ∃ R, apS 22 a b = R := ⟨_, rfl⟩
  have HC := Lib.hid (clo_22 a b)
  rw [hR] at HC ⊢
  clear hR
  go_enter Tryd.func103, Tryd.ntmps103
  go_wp2_with fail
  refine (operators_any w).mono ?_
  rintro e w1 ⟨rfl, hb⟩
  have HB := Lib.hid hb
  clear hb
  go_upto_region 2 with (refine wpList_store_row rfl 146 _ _ rfl w1.heap.size opTab rfl rfl _ _ (new_blk w1 opZ) infoOp rfl opOne ?_)
  obtain ⟨w2, hw2⟩ : ∃ w2, (w1.alloc opZ).setRow w1.heap.size opTab = w2 := ⟨_, rfl⟩
  have hx : w2.heap[w1.heap.size]? = some (.cells opTab 146 (0, 0)) := hw2 ▸ setRow_same (new_blk w1 opZ)
  have hk2 : Below w.heap.size w w2 := by
    rw [← hw2]
    exact (Keep.below (R := w1.heap.size) (((Keep.of_below HB.out).alloc opZ).setRow HB.out.size _) (Nat.le_refl _) HB.out.size)
  have HK2 := Lib.hid hk2
  simp only [hw2]
  clear hw2 hk2
  have c : w2.cell? ⟨w1.heap.size, 22, none⟩ = some (.func (.func 120) #[] #[]) := by rw [Lib.cell_of_heap hx]; rfl
  clear hx
  have qf := fn_nil
  go_wp2_with fail
  refine (HC.out _).mono ?_
  rintro e w3 ⟨rfl, rfl⟩
  go_wp2_with fail
  go_ret
  exact ⟨rfl, HK2.out⟩

set_option maxHeartbeats 1000000 in
set_option maxRecDepth 100000 in
theorem apply_out (op a b : Int) (h : op < 0 ∨ 23 ≤ op) (w : World) : Calls Tryd.prog 103 #[.int .i64 op, .int .i64 a, .int .i64 b] w fun e w' => e = .returned (.int .i64 (apS op a b)) ∧ Below w.heap.size w w' := by
  rw [apS_no _ _ _ (by omega)]
  rcases h with h | h <;>
  · go_enter Tryd.func103, Tryd.ntmps103
    go_wp2_with fail
    refine (operators_any w).mono ?_
    rintro e w1 ⟨rfl, hb⟩
    have HB := Lib.hid hb
    clear hb
    go_upto_region 2 with (refine wpList_store_row rfl 146 _ _ rfl w1.heap.size opTab rfl rfl _ _ (new_blk w1 opZ) infoOp rfl opOne ?_)
    obtain ⟨w2, hw2⟩ : ∃ w2, (w1.alloc opZ).setRow w1.heap.size opTab = w2 := ⟨_, rfl⟩
    have hx : w2.heap[w1.heap.size]? = some (.cells opTab 146 (0, 0)) := hw2 ▸ setRow_same (new_blk w1 opZ)
    have hk2 : Below w.heap.size w w2 := by
      rw [← hw2]
      exact (Keep.below (R := w1.heap.size) (((Keep.of_below HB.out).alloc opZ).setRow HB.out.size _) (Nat.le_refl _) HB.out.size)
    have HK2 := Lib.hid hk2
    simp only [hw2]
    clear hw2 hk2
    clear hx
    go_wp2_with fail
    go_ret
    exact ⟨rfl, HK2.out⟩

/-- Apply, at every operator. -/
theorem apply_any (op a b : Int) (w : World) : Calls Tryd.prog 103 #[.int .i64 op, .int .i64 a, .int .i64 b] w fun e w' => e = .returned (.int .i64 (apS op a b)) ∧ Below w.heap.size w w' := by
  by_cases h : op < 0 ∨ 23 ≤ op
  · exact apply_out op a b h w
  · have h2 : op = 0 ∨ op = 1 ∨ op = 2 ∨ op = 3 ∨ op = 4 ∨ op = 5 ∨ op = 6 ∨ op = 7 ∨ op = 8 ∨ op = 9 ∨ op = 10 ∨ op = 11 ∨ op = 12 ∨ op = 13 ∨ op = 14 ∨ op = 15 ∨ op = 16 ∨ op = 17 ∨ op = 18 ∨ op = 19 ∨ op = 20 ∨ op = 21 ∨ op = 22 := by omega
    rcases h2 with rfl | rfl | rfl | rfl | rfl | rfl | rfl | rfl | rfl | rfl | rfl | rfl | rfl | rfl | rfl | rfl | rfl | rfl | rfl | rfl | rfl | rfl | rfl
    · exact apply_0 a b w
    · exact apply_1 a b w
    · exact apply_2 a b w
    · exact apply_3 a b w
    · exact apply_4 a b w
    · exact apply_5 a b w
    · exact apply_6 a b w
    · exact apply_7 a b w
    · exact apply_8 a b w
    · exact apply_9 a b w
    · exact apply_10 a b w
    · exact apply_11 a b w
    · exact apply_12 a b w
    · exact apply_13 a b w
    · exact apply_14 a b w
    · exact apply_15 a b w
    · exact apply_16 a b w
    · exact apply_17 a b w
    · exact apply_18 a b w
    · exact apply_19 a b w
    · exact apply_20 a b w
    · exact apply_21 a b w
    · exact apply_22 a b w
end Go.Proofs.YtgblgkkbggdopaaDoor

/-
  The value of an expression, and what cell and element of package eval return. Condition: the list of cells has at most 2^63 - 1 cells.
-/
namespace Go.Proofs.YtgblgkkbggdopaaDoor
open Go.RowKit

/-- What a process sees. -/
structure En where
  self : Int
  procs : Int
  src : Int
  value : Int
abbrev enV (v : En) : Value := .agg #[.int .i64 v.self, .int .i64 v.procs, .int .i64 v.src, .int .i64 v.value]

/-- The cell n, 0 if there is none. -/
def celS (zs : List Int) (n : Int) : Int := if n < 0 ∨ (zs.length : Int) ≤ n then 0 else zs.getD n.toNat 0
/-- The cell i of an array, 0 if there is none. -/
def elmS (zs : List Int) (slot size i : Int) : Int := if i < 0 ∨ size ≤ i then 0 else celS zs (wrap64 (slot + i))
mutual
/-- The value of an expression. -/
def valS (zs : List Int) (v : En) : Ex → Int
  | .mk op value _ slot size args =>
    if op = 1 then value else if op = 2 then celS zs slot else if op = 3 then elmS zs slot size (argS zs v args 0) else
    if op = 4 then v.self else if op = 5 then v.procs else if op = 6 then v.src else if op = 7 then v.value else apS op (argS zs v args 0) (argS zs v args 1)
def argS (zs : List Int) (v : En) : List Ex → Nat → Int
  | [], _ => 0
  | e :: _, 0 => valS zs v e
  | _ :: r, n + 1 => argS zs v r n
end
theorem argS_at (zs : List Int) (v : En) : ∀ (l : List Ex) (i : Nat) (e : Ex), l[i]? = some e → argS zs v l i = valS zs v e
  | [], _, _, h => by simp at h
  | x :: r, 0, e, h => by
    simp only [List.getElem?_cons_zero, Option.some.injEq] at h
    subst h
    simp only [argS]
  | x :: r, n + 1, e, h => by
    simp only [List.getElem?_cons_succ] at h
    simp only [argS]
    exact argS_at zs v r n e h
theorem argS_no (zs : List Int) (v : En) : ∀ (l : List Ex) (i : Nat), l.length ≤ i → argS zs v l i = 0
  | [], _, _ => by simp only [argS]
  | x :: r, 0, h => by simp at h
  | x :: r, n + 1, h => by
    simp only [argS]
    exact argS_no zs v r n (by simpa using h)

/-- A list of cells that a slice reads as. -/
def ZsAt (w : World) (zs : List Int) (A : Option Addr) (n : Nat) : Prop :=
  n = zs.length ∧ n ≤ 9223372036854775807 ∧ (0 < n → ∃ b o, A = some ⟨b, o, none⟩ ∧ ∀ i, i < n → w.cell? ⟨b, o + i, none⟩ = some (.int .i64 (zs.getD i 0)))
theorem ZsAt.below {w w' : World} {zs : List Int} {A : Option Addr} {n : Nat} (h : ZsAt w zs A n) (hb : Below w.heap.size w w') : ZsAt w' zs A n := by
  obtain ⟨h1, h2, h3⟩ := h
  refine ⟨h1, h2, fun h0 => ?_⟩
  obtain ⟨b, o, hA, hi⟩ := h3 h0
  exact ⟨b, o, hA, fun i hin => (hb.cell (p := ⟨b, _, none⟩) (World.block_lt_of_cell? w _ (hi i hin))).trans (hi i hin)⟩

set_option maxHeartbeats 400000 in
set_option maxRecDepth 100000 in
theorem cell_any (zs : List Int) (A : Option Addr) (n c : Nat) (k : Int) (w : World) (h : ZsAt w zs A n) : Calls Tryd.prog 100 #[.slice A n c, .int .i64 k] w fun e w' => e = .returned (.int .i64 (celS zs k)) ∧ w' = w := by
  obtain ⟨h1, h2, h3⟩ := h
  unfold celS
  rw [← h1]
  by_cases hk : k < 0
  · rw [if_pos (.inl hk)]
    go_enter Tryd.func100, Tryd.ntmps100
    go_wp2
    go_ret
    exact ⟨rfl, rfl⟩
  · by_cases hn : (n : Int) ≤ k
    · rw [if_pos (.inr hn)]
      go_enter Tryd.func100, Tryd.ntmps100
      go_wp2
      go_ret
      exact ⟨rfl, rfl⟩
    · rw [if_neg (by omega)]
      obtain ⟨j, rfl⟩ := Int.eq_ofNat_of_zero_le (show 0 ≤ k by omega)
      obtain ⟨b, o, rfl, hi⟩ := h3 (by omega)
      have c := hi j (by omega)
      have hj : (j : Int) < (n : Int) := by omega
      obtain ⟨z, hz⟩ : ∃ z, zs.getD j 0 = z := ⟨_, rfl⟩
      rw [hz] at c
      have HZ := Lib.hid hz
      clear hi h3 hk hn hz h1
      go_enter Tryd.func100, Tryd.ntmps100
      go_wp2
      go_ret
      exact ⟨ret_int (by rw [Int.toNat_natCast]; exact HZ.out.symm), rfl⟩

set_option maxHeartbeats 1000000 in
set_option maxRecDepth 100000 in
theorem element_any (zs : List Int) (A : Option Addr) (n c : Nat) (a0 a1 : Int) (s : ByteArray) (slot size : Int) (a5 : Value) (i : Int) (w : World) (h : ZsAt w zs A n) :
    Calls Tryd.prog 101 #[.agg #[.int .i64 a0, .int .i64 a1, .string s, .int .i64 slot, .int .i64 size, a5], .int .i64 i, .slice A n c] w fun e w' => e = .returned (.int .i64 (elmS zs slot size i)) ∧ Below w.heap.size w w' := by
  unfold elmS
  have hb := rp_one1 w (.cells #[.int .i64 a0, .int .i64 a1, .string s, .int .i64 slot, .int .i64 size, a5] 92)
  have HB := Lib.hid hb
  have HZ := Lib.hid (h.below hb)
  clear h hb
  by_cases hk : i < 0
  · rw [if_pos (.inl hk)]
    go_enter Tryd.func101, Tryd.ntmps101
    go_wp2
    go_ret
    exact ⟨rfl, HB.out⟩
  · by_cases hn : size ≤ i
    · rw [if_pos (.inr hn)]
      go_enter Tryd.func101, Tryd.ntmps101
      go_wp2
      go_ret
      exact ⟨rfl, HB.out⟩
    · rw [if_neg (by omega)]
      obtain ⟨R, hR⟩ : ∃ R, celS zs (wrap64 (slot + i)) = R := ⟨_, rfl⟩
      have HC := Lib.hid (cell_any zs A n c (wrap64 (slot + i)) _ HZ.out)
      rw [hR] at HC ⊢
      clear hR
      go_enter Tryd.func101, Tryd.ntmps101
      go_wp2_with fail
      refine HC.out.mono ?_
      rintro e w3 ⟨rfl, rfl⟩
      go_wp2
      go_ret
      exact ⟨rfl, HB.out⟩
end Go.Proofs.YtgblgkkbggdopaaDoor

/-
  What Value and operand of package eval return. Conditions: an expression has at most 100000 parts; the list of cells has at most 2^63 - 1 cells.
-/
namespace Go.Proofs.YtgblgkkbggdopaaDoor
open Go.RowKit

theorem box4 {w : World} {n : Nat} {a0 a1 a2 a3 : Value} {T : TypeId} {fr : Nat × Nat} (h : w.heap[n]? = some (.cells #[a0, a1, a2, a3] T fr)) :
    w.cell? ⟨n, 0, none⟩ = some a0 ∧ w.cell? ⟨n, 1, none⟩ = some a1 ∧ w.cell? ⟨n, 2, none⟩ = some a2 ∧ w.cell? ⟨n, 3, none⟩ = some a3 :=
  ⟨by rw [Lib.cell_of_heap h]; rfl, by rw [Lib.cell_of_heap h]; rfl, by rw [Lib.cell_of_heap h]; rfl, by rw [Lib.cell_of_heap h]; rfl⟩

/-- What a call of Value returns, for expressions of at most n parts. -/
def VlC (zs : List Int) (v : En) (n : Nat) : Prop := ∀ (e : Ex), e.big ≤ n → ∀ (S : Nat → Prop) (w : World) (a b : Int) (s : ByteArray) (c d : Int) (A : Option Addr) (l q : Nat) (Z : Option Addr) (zn zc : Nat), ExL S w e [.int .i64 a, .int .i64 b, .string s, .int .i64 c, .int .i64 d, .slice A l q] → ZsAt w zs Z zn →
    Calls Tryd.prog 98 #[.agg #[.int .i64 a, .int .i64 b, .string s, .int .i64 c, .int .i64 d, .slice A l q], .slice Z zn zc, enV v] w fun e' w' => e' = .returned (.int .i64 (valS zs v e)) ∧ Below w.heap.size w w'

/-- The blocks of an expression and of what a process sees, as operand and Value lay them. -/
structure Two (w0 wc : World) (n : Nat) (cs : List Value) (v : En) : Prop where
  b : Below n w0 wc
  x : wc.heap[n]? = some (.cells cs.toArray 92 (0, 0))
  y : wc.heap[n + 1]? = some (.cells #[.int .i64 v.self, .int .i64 v.procs, .int .i64 v.src, .int .i64 v.value] 81 (0, 0))
theorem Two.below {w0 w w' : World} {n : Nat} {cs : List Value} {v : En} (h : Two w0 w n cs v) (hb : Below w.heap.size w w') : Two w0 w' n cs v := by
  have h1 := lt_of_block h.x
  exact ⟨h.b.trans (hb.mono (by omega)), below_blk hb h.x, below_blk hb h.y⟩
theorem two_new (w : World) (cs : List Value) (v : En) : Two w ((w.alloc (.cells cs.toArray 92)).alloc (.cells #[.int .i64 v.self, .int .i64 v.procs, .int .i64 v.src, .int .i64 v.value] 81)) w.heap.size cs v :=
  ⟨((Below.refl _ _).alloc (Nat.le_refl _) _).alloc (by rw [new_size]; omega) _, (alloc_blk _ _ (by rw [new_size]; omega)).trans (new_blk w _), new_blk1 w _ _⟩

/-- The operands of an expression. -/
def Ex.args : Ex → List Ex | .mk _ _ _ _ _ l => l

set_option maxHeartbeats 2000000 in
set_option maxRecDepth 100000 in
theorem operand_of (zs : List Int) (v : En) (n : Nat) (ih : VlC zs v n) (e : Ex) (he : e.big ≤ n + 1) (i : Nat) (S : Nat → Prop) (w : World) (a b : Int) (s : ByteArray) (c d : Int) (A : Option Addr) (l q : Nat) (Z : Option Addr) (zn zc : Nat)
    (hl : ExL S w e [.int .i64 a, .int .i64 b, .string s, .int .i64 c, .int .i64 d, .slice A l q]) (hz : ZsAt w zs Z zn) :
    Calls Tryd.prog 102 #[.agg #[.int .i64 a, .int .i64 b, .string s, .int .i64 c, .int .i64 d, .slice A l q], .int .i64 i, .slice Z zn zc, enV v] w fun e' w' => e' = .returned (.int .i64 (argS zs v e.args i)) ∧ Below w.heap.size w w' := by
  cases e with
  | mk op value name slot size args =>
  simp only [Ex.big] at he
  simp only [Ex.args]
  simp only [ExL] at hl
  obtain ⟨A', c', e1, hc, hr⟩ := hl
  simp only [exCells, List.cons.injEq, Value.slice.injEq, and_true] at e1
  obtain ⟨_, _, _, _, _, rfl, rfl, rfl⟩ := e1
  have hT := two_new w [.int .i64 a, .int .i64 b, .string s, .int .i64 c, .int .i64 d, .slice A args.length q] v
  obtain ⟨m, hm⟩ : ∃ x, args.length = x := ⟨_, rfl⟩
  have HM := Lib.hid hm
  rw [hm] at hT ⊢
  obtain ⟨W, hW⟩ : ∃ W, (w.alloc (.cells [Value.int .i64 a, .int .i64 b, .string s, .int .i64 c, .int .i64 d, .slice A m q].toArray 92)).alloc (.cells #[.int .i64 v.self, .int .i64 v.procs, .int .i64 v.src, .int .i64 v.value] 81) = W := ⟨_, rfl⟩
  rw [hW] at hT
  have HT := Lib.hid hT
  have HR := Lib.hid hr
  have HZ := Lib.hid hz
  obtain ⟨x0, x1, x2, x3, x4, x5, _⟩ := box6 (show W.heap[w.heap.size]? = some (.cells #[.int .i64 a, .int .i64 b, .string s, .int .i64 c, .int .i64 d, .slice A m q] 92 (0, 0)) from hT.x)
  obtain ⟨y0, y1, y2, y3⟩ := box4 hT.y
  obtain ⟨V, hV⟩ : ∃ V, argS zs v args i = V := ⟨_, rfl⟩
  have HV := Lib.hid hV
  rw [hV]
  clear hr hz hT hV hm
  by_cases hi : m ≤ i
  · have hi' : (m : Int) ≤ (i : Int) := by omega
    have h0 : Hid (V = 0) := by rw [← HV.out]; exact argS_no zs v args i (by rw [HM.out]; exact hi)
    clear hi
    go_enter Tryd.func102, Tryd.ntmps102
    go_upto_region 1 with fail
    clear hW
    go_wp2_with fail
    go_ret
    exact ⟨ret_int h0.out.symm, HT.out.b⟩
  · have hlt : i < m := by omega
    have hlt' : (i : Int) < (m : Int) := by omega
    obtain ⟨e1, he1⟩ : ∃ e1, args[i]? = some e1 := ⟨_, List.getElem?_eq_getElem (by have := HM.out; omega)⟩
    have hbg := Ex.big_at args i e1 he1
    have HE : Hid (valS zs v e1 = V) := by rw [← HV.out]; exact (argS_at zs v args i e1 he1).symm
    obtain ⟨bb, o, rfl, hS, hrow⟩ := HR.out (fun e => by have := HM.out; rw [e] at this; simp at this; omega)
    obtain ⟨cs, hcs, hex⟩ := ExRow.get args bb o i e1 hrow he1
    obtain ⟨a1, b1, s1, c1, d1, A1, l1, q1, rfl⟩ := hex.plain
    have hbb : bb < w.heap.size := hcs.lt
    have hw : ∀ j u, w.cell? ⟨bb, j, none⟩ = some u → W.cell? ⟨bb, j, none⟩ = some u := fun j u hu => (HT.out.b.cell (p := ⟨bb, j, none⟩) hbb).trans hu
    have z0 := hw _ _ (hcs 0 _ rfl)
    have z1 := hw _ _ (hcs 1 _ rfl)
    have z2 := hw _ _ (hcs 2 _ rfl)
    have z3 := hw _ _ (hcs 3 _ rfl)
    have z4 := hw _ _ (hcs 4 _ rfl)
    have z5 := hw _ _ (hcs 5 _ rfl)
    rw [Nat.add_zero] at z0
    have HC : Hid (∀ W', Below W.heap.size W W' → Calls Tryd.prog 98 #[.agg #[.int .i64 a1, .int .i64 b1, .string s1, .int .i64 c1, .int .i64 d1, .slice A1 l1 q1], .slice Z zn zc, enV v] W' fun e' w' => e' = .returned (.int .i64 V) ∧ Below W'.heap.size W' w') := fun W' hb => by
      have hww := HT.out.b.trans (hb.mono HT.out.b.size)
      have := ih e1 (by omega) S W' a1 b1 s1 c1 d1 A1 l1 q1 Z zn zc (ExL.still (fun k hk1 hk2 => ⟨hk1, hww.block k hk2⟩) e1 _ hex) (HZ.out.below hww)
      rwa [HE.out] at this
    clear hi hw hcs hrow he1 hex hbg he hc
    go_enter Tryd.func102, Tryd.ntmps102
    go_upto_region 3 with fail
    clear hW
    go_still_tail 7, (by kernel_rfl)
    go_wp2_with fail
    refine (HC.out _ (below_drew1 _)).mono ?_
    rintro e' w2 ⟨rfl, hb⟩
    go_wp2_with fail
    go_ret
    exact ⟨rfl, HT.out.b.trans ((below_drew1 W).trans (hb.mono (show w.heap.size ≤ W.heap.size from HT.out.b.size)))⟩
end Go.Proofs.YtgblgkkbggdopaaDoor

/-
  What Value of package eval returns. Condition: the list of cells has at most 2^63 - 1 cells.
-/
namespace Go.Proofs.YtgblgkkbggdopaaDoor
open Go.RowKit

/-- The cells of the two blocks that Value lays. -/
def VaS (w : World) (op value : Int) (s : ByteArray) (slot size : Int) (A : Option Addr) (m q : Nat) (self procs src va : Int) (wc : World) : Prop := Below w.heap.size w wc ∧ wc.cell? ⟨w.heap.size, 0, none⟩ = some (.int .i64 op) ∧ wc.cell? ⟨w.heap.size, 1, none⟩ = some (.int .i64 value) ∧ wc.cell? ⟨w.heap.size, 2, none⟩ = some (.string s) ∧ wc.cell? ⟨w.heap.size, 3, none⟩ = some (.int .i64 slot) ∧ wc.cell? ⟨w.heap.size, 4, none⟩ = some (.int .i64 size) ∧ wc.cell? ⟨w.heap.size, 5, none⟩ = some (.slice A m q) ∧ wc.cell? ⟨w.heap.size + 1, 0, none⟩ = some (.int .i64 self) ∧ wc.cell? ⟨w.heap.size + 1, 1, none⟩ = some (.int .i64 procs) ∧ wc.cell? ⟨w.heap.size + 1, 2, none⟩ = some (.int .i64 src) ∧ wc.cell? ⟨w.heap.size + 1, 3, none⟩ = some (.int .i64 va)

theorem vas_two {w wc : World} {op value : Int} {s : ByteArray} {slot size : Int} {A : Option Addr} {m q : Nat} {v : En} (h : Two w wc w.heap.size [.int .i64 op, .int .i64 value, .string s, .int .i64 slot, .int .i64 size, .slice A m q] v) : VaS w op value s slot size A m q v.self v.procs v.src v.value wc := by
  obtain ⟨x0, x1, x2, x3, x4, x5, _⟩ := box6 (show wc.heap[w.heap.size]? = some (.cells #[.int .i64 op, .int .i64 value, .string s, .int .i64 slot, .int .i64 size, .slice A m q] 92 (0, 0)) from h.x)
  obtain ⟨y0, y1, y2, y3⟩ := box4 h.y
  exact ⟨h.b, x0, x1, x2, x3, x4, x5, y0, y1, y2, y3⟩
theorem vas_drew {w wc : World} {op value : Int} {s : ByteArray} {slot size : Int} {A : Option Addr} {m q : Nat} {self procs src va : Int} (h : VaS w op value s slot size A m q self procs src va wc) : VaS w op value s slot size A m q self procs src va wc.drew := by
  obtain ⟨b, r0, r1, r2, r3, r4, r5, r6, r7, r8, r9⟩ := h
  exact ⟨b.drew, r0, r1, r2, r3, r4, r5, r6, r7, r8, r9⟩
theorem vas_below {w wc w' : World} {op value : Int} {s : ByteArray} {slot size : Int} {A : Option Addr} {m q : Nat} {self procs src va : Int} (h : VaS w op value s slot size A m q self procs src va wc) (hb : Below wc.heap.size wc w') : VaS w op value s slot size A m q self procs src va w' := by
  obtain ⟨b, r0, r1, r2, r3, r4, r5, r6, r7, r8, r9⟩ := h
  have hl : ∀ (p : Addr) u, wc.cell? p = some u → w'.cell? p = some u := fun p u hu => (hb.cell (p := p) (World.block_lt_of_cell? wc _ hu)).trans hu
  exact ⟨b.trans (hb.mono b.size), hl _ _ r0, hl _ _ r1, hl _ _ r2, hl _ _ r3, hl _ _ r4, hl _ _ r5, hl _ _ r6, hl _ _ r7, hl _ _ r8, hl _ _ r9⟩

set_option maxHeartbeats 8000000 in
set_option maxRecDepth 100000 in
theorem value_step (zs : List Int) (v : En) (n : Nat) (ih : VlC zs v n) : VlC zs v (n + 1) := by
  intro e he S w a b s c d A l q Z zn zc hl hz
  have hop := fun i w' h1 h2 => operand_of zs v n ih e he i S w' a b s c d A l q Z zn zc h1 h2
  cases e with
  | mk op value name slot size args =>
  have hl0 := hl
  simp only [Ex.args] at hop
  simp only [ExL] at hl
  obtain ⟨A', c', e1, hc, hr⟩ := hl
  simp only [exCells, List.cons.injEq, Value.slice.injEq, and_true] at e1
  obtain ⟨e1, e2, e3, e4, e5, rfl, rfl, rfl⟩ := e1
  injection e1 with _ e1
  injection e2 with _ e2
  injection e3 with e3
  injection e4 with _ e4
  injection e5 with _ e5
  subst e1 e2 e3 e4 e5
  simp only [valS]
  obtain ⟨m, hm⟩ : ∃ x, args.length = x := ⟨_, rfl⟩
  rw [hm] at hl0 hop ⊢
  obtain ⟨V0, hV0⟩ : ∃ x, argS zs v args 0 = x := ⟨_, rfl⟩
  obtain ⟨V1, hV1⟩ : ∃ x, argS zs v args 1 = x := ⟨_, rfl⟩
  have hT := two_new w [.int .i64 a, .int .i64 b, .string (strB name), .int .i64 c, .int .i64 d, .slice A m q] v
  obtain ⟨self, procs, src, va⟩ := v
  have h1 := vas_two hT
  simp only at h1
  obtain ⟨W, hW⟩ : ∃ W, (w.alloc (.cells [Value.int .i64 a, .int .i64 b, .string (strB name), .int .i64 c, .int .i64 d, .slice A m q].toArray 92)).alloc (.cells #[.int .i64 self, .int .i64 procs, .int .i64 src, .int .i64 va] 81) = W := ⟨_, rfl⟩
  simp only [hW] at h1 hT
  have HO : Hid (∀ (i : Nat) wc, VaS w a b (strB name) c d A m q self procs src va wc → Calls Tryd.prog 102 #[.agg #[.int .i64 a, .int .i64 b, .string (strB name), .int .i64 c, .int .i64 d, .slice A m q], .int .i64 i, .slice Z zn zc, .agg #[.int .i64 self, .int .i64 procs, .int .i64 src, .int .i64 va]] wc fun e' w' => e' = .returned (.int .i64 (argS zs ⟨self, procs, src, va⟩ args i)) ∧ VaS w a b (strB name) c d A m q self procs src va w') := fun i wc h => by
    refine (hop i wc (ExL.still (fun k hk1 hk2 => ⟨hk1, h.1.block k hk2⟩) _ _ hl0) (hz.below h.1)).mono ?_
    rintro e' w' ⟨he, hb⟩
    exact ⟨he, vas_below h hb⟩
  have HE : Hid (∀ wc, VaS w a b (strB name) c d A m q self procs src va wc → Calls Tryd.prog 101 #[.agg #[.int .i64 a, .int .i64 b, .string (strB name), .int .i64 c, .int .i64 d, .slice A m q], .int .i64 V0, .slice Z zn zc] wc fun e' w' => e' = .returned (.int .i64 (elmS zs c d V0)) ∧ VaS w a b (strB name) c d A m q self procs src va w') := fun wc h => by
    refine (element_any zs Z zn zc a b (strB name) c d (.slice A m q) V0 wc (hz.below h.1)).mono ?_
    rintro e' w' ⟨he, hb⟩
    exact ⟨he, vas_below h hb⟩
  have HC : Hid (∀ wc, VaS w a b (strB name) c d A m q self procs src va wc → Calls Tryd.prog 100 #[.slice Z zn zc, .int .i64 c] wc fun e' w' => e' = .returned (.int .i64 (celS zs c)) ∧ w' = wc) := fun wc h => cell_any zs Z zn zc c wc (hz.below h.1)
  have HA : Hid (∀ wc, VaS w a b (strB name) c d A m q self procs src va wc → Calls Tryd.prog 103 #[.int .i64 a, .int .i64 V0, .int .i64 V1] wc fun e' w' => e' = .returned (.int .i64 (apS a V0 V1)) ∧ VaS w a b (strB name) c d A m q self procs src va w') := fun wc h => by
    refine (apply_any a V0 V1 wc).mono ?_
    rintro e' w' ⟨he, hb⟩
    exact ⟨he, vas_below h hb⟩
  have HO0 : Hid (∀ wc, VaS w a b (strB name) c d A m q self procs src va wc → Calls Tryd.prog 102 #[.agg #[.int .i64 a, .int .i64 b, .string (strB name), .int .i64 c, .int .i64 d, .slice A m q], .int .i64 0, .slice Z zn zc, .agg #[.int .i64 self, .int .i64 procs, .int .i64 src, .int .i64 va]] wc fun e' w' => e' = .returned (.int .i64 V0) ∧ VaS w a b (strB name) c d A m q self procs src va w') := by
    have := HO.out 0
    rw [hV0] at this
    exact this
  have HO1 : Hid (∀ wc, VaS w a b (strB name) c d A m q self procs src va wc → Calls Tryd.prog 102 #[.agg #[.int .i64 a, .int .i64 b, .string (strB name), .int .i64 c, .int .i64 d, .slice A m q], .int .i64 1, .slice Z zn zc, .agg #[.int .i64 self, .int .i64 procs, .int .i64 src, .int .i64 va]] wc fun e' w' => e' = .returned (.int .i64 V1) ∧ VaS w a b (strB name) c d A m q self procs src va w') := by
    have := HO.out 1
    rw [hV1] at this
    exact this
  rw [hV0, hV1]
  clear HO hop hl0 hr hz hV0 hV1 hm hc ih he hT
  have HS := Lib.hid h1
  unfold VaS at HO0 HO1 HE HC HA
  obtain ⟨b0, r0, r1, r2, r3, r4, r5, r6, r7, r8, r9⟩ := h1
  have HB := Lib.hid b0
  clear b0
  by_cases h1 : a = 1
  · subst h1
    simp only [if_true]
    go_enter Tryd.func98, Tryd.ntmps98
    go_wp2_with fail
    go_ret
    exact ⟨rfl, HB.out⟩
  rw [if_neg h1]
  by_cases h2 : a = 2
  · subst h2
    rw [if_pos rfl]
    obtain ⟨R, hR⟩ : ∃ R, celS zs c = R := ⟨_, rfl⟩
    rw [hR] at HC ⊢
    clear hR h1
    go_enter Tryd.func98, Tryd.ntmps98
    go_wp2_with fail
    refine (HC.out _ HS.out).mono ?_
    rintro e' w2 ⟨rfl, rfl⟩
    go_wp2_with fail
    go_ret
    exact ⟨rfl, HB.out⟩
  rw [if_neg h2]
  by_cases h3 : a = 3
  · subst h3
    rw [if_pos rfl]
    obtain ⟨R, hR⟩ : ∃ R, elmS zs c d V0 = R := ⟨_, rfl⟩
    rw [hR] at HE ⊢
    clear hR h1 h2
    go_enter Tryd.func98, Tryd.ntmps98
    go_upto_region 7 with fail
    clear hW
    have hs0 := vas_drew HS.out
    unfold VaS at hs0
    clear r0 r1 r2 r3 r4 r5 r6 r7 r8 r9
    go_region_held3 (fun w' => Below w.heap.size w w' ∧ w'.cell? ⟨w.heap.size, 0, none⟩ = some (.int .i64 3) ∧ w'.cell? ⟨w.heap.size, 1, none⟩ = some (.int .i64 b) ∧ w'.cell? ⟨w.heap.size, 2, none⟩ = some (.string (strB name)) ∧ w'.cell? ⟨w.heap.size, 3, none⟩ = some (.int .i64 c) ∧ w'.cell? ⟨w.heap.size, 4, none⟩ = some (.int .i64 d) ∧ w'.cell? ⟨w.heap.size, 5, none⟩ = some (.slice A m q) ∧ w'.cell? ⟨w.heap.size + 1, 0, none⟩ = some (.int .i64 self) ∧ w'.cell? ⟨w.heap.size + 1, 1, none⟩ = some (.int .i64 procs) ∧ w'.cell? ⟨w.heap.size + 1, 2, none⟩ = some (.int .i64 src) ∧ w'.cell? ⟨w.heap.size + 1, 3, none⟩ = some (.int .i64 va)) (assumption) (first | (go_at_call 102; ((with_reducible refine (HO0.out _ ?_).mono ?_)); assumption; rintro e' w6 ⟨rfl, hs6⟩) | (go_at_call 101; ((with_reducible refine (HE.out _ ?_).mono ?_)); assumption; rintro e' w7 ⟨rfl, hs7⟩))
    have HB7 := Lib.hid hs7.1
    clear hs0 hs6 hs7
    go_wp2_with fail
    go_ret
    exact ⟨rfl, HB7.out⟩
  rw [if_neg h3]
  by_cases h4 : a = 4
  · subst h4
    simp only [if_true]
    go_enter Tryd.func98, Tryd.ntmps98
    go_wp2_with fail
    go_ret
    exact ⟨rfl, HB.out⟩
  rw [if_neg h4]
  by_cases h5 : a = 5
  · subst h5
    simp only [if_true]
    go_enter Tryd.func98, Tryd.ntmps98
    go_wp2_with fail
    go_ret
    exact ⟨rfl, HB.out⟩
  rw [if_neg h5]
  by_cases h6 : a = 6
  · subst h6
    simp only [if_true]
    go_enter Tryd.func98, Tryd.ntmps98
    go_wp2_with fail
    go_ret
    exact ⟨rfl, HB.out⟩
  rw [if_neg h6]
  by_cases h7 : a = 7
  · subst h7
    simp only [if_true]
    go_enter Tryd.func98, Tryd.ntmps98
    go_wp2_with fail
    go_ret
    exact ⟨rfl, HB.out⟩
  rw [if_neg h7]
  obtain ⟨R, hR⟩ : ∃ R, apS a V0 V1 = R := ⟨_, rfl⟩
  rw [hR] at HA ⊢
  clear hR
  have q1 : (a == 1) = false := beq_eq_false_iff_ne.2 h1
  have q2 : (a == 2) = false := beq_eq_false_iff_ne.2 h2
  have q3 : (a == 3) = false := beq_eq_false_iff_ne.2 h3
  have q4 : (a == 4) = false := beq_eq_false_iff_ne.2 h4
  have q5 : (a == 5) = false := beq_eq_false_iff_ne.2 h5
  have q6 : (a == 6) = false := beq_eq_false_iff_ne.2 h6
  have q7 : (a == 7) = false := beq_eq_false_iff_ne.2 h7
  clear h1 h2 h3 h4 h5 h6 h7
  go_enter Tryd.func98, Tryd.ntmps98
  go_upto_region 16 with fail
  clear hW
  have hs0 := vas_drew HS.out
  unfold VaS at hs0
  clear r0 r1 r2 r3 r4 r5 r6 r7 r8 r9
  go_region_held3 (fun w' => Below w.heap.size w w' ∧ w'.cell? ⟨w.heap.size, 0, none⟩ = some (.int .i64 a) ∧ w'.cell? ⟨w.heap.size, 1, none⟩ = some (.int .i64 b) ∧ w'.cell? ⟨w.heap.size, 2, none⟩ = some (.string (strB name)) ∧ w'.cell? ⟨w.heap.size, 3, none⟩ = some (.int .i64 c) ∧ w'.cell? ⟨w.heap.size, 4, none⟩ = some (.int .i64 d) ∧ w'.cell? ⟨w.heap.size, 5, none⟩ = some (.slice A m q) ∧ w'.cell? ⟨w.heap.size + 1, 0, none⟩ = some (.int .i64 self) ∧ w'.cell? ⟨w.heap.size + 1, 1, none⟩ = some (.int .i64 procs) ∧ w'.cell? ⟨w.heap.size + 1, 2, none⟩ = some (.int .i64 src) ∧ w'.cell? ⟨w.heap.size + 1, 3, none⟩ = some (.int .i64 va)) (assumption) (first | (go_at_call 102; ((with_reducible refine (HO0.out _ ?_).mono ?_)); assumption; rintro e' w6 ⟨rfl, hs6⟩) | (go_at_call 102; ((with_reducible refine (HO1.out _ ?_).mono ?_)); assumption; rintro e' w7 ⟨rfl, hs7⟩) | (go_at_call 103; ((with_reducible refine (HA.out _ ?_).mono ?_)); assumption; rintro e' w8 ⟨rfl, hs8⟩))
  have HB8 := Lib.hid hs8.1
  clear hs0 hs6 hs7 hs8
  go_wp2_with fail
  go_ret
  exact ⟨rfl, HB8.out⟩

theorem value_all (zs : List Int) (v : En) : ∀ n, VlC zs v n
  | 0 => fun e h => by cases e; simp [Ex.big] at h
  | n + 1 => value_step zs v n (value_all zs v n)
/-- Value, at every expression. -/
theorem value_any (zs : List Int) (v : En) (e : Ex) (S : Nat → Prop) (w : World) (a b : Int) (s : ByteArray) (c d : Int) (A : Option Addr) (l q : Nat) (Z : Option Addr) (zn zc : Nat) (hl : ExL S w e [.int .i64 a, .int .i64 b, .string s, .int .i64 c, .int .i64 d, .slice A l q]) (hz : ZsAt w zs Z zn) :
    Calls Tryd.prog 98 #[.agg #[.int .i64 a, .int .i64 b, .string s, .int .i64 c, .int .i64 d, .slice A l q], .slice Z zn zc, enV v] w fun e' w' => e' = .returned (.int .i64 (valS zs v e)) ∧ Below w.heap.size w w' :=
  value_all zs v e.big e (Nat.le_refl _) S w a b s c d A l q Z zn zc hl hz
end Go.Proofs.YtgblgkkbggdopaaDoor

/-
  What Apply of the document's answer returns: what Apply of package eval does. No conditions.
-/
namespace Go.Proofs.YtgblgkkbggdopaaDoor
open Go.RowKit

set_option maxHeartbeats 400000 in
theorem rtruth_any (b : Bool) (w : World) : Calls Tryd.prog 99 #[.bool b] w fun e w' => e = .returned (.int .i64 (tB b)) ∧ w' = w := by
  cases b <;>
  · go_enter Tryd.func99, Tryd.ntmps99
    go_wp2
    go_ret
    exact ⟨rfl, rfl⟩

set_option maxHeartbeats 1000000 in
set_option maxRecDepth 100000 in
theorem rapply_8 (a b : Int) (w : World) : Calls Tryd.prog 97 #[.int .i64 8, .int .i64 a, .int .i64 b] w fun e w' => e = .returned (.int .i64 (apS 8 a b)) ∧ w' = w := by
  rw [apS_8]
  go_enter Tryd.func97, Tryd.ntmps97
  go_wp2
  go_ret
  exact ⟨rfl, rfl⟩

set_option maxHeartbeats 1000000 in
set_option maxRecDepth 100000 in
theorem rapply_9 (a b : Int) (w : World) : Calls Tryd.prog 97 #[.int .i64 9, .int .i64 a, .int .i64 b] w fun e w' => e = .returned (.int .i64 (apS 9 a b)) ∧ w' = w := by
  rw [apS_9]
  go_enter Tryd.func97, Tryd.ntmps97
  go_wp2_with (go_at_call 99; refine (rtruth_any _ _).mono ?_; rintro e w' ⟨rfl, rfl⟩)
  go_ret
  exact ⟨ret_int (by first | rfl | simp [bne, Bool.beq_eq_decide_eq]), rfl⟩

set_option maxHeartbeats 1000000 in
set_option maxRecDepth 100000 in
theorem rapply_10 (a b : Int) (w : World) : Calls Tryd.prog 97 #[.int .i64 10, .int .i64 a, .int .i64 b] w fun e w' => e = .returned (.int .i64 (apS 10 a b)) ∧ w' = w := by
  rw [apS_10]
  go_enter Tryd.func97, Tryd.ntmps97
  go_wp2
  go_ret
  exact ⟨rfl, rfl⟩

set_option maxHeartbeats 1000000 in
set_option maxRecDepth 100000 in
theorem rapply_11 (a b : Int) (w : World) : Calls Tryd.prog 97 #[.int .i64 11, .int .i64 a, .int .i64 b] w fun e w' => e = .returned (.int .i64 (apS 11 a b)) ∧ w' = w := by
  rw [apS_11]
  go_enter Tryd.func97, Tryd.ntmps97
  go_wp2
  go_ret
  exact ⟨rfl, rfl⟩

set_option maxHeartbeats 1000000 in
set_option maxRecDepth 100000 in
theorem rapply_12 (a b : Int) (w : World) : Calls Tryd.prog 97 #[.int .i64 12, .int .i64 a, .int .i64 b] w fun e w' => e = .returned (.int .i64 (apS 12 a b)) ∧ w' = w := by
  rw [apS_12]
  go_enter Tryd.func97, Tryd.ntmps97
  go_wp2
  go_ret
  exact ⟨rfl, rfl⟩

set_option maxHeartbeats 1000000 in
set_option maxRecDepth 100000 in
theorem rapply_13 (a b : Int) (w : World) : Calls Tryd.prog 97 #[.int .i64 13, .int .i64 a, .int .i64 b] w fun e w' => e = .returned (.int .i64 (apS 13 a b)) ∧ w' = w := by
  rw [apS_13]
  by_cases h : b = 0
  · subst h
    go_enter Tryd.func97, Tryd.ntmps97
    go_wp2
    go_ret
    exact ⟨rfl, rfl⟩
  · rw [if_neg h]
    have h' : (b == 0) = false := beq_eq_false_iff_ne.2 h
    by_cases h1 : b = -1
    · subst h1
      go_enter Tryd.func97, Tryd.ntmps97
      go_wp2
      go_ret
      exact ⟨ret_int (by simp), rfl⟩
    · have h1' : (b == -1) = false := beq_eq_false_iff_ne.2 h1
      go_enter Tryd.func97, Tryd.ntmps97
      go_wp2
      go_ret
      exact ⟨rfl, rfl⟩

set_option maxHeartbeats 1000000 in
set_option maxRecDepth 100000 in
theorem rapply_14 (a b : Int) (w : World) : Calls Tryd.prog 97 #[.int .i64 14, .int .i64 a, .int .i64 b] w fun e w' => e = .returned (.int .i64 (apS 14 a b)) ∧ w' = w := by
  rw [apS_14]
  by_cases h : b = 0
  · subst h
    go_enter Tryd.func97, Tryd.ntmps97
    go_wp2
    go_ret
    exact ⟨rfl, rfl⟩
  · rw [if_neg h]
    have h' : (b == 0) = false := beq_eq_false_iff_ne.2 h
    by_cases h1 : b = -1
    · subst h1
      go_enter Tryd.func97, Tryd.ntmps97
      go_wp2
      go_ret
      exact ⟨ret_int (by simp), rfl⟩
    · have h1' : (b == -1) = false := beq_eq_false_iff_ne.2 h1
      go_enter Tryd.func97, Tryd.ntmps97
      go_wp2
      go_ret
      exact ⟨rfl, rfl⟩

set_option maxHeartbeats 1000000 in
set_option maxRecDepth 100000 in
theorem rapply_15 (a b : Int) (w : World) : Calls Tryd.prog 97 #[.int .i64 15, .int .i64 a, .int .i64 b] w fun e w' => e = .returned (.int .i64 (apS 15 a b)) ∧ w' = w := by
  rw [apS_15]
  go_enter Tryd.func97, Tryd.ntmps97
  go_wp2_with (go_at_call 99; refine (rtruth_any _ _).mono ?_; rintro e w' ⟨rfl, rfl⟩)
  go_ret
  exact ⟨ret_int (by first | rfl | simp [bne, Bool.beq_eq_decide_eq]), rfl⟩

set_option maxHeartbeats 1000000 in
set_option maxRecDepth 100000 in
theorem rapply_16 (a b : Int) (w : World) : Calls Tryd.prog 97 #[.int .i64 16, .int .i64 a, .int .i64 b] w fun e w' => e = .returned (.int .i64 (apS 16 a b)) ∧ w' = w := by
  rw [apS_16]
  go_enter Tryd.func97, Tryd.ntmps97
  go_wp2_with (go_at_call 99; refine (rtruth_any _ _).mono ?_; rintro e w' ⟨rfl, rfl⟩)
  go_ret
  exact ⟨ret_int (by first | rfl | simp [bne, Bool.beq_eq_decide_eq]), rfl⟩

set_option maxHeartbeats 1000000 in
set_option maxRecDepth 100000 in
theorem rapply_17 (a b : Int) (w : World) : Calls Tryd.prog 97 #[.int .i64 17, .int .i64 a, .int .i64 b] w fun e w' => e = .returned (.int .i64 (apS 17 a b)) ∧ w' = w := by
  rw [apS_17]
  go_enter Tryd.func97, Tryd.ntmps97
  go_wp2_with (go_at_call 99; refine (rtruth_any _ _).mono ?_; rintro e w' ⟨rfl, rfl⟩)
  go_ret
  exact ⟨ret_int (by first | rfl | simp [bne, Bool.beq_eq_decide_eq]), rfl⟩

set_option maxHeartbeats 1000000 in
set_option maxRecDepth 100000 in
theorem rapply_18 (a b : Int) (w : World) : Calls Tryd.prog 97 #[.int .i64 18, .int .i64 a, .int .i64 b] w fun e w' => e = .returned (.int .i64 (apS 18 a b)) ∧ w' = w := by
  rw [apS_18]
  go_enter Tryd.func97, Tryd.ntmps97
  go_wp2_with (go_at_call 99; refine (rtruth_any _ _).mono ?_; rintro e w' ⟨rfl, rfl⟩)
  go_ret
  exact ⟨ret_int (by first | rfl | simp [bne, Bool.beq_eq_decide_eq]), rfl⟩

set_option maxHeartbeats 1000000 in
set_option maxRecDepth 100000 in
theorem rapply_19 (a b : Int) (w : World) : Calls Tryd.prog 97 #[.int .i64 19, .int .i64 a, .int .i64 b] w fun e w' => e = .returned (.int .i64 (apS 19 a b)) ∧ w' = w := by
  rw [apS_19]
  go_enter Tryd.func97, Tryd.ntmps97
  go_wp2_with (go_at_call 99; refine (rtruth_any _ _).mono ?_; rintro e w' ⟨rfl, rfl⟩)
  go_ret
  exact ⟨ret_int (by first | rfl | simp [bne, Bool.beq_eq_decide_eq]), rfl⟩

set_option maxHeartbeats 1000000 in
set_option maxRecDepth 100000 in
theorem rapply_20 (a b : Int) (w : World) : Calls Tryd.prog 97 #[.int .i64 20, .int .i64 a, .int .i64 b] w fun e w' => e = .returned (.int .i64 (apS 20 a b)) ∧ w' = w := by
  rw [apS_20]
  go_enter Tryd.func97, Tryd.ntmps97
  go_wp2_with (go_at_call 99; refine (rtruth_any _ _).mono ?_; rintro e w' ⟨rfl, rfl⟩)
  go_ret
  exact ⟨ret_int (by first | rfl | simp [bne, Bool.beq_eq_decide_eq]), rfl⟩

set_option maxHeartbeats 1000000 in
set_option maxRecDepth 100000 in
theorem rapply_21 (a b : Int) (w : World) : Calls Tryd.prog 97 #[.int .i64 21, .int .i64 a, .int .i64 b] w fun e w' => e = .returned (.int .i64 (apS 21 a b)) ∧ w' = w := by
  rw [apS_21]
  by_cases h1 : a = 0 <;> by_cases h2 : b = 0 <;>
  · go_enter Tryd.func97, Tryd.ntmps97
    go_wp2_with (go_at_call 99; refine (rtruth_any _ _).mono ?_; rintro e w' ⟨rfl, rfl⟩)
    go_ret
    exact ⟨ret_int (by simp [h1, h2, tB]), rfl⟩

set_option maxHeartbeats 1000000 in
set_option maxRecDepth 100000 in
theorem rapply_22 (a b : Int) (w : World) : Calls Tryd.prog 97 #[.int .i64 22, .int .i64 a, .int .i64 b] w fun e w' => e = .returned (.int .i64 (apS 22 a b)) ∧ w' = w := by
  rw [apS_22]
  by_cases h1 : a = 0 <;> by_cases h2 : b = 0 <;>
  · go_enter Tryd.func97, Tryd.ntmps97
    go_wp2_with (go_at_call 99; refine (rtruth_any _ _).mono ?_; rintro e w' ⟨rfl, rfl⟩)
    go_ret
    exact ⟨ret_int (by simp [h1, h2, tB]), rfl⟩

set_option maxHeartbeats 2000000 in
set_option maxRecDepth 100000 in
theorem rapply_out (op a b : Int) (h : op < 8 ∨ 22 < op) (w : World) : Calls Tryd.prog 97 #[.int .i64 op, .int .i64 a, .int .i64 b] w fun e w' => e = .returned (.int .i64 (apS op a b)) ∧ w' = w := by
  rw [apS_no _ _ _ h]
  have h8 : (op == 8) = false := beq_eq_false_iff_ne.2 (by omega)
  have h9 : (op == 9) = false := beq_eq_false_iff_ne.2 (by omega)
  have h10 : (op == 10) = false := beq_eq_false_iff_ne.2 (by omega)
  have h11 : (op == 11) = false := beq_eq_false_iff_ne.2 (by omega)
  have h12 : (op == 12) = false := beq_eq_false_iff_ne.2 (by omega)
  have h13 : (op == 13) = false := beq_eq_false_iff_ne.2 (by omega)
  have h14 : (op == 14) = false := beq_eq_false_iff_ne.2 (by omega)
  have h15 : (op == 15) = false := beq_eq_false_iff_ne.2 (by omega)
  have h16 : (op == 16) = false := beq_eq_false_iff_ne.2 (by omega)
  have h17 : (op == 17) = false := beq_eq_false_iff_ne.2 (by omega)
  have h18 : (op == 18) = false := beq_eq_false_iff_ne.2 (by omega)
  have h19 : (op == 19) = false := beq_eq_false_iff_ne.2 (by omega)
  have h20 : (op == 20) = false := beq_eq_false_iff_ne.2 (by omega)
  have h21 : (op == 21) = false := beq_eq_false_iff_ne.2 (by omega)
  have h22 : (op == 22) = false := beq_eq_false_iff_ne.2 (by omega)
  clear h
  go_enter Tryd.func97, Tryd.ntmps97
  go_wp2
  go_ret
  exact ⟨rfl, rfl⟩

/-- Apply of the answer, at every operator. -/
theorem rapply_any (op a b : Int) (w : World) : Calls Tryd.prog 97 #[.int .i64 op, .int .i64 a, .int .i64 b] w fun e w' => e = .returned (.int .i64 (apS op a b)) ∧ w' = w := by
  by_cases h : op < 8 ∨ 22 < op
  · exact rapply_out op a b h w
  · have h2 : op = 8 ∨ op = 9 ∨ op = 10 ∨ op = 11 ∨ op = 12 ∨ op = 13 ∨ op = 14 ∨ op = 15 ∨ op = 16 ∨ op = 17 ∨ op = 18 ∨ op = 19 ∨ op = 20 ∨ op = 21 ∨ op = 22 := by omega
    rcases h2 with rfl | rfl | rfl | rfl | rfl | rfl | rfl | rfl | rfl | rfl | rfl | rfl | rfl | rfl | rfl
    · exact rapply_8 a b w
    · exact rapply_9 a b w
    · exact rapply_10 a b w
    · exact rapply_11 a b w
    · exact rapply_12 a b w
    · exact rapply_13 a b w
    · exact rapply_14 a b w
    · exact rapply_15 a b w
    · exact rapply_16 a b w
    · exact rapply_17 a b w
    · exact rapply_18 a b w
    · exact rapply_19 a b w
    · exact rapply_20 a b w
    · exact rapply_21 a b w
    · exact rapply_22 a b w
end Go.Proofs.YtgblgkkbggdopaaDoor
