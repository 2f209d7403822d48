/-
  What Apply of package eval returns. No conditions.
-/
import Derived.Test.YtocebddhllfhpaaDoorEvCl
namespace Go.Proofs.YtocebddhllfhpaaDoor
open Go.RowKit

theorem fn_nil (fn : Fn) (w : World) : (binOp .eql 37 (.func fn #[] #[]) .nilFunc).run Tryd.prog w = .ok (.bool false) w := by kernel_rfl
theorem nil_nil (w : World) : (binOp .eql 37 .nilFunc .nilFunc).run Tryd.prog w = .ok (.bool true) w := by kernel_rfl

set_option maxHeartbeats 1000000 in
set_option maxRecDepth 100000 in
theorem apply_0 (a b : Int) (w : World) : Calls Tryd.prog 17 #[.int .i64 0, .int .i64 a, .int .i64 b] w fun e w' => e = .returned (.int .i64 (apS 0 a b)) ∧ Below w.heap.size w w' := by
  rw [apS_no _ _ _ (by omega)]
  go_enter Tryd.func17, Tryd.ntmps17
  go_wp2_with fail
  refine (operators_any w).mono ?_
  rintro e w1 ⟨rfl, hb⟩
  have HB := Lib.hid hb
  clear hb
  go_upto_region 2 with (refine wpList_store_row rfl 52 _ _ rfl w1.heap.size opTab rfl rfl _ _ (new_blk w1 opZ) infoOp rfl opOne ?_)
  obtain ⟨w2, hw2⟩ : ∃ w2, (w1.alloc opZ).setRow w1.heap.size opTab = w2 := ⟨_, rfl⟩
  have hx : w2.heap[w1.heap.size]? = some (.cells opTab 52 (0, 0)) := hw2 ▸ setRow_same (new_blk w1 opZ)
  have hk2 : Below w.heap.size w w2 := by
    rw [← hw2]
    exact (Keep.below (R := w1.heap.size) (((Keep.of_below HB.out).alloc opZ).setRow HB.out.size _) (Nat.le_refl _) HB.out.size)
  have HK2 := Lib.hid hk2
  simp only [hw2]
  clear hw2 hk2
  have c : w2.cell? ⟨w1.heap.size, 0, none⟩ = some (.nilFunc) := by rw [Lib.cell_of_heap hx]; rfl
  clear hx
  have qf := nil_nil
  go_wp2_with fail
  go_ret
  exact ⟨rfl, HK2.out⟩

set_option maxHeartbeats 1000000 in
set_option maxRecDepth 100000 in
theorem apply_1 (a b : Int) (w : World) : Calls Tryd.prog 17 #[.int .i64 1, .int .i64 a, .int .i64 b] w fun e w' => e = .returned (.int .i64 (apS 1 a b)) ∧ Below w.heap.size w w' := by
  rw [apS_no _ _ _ (by omega)]
  go_enter Tryd.func17, Tryd.ntmps17
  go_wp2_with fail
  refine (operators_any w).mono ?_
  rintro e w1 ⟨rfl, hb⟩
  have HB := Lib.hid hb
  clear hb
  go_upto_region 2 with (refine wpList_store_row rfl 52 _ _ rfl w1.heap.size opTab rfl rfl _ _ (new_blk w1 opZ) infoOp rfl opOne ?_)
  obtain ⟨w2, hw2⟩ : ∃ w2, (w1.alloc opZ).setRow w1.heap.size opTab = w2 := ⟨_, rfl⟩
  have hx : w2.heap[w1.heap.size]? = some (.cells opTab 52 (0, 0)) := hw2 ▸ setRow_same (new_blk w1 opZ)
  have hk2 : Below w.heap.size w w2 := by
    rw [← hw2]
    exact (Keep.below (R := w1.heap.size) (((Keep.of_below HB.out).alloc opZ).setRow HB.out.size _) (Nat.le_refl _) HB.out.size)
  have HK2 := Lib.hid hk2
  simp only [hw2]
  clear hw2 hk2
  have c : w2.cell? ⟨w1.heap.size, 1, none⟩ = some (.nilFunc) := by rw [Lib.cell_of_heap hx]; rfl
  clear hx
  have qf := nil_nil
  go_wp2_with fail
  go_ret
  exact ⟨rfl, HK2.out⟩

set_option maxHeartbeats 1000000 in
set_option maxRecDepth 100000 in
theorem apply_2 (a b : Int) (w : World) : Calls Tryd.prog 17 #[.int .i64 2, .int .i64 a, .int .i64 b] w fun e w' => e = .returned (.int .i64 (apS 2 a b)) ∧ Below w.heap.size w w' := by
  rw [apS_no _ _ _ (by omega)]
  go_enter Tryd.func17, Tryd.ntmps17
  go_wp2_with fail
  refine (operators_any w).mono ?_
  rintro e w1 ⟨rfl, hb⟩
  have HB := Lib.hid hb
  clear hb
  go_upto_region 2 with (refine wpList_store_row rfl 52 _ _ rfl w1.heap.size opTab rfl rfl _ _ (new_blk w1 opZ) infoOp rfl opOne ?_)
  obtain ⟨w2, hw2⟩ : ∃ w2, (w1.alloc opZ).setRow w1.heap.size opTab = w2 := ⟨_, rfl⟩
  have hx : w2.heap[w1.heap.size]? = some (.cells opTab 52 (0, 0)) := hw2 ▸ setRow_same (new_blk w1 opZ)
  have hk2 : Below w.heap.size w w2 := by
    rw [← hw2]
    exact (Keep.below (R := w1.heap.size) (((Keep.of_below HB.out).alloc opZ).setRow HB.out.size _) (Nat.le_refl _) HB.out.size)
  have HK2 := Lib.hid hk2
  simp only [hw2]
  clear hw2 hk2
  have c : w2.cell? ⟨w1.heap.size, 2, none⟩ = some (.nilFunc) := by rw [Lib.cell_of_heap hx]; rfl
  clear hx
  have qf := nil_nil
  go_wp2_with fail
  go_ret
  exact ⟨rfl, HK2.out⟩

set_option maxHeartbeats 1000000 in
set_option maxRecDepth 100000 in
theorem apply_3 (a b : Int) (w : World) : Calls Tryd.prog 17 #[.int .i64 3, .int .i64 a, .int .i64 b] w fun e w' => e = .returned (.int .i64 (apS 3 a b)) ∧ Below w.heap.size w w' := by
  rw [apS_no _ _ _ (by omega)]
  go_enter Tryd.func17, Tryd.ntmps17
  go_wp2_with fail
  refine (operators_any w).mono ?_
  rintro e w1 ⟨rfl, hb⟩
  have HB := Lib.hid hb
  clear hb
  go_upto_region 2 with (refine wpList_store_row rfl 52 _ _ rfl w1.heap.size opTab rfl rfl _ _ (new_blk w1 opZ) infoOp rfl opOne ?_)
  obtain ⟨w2, hw2⟩ : ∃ w2, (w1.alloc opZ).setRow w1.heap.size opTab = w2 := ⟨_, rfl⟩
  have hx : w2.heap[w1.heap.size]? = some (.cells opTab 52 (0, 0)) := hw2 ▸ setRow_same (new_blk w1 opZ)
  have hk2 : Below w.heap.size w w2 := by
    rw [← hw2]
    exact (Keep.below (R := w1.heap.size) (((Keep.of_below HB.out).alloc opZ).setRow HB.out.size _) (Nat.le_refl _) HB.out.size)
  have HK2 := Lib.hid hk2
  simp only [hw2]
  clear hw2 hk2
  have c : w2.cell? ⟨w1.heap.size, 3, none⟩ = some (.nilFunc) := by rw [Lib.cell_of_heap hx]; rfl
  clear hx
  have qf := nil_nil
  go_wp2_with fail
  go_ret
  exact ⟨rfl, HK2.out⟩

set_option maxHeartbeats 1000000 in
set_option maxRecDepth 100000 in
theorem apply_4 (a b : Int) (w : World) : Calls Tryd.prog 17 #[.int .i64 4, .int .i64 a, .int .i64 b] w fun e w' => e = .returned (.int .i64 (apS 4 a b)) ∧ Below w.heap.size w w' := by
  rw [apS_no _ _ _ (by omega)]
  go_enter Tryd.func17, Tryd.ntmps17
  go_wp2_with fail
  refine (operators_any w).mono ?_
  rintro e w1 ⟨rfl, hb⟩
  have HB := Lib.hid hb
  clear hb
  go_upto_region 2 with (refine wpList_store_row rfl 52 _ _ rfl w1.heap.size opTab rfl rfl _ _ (new_blk w1 opZ) infoOp rfl opOne ?_)
  obtain ⟨w2, hw2⟩ : ∃ w2, (w1.alloc opZ).setRow w1.heap.size opTab = w2 := ⟨_, rfl⟩
  have hx : w2.heap[w1.heap.size]? = some (.cells opTab 52 (0, 0)) := hw2 ▸ setRow_same (new_blk w1 opZ)
  have hk2 : Below w.heap.size w w2 := by
    rw [← hw2]
    exact (Keep.below (R := w1.heap.size) (((Keep.of_below HB.out).alloc opZ).setRow HB.out.size _) (Nat.le_refl _) HB.out.size)
  have HK2 := Lib.hid hk2
  simp only [hw2]
  clear hw2 hk2
  have c : w2.cell? ⟨w1.heap.size, 4, none⟩ = some (.nilFunc) := by rw [Lib.cell_of_heap hx]; rfl
  clear hx
  have qf := nil_nil
  go_wp2_with fail
  go_ret
  exact ⟨rfl, HK2.out⟩

set_option maxHeartbeats 1000000 in
set_option maxRecDepth 100000 in
theorem apply_5 (a b : Int) (w : World) : Calls Tryd.prog 17 #[.int .i64 5, .int .i64 a, .int .i64 b] w fun e w' => e = .returned (.int .i64 (apS 5 a b)) ∧ Below w.heap.size w w' := by
  rw [apS_no _ _ _ (by omega)]
  go_enter Tryd.func17, Tryd.ntmps17
  go_wp2_with fail
  refine (operators_any w).mono ?_
  rintro e w1 ⟨rfl, hb⟩
  have HB := Lib.hid hb
  clear hb
  go_upto_region 2 with (refine wpList_store_row rfl 52 _ _ rfl w1.heap.size opTab rfl rfl _ _ (new_blk w1 opZ) infoOp rfl opOne ?_)
  obtain ⟨w2, hw2⟩ : ∃ w2, (w1.alloc opZ).setRow w1.heap.size opTab = w2 := ⟨_, rfl⟩
  have hx : w2.heap[w1.heap.size]? = some (.cells opTab 52 (0, 0)) := hw2 ▸ setRow_same (new_blk w1 opZ)
  have hk2 : Below w.heap.size w w2 := by
    rw [← hw2]
    exact (Keep.below (R := w1.heap.size) (((Keep.of_below HB.out).alloc opZ).setRow HB.out.size _) (Nat.le_refl _) HB.out.size)
  have HK2 := Lib.hid hk2
  simp only [hw2]
  clear hw2 hk2
  have c : w2.cell? ⟨w1.heap.size, 5, none⟩ = some (.nilFunc) := by rw [Lib.cell_of_heap hx]; rfl
  clear hx
  have qf := nil_nil
  go_wp2_with fail
  go_ret
  exact ⟨rfl, HK2.out⟩

set_option maxHeartbeats 1000000 in
set_option maxRecDepth 100000 in
theorem apply_6 (a b : Int) (w : World) : Calls Tryd.prog 17 #[.int .i64 6, .int .i64 a, .int .i64 b] w fun e w' => e = .returned (.int .i64 (apS 6 a b)) ∧ Below w.heap.size w w' := by
  rw [apS_no _ _ _ (by omega)]
  go_enter Tryd.func17, Tryd.ntmps17
  go_wp2_with fail
  refine (operators_any w).mono ?_
  rintro e w1 ⟨rfl, hb⟩
  have HB := Lib.hid hb
  clear hb
  go_upto_region 2 with (refine wpList_store_row rfl 52 _ _ rfl w1.heap.size opTab rfl rfl _ _ (new_blk w1 opZ) infoOp rfl opOne ?_)
  obtain ⟨w2, hw2⟩ : ∃ w2, (w1.alloc opZ).setRow w1.heap.size opTab = w2 := ⟨_, rfl⟩
  have hx : w2.heap[w1.heap.size]? = some (.cells opTab 52 (0, 0)) := hw2 ▸ setRow_same (new_blk w1 opZ)
  have hk2 : Below w.heap.size w w2 := by
    rw [← hw2]
    exact (Keep.below (R := w1.heap.size) (((Keep.of_below HB.out).alloc opZ).setRow HB.out.size _) (Nat.le_refl _) HB.out.size)
  have HK2 := Lib.hid hk2
  simp only [hw2]
  clear hw2 hk2
  have c : w2.cell? ⟨w1.heap.size, 6, none⟩ = some (.nilFunc) := by rw [Lib.cell_of_heap hx]; rfl
  clear hx
  have qf := nil_nil
  go_wp2_with fail
  go_ret
  exact ⟨rfl, HK2.out⟩

set_option maxHeartbeats 1000000 in
set_option maxRecDepth 100000 in
theorem apply_7 (a b : Int) (w : World) : Calls Tryd.prog 17 #[.int .i64 7, .int .i64 a, .int .i64 b] w fun e w' => e = .returned (.int .i64 (apS 7 a b)) ∧ Below w.heap.size w w' := by
  rw [apS_no _ _ _ (by omega)]
  go_enter Tryd.func17, Tryd.ntmps17
  go_wp2_with fail
  refine (operators_any w).mono ?_
  rintro e w1 ⟨rfl, hb⟩
  have HB := Lib.hid hb
  clear hb
  go_upto_region 2 with (refine wpList_store_row rfl 52 _ _ rfl w1.heap.size opTab rfl rfl _ _ (new_blk w1 opZ) infoOp rfl opOne ?_)
  obtain ⟨w2, hw2⟩ : ∃ w2, (w1.alloc opZ).setRow w1.heap.size opTab = w2 := ⟨_, rfl⟩
  have hx : w2.heap[w1.heap.size]? = some (.cells opTab 52 (0, 0)) := hw2 ▸ setRow_same (new_blk w1 opZ)
  have hk2 : Below w.heap.size w w2 := by
    rw [← hw2]
    exact (Keep.below (R := w1.heap.size) (((Keep.of_below HB.out).alloc opZ).setRow HB.out.size _) (Nat.le_refl _) HB.out.size)
  have HK2 := Lib.hid hk2
  simp only [hw2]
  clear hw2 hk2
  have c : w2.cell? ⟨w1.heap.size, 7, none⟩ = some (.nilFunc) := by rw [Lib.cell_of_heap hx]; rfl
  clear hx
  have qf := nil_nil
  go_wp2_with fail
  go_ret
  exact ⟨rfl, HK2.out⟩

set_option maxHeartbeats 1000000 in
set_option maxRecDepth 100000 in
theorem apply_8 (a b : Int) (w : World) : Calls Tryd.prog 17 #[.int .i64 8, .int .i64 a, .int .i64 b] w fun e w' => e = .returned (.int .i64 (apS 8 a b)) ∧ Below w.heap.size w w' := by
  obtain ⟨R, hR⟩ : ∃ R, apS 8 a b = R := ⟨_, rfl⟩
  have HC := Lib.hid (clo_8 a b)
  rw [hR] at HC ⊢
  clear hR
  go_enter Tryd.func17, Tryd.ntmps17
  go_wp2_with fail
  refine (operators_any w).mono ?_
  rintro e w1 ⟨rfl, hb⟩
  have HB := Lib.hid hb
  clear hb
  go_upto_region 2 with (refine wpList_store_row rfl 52 _ _ rfl w1.heap.size opTab rfl rfl _ _ (new_blk w1 opZ) infoOp rfl opOne ?_)
  obtain ⟨w2, hw2⟩ : ∃ w2, (w1.alloc opZ).setRow w1.heap.size opTab = w2 := ⟨_, rfl⟩
  have hx : w2.heap[w1.heap.size]? = some (.cells opTab 52 (0, 0)) := hw2 ▸ setRow_same (new_blk w1 opZ)
  have hk2 : Below w.heap.size w w2 := by
    rw [← hw2]
    exact (Keep.below (R := w1.heap.size) (((Keep.of_below HB.out).alloc opZ).setRow HB.out.size _) (Nat.le_refl _) HB.out.size)
  have HK2 := Lib.hid hk2
  simp only [hw2]
  clear hw2 hk2
  have c : w2.cell? ⟨w1.heap.size, 8, none⟩ = some (.func (.func 29) #[] #[]) := by rw [Lib.cell_of_heap hx]; rfl
  clear hx
  have qf := fn_nil
  go_wp2_with fail
  refine (HC.out _).mono ?_
  rintro e w3 ⟨rfl, rfl⟩
  go_wp2_with fail
  go_ret
  exact ⟨rfl, HK2.out⟩

set_option maxHeartbeats 1000000 in
set_option maxRecDepth 100000 in
theorem apply_9 (a b : Int) (w : World) : Calls Tryd.prog 17 #[.int .i64 9, .int .i64 a, .int .i64 b] w fun e w' => e = .returned (.int .i64 (apS 9 a b)) ∧ Below w.heap.size w w' := by
  obtain ⟨R, hR⟩ : ∃ R, apS 9 a b = R := ⟨_, rfl⟩
  have HC := Lib.hid (clo_9 a b)
  rw [hR] at HC ⊢
  clear hR
  go_enter Tryd.func17, Tryd.ntmps17
  go_wp2_with fail
  refine (operators_any w).mono ?_
  rintro e w1 ⟨rfl, hb⟩
  have HB := Lib.hid hb
  clear hb
  go_upto_region 2 with (refine wpList_store_row rfl 52 _ _ rfl w1.heap.size opTab rfl rfl _ _ (new_blk w1 opZ) infoOp rfl opOne ?_)
  obtain ⟨w2, hw2⟩ : ∃ w2, (w1.alloc opZ).setRow w1.heap.size opTab = w2 := ⟨_, rfl⟩
  have hx : w2.heap[w1.heap.size]? = some (.cells opTab 52 (0, 0)) := hw2 ▸ setRow_same (new_blk w1 opZ)
  have hk2 : Below w.heap.size w w2 := by
    rw [← hw2]
    exact (Keep.below (R := w1.heap.size) (((Keep.of_below HB.out).alloc opZ).setRow HB.out.size _) (Nat.le_refl _) HB.out.size)
  have HK2 := Lib.hid hk2
  simp only [hw2]
  clear hw2 hk2
  have c : w2.cell? ⟨w1.heap.size, 9, none⟩ = some (.func (.func 30) #[] #[]) := by rw [Lib.cell_of_heap hx]; rfl
  clear hx
  have qf := fn_nil
  go_wp2_with fail
  refine (HC.out _).mono ?_
  rintro e w3 ⟨rfl, rfl⟩
  go_wp2_with fail
  go_ret
  exact ⟨rfl, HK2.out⟩

set_option maxHeartbeats 1000000 in
set_option maxRecDepth 100000 in
theorem apply_10 (a b : Int) (w : World) : Calls Tryd.prog 17 #[.int .i64 10, .int .i64 a, .int .i64 b] w fun e w' => e = .returned (.int .i64 (apS 10 a b)) ∧ Below w.heap.size w w' := by
  obtain ⟨R, hR⟩ : ∃ R, apS 10 a b = R := ⟨_, rfl⟩
  have HC := Lib.hid (clo_10 a b)
  rw [hR] at HC ⊢
  clear hR
  go_enter Tryd.func17, Tryd.ntmps17
  go_wp2_with fail
  refine (operators_any w).mono ?_
  rintro e w1 ⟨rfl, hb⟩
  have HB := Lib.hid hb
  clear hb
  go_upto_region 2 with (refine wpList_store_row rfl 52 _ _ rfl w1.heap.size opTab rfl rfl _ _ (new_blk w1 opZ) infoOp rfl opOne ?_)
  obtain ⟨w2, hw2⟩ : ∃ w2, (w1.alloc opZ).setRow w1.heap.size opTab = w2 := ⟨_, rfl⟩
  have hx : w2.heap[w1.heap.size]? = some (.cells opTab 52 (0, 0)) := hw2 ▸ setRow_same (new_blk w1 opZ)
  have hk2 : Below w.heap.size w w2 := by
    rw [← hw2]
    exact (Keep.below (R := w1.heap.size) (((Keep.of_below HB.out).alloc opZ).setRow HB.out.size _) (Nat.le_refl _) HB.out.size)
  have HK2 := Lib.hid hk2
  simp only [hw2]
  clear hw2 hk2
  have c : w2.cell? ⟨w1.heap.size, 10, none⟩ = some (.func (.func 32) #[] #[]) := by rw [Lib.cell_of_heap hx]; rfl
  clear hx
  have qf := fn_nil
  go_wp2_with fail
  refine (HC.out _).mono ?_
  rintro e w3 ⟨rfl, rfl⟩
  go_wp2_with fail
  go_ret
  exact ⟨rfl, HK2.out⟩

set_option maxHeartbeats 1000000 in
set_option maxRecDepth 100000 in
theorem apply_11 (a b : Int) (w : World) : Calls Tryd.prog 17 #[.int .i64 11, .int .i64 a, .int .i64 b] w fun e w' => e = .returned (.int .i64 (apS 11 a b)) ∧ Below w.heap.size w w' := by
  obtain ⟨R, hR⟩ : ∃ R, apS 11 a b = R := ⟨_, rfl⟩
  have HC := Lib.hid (clo_11 a b)
  rw [hR] at HC ⊢
  clear hR
  go_enter Tryd.func17, Tryd.ntmps17
  go_wp2_with fail
  refine (operators_any w).mono ?_
  rintro e w1 ⟨rfl, hb⟩
  have HB := Lib.hid hb
  clear hb
  go_upto_region 2 with (refine wpList_store_row rfl 52 _ _ rfl w1.heap.size opTab rfl rfl _ _ (new_blk w1 opZ) infoOp rfl opOne ?_)
  obtain ⟨w2, hw2⟩ : ∃ w2, (w1.alloc opZ).setRow w1.heap.size opTab = w2 := ⟨_, rfl⟩
  have hx : w2.heap[w1.heap.size]? = some (.cells opTab 52 (0, 0)) := hw2 ▸ setRow_same (new_blk w1 opZ)
  have hk2 : Below w.heap.size w w2 := by
    rw [← hw2]
    exact (Keep.below (R := w1.heap.size) (((Keep.of_below HB.out).alloc opZ).setRow HB.out.size _) (Nat.le_refl _) HB.out.size)
  have HK2 := Lib.hid hk2
  simp only [hw2]
  clear hw2 hk2
  have c : w2.cell? ⟨w1.heap.size, 11, none⟩ = some (.func (.func 33) #[] #[]) := by rw [Lib.cell_of_heap hx]; rfl
  clear hx
  have qf := fn_nil
  go_wp2_with fail
  refine (HC.out _).mono ?_
  rintro e w3 ⟨rfl, rfl⟩
  go_wp2_with fail
  go_ret
  exact ⟨rfl, HK2.out⟩

set_option maxHeartbeats 1000000 in
set_option maxRecDepth 100000 in
theorem apply_12 (a b : Int) (w : World) : Calls Tryd.prog 17 #[.int .i64 12, .int .i64 a, .int .i64 b] w fun e w' => e = .returned (.int .i64 (apS 12 a b)) ∧ Below w.heap.size w w' := by
  obtain ⟨R, hR⟩ : ∃ R, apS 12 a b = R := ⟨_, rfl⟩
  have HC := Lib.hid (clo_12 a b)
  rw [hR] at HC ⊢
  clear hR
  go_enter Tryd.func17, Tryd.ntmps17
  go_wp2_with fail
  refine (operators_any w).mono ?_
  rintro e w1 ⟨rfl, hb⟩
  have HB := Lib.hid hb
  clear hb
  go_upto_region 2 with (refine wpList_store_row rfl 52 _ _ rfl w1.heap.size opTab rfl rfl _ _ (new_blk w1 opZ) infoOp rfl opOne ?_)
  obtain ⟨w2, hw2⟩ : ∃ w2, (w1.alloc opZ).setRow w1.heap.size opTab = w2 := ⟨_, rfl⟩
  have hx : w2.heap[w1.heap.size]? = some (.cells opTab 52 (0, 0)) := hw2 ▸ setRow_same (new_blk w1 opZ)
  have hk2 : Below w.heap.size w w2 := by
    rw [← hw2]
    exact (Keep.below (R := w1.heap.size) (((Keep.of_below HB.out).alloc opZ).setRow HB.out.size _) (Nat.le_refl _) HB.out.size)
  have HK2 := Lib.hid hk2
  simp only [hw2]
  clear hw2 hk2
  have c : w2.cell? ⟨w1.heap.size, 12, none⟩ = some (.func (.func 34) #[] #[]) := by rw [Lib.cell_of_heap hx]; rfl
  clear hx
  have qf := fn_nil
  go_wp2_with fail
  refine (HC.out _).mono ?_
  rintro e w3 ⟨rfl, rfl⟩
  go_wp2_with fail
  go_ret
  exact ⟨rfl, HK2.out⟩

set_option maxHeartbeats 1000000 in
set_option maxRecDepth 100000 in
theorem apply_13 (a b : Int) (w : World) : Calls Tryd.prog 17 #[.int .i64 13, .int .i64 a, .int .i64 b] w fun e w' => e = .returned (.int .i64 (apS 13 a b)) ∧ Below w.heap.size w w' := by
  obtain ⟨R, hR⟩ : ∃ R, apS 13 a b = R := ⟨_, rfl⟩
  have HC := Lib.hid (clo_13 a b)
  rw [hR] at HC ⊢
  clear hR
  go_enter Tryd.func17, Tryd.ntmps17
  go_wp2_with fail
  refine (operators_any w).mono ?_
  rintro e w1 ⟨rfl, hb⟩
  have HB := Lib.hid hb
  clear hb
  go_upto_region 2 with (refine wpList_store_row rfl 52 _ _ rfl w1.heap.size opTab rfl rfl _ _ (new_blk w1 opZ) infoOp rfl opOne ?_)
  obtain ⟨w2, hw2⟩ : ∃ w2, (w1.alloc opZ).setRow w1.heap.size opTab = w2 := ⟨_, rfl⟩
  have hx : w2.heap[w1.heap.size]? = some (.cells opTab 52 (0, 0)) := hw2 ▸ setRow_same (new_blk w1 opZ)
  have hk2 : Below w.heap.size w w2 := by
    rw [← hw2]
    exact (Keep.below (R := w1.heap.size) (((Keep.of_below HB.out).alloc opZ).setRow HB.out.size _) (Nat.le_refl _) HB.out.size)
  have HK2 := Lib.hid hk2
  simp only [hw2]
  clear hw2 hk2
  have c : w2.cell? ⟨w1.heap.size, 13, none⟩ = some (.func (.func 35) #[] #[]) := by rw [Lib.cell_of_heap hx]; rfl
  clear hx
  have qf := fn_nil
  go_wp2_with fail
  refine (HC.out _).mono ?_
  rintro e w3 ⟨rfl, rfl⟩
  go_wp2_with fail
  go_ret
  exact ⟨rfl, HK2.out⟩

set_option maxHeartbeats 1000000 in
set_option maxRecDepth 100000 in
theorem apply_14 (a b : Int) (w : World) : Calls Tryd.prog 17 #[.int .i64 14, .int .i64 a, .int .i64 b] w fun e w' => e = .returned (.int .i64 (apS 14 a b)) ∧ Below w.heap.size w w' := by
  obtain ⟨R, hR⟩ : ∃ R, apS 14 a b = R := ⟨_, rfl⟩
  have HC := Lib.hid (clo_14 a b)
  rw [hR] at HC ⊢
  clear hR
  go_enter Tryd.func17, Tryd.ntmps17
  go_wp2_with fail
  refine (operators_any w).mono ?_
  rintro e w1 ⟨rfl, hb⟩
  have HB := Lib.hid hb
  clear hb
  go_upto_region 2 with (refine wpList_store_row rfl 52 _ _ rfl w1.heap.size opTab rfl rfl _ _ (new_blk w1 opZ) infoOp rfl opOne ?_)
  obtain ⟨w2, hw2⟩ : ∃ w2, (w1.alloc opZ).setRow w1.heap.size opTab = w2 := ⟨_, rfl⟩
  have hx : w2.heap[w1.heap.size]? = some (.cells opTab 52 (0, 0)) := hw2 ▸ setRow_same (new_blk w1 opZ)
  have hk2 : Below w.heap.size w w2 := by
    rw [← hw2]
    exact (Keep.below (R := w1.heap.size) (((Keep.of_below HB.out).alloc opZ).setRow HB.out.size _) (Nat.le_refl _) HB.out.size)
  have HK2 := Lib.hid hk2
  simp only [hw2]
  clear hw2 hk2
  have c : w2.cell? ⟨w1.heap.size, 14, none⟩ = some (.func (.func 36) #[] #[]) := by rw [Lib.cell_of_heap hx]; rfl
  clear hx
  have qf := fn_nil
  go_wp2_with fail
  refine (HC.out _).mono ?_
  rintro e w3 ⟨rfl, rfl⟩
  go_wp2_with fail
  go_ret
  exact ⟨rfl, HK2.out⟩

set_option maxHeartbeats 1000000 in
set_option maxRecDepth 100000 in
theorem apply_15 (a b : Int) (w : World) : Calls Tryd.prog 17 #[.int .i64 15, .int .i64 a, .int .i64 b] w fun e w' => e = .returned (.int .i64 (apS 15 a b)) ∧ Below w.heap.size w w' := by
  obtain ⟨R, hR⟩ : ∃ R, apS 15 a b = R := ⟨_, rfl⟩
  have HC := Lib.hid (clo_15 a b)
  rw [hR] at HC ⊢
  clear hR
  go_enter Tryd.func17, Tryd.ntmps17
  go_wp2_with fail
  refine (operators_any w).mono ?_
  rintro e w1 ⟨rfl, hb⟩
  have HB := Lib.hid hb
  clear hb
  go_upto_region 2 with (refine wpList_store_row rfl 52 _ _ rfl w1.heap.size opTab rfl rfl _ _ (new_blk w1 opZ) infoOp rfl opOne ?_)
  obtain ⟨w2, hw2⟩ : ∃ w2, (w1.alloc opZ).setRow w1.heap.size opTab = w2 := ⟨_, rfl⟩
  have hx : w2.heap[w1.heap.size]? = some (.cells opTab 52 (0, 0)) := hw2 ▸ setRow_same (new_blk w1 opZ)
  have hk2 : Below w.heap.size w w2 := by
    rw [← hw2]
    exact (Keep.below (R := w1.heap.size) (((Keep.of_below HB.out).alloc opZ).setRow HB.out.size _) (Nat.le_refl _) HB.out.size)
  have HK2 := Lib.hid hk2
  simp only [hw2]
  clear hw2 hk2
  have c : w2.cell? ⟨w1.heap.size, 15, none⟩ = some (.func (.func 37) #[] #[]) := by rw [Lib.cell_of_heap hx]; rfl
  clear hx
  have qf := fn_nil
  go_wp2_with fail
  refine (HC.out _).mono ?_
  rintro e w3 ⟨rfl, rfl⟩
  go_wp2_with fail
  go_ret
  exact ⟨rfl, HK2.out⟩

set_option maxHeartbeats 1000000 in
set_option maxRecDepth 100000 in
theorem apply_16 (a b : Int) (w : World) : Calls Tryd.prog 17 #[.int .i64 16, .int .i64 a, .int .i64 b] w fun e w' => e = .returned (.int .i64 (apS 16 a b)) ∧ Below w.heap.size w w' := by
  obtain ⟨R, hR⟩ : ∃ R, apS 16 a b = R := ⟨_, rfl⟩
  have HC := Lib.hid (clo_16 a b)
  rw [hR] at HC ⊢
  clear hR
  go_enter Tryd.func17, Tryd.ntmps17
  go_wp2_with fail
  refine (operators_any w).mono ?_
  rintro e w1 ⟨rfl, hb⟩
  have HB := Lib.hid hb
  clear hb
  go_upto_region 2 with (refine wpList_store_row rfl 52 _ _ rfl w1.heap.size opTab rfl rfl _ _ (new_blk w1 opZ) infoOp rfl opOne ?_)
  obtain ⟨w2, hw2⟩ : ∃ w2, (w1.alloc opZ).setRow w1.heap.size opTab = w2 := ⟨_, rfl⟩
  have hx : w2.heap[w1.heap.size]? = some (.cells opTab 52 (0, 0)) := hw2 ▸ setRow_same (new_blk w1 opZ)
  have hk2 : Below w.heap.size w w2 := by
    rw [← hw2]
    exact (Keep.below (R := w1.heap.size) (((Keep.of_below HB.out).alloc opZ).setRow HB.out.size _) (Nat.le_refl _) HB.out.size)
  have HK2 := Lib.hid hk2
  simp only [hw2]
  clear hw2 hk2
  have c : w2.cell? ⟨w1.heap.size, 16, none⟩ = some (.func (.func 38) #[] #[]) := by rw [Lib.cell_of_heap hx]; rfl
  clear hx
  have qf := fn_nil
  go_wp2_with fail
  refine (HC.out _).mono ?_
  rintro e w3 ⟨rfl, rfl⟩
  go_wp2_with fail
  go_ret
  exact ⟨rfl, HK2.out⟩

set_option maxHeartbeats 1000000 in
set_option maxRecDepth 100000 in
theorem apply_17 (a b : Int) (w : World) : Calls Tryd.prog 17 #[.int .i64 17, .int .i64 a, .int .i64 b] w fun e w' => e = .returned (.int .i64 (apS 17 a b)) ∧ Below w.heap.size w w' := by
  obtain ⟨R, hR⟩ : ∃ R, apS 17 a b = R := ⟨_, rfl⟩
  have HC := Lib.hid (clo_17 a b)
  rw [hR] at HC ⊢
  clear hR
  go_enter Tryd.func17, Tryd.ntmps17
  go_wp2_with fail
  refine (operators_any w).mono ?_
  rintro e w1 ⟨rfl, hb⟩
  have HB := Lib.hid hb
  clear hb
  go_upto_region 2 with (refine wpList_store_row rfl 52 _ _ rfl w1.heap.size opTab rfl rfl _ _ (new_blk w1 opZ) infoOp rfl opOne ?_)
  obtain ⟨w2, hw2⟩ : ∃ w2, (w1.alloc opZ).setRow w1.heap.size opTab = w2 := ⟨_, rfl⟩
  have hx : w2.heap[w1.heap.size]? = some (.cells opTab 52 (0, 0)) := hw2 ▸ setRow_same (new_blk w1 opZ)
  have hk2 : Below w.heap.size w w2 := by
    rw [← hw2]
    exact (Keep.below (R := w1.heap.size) (((Keep.of_below HB.out).alloc opZ).setRow HB.out.size _) (Nat.le_refl _) HB.out.size)
  have HK2 := Lib.hid hk2
  simp only [hw2]
  clear hw2 hk2
  have c : w2.cell? ⟨w1.heap.size, 17, none⟩ = some (.func (.func 39) #[] #[]) := by rw [Lib.cell_of_heap hx]; rfl
  clear hx
  have qf := fn_nil
  go_wp2_with fail
  refine (HC.out _).mono ?_
  rintro e w3 ⟨rfl, rfl⟩
  go_wp2_with fail
  go_ret
  exact ⟨rfl, HK2.out⟩

set_option maxHeartbeats 1000000 in
set_option maxRecDepth 100000 in
theorem apply_18 (a b : Int) (w : World) : Calls Tryd.prog 17 #[.int .i64 18, .int .i64 a, .int .i64 b] w fun e w' => e = .returned (.int .i64 (apS 18 a b)) ∧ Below w.heap.size w w' := by
  obtain ⟨R, hR⟩ : ∃ R, apS 18 a b = R := ⟨_, rfl⟩
  have HC := Lib.hid (clo_18 a b)
  rw [hR] at HC ⊢
  clear hR
  go_enter Tryd.func17, Tryd.ntmps17
  go_wp2_with fail
  refine (operators_any w).mono ?_
  rintro e w1 ⟨rfl, hb⟩
  have HB := Lib.hid hb
  clear hb
  go_upto_region 2 with (refine wpList_store_row rfl 52 _ _ rfl w1.heap.size opTab rfl rfl _ _ (new_blk w1 opZ) infoOp rfl opOne ?_)
  obtain ⟨w2, hw2⟩ : ∃ w2, (w1.alloc opZ).setRow w1.heap.size opTab = w2 := ⟨_, rfl⟩
  have hx : w2.heap[w1.heap.size]? = some (.cells opTab 52 (0, 0)) := hw2 ▸ setRow_same (new_blk w1 opZ)
  have hk2 : Below w.heap.size w w2 := by
    rw [← hw2]
    exact (Keep.below (R := w1.heap.size) (((Keep.of_below HB.out).alloc opZ).setRow HB.out.size _) (Nat.le_refl _) HB.out.size)
  have HK2 := Lib.hid hk2
  simp only [hw2]
  clear hw2 hk2
  have c : w2.cell? ⟨w1.heap.size, 18, none⟩ = some (.func (.func 40) #[] #[]) := by rw [Lib.cell_of_heap hx]; rfl
  clear hx
  have qf := fn_nil
  go_wp2_with fail
  refine (HC.out _).mono ?_
  rintro e w3 ⟨rfl, rfl⟩
  go_wp2_with fail
  go_ret
  exact ⟨rfl, HK2.out⟩

set_option maxHeartbeats 1000000 in
set_option maxRecDepth 100000 in
theorem apply_19 (a b : Int) (w : World) : Calls Tryd.prog 17 #[.int .i64 19, .int .i64 a, .int .i64 b] w fun e w' => e = .returned (.int .i64 (apS 19 a b)) ∧ Below w.heap.size w w' := by
  obtain ⟨R, hR⟩ : ∃ R, apS 19 a b = R := ⟨_, rfl⟩
  have HC := Lib.hid (clo_19 a b)
  rw [hR] at HC ⊢
  clear hR
  go_enter Tryd.func17, Tryd.ntmps17
  go_wp2_with fail
  refine (operators_any w).mono ?_
  rintro e w1 ⟨rfl, hb⟩
  have HB := Lib.hid hb
  clear hb
  go_upto_region 2 with (refine wpList_store_row rfl 52 _ _ rfl w1.heap.size opTab rfl rfl _ _ (new_blk w1 opZ) infoOp rfl opOne ?_)
  obtain ⟨w2, hw2⟩ : ∃ w2, (w1.alloc opZ).setRow w1.heap.size opTab = w2 := ⟨_, rfl⟩
  have hx : w2.heap[w1.heap.size]? = some (.cells opTab 52 (0, 0)) := hw2 ▸ setRow_same (new_blk w1 opZ)
  have hk2 : Below w.heap.size w w2 := by
    rw [← hw2]
    exact (Keep.below (R := w1.heap.size) (((Keep.of_below HB.out).alloc opZ).setRow HB.out.size _) (Nat.le_refl _) HB.out.size)
  have HK2 := Lib.hid hk2
  simp only [hw2]
  clear hw2 hk2
  have c : w2.cell? ⟨w1.heap.size, 19, none⟩ = some (.func (.func 41) #[] #[]) := by rw [Lib.cell_of_heap hx]; rfl
  clear hx
  have qf := fn_nil
  go_wp2_with fail
  refine (HC.out _).mono ?_
  rintro e w3 ⟨rfl, rfl⟩
  go_wp2_with fail
  go_ret
  exact ⟨rfl, HK2.out⟩

set_option maxHeartbeats 1000000 in
set_option maxRecDepth 100000 in
theorem apply_20 (a b : Int) (w : World) : Calls Tryd.prog 17 #[.int .i64 20, .int .i64 a, .int .i64 b] w fun e w' => e = .returned (.int .i64 (apS 20 a b)) ∧ Below w.heap.size w w' := by
  obtain ⟨R, hR⟩ : ∃ R, apS 20 a b = R := ⟨_, rfl⟩
  have HC := Lib.hid (clo_20 a b)
  rw [hR] at HC ⊢
  clear hR
  go_enter Tryd.func17, Tryd.ntmps17
  go_wp2_with fail
  refine (operators_any w).mono ?_
  rintro e w1 ⟨rfl, hb⟩
  have HB := Lib.hid hb
  clear hb
  go_upto_region 2 with (refine wpList_store_row rfl 52 _ _ rfl w1.heap.size opTab rfl rfl _ _ (new_blk w1 opZ) infoOp rfl opOne ?_)
  obtain ⟨w2, hw2⟩ : ∃ w2, (w1.alloc opZ).setRow w1.heap.size opTab = w2 := ⟨_, rfl⟩
  have hx : w2.heap[w1.heap.size]? = some (.cells opTab 52 (0, 0)) := hw2 ▸ setRow_same (new_blk w1 opZ)
  have hk2 : Below w.heap.size w w2 := by
    rw [← hw2]
    exact (Keep.below (R := w1.heap.size) (((Keep.of_below HB.out).alloc opZ).setRow HB.out.size _) (Nat.le_refl _) HB.out.size)
  have HK2 := Lib.hid hk2
  simp only [hw2]
  clear hw2 hk2
  have c : w2.cell? ⟨w1.heap.size, 20, none⟩ = some (.func (.func 42) #[] #[]) := by rw [Lib.cell_of_heap hx]; rfl
  clear hx
  have qf := fn_nil
  go_wp2_with fail
  refine (HC.out _).mono ?_
  rintro e w3 ⟨rfl, rfl⟩
  go_wp2_with fail
  go_ret
  exact ⟨rfl, HK2.out⟩

set_option maxHeartbeats 1000000 in
set_option maxRecDepth 100000 in
theorem apply_21 (a b : Int) (w : World) : Calls Tryd.prog 17 #[.int .i64 21, .int .i64 a, .int .i64 b] w fun e w' => e = .returned (.int .i64 (apS 21 a b)) ∧ Below w.heap.size w w' := by
  obtain ⟨R, hR⟩ : ∃ R, apS 21 a b = R := ⟨_, rfl⟩
  have HC := Lib.hid (clo_21 a b)
  rw [hR] at HC ⊢
  clear hR
  go_enter Tryd.func17, Tryd.ntmps17
  go_wp2_with fail
  refine (operators_any w).mono ?_
  rintro e w1 ⟨rfl, hb⟩
  have HB := Lib.hid hb
  clear hb
  go_upto_region 2 with (refine wpList_store_row rfl 52 _ _ rfl w1.heap.size opTab rfl rfl _ _ (new_blk w1 opZ) infoOp rfl opOne ?_)
  obtain ⟨w2, hw2⟩ : ∃ w2, (w1.alloc opZ).setRow w1.heap.size opTab = w2 := ⟨_, rfl⟩
  have hx : w2.heap[w1.heap.size]? = some (.cells opTab 52 (0, 0)) := hw2 ▸ setRow_same (new_blk w1 opZ)
  have hk2 : Below w.heap.size w w2 := by
    rw [← hw2]
    exact (Keep.below (R := w1.heap.size) (((Keep.of_below HB.out).alloc opZ).setRow HB.out.size _) (Nat.le_refl _) HB.out.size)
  have HK2 := Lib.hid hk2
  simp only [hw2]
  clear hw2 hk2
  have c : w2.cell? ⟨w1.heap.size, 21, none⟩ = some (.func (.func 43) #[] #[]) := by rw [Lib.cell_of_heap hx]; rfl
  clear hx
  have qf := fn_nil
  go_wp2_with fail
  refine (HC.out _).mono ?_
  rintro e w3 ⟨rfl, rfl⟩
  go_wp2_with fail
  go_ret
  exact ⟨rfl, HK2.out⟩

set_option maxHeartbeats 1000000 in
set_option maxRecDepth 100000 in
theorem apply_22 (a b : Int) (w : World) : Calls Tryd.prog 17 #[.int .i64 22, .int .i64 a, .int .i64 b] w fun e w' => e = .returned (.int .i64 (apS 22 a b)) ∧ Below w.heap.size w w' := by
  obtain ⟨R, hR⟩ : ∃ R, apS 22 a b = R := ⟨_, rfl⟩
  have HC := Lib.hid (clo_22 a b)
  rw [hR] at HC ⊢
  clear hR
  go_enter Tryd.func17, Tryd.ntmps17
  go_wp2_with fail
  refine (operators_any w).mono ?_
  rintro e w1 ⟨rfl, hb⟩
  have HB := Lib.hid hb
  clear hb
  go_upto_region 2 with (refine wpList_store_row rfl 52 _ _ rfl w1.heap.size opTab rfl rfl _ _ (new_blk w1 opZ) infoOp rfl opOne ?_)
  obtain ⟨w2, hw2⟩ : ∃ w2, (w1.alloc opZ).setRow w1.heap.size opTab = w2 := ⟨_, rfl⟩
  have hx : w2.heap[w1.heap.size]? = some (.cells opTab 52 (0, 0)) := hw2 ▸ setRow_same (new_blk w1 opZ)
  have hk2 : Below w.heap.size w w2 := by
    rw [← hw2]
    exact (Keep.below (R := w1.heap.size) (((Keep.of_below HB.out).alloc opZ).setRow HB.out.size _) (Nat.le_refl _) HB.out.size)
  have HK2 := Lib.hid hk2
  simp only [hw2]
  clear hw2 hk2
  have c : w2.cell? ⟨w1.heap.size, 22, none⟩ = some (.func (.func 44) #[] #[]) := by rw [Lib.cell_of_heap hx]; rfl
  clear hx
  have qf := fn_nil
  go_wp2_with fail
  refine (HC.out _).mono ?_
  rintro e w3 ⟨rfl, rfl⟩
  go_wp2_with fail
  go_ret
  exact ⟨rfl, HK2.out⟩

set_option maxHeartbeats 1000000 in
set_option maxRecDepth 100000 in
theorem apply_out (op a b : Int) (h : op < 0 ∨ 23 ≤ op) (w : World) : Calls Tryd.prog 17 #[.int .i64 op, .int .i64 a, .int .i64 b] w fun e w' => e = .returned (.int .i64 (apS op a b)) ∧ Below w.heap.size w w' := by
  rw [apS_no _ _ _ (by omega)]
  rcases h with h | h <;>
  · go_enter Tryd.func17, Tryd.ntmps17
    go_wp2_with fail
    refine (operators_any w).mono ?_
    rintro e w1 ⟨rfl, hb⟩
    have HB := Lib.hid hb
    clear hb
    go_upto_region 2 with (refine wpList_store_row rfl 52 _ _ rfl w1.heap.size opTab rfl rfl _ _ (new_blk w1 opZ) infoOp rfl opOne ?_)
    obtain ⟨w2, hw2⟩ : ∃ w2, (w1.alloc opZ).setRow w1.heap.size opTab = w2 := ⟨_, rfl⟩
    have hx : w2.heap[w1.heap.size]? = some (.cells opTab 52 (0, 0)) := hw2 ▸ setRow_same (new_blk w1 opZ)
    have hk2 : Below w.heap.size w w2 := by
      rw [← hw2]
      exact (Keep.below (R := w1.heap.size) (((Keep.of_below HB.out).alloc opZ).setRow HB.out.size _) (Nat.le_refl _) HB.out.size)
    have HK2 := Lib.hid hk2
    simp only [hw2]
    clear hw2 hk2
    clear hx
    go_wp2_with fail
    go_ret
    exact ⟨rfl, HK2.out⟩

/-- Apply, at every operator. -/
theorem apply_any (op a b : Int) (w : World) : Calls Tryd.prog 17 #[.int .i64 op, .int .i64 a, .int .i64 b] w fun e w' => e = .returned (.int .i64 (apS op a b)) ∧ Below w.heap.size w w' := by
  by_cases h : op < 0 ∨ 23 ≤ op
  · exact apply_out op a b h w
  · have h2 : op = 0 ∨ op = 1 ∨ op = 2 ∨ op = 3 ∨ op = 4 ∨ op = 5 ∨ op = 6 ∨ op = 7 ∨ op = 8 ∨ op = 9 ∨ op = 10 ∨ op = 11 ∨ op = 12 ∨ op = 13 ∨ op = 14 ∨ op = 15 ∨ op = 16 ∨ op = 17 ∨ op = 18 ∨ op = 19 ∨ op = 20 ∨ op = 21 ∨ op = 22 := by omega
    rcases h2 with rfl | rfl | rfl | rfl | rfl | rfl | rfl | rfl | rfl | rfl | rfl | rfl | rfl | rfl | rfl | rfl | rfl | rfl | rfl | rfl | rfl | rfl | rfl
    · exact apply_0 a b w
    · exact apply_1 a b w
    · exact apply_2 a b w
    · exact apply_3 a b w
    · exact apply_4 a b w
    · exact apply_5 a b w
    · exact apply_6 a b w
    · exact apply_7 a b w
    · exact apply_8 a b w
    · exact apply_9 a b w
    · exact apply_10 a b w
    · exact apply_11 a b w
    · exact apply_12 a b w
    · exact apply_13 a b w
    · exact apply_14 a b w
    · exact apply_15 a b w
    · exact apply_16 a b w
    · exact apply_17 a b w
    · exact apply_18 a b w
    · exact apply_19 a b w
    · exact apply_20 a b w
    · exact apply_21 a b w
    · exact apply_22 a b w
end Go.Proofs.YtocebddhllfhpaaDoor
