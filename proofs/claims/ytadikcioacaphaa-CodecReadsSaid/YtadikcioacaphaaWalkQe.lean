/-
  What event, count, ints and begin of the document's answer for chapter 8 do (gens89.py writes this text). Conditions: at most 2^40 bytes.
-/
import Derived.Test.YtadikcioacaphaaWalkQi
namespace Go.Proofs.Ytadikcioacaphaa
open Go.RowKit

theorem int_q {R : Nat} {w : World} {bs : List Nat} {s : RR Unit} (h : Qd R w bs s) : Calls Try.prog 29 #[.pointer (some ⟨R, 0, none⟩)] w (QI R bs (intS s) w) := by
  cases s with
  | ok u rest => exact int_ok R bs rest w h
  | err k =>
    refine (int_er R k w h).mono ?_
    rintro e w' ⟨rfl, rfl⟩
    exact ⟨0, rfl, fun z' t h => by simp [intS] at h, fun _ _ => rfl, h, Keep.refl _ _⟩
/-- What event of the answer returns, and others that read some numbers. -/
def QV (n R : Nat) (bs : List Nat) (s : RR Unit) (w : World) (e : Ending) (w' : World) : Prop :=
  ∃ zs : List Int, e = .returned (.agg (zs.map (Value.int .i64)).toArray) ∧ zs.length = n ∧ (∀ vs t, numsQ n s = .ok vs t → vs = zs) ∧ Qd R w' bs (stU (numsQ n s)) ∧ Keep R w w'

set_option maxHeartbeats 4000000 in
set_option maxRecDepth 100000 in
theorem event_q (R : Nat) (bs : List Nat) (s : RR Unit) (w : World) (h : Qd R w bs s) :
    Calls Try.prog 61 #[.pointer (some ⟨R, 0, none⟩)] w (QV 7 R bs s w) := by
  obtain ⟨nb, hnb⟩ : ∃ x, w.heap.size = x := ⟨_, rfl⟩
  obtain ⟨W, hW⟩ : ∃ x, ((w.alloc (.cells #[.int .i64 0, .int .i64 0, .int .i64 0, .int .i64 0, .int .i64 0, .int .i64 0, .int .i64 0] 35)).alloc (.cells #[.int .i64 0, .int .i64 0, .int .i64 0, .int .i64 0, .int .i64 0, .int .i64 0, .int .i64 0] 35)) = x := ⟨_, rfl⟩
  have hb0 : Below w.heap.size w W := by rw [← hW]; exact (rp_one1 _ _).alloc (by rw [new_size]; omega) _
  have HA0 : Hid (W.heap[nb]? = some (.cells #[.int .i64 0, .int .i64 0, .int .i64 0, .int .i64 0, .int .i64 0, .int .i64 0, .int .i64 0] 35 (0, 0))) := by show _ = _; rw [← hW, alloc_blk _ _ (by rw [new_size]; omega), ← hnb]; exact new_blk _ _
  have HZ0 : Hid (W.heap[nb + 1]? = some (.cells #[.int .i64 0, .int .i64 0, .int .i64 0, .int .i64 0, .int .i64 0, .int .i64 0, .int .i64 0] 35 (0, 0))) := by show _ = _; rw [← hW, ← hnb]; exact new_blk1 _ _ _
  have hRn : R < nb := by have := h.lt; omega
  have HRN : Hid (R < nb) := hRn
  have HNW : Hid (w.heap.size ≤ nb) := by show _ ≤ _; omega
  have HS0 := Lib.hid (h.below hb0)
  have HK0 := Lib.hid (Keep.of_below (R := R) hb0)
  clear h hb0 hRn
  go_enter Try.func61, Try.ntmps61
  go_upto_region 2 with fail
  try simp only [hW]
  clear hW hnb
  go_wp2_with fail
  refine (int_q HS0.out).mono ?_
  rintro e w1 ⟨z0, rfl, hz0, _, hq, hk⟩
  have HI0 := Lib.hid hz0
  have hA1 := hk.blk HA0.out (show nb ≠ R by have := HRN.out; omega)
  have hZ1 := hk.blk HZ0.out (show nb + 1 ≠ R by have := HRN.out; omega)
  have c0 := (World.cell?_of_block (w := w1) (w' := w1) (a := ⟨nb + 1, 0, none⟩) rfl).trans (by rw [Lib.cell_of_heap hZ1]; rfl : w1.cell? ⟨nb + 1, 0, none⟩ = some (.int .i64 0))
  have f0 := frz8 hZ1 0
  have hzz : nb + 1 < w1.heap.size := lt_of_block hZ1
  have HW1 := Lib.hid (HK0.out.trans hk)
  have HQ1 := Lib.hid hq
  have HAx := Lib.hid hA1
  have HZx := Lib.hid hZ1
  clear hz0 hq hk hA1 hZ1
  go_upto_region 3 with fail
  obtain ⟨w2, hw⟩ : ∃ x, w1.setCell ⟨nb + 1, 0, none⟩ (.int .i64 z0) = x := ⟨_, rfl⟩
  have HS1 : Hid (Qd R w2 bs (stU (intS s))) := by
    show Qd _ _ _ _
    rw [← hw]
    exact HQ1.out.still fun k hk => Below.heap_setCell _ _ _ _ (by show k ≠ nb + 1; have := HRN.out; omega)
  have HK1 : Hid (Keep R w w2) := by show Keep _ _ _; rw [← hw]; exact HW1.out.setNew (p := ⟨nb + 1, 0, none⟩) (by show _ ≤ nb + 1; have := HNW.out; omega) _
  have HZ1 : Hid (w2.heap[nb + 1]? = some (.cells #[.int .i64 z0, .int .i64 0, .int .i64 0, .int .i64 0, .int .i64 0, .int .i64 0, .int .i64 0] 35 (0, 0))) := by show _ = _; rw [← hw]; exact blk_set HZx.out 0 _
  have HA1 : Hid (w2.heap[nb]? = some (.cells #[.int .i64 0, .int .i64 0, .int .i64 0, .int .i64 0, .int .i64 0, .int .i64 0, .int .i64 0] 35 (0, 0))) := by show _ = _; rw [← hw, Below.heap_setCell _ _ _ _ (by show nb ≠ nb + 1; omega)]; exact HAx.out
  try simp only [hw]
  clear hw c0 f0 hzz HW1 HQ1 HAx HZx
  go_wp2_with fail
  refine (int_q HS1.out).mono ?_
  rintro e w1 ⟨z1, rfl, hz1, _, hq, hk⟩
  have HI1 := Lib.hid hz1
  have hA1 := hk.blk HA1.out (show nb ≠ R by have := HRN.out; omega)
  have hZ1 := hk.blk HZ1.out (show nb + 1 ≠ R by have := HRN.out; omega)
  have c1 := (World.cell?_of_block (w := w1) (w' := w1) (a := ⟨nb + 1, 1, none⟩) rfl).trans (by rw [Lib.cell_of_heap hZ1]; rfl : w1.cell? ⟨nb + 1, 1, none⟩ = some (.int .i64 0))
  have f1 := frz8 hZ1 1
  have hzz : nb + 1 < w1.heap.size := lt_of_block hZ1
  have HW1 := Lib.hid (HK1.out.trans hk)
  have HQ1 := Lib.hid hq
  have HAx := Lib.hid hA1
  have HZx := Lib.hid hZ1
  clear hz1 hq hk hA1 hZ1
  go_upto_region 4 with fail
  obtain ⟨w3, hw⟩ : ∃ x, w1.setCell ⟨nb + 1, 1, none⟩ (.int .i64 z1) = x := ⟨_, rfl⟩
  have HS2 : Hid (Qd R w3 bs (stU (intS (stU (intS s))))) := by
    show Qd _ _ _ _
    rw [← hw]
    exact HQ1.out.still fun k hk => Below.heap_setCell _ _ _ _ (by show k ≠ nb + 1; have := HRN.out; omega)
  have HK2 : Hid (Keep R w w3) := by show Keep _ _ _; rw [← hw]; exact HW1.out.setNew (p := ⟨nb + 1, 1, none⟩) (by show _ ≤ nb + 1; have := HNW.out; omega) _
  have HZ2 : Hid (w3.heap[nb + 1]? = some (.cells #[.int .i64 z0, .int .i64 z1, .int .i64 0, .int .i64 0, .int .i64 0, .int .i64 0, .int .i64 0] 35 (0, 0))) := by show _ = _; rw [← hw]; exact blk_set HZx.out 1 _
  have HA2 : Hid (w3.heap[nb]? = some (.cells #[.int .i64 0, .int .i64 0, .int .i64 0, .int .i64 0, .int .i64 0, .int .i64 0, .int .i64 0] 35 (0, 0))) := by show _ = _; rw [← hw, Below.heap_setCell _ _ _ _ (by show nb ≠ nb + 1; omega)]; exact HAx.out
  try simp only [hw]
  clear hw c1 f1 hzz HW1 HQ1 HAx HZx
  go_wp2_with fail
  refine (int_q HS2.out).mono ?_
  rintro e w1 ⟨z2, rfl, hz2, _, hq, hk⟩
  have HI2 := Lib.hid hz2
  have hA1 := hk.blk HA2.out (show nb ≠ R by have := HRN.out; omega)
  have hZ1 := hk.blk HZ2.out (show nb + 1 ≠ R by have := HRN.out; omega)
  have c2 := (World.cell?_of_block (w := w1) (w' := w1) (a := ⟨nb + 1, 2, none⟩) rfl).trans (by rw [Lib.cell_of_heap hZ1]; rfl : w1.cell? ⟨nb + 1, 2, none⟩ = some (.int .i64 0))
  have f2 := frz8 hZ1 2
  have hzz : nb + 1 < w1.heap.size := lt_of_block hZ1
  have HW1 := Lib.hid (HK2.out.trans hk)
  have HQ1 := Lib.hid hq
  have HAx := Lib.hid hA1
  have HZx := Lib.hid hZ1
  clear hz2 hq hk hA1 hZ1
  go_upto_region 5 with fail
  obtain ⟨w4, hw⟩ : ∃ x, w1.setCell ⟨nb + 1, 2, none⟩ (.int .i64 z2) = x := ⟨_, rfl⟩
  have HS3 : Hid (Qd R w4 bs (stU (intS (stU (intS (stU (intS s))))))) := by
    show Qd _ _ _ _
    rw [← hw]
    exact HQ1.out.still fun k hk => Below.heap_setCell _ _ _ _ (by show k ≠ nb + 1; have := HRN.out; omega)
  have HK3 : Hid (Keep R w w4) := by show Keep _ _ _; rw [← hw]; exact HW1.out.setNew (p := ⟨nb + 1, 2, none⟩) (by show _ ≤ nb + 1; have := HNW.out; omega) _
  have HZ3 : Hid (w4.heap[nb + 1]? = some (.cells #[.int .i64 z0, .int .i64 z1, .int .i64 z2, .int .i64 0, .int .i64 0, .int .i64 0, .int .i64 0] 35 (0, 0))) := by show _ = _; rw [← hw]; exact blk_set HZx.out 2 _
  have HA3 : Hid (w4.heap[nb]? = some (.cells #[.int .i64 0, .int .i64 0, .int .i64 0, .int .i64 0, .int .i64 0, .int .i64 0, .int .i64 0] 35 (0, 0))) := by show _ = _; rw [← hw, Below.heap_setCell _ _ _ _ (by show nb ≠ nb + 1; omega)]; exact HAx.out
  try simp only [hw]
  clear hw c2 f2 hzz HW1 HQ1 HAx HZx
  go_wp2_with fail
  refine (int_q HS3.out).mono ?_
  rintro e w1 ⟨z3, rfl, hz3, _, hq, hk⟩
  have HI3 := Lib.hid hz3
  have hA1 := hk.blk HA3.out (show nb ≠ R by have := HRN.out; omega)
  have hZ1 := hk.blk HZ3.out (show nb + 1 ≠ R by have := HRN.out; omega)
  have c3 := (World.cell?_of_block (w := w1) (w' := w1) (a := ⟨nb + 1, 3, none⟩) rfl).trans (by rw [Lib.cell_of_heap hZ1]; rfl : w1.cell? ⟨nb + 1, 3, none⟩ = some (.int .i64 0))
  have f3 := frz8 hZ1 3
  have hzz : nb + 1 < w1.heap.size := lt_of_block hZ1
  have HW1 := Lib.hid (HK3.out.trans hk)
  have HQ1 := Lib.hid hq
  have HAx := Lib.hid hA1
  have HZx := Lib.hid hZ1
  clear hz3 hq hk hA1 hZ1
  go_upto_region 6 with fail
  obtain ⟨w5, hw⟩ : ∃ x, w1.setCell ⟨nb + 1, 3, none⟩ (.int .i64 z3) = x := ⟨_, rfl⟩
  have HS4 : Hid (Qd R w5 bs (stU (intS (stU (intS (stU (intS (stU (intS s))))))))) := by
    show Qd _ _ _ _
    rw [← hw]
    exact HQ1.out.still fun k hk => Below.heap_setCell _ _ _ _ (by show k ≠ nb + 1; have := HRN.out; omega)
  have HK4 : Hid (Keep R w w5) := by show Keep _ _ _; rw [← hw]; exact HW1.out.setNew (p := ⟨nb + 1, 3, none⟩) (by show _ ≤ nb + 1; have := HNW.out; omega) _
  have HZ4 : Hid (w5.heap[nb + 1]? = some (.cells #[.int .i64 z0, .int .i64 z1, .int .i64 z2, .int .i64 z3, .int .i64 0, .int .i64 0, .int .i64 0] 35 (0, 0))) := by show _ = _; rw [← hw]; exact blk_set HZx.out 3 _
  have HA4 : Hid (w5.heap[nb]? = some (.cells #[.int .i64 0, .int .i64 0, .int .i64 0, .int .i64 0, .int .i64 0, .int .i64 0, .int .i64 0] 35 (0, 0))) := by show _ = _; rw [← hw, Below.heap_setCell _ _ _ _ (by show nb ≠ nb + 1; omega)]; exact HAx.out
  try simp only [hw]
  clear hw c3 f3 hzz HW1 HQ1 HAx HZx
  go_wp2_with fail
  refine (int_q HS4.out).mono ?_
  rintro e w1 ⟨z4, rfl, hz4, _, hq, hk⟩
  have HI4 := Lib.hid hz4
  have hA1 := hk.blk HA4.out (show nb ≠ R by have := HRN.out; omega)
  have hZ1 := hk.blk HZ4.out (show nb + 1 ≠ R by have := HRN.out; omega)
  have c4 := (World.cell?_of_block (w := w1) (w' := w1) (a := ⟨nb + 1, 4, none⟩) rfl).trans (by rw [Lib.cell_of_heap hZ1]; rfl : w1.cell? ⟨nb + 1, 4, none⟩ = some (.int .i64 0))
  have f4 := frz8 hZ1 4
  have hzz : nb + 1 < w1.heap.size := lt_of_block hZ1
  have HW1 := Lib.hid (HK4.out.trans hk)
  have HQ1 := Lib.hid hq
  have HAx := Lib.hid hA1
  have HZx := Lib.hid hZ1
  clear hz4 hq hk hA1 hZ1
  go_upto_region 7 with fail
  obtain ⟨w6, hw⟩ : ∃ x, w1.setCell ⟨nb + 1, 4, none⟩ (.int .i64 z4) = x := ⟨_, rfl⟩
  have HS5 : Hid (Qd R w6 bs (stU (intS (stU (intS (stU (intS (stU (intS (stU (intS s))))))))))) := by
    show Qd _ _ _ _
    rw [← hw]
    exact HQ1.out.still fun k hk => Below.heap_setCell _ _ _ _ (by show k ≠ nb + 1; have := HRN.out; omega)
  have HK5 : Hid (Keep R w w6) := by show Keep _ _ _; rw [← hw]; exact HW1.out.setNew (p := ⟨nb + 1, 4, none⟩) (by show _ ≤ nb + 1; have := HNW.out; omega) _
  have HZ5 : Hid (w6.heap[nb + 1]? = some (.cells #[.int .i64 z0, .int .i64 z1, .int .i64 z2, .int .i64 z3, .int .i64 z4, .int .i64 0, .int .i64 0] 35 (0, 0))) := by show _ = _; rw [← hw]; exact blk_set HZx.out 4 _
  have HA5 : Hid (w6.heap[nb]? = some (.cells #[.int .i64 0, .int .i64 0, .int .i64 0, .int .i64 0, .int .i64 0, .int .i64 0, .int .i64 0] 35 (0, 0))) := by show _ = _; rw [← hw, Below.heap_setCell _ _ _ _ (by show nb ≠ nb + 1; omega)]; exact HAx.out
  try simp only [hw]
  clear hw c4 f4 hzz HW1 HQ1 HAx HZx
  go_wp2_with fail
  refine (int_q HS5.out).mono ?_
  rintro e w1 ⟨z5, rfl, hz5, _, hq, hk⟩
  have HI5 := Lib.hid hz5
  have hA1 := hk.blk HA5.out (show nb ≠ R by have := HRN.out; omega)
  have hZ1 := hk.blk HZ5.out (show nb + 1 ≠ R by have := HRN.out; omega)
  have c5 := (World.cell?_of_block (w := w1) (w' := w1) (a := ⟨nb + 1, 5, none⟩) rfl).trans (by rw [Lib.cell_of_heap hZ1]; rfl : w1.cell? ⟨nb + 1, 5, none⟩ = some (.int .i64 0))
  have f5 := frz8 hZ1 5
  have hzz : nb + 1 < w1.heap.size := lt_of_block hZ1
  have HW1 := Lib.hid (HK5.out.trans hk)
  have HQ1 := Lib.hid hq
  have HAx := Lib.hid hA1
  have HZx := Lib.hid hZ1
  clear hz5 hq hk hA1 hZ1
  go_upto_region 8 with fail
  obtain ⟨w7, hw⟩ : ∃ x, w1.setCell ⟨nb + 1, 5, none⟩ (.int .i64 z5) = x := ⟨_, rfl⟩
  have HS6 : Hid (Qd R w7 bs (stU (intS (stU (intS (stU (intS (stU (intS (stU (intS (stU (intS s))))))))))))) := by
    show Qd _ _ _ _
    rw [← hw]
    exact HQ1.out.still fun k hk => Below.heap_setCell _ _ _ _ (by show k ≠ nb + 1; have := HRN.out; omega)
  have HK6 : Hid (Keep R w w7) := by show Keep _ _ _; rw [← hw]; exact HW1.out.setNew (p := ⟨nb + 1, 5, none⟩) (by show _ ≤ nb + 1; have := HNW.out; omega) _
  have HZ6 : Hid (w7.heap[nb + 1]? = some (.cells #[.int .i64 z0, .int .i64 z1, .int .i64 z2, .int .i64 z3, .int .i64 z4, .int .i64 z5, .int .i64 0] 35 (0, 0))) := by show _ = _; rw [← hw]; exact blk_set HZx.out 5 _
  have HA6 : Hid (w7.heap[nb]? = some (.cells #[.int .i64 0, .int .i64 0, .int .i64 0, .int .i64 0, .int .i64 0, .int .i64 0, .int .i64 0] 35 (0, 0))) := by show _ = _; rw [← hw, Below.heap_setCell _ _ _ _ (by show nb ≠ nb + 1; omega)]; exact HAx.out
  try simp only [hw]
  clear hw c5 f5 hzz HW1 HQ1 HAx HZx
  go_wp2_with fail
  refine (int_q HS6.out).mono ?_
  rintro e w1 ⟨z6, rfl, hz6, _, hq, hk⟩
  have HI6 := Lib.hid hz6
  have hA1 := hk.blk HA6.out (show nb ≠ R by have := HRN.out; omega)
  have hZ1 := hk.blk HZ6.out (show nb + 1 ≠ R by have := HRN.out; omega)
  have c6 := (World.cell?_of_block (w := w1) (w' := w1) (a := ⟨nb + 1, 6, none⟩) rfl).trans (by rw [Lib.cell_of_heap hZ1]; rfl : w1.cell? ⟨nb + 1, 6, none⟩ = some (.int .i64 0))
  have f6 := frz8 hZ1 6
  have hzz : nb + 1 < w1.heap.size := lt_of_block hZ1
  have HW1 := Lib.hid (HK6.out.trans hk)
  have HQ1 := Lib.hid hq
  have HAx := Lib.hid hA1
  have HZx := Lib.hid hZ1
  clear hz6 hq hk hA1 hZ1
  go_upto_region 9 with fail
  obtain ⟨w8, hw⟩ : ∃ x, w1.setCell ⟨nb + 1, 6, none⟩ (.int .i64 z6) = x := ⟨_, rfl⟩
  have HS7 : Hid (Qd R w8 bs (stU (intS (stU (intS (stU (intS (stU (intS (stU (intS (stU (intS (stU (intS s))))))))))))))) := by
    show Qd _ _ _ _
    rw [← hw]
    exact HQ1.out.still fun k hk => Below.heap_setCell _ _ _ _ (by show k ≠ nb + 1; have := HRN.out; omega)
  have HK7 : Hid (Keep R w w8) := by show Keep _ _ _; rw [← hw]; exact HW1.out.setNew (p := ⟨nb + 1, 6, none⟩) (by show _ ≤ nb + 1; have := HNW.out; omega) _
  have HZ7 : Hid (w8.heap[nb + 1]? = some (.cells #[.int .i64 z0, .int .i64 z1, .int .i64 z2, .int .i64 z3, .int .i64 z4, .int .i64 z5, .int .i64 z6] 35 (0, 0))) := by show _ = _; rw [← hw]; exact blk_set HZx.out 6 _
  have HA7 : Hid (w8.heap[nb]? = some (.cells #[.int .i64 0, .int .i64 0, .int .i64 0, .int .i64 0, .int .i64 0, .int .i64 0, .int .i64 0] 35 (0, 0))) := by show _ = _; rw [← hw, Below.heap_setCell _ _ _ _ (by show nb ≠ nb + 1; omega)]; exact HAx.out
  try simp only [hw]
  clear hw c6 f6 hzz HW1 HQ1 HAx HZx
  obtain ⟨d0, d1, d2, d3, d4, d5, d6⟩ := box7' HZ7.out
  obtain ⟨b0, b1, b2, b3, b4, b5, b6⟩ := box7' HA7.out
  have g0 := frz8 HA7.out 0
  have g1 := frz8 HA7.out 1
  have g2 := frz8 HA7.out 2
  have g3 := frz8 HA7.out 3
  have g4 := frz8 HA7.out 4
  have g5 := frz8 HA7.out 5
  have g6 := frz8 HA7.out 6
  have hz0 : nb < w8.heap.size := lt_of_block HA7.out
  have HQ : Hid (QV 7 R bs s w (.returned (.agg #[.int .i64 z0, .int .i64 z1, .int .i64 z2, .int .i64 z3, .int .i64 z4, .int .i64 z5, .int .i64 z6])) (((((((w8.setCell ⟨nb, 0, none⟩ (.int .i64 z0)).setCell ⟨nb, 1, none⟩ (.int .i64 z1)).setCell ⟨nb, 2, none⟩ (.int .i64 z2)).setCell ⟨nb, 3, none⟩ (.int .i64 z3)).setCell ⟨nb, 4, none⟩ (.int .i64 z4)).setCell ⟨nb, 5, none⟩ (.int .i64 z5)).setCell ⟨nb, 6, none⟩ (.int .i64 z6))) := by
    have hc : Chn s [z0, z1, z2, z3, z4, z5, z6] _ := ⟨HI0.out, HI1.out, HI2.out, HI3.out, HI4.out, HI5.out, HI6.out, rfl⟩
    obtain ⟨h1, h2⟩ := hc.nums
    have hs := HS7.out
    rw [h1] at hs
    refine ⟨[z0, z1, z2, z3, z4, z5, z6], rfl, rfl, h2, hs.still fun k hk => ?_, ?_⟩
    · have hkn : k ≠ nb := by have := HRN.out; omega
      rw [Below.heap_setCell _ _ _ _ hkn, Below.heap_setCell _ _ _ _ hkn, Below.heap_setCell _ _ _ _ hkn, Below.heap_setCell _ _ _ _ hkn, Below.heap_setCell _ _ _ _ hkn, Below.heap_setCell _ _ _ _ hkn, Below.heap_setCell _ _ _ _ hkn]
    · exact (((((((HK7.out.setNew (p := ⟨nb, 0, none⟩) HNW.out _).setNew (p := ⟨nb, 1, none⟩) HNW.out _).setNew (p := ⟨nb, 2, none⟩) HNW.out _).setNew (p := ⟨nb, 3, none⟩) HNW.out _).setNew (p := ⟨nb, 4, none⟩) HNW.out _).setNew (p := ⟨nb, 5, none⟩) HNW.out _).setNew (p := ⟨nb, 6, none⟩) HNW.out _)
  go_wp2_with fail
  refine bodyPost_ret (v := .agg #[.int .i64 z0, .int .i64 z1, .int .i64 z2, .int .i64 z3, .int .i64 z4, .int .i64 z5, .int .i64 z6]) ?_ rfl ?_
  · simp [results, Try.results61, go_sem, World.cell?_setCell_same, World.cell?_setCell_other, b0, b1, b2, b3, b4, b5, b6]
  · exact HQ.out

/-- The state behind a number of elements. -/
def cntQ (s : RR Unit) : RR Nat := match s with | .ok _ r => cntR r | .err k => .err k
/-- What count of the answer returns. -/
def QC (R : Nat) (bs : List Nat) (s : RR Unit) (w : World) (e : Ending) (w' : World) : Prop :=
  ∃ n : Nat, e = .returned (.int .i64 (n : Nat)) ∧ n ≤ bs.length ∧ (∀ n' t, cntQ s = .ok n' t → n = n') ∧ Qd R w' bs (stU (cntQ s)) ∧ Keep R w w'

set_option maxHeartbeats 4000000 in
set_option maxRecDepth 100000 in
theorem count_q (R : Nat) (bs : List Nat) (s : RR Unit) (w : World) (h : Qd R w bs s) :
    Calls Try.prog 64 #[.pointer (some ⟨R, 0, none⟩)] w (QC R bs s w) := by
  have H := Lib.hid h
  clear h
  cases hn : intS s with
  | err ke =>
    have HN := Lib.hid hn
    have HI := int_q H.out
    rw [hn] at HI
    have HCC := Lib.hid HI
    have hcq : cntQ s = .err ke := by
      cases s with
      | ok u r => exact cntR_err hn
      | err k => simp only [intS] at hn; injection hn with hn; rw [hn]; rfl
    have HCQ := Lib.hid hcq
    clear HI hn hcq
    go_enter Try.func64, Try.ntmps64
    go_wp2_with fail
    refine HCC.out.mono ?_
    rintro e w1 ⟨z, rfl, hz, hz0, hq, hk⟩
    have e0 := hz0 ke rfl
    subst e0
    have hq' : QdEr R w1 ke := hq
    have c2 := hq'.c2
    have hp := hq'.pos
    have hne : ((ke : Int) == 0) = false := by simp; omega
    have hR1 : R < w1.heap.size := World.block_lt_of_cell? w1 _ c2
    have HQ : Hid (∀ w', Below w1.heap.size w1 w' → QC R bs s w (.returned (.int .i64 0)) w') := fun w' hb => ⟨0, rfl, Nat.zero_le _, (fun n' t h => by rw [HCQ.out] at h; cases h), by rw [HCQ.out]; exact hq'.still (hb.block R hR1), hk.trans (Keep.of_below hb)⟩
    clear hz hz0 hq hk hq' hp
    go_wp2_with fail
    go_quiet (fail)
    go_wp2_with fail
    go_ret
    exact HQ.out _ (below_drewN (Below.refl _ _) _)
  | ok z r =>
    have HN := Lib.hid hn
    have HI := int_q H.out
    rw [hn] at HI
    have HCC := Lib.hid HI
    have hcq : cntQ s = (if z < 0 ∨ (r.length : Int) < z then .err 9 else .ok z.toNat r) := by
      cases s with
      | ok u r0 => simp only [intS] at hn; simp only [cntQ, cntR, RR.bind, hn]
      | err k => simp [intS] at hn
    have HCQ := Lib.hid hcq
    clear HI hn hcq
    go_enter Try.func64, Try.ntmps64
    go_wp2_with fail
    refine HCC.out.mono ?_
    rintro e w1 ⟨z1, rfl, hz, hz0, hq, hk⟩
    have e0 := hz z r rfl
    subst e0
    have hq' : QdOk R w1 bs r := hq
    obtain ⟨A, c, k, n, c0, c1, hkn, hn40, hrl, hRl, hnb, c2, f2, f1, hby⟩ := hq'.at
    have HNB := Lib.hid hnb
    have hwr : IntKind.i64.wrap ((n : Int) - (k : Int)) = (n : Int) - (k : Int) := IntWalk.i64_in _ (by omega)
    have HQD := Lib.hid hq'
    have HKK := Lib.hid hk
    clear hz hz0 hq hk hq' f1 f2 hby hnb
    by_cases hbad : z1 < 0 ∨ (r.length : Int) < z1
    · have HQ : Hid (∀ w', QdEr R w' 9 → Keep R w1 w' → QC R bs s w (.returned (.int .i64 0)) w') := fun w' he hk => by
        refine ⟨0, rfl, Nat.zero_le _, ?_⟩
        rw [HCQ.out, if_pos hbad]
        exact ⟨(fun n' t h => by cases h), he, HKK.out.trans hk⟩
      by_cases h0 : z1 < 0
      · clear hbad hrl
        go_wp2_with fail
        go_quiet (fail)
        go_wp2_with fail
        refine (fail_ok (HQD.out.still fun k hk => (below_drewN (Below.refl w1.heap.size _) _).block k (by have := HQD.out.rd.lt; omega)) 9 (by decide)).mono ?_
        rintro e w2 ⟨rfl, he, hk⟩
        have HQ1 := Lib.hid (HQ.out w2 he (((Keep.refl R w1).drewN _).trans hk))
        clear he hk HQ
        go_wp2_with fail
        go_ret
        exact HQ1.out
      · have hgt : (n : Int) - (k : Int) < z1 := by omega
        clear hbad hrl
        go_wp2_with fail
        go_quiet (fail)
        go_wp2_with fail
        refine (fail_ok (HQD.out.still fun k hk => (below_drewN (Below.refl w1.heap.size _) _).block k (by have := HQD.out.rd.lt; omega)) 9 (by decide)).mono ?_
        rintro e w2 ⟨rfl, he, hk⟩
        have HQ1 := Lib.hid (HQ.out w2 he (((Keep.refl R w1).drewN _).trans hk))
        clear he hk HQ
        go_wp2_with fail
        go_ret
        exact HQ1.out
    · have h0 : ¬ z1 < 0 := by omega
      have hgt : ¬ (n : Int) - (k : Int) < z1 := by omega
      obtain ⟨N, rfl⟩ : ∃ N : Nat, z1 = (N : Int) := ⟨z1.toNat, by omega⟩
      have HQ : Hid (∀ w', Below w1.heap.size w1 w' → QC R bs s w (.returned (.int .i64 (N : Nat))) w') := fun w' hb => by
        refine ⟨N, rfl, by have := HNB.out; omega, ?_⟩
        rw [HCQ.out, if_neg hbad, Int.toNat_natCast]
        exact ⟨(fun n' t h => by injection h), HQD.out.still fun k hk => hb.block k (by have := HQD.out.rd.lt; omega), HKK.out.trans (Keep.of_below hb)⟩
      clear hbad hrl
      go_wp2_with fail
      go_quiet (fail)
      go_wp2_with fail
      go_ret
      exact HQ.out _ (below_drewN (Below.refl _ _) _)

theorem info_int : (Try.prog.info? 3).map (fun i => (i.zero, i.size, i.bytes)) = some (some (.int .i64 0), 1, 8) := by kernel_rfl
/-- What ints of the answer returns. -/
def QL (R : Nat) (bs : List Nat) (n : Nat) (s : RR Unit) (w : World) (e : Ending) (w' : World) : Prop :=
  ∃ (zs : List Int) (A : Option Addr) (m c : Nat), e = .returned (.slice A m c) ∧ zs.length = m ∧ m ≤ n ∧ w'.ownsRow w.heap.size 3 1 (.slice A m c) m (zs.map (Value.int .i64)) ∧ (∀ vs t, numsQ n s = .ok vs t → vs = zs) ∧ Qd R w' bs (stU (numsQ n s)) ∧ Keep R w w'
/-- On the way of a list of numbers. -/
structure QlSt (R : Nat) (bs : List Nat) (n : Nat) (s : RR Unit) (w0 w : World) (v : Value) (i g : Nat) (s' : RR Unit) : Prop where
  st : Qd R w bs s'
  keep : Keep R w0 w
  lt : R < w0.heap.size
  own : ∃ zs : List Int, zs.length = i ∧ w.ownsRow w0.heap.size 3 1 v i (zs.map (Value.int .i64)) ∧ numsQ n s = (numsQ g s').bind fun vs r => .ok (zs ++ vs) r
theorem QlSt.fail {R n i g ke : Nat} {bs : List Nat} {s : RR Unit} {w0 w : World} {v : Value} (h : QlSt R bs n s w0 w v i g (.err ke)) (hi : i + g = n) : ∃ A c, v = .slice A i c ∧ QL R bs n s w0 (.returned (.slice A i c)) w := by
  obtain ⟨zs, hl, ho, hq⟩ := h.own
  obtain ⟨A, c, rfl⟩ := own_slice ho
  have e : numsQ n s = .err ke := by rw [hq]; rfl
  refine ⟨A, c, rfl, zs, A, i, c, rfl, hl, by omega, ho, (fun vs t h => by rw [e] at h; cases h), ?_, h.keep⟩
  rw [e]
  exact h.st
theorem QlSt.done {R n i : Nat} {bs : List Nat} {s : RR Unit} {w0 w : World} {v : Value} {t : List Nat} {u : Unit} (h : QlSt R bs n s w0 w v i 0 (.ok u t)) (hi : i = n) : ∃ A c, v = .slice A i c ∧ QL R bs n s w0 (.returned (.slice A i c)) w := by
  obtain ⟨zs, hl, ho, hq⟩ := h.own
  obtain ⟨A, c, rfl⟩ := own_slice ho
  have e : numsQ n s = .ok zs t := by rw [hq]; simp [numsQ, numsS, RR.bind]
  refine ⟨A, c, rfl, zs, A, i, c, rfl, hl, by omega, ho, (fun vs t h => by rw [e] at h; injection h with h _; exact h.symm), ?_, h.keep⟩
  rw [e]
  exact h.st
theorem numsQ_succ (g : Nat) (s : RR Unit) : numsQ (g + 1) s = (intS s).bind fun v r => (numsS g r).bind fun vs r' => .ok (v :: vs) r' := by cases s <;> rfl
theorem QlSt.push {R n i g : Nat} {bs t : List Nat} {s : RR Unit} {w0 wr w1 w3 : World} {v v' : Value} {z : Int} {u : Unit} (h : QlSt R bs n s w0 wr v i (g + 1) (.ok u t)) (hz : ∀ z' t', numS t = .ok z' t' → z = z') (hst : Qd R w1 bs (stU (numS t))) (hk : Keep R wr w1) (o : Obj) (zs : List Int) (hl : zs.length = i) (hq : numsQ n s = (numsQ (g + 1) (.ok u t)).bind fun vs r => .ok (zs ++ vs) r)
    (hown : w3.ownsRow w0.heap.size 3 1 v' (i + 1) (zs.map (Value.int .i64) ++ [.int .i64 z])) (hg : (w1.alloc o).grownBy w3 v.ownBlock) (hb : ∀ b, v.ownBlock = some b → w0.heap.size ≤ b) :
    QlSt R bs n s w0 w3 v' (i + 1) g (stU (numS t)) := by
  have hlt := h.lt
  refine ⟨hst.still fun k hkR => ?_, ((h.keep.trans hk).alloc o).grown hg hb, h.lt, zs ++ [z], by simp [hl], by simpa using hown, ?_⟩
  · have hs1 := hst.lt
    rw [hg.block k (by rw [new_size]; omega) (fun e => by have := hb k e.symm; omega), alloc_blk _ _ (by omega)]
  · rw [hq, numsQ_succ]
    simp only [intS]
    cases hn : numS t with
    | err k => rfl
    | ok z' t' =>
      have := hz z' t' hn
      subst this
      simp only [RR.bind, stU, numsQ]
      cases numsS g t' with
      | err k => rfl
      | ok vs r => simp

set_option maxHeartbeats 4000000 in
set_option maxRecDepth 100000 in
theorem ints_q (R n : Nat) (bs : List Nat) (s : RR Unit) (w : World) (h : Qd R w bs s) (hn : n ≤ 1099511627776) :
    Calls Try.prog 65 #[.pointer (some ⟨R, 0, none⟩), .int .i64 (n : Nat)] w (QL R bs n s w) := by
  obtain ⟨i0, hinf, hz0, hz1, hz2⟩ := info_parts info_int
  have HI := Lib.hid hinf
  have HI0 := Lib.hid hz0
  have HI1 := Lib.hid hz1
  have HI2 := Lib.hid hz2
  have HR : Hid (R < w.heap.size) := h.lt
  have HS : Hid (QlSt R bs n s w w (.slice none 0 0) 0 n s) := ⟨h, Keep.refl _ _, h.lt, [], rfl, World.ownsRow_nil _ _ _ _, by cases numsQ n s <;> rfl⟩
  clear hinf hz0 hz1 hz2 h
  go_enter Try.func65, Try.ntmps65
  go_wp2_with fail
  go_loopg [5, 6] n (fun g a b wr => ∃ (i : Nat) (s' : RR Unit), i + g = n ∧ b = .int .i64 i ∧ Hid (QlSt R bs n s w wr a i g s'))
  case atStart => exact ⟨0, s, by omega, rfl, HS⟩
  case round =>
    obtain ⟨i, s', hig, rfl, HP⟩ := hrel
    cases s' with
    | err ke =>
      obtain ⟨A, c, rfl, hq⟩ := HP.out.fail hig
      have HQ := Lib.hid hq
      have hd : QdEr R wr ke := HP.out.st
      have c2 := hd.c2
      have hp := hd.pos
      have hne : ((ke : Int) == 0) = false := by simp; omega
      have hR1 : R < wr.heap.size := World.block_lt_of_cell? wr _ c2
      clear hq hd hp
      by_cases hlt : (i : Int) < (n : Int)
      all_goals
        clear hig
        go_wp2_with fail
        go_ret
        exact HQ.out
    | ok u t =>
      have hd : QdOk R wr bs t := HP.out.st
      have c2 := hd.c2
      have hR1 : R < wr.heap.size := hd.rd.lt
      clear hd
      cases gk with
      | zero =>
        have hin : i = n := by omega
        obtain ⟨A, c, rfl, hq⟩ := HP.out.done hin
        have HQ := Lib.hid hq
        subst hin
        have hnn : ¬ (i : Int) < (i : Int) := by omega
        clear hq hig
        go_wp2_with fail
        go_ret
        exact HQ.out
      | succ g =>
        have hlt : (i : Int) < (n : Int) := by omega
        have hin : i < n := by omega
        obtain ⟨zs, hl, ho, hq⟩ := HP.out.own
        obtain ⟨V, vc, rfl⟩ := own_slice ho
        have HL := Lib.hid hl
        have HO := Lib.hid ho
        have HQ := Lib.hid hq
        have HG := Lib.hid hig
        have HOB : Hid (∀ b, Value.ownBlock (.slice V i vc) = some b → w.heap.size ≤ b) := fun b hb => (ho.lt b hb).1
        clear hl ho hq hig
        go_wp2_with fail
        refine (int_q HP.out.st).mono ?_
        rintro e w1 ⟨z, rfl, hz, _, hq, hk⟩
        have HZ := Lib.hid hz
        have HQ1 := Lib.hid hq
        have HK1 := Lib.hid hk
        have HSZ : Hid (w.heap.size ≤ w1.heap.size) := (HP.out.keep.trans hk).size
        have HOW := Lib.hid (own_bel (own_keep HO.out hk HR.out) (rp_one1 w1 (.cells #[.int .i64 z] 3)))
        clear hz hq hk c2 hR1
        go_wp2_with (at_builtin; refine wpList_append_own_at _ rfl (.tmp 19) (.tmp 22) 25 rfl w.heap.size 3 i0 _ 1 8 Try.underlying25 HI.out HI0.out HI1.out HI2.out rfl (by decide) (.slice V i vc) i (zs.map (Value.int .i64)) (by simp [Act.eval]) HOW.out ⟨w1.heap.size, 0, none⟩ 1 1 ([z].map (Value.int .i64)) (by simp [Act.eval]) rfl (rows_news [z] _) (ints_cell _) (by unfold maxLen; omega) (by omega) (by have := HSZ.out; simp only [new_size]; omega) ?_; intro v9 w9 hown9 hgrow9 hnil9 hob9; have HO9 := Lib.hid hown9; have HG9 := Lib.hid hgrow9; clear hown9 hgrow9 hob9 hnil9)
        have HR9 := Lib.hid (HP.out.push HZ.out HQ1.out HK1.out _ zs HL.out HQ.out HO9.out HG9.out HOB.out)
        go_roundg g
        case rel => exact ⟨i + 1, _, by have := HG.out; omega, by go_num, HR9⟩
        case measure => omega

/-- The state behind begin. -/
def begS (bs : List Nat) (k : Int) : RR Unit := if k < 0 ∨ (bs.length : Int) < k then .err 3 else .ok () (bs.drop k.toNat)
/-- What begin of the answer returns. -/
def QB (bs : List Nat) (k : Int) (w : World) (e : Ending) (w' : World) : Prop := ∃ R, e = .returned (.pointer (some ⟨R, 0, none⟩)) ∧ w.heap.size ≤ R ∧ Qd R w' bs (begS bs k) ∧ Below w.heap.size w w'

set_option maxHeartbeats 1000000 in
set_option maxRecDepth 100000 in
theorem begin_q (B : Nat) (bs : List Nat) (A : Option Addr) (n c : Nat) (k : Int) (w : World) (h : BsIn B w bs A n c) (hB : B ≤ w.heap.size) :
    Calls Try.prog 28 #[.slice A n c, .int .i64 k] w (QB bs k w) := by
  have hn := h.len
  have hn40 := h.le40
  have H := Lib.hid h
  by_cases hout : k < 0 ∨ (n : Int) < k
  · have HQ : Hid (QB bs k w (.returned (.pointer (some ⟨w.heap.size, 0, none⟩))) (w.alloc (.cells #[.slice none 0 0, .int .i64 0, .int .i64 3] 63))) := by
      refine ⟨_, rfl, Nat.le_refl _, ?_, rp_one1 _ _⟩
      rw [begS, if_pos (by rw [← hn]; exact hout)]
      exact ⟨⟨none, 0, 0, new_cell w _ _ 0 _ rfl⟩, ⟨0, new_cell w _ _ 1 _ rfl⟩, new_cell w _ _ 2 _ rfl, by decide⟩
    clear hn h
    by_cases h0 : k < 0
    · clear hout
      go_enter Try.func28, Try.ntmps28
      go_wp2_with fail
      go_ret
      exact HQ.out
    · have h1 : (n : Int) < k := by omega
      clear hout
      go_enter Try.func28, Try.ntmps28
      go_wp2_with fail
      go_ret
      exact HQ.out
  · obtain ⟨kk, rfl⟩ : ∃ kk : Nat, k = (kk : Int) := ⟨k.toNat, by omega⟩
    have h0 : ¬ (kk : Int) < 0 := by omega
    have h1 : ¬ (n : Int) < (kk : Int) := by omega
    have HQ : Hid (QB bs kk w (.returned (.pointer (some ⟨w.heap.size, 0, none⟩))) (w.alloc (.cells #[.slice A n c, .int .i64 (kk : Nat), .int .i64 0] 63))) := by
      refine ⟨_, rfl, Nat.le_refl _, ?_, rp_one1 _ _⟩
      rw [begS, if_neg (by rw [← hn]; exact hout), Int.toNat_natCast]
      have hr := h.row
      rw [hn] at hr
      refine ⟨⟨⟨A, c, ?_, by rw [← hn]; exact h.cap, ⟨hr.1, fun h0 => ?_⟩, fun b o e => Nat.lt_of_lt_of_le (h.lt b o e) hB⟩, ⟨kk, by omega, new_cell w _ _ 1 _ rfl, rfl⟩, Lib.frozen_of_heap (new_blk w _) 1, h.le, by rw [← hn]; exact hn40⟩, new_cell w _ _ 2 _ rfl, Lib.frozen_of_heap (new_blk w _) 2⟩
      · rw [← hn]; exact new_cell w _ _ 0 _ rfl
      · obtain ⟨b, o, hA, hc⟩ := hr.2 h0
        exact ⟨b, o, hA, hc.of_block (alloc_blk _ _ (Nat.lt_of_lt_of_le (h.lt b o hA) hB))⟩
    clear hn h hout
    go_enter Try.func28, Try.ntmps28
    go_wp2_with fail
    go_ret
    exact HQ.out
end Go.Proofs.Ytadikcioacaphaa
