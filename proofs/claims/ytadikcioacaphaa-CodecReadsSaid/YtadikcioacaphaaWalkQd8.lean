/-
  What Det of the document's answer for chapter 8 returns (gens98.py writes this text). Conditions: at most 2^40 bytes.
-/
import Derived.Test.YtadikcioacaphaaWalkQp
namespace Go.Proofs.Ytadikcioacaphaa
open Go.RowKit

theorem numsQ_step {g : Nat} {s : RR Unit} {z : Int} (h : ∀ z' t, intS s = .ok z' t → z = z') : stU (numsQ (g + 1) s) = stU (numsQ g (stU (intS s))) ∧ ∀ vs t, numsQ (g + 1) s = .ok vs t → ∃ vs', vs = z :: vs' ∧ numsQ g (stU (intS s)) = .ok vs' t := by
  rw [numsQ_succ]
  cases hs : intS s with
  | err k => exact ⟨rfl, fun vs t h => by simp [RR.bind] at h⟩
  | ok z' t =>
    have := h z' t hs
    subst this
    simp only [RR.bind, stU, numsQ]
    cases hn : numsS g t with
    | err k => exact ⟨rfl, fun vs t h => by simp at h⟩
    | ok vs r =>
      refine ⟨rfl, fun vs' t' h => ?_⟩
      simp only at h
      injection h with h1 h2
      subst h1 h2
      exact ⟨vs, rfl, rfl⟩

set_option maxHeartbeats 8000000 in
set_option maxRecDepth 100000 in
theorem Det_ref (B : Nat) (bs : List Nat) (A : Option Addr) (n c : Nat) (k : Int) (w : World) (h : BsIn B w bs A n c) (hB : B ≤ w.heap.size) :
    Calls Try.prog 40 #[.slice A n c, .int .i64 k] w (RD VRow (.agg #[.int .i64 0, .int .i64 0, .int .i64 0, .int .i64 0, .int .i64 0, .int .i64 0, .int .i64 0, .int .i64 0, .int .i64 0]) bs (rdS (numsS 9) bs k) w) := by
  obtain ⟨nb, hnb⟩ : ∃ x, w.heap.size = x := ⟨_, rfl⟩
  obtain ⟨W, hW⟩ : ∃ x, (w.alloc (.cells #[.int .i64 0, .int .i64 0, .int .i64 0, .int .i64 0, .int .i64 0, .int .i64 0, .int .i64 0, .int .i64 0, .int .i64 0] 37)) = x := ⟨_, rfl⟩
  have hb0 : Below w.heap.size w W := by rw [← hW]; exact rp_one1 _ _
  have hzs : W.heap.size = nb + 1 := by rw [← hW, new_size, hnb]
  have HZ0 : Hid (W.heap[nb]? = some (.cells #[.int .i64 0, .int .i64 0, .int .i64 0, .int .i64 0, .int .i64 0, .int .i64 0, .int .i64 0, .int .i64 0, .int .i64 0] 37 (0, 0))) := by show _ = _; rw [← hW, ← hnb]; exact new_blk _ _
  have H := Lib.hid (begin_q B bs A n c k W (h.below (hb0.mono hB)) (by omega))
  have HE : Hid (rdS (numsS 9) bs k = numsQ 9 (begS bs k)) := rdS_begN
  have HB0 := Lib.hid hb0
  have HNB : Hid (w.heap.size = nb) := hnb
  have HNW : Hid (w.heap.size ≤ nb) := Nat.le_of_eq hnb
  clear h hb0
  go_enter Try.func40, Try.ntmps40
  go_wp2_with fail
  try simp only [hW]
  refine H.out.mono ?_
  rintro e w1 ⟨R, rfl, hR, hq, hb⟩
  have HR : Hid (nb + 1 ≤ R) := by show _ ≤ _; omega
  have hRl := hq.lt
  have HB1 := HB0.out.trans (hb.mono HB0.out.size)
  have HZ1 := below_blk hb HZ0.out
  obtain ⟨xb, hxb⟩ : ∃ x, w1.heap.size = x := ⟨_, rfl⟩
  obtain ⟨w2, hw2⟩ : ∃ x, (w1.alloc (.cells #[.int .i64 0, .int .i64 0, .int .i64 0, .int .i64 0, .int .i64 0, .int .i64 0, .int .i64 0, .int .i64 0, .int .i64 0] 37)) = x := ⟨_, rfl⟩
  have hb2 : Below w1.heap.size w1 w2 := by rw [← hw2]; exact rp_one1 _ _
  have HX2 : Hid (w2.heap[xb]? = some (.cells #[.int .i64 0, .int .i64 0, .int .i64 0, .int .i64 0, .int .i64 0, .int .i64 0, .int .i64 0, .int .i64 0, .int .i64 0] 37 (0, 0))) := by show _ = _; rw [← hw2, ← hxb]; exact new_blk _ _
  have HQ2 := Lib.hid (hq.below hb2)
  have HB2 := Lib.hid (HB1.trans (hb2.mono HB1.size))
  have HZ2 := Lib.hid (below_blk hb2 HZ1)
  have HXR : Hid (R < xb) := by show _ < _; omega
  have HXW : Hid (w.heap.size ≤ xb) := by show _ ≤ _; have := HR.out; have := HNB.out; omega
  clear hq hb hR hW hnb hzs hRl HB1 HZ1 hb2 HZ0
  go_upto_region 3 with fail
  try simp only [hw2, hxb]
  clear hw2 hxb
  go_wp2_with fail
  refine (int_q HQ2.out).mono ?_
  rintro e w3 ⟨y0, rfl, hy, _, hq, hk⟩
  have HY0 := Lib.hid hy
  have hX := hk.blk HX2.out (show xb ≠ R by have := HXR.out; omega)
  have hZ := hk.blk HZ2.out (show nb ≠ R by have := HR.out; omega)
  have HB3 := Lib.hid (HB2.out.trans (hk.below (B := w.heap.size) HB2.out.size (by have := HR.out; have := HNB.out; omega)))
  have cc : w3.cell? ⟨xb, 0, none⟩ = some (.int .i64 0) := by rw [Lib.cell_of_heap hX]; rfl
  have ff := frz8 hX 0
  have hzz : xb < w3.heap.size := lt_of_block hX
  have HXx := Lib.hid hX
  have HZx := Lib.hid hZ
  have HQx := Lib.hid hq
  clear hy hq hk hX hZ
  go_upto_region 4 with fail
  obtain ⟨w4, hw⟩ : ∃ x, w3.setCell ⟨xb, 0, none⟩ (.int .i64 y0) = x := ⟨_, rfl⟩
  have HQ4 : Hid (Qd R w4 bs (stU (intS (begS bs k)))) := by
    show Qd _ _ _ _
    rw [← hw]
    exact HQx.out.still fun k hk => Below.heap_setCell _ _ _ _ (by show k ≠ xb; have := HXR.out; omega)
  have HB4 : Hid (Below w.heap.size w w4) := by show Below _ _ _; rw [← hw]; exact HB3.out.setCell (p := ⟨xb, 0, none⟩) HXW.out _
  have HX4 : Hid (w4.heap[xb]? = some (.cells #[.int .i64 y0, .int .i64 0, .int .i64 0, .int .i64 0, .int .i64 0, .int .i64 0, .int .i64 0, .int .i64 0, .int .i64 0] 37 (0, 0))) := by show _ = _; rw [← hw]; exact blk_set HXx.out 0 _
  have HZ4 : Hid (w4.heap[nb]? = some (.cells #[.int .i64 0, .int .i64 0, .int .i64 0, .int .i64 0, .int .i64 0, .int .i64 0, .int .i64 0, .int .i64 0, .int .i64 0] 37 (0, 0))) := by show _ = _; rw [← hw, Below.heap_setCell _ _ _ _ (by show nb ≠ xb; have := HXR.out; have := HR.out; omega)]; exact HZx.out
  try simp only [hw]
  clear hw cc ff hzz HXx HZx HQx
  go_wp2_with fail
  refine (int_q HQ4.out).mono ?_
  rintro e w5 ⟨y1, rfl, hy, _, hq, hk⟩
  have HY1 := Lib.hid hy
  have hX := hk.blk HX4.out (show xb ≠ R by have := HXR.out; omega)
  have hZ := hk.blk HZ4.out (show nb ≠ R by have := HR.out; omega)
  have HB5 := Lib.hid (HB4.out.trans (hk.below (B := w.heap.size) HB4.out.size (by have := HR.out; have := HNB.out; omega)))
  have cc : w5.cell? ⟨xb, 1, none⟩ = some (.int .i64 0) := by rw [Lib.cell_of_heap hX]; rfl
  have ff := frz8 hX 1
  have hzz : xb < w5.heap.size := lt_of_block hX
  have HXx := Lib.hid hX
  have HZx := Lib.hid hZ
  have HQx := Lib.hid hq
  clear hy hq hk hX hZ
  go_upto_region 5 with fail
  obtain ⟨w6, hw⟩ : ∃ x, w5.setCell ⟨xb, 1, none⟩ (.int .i64 y1) = x := ⟨_, rfl⟩
  have HQ6 : Hid (Qd R w6 bs (stU (intS (stU (intS (begS bs k)))))) := by
    show Qd _ _ _ _
    rw [← hw]
    exact HQx.out.still fun k hk => Below.heap_setCell _ _ _ _ (by show k ≠ xb; have := HXR.out; omega)
  have HB6 : Hid (Below w.heap.size w w6) := by show Below _ _ _; rw [← hw]; exact HB5.out.setCell (p := ⟨xb, 1, none⟩) HXW.out _
  have HX6 : Hid (w6.heap[xb]? = some (.cells #[.int .i64 y0, .int .i64 y1, .int .i64 0, .int .i64 0, .int .i64 0, .int .i64 0, .int .i64 0, .int .i64 0, .int .i64 0] 37 (0, 0))) := by show _ = _; rw [← hw]; exact blk_set HXx.out 1 _
  have HZ6 : Hid (w6.heap[nb]? = some (.cells #[.int .i64 0, .int .i64 0, .int .i64 0, .int .i64 0, .int .i64 0, .int .i64 0, .int .i64 0, .int .i64 0, .int .i64 0] 37 (0, 0))) := by show _ = _; rw [← hw, Below.heap_setCell _ _ _ _ (by show nb ≠ xb; have := HXR.out; have := HR.out; omega)]; exact HZx.out
  try simp only [hw]
  clear hw cc ff hzz HXx HZx HQx
  go_wp2_with fail
  refine (event_q R bs _ _ HQ6.out).mono ?_
  rintro e w7 ⟨zs, rfl, hzl, hzv, hq, hk⟩
  obtain ⟨a0, a1, a2, a3, a4, a5, a6, rfl⟩ := len7r hzl
  have hX := hk.blk HX6.out (show xb ≠ R by have := HXR.out; omega)
  have hZ := hk.blk HZ6.out (show nb ≠ R by have := HR.out; omega)
  have HB7 := Lib.hid (HB6.out.trans (hk.below (B := w.heap.size) HB6.out.size (by have := HR.out; have := HNB.out; omega)))
  have HZV := Lib.hid hzv
  obtain ⟨x0, x1, x2, x3, x4, x5, x6, x7, x8⟩ := box9' hX
  have g2 := frz8 hX 2
  have g3 := frz8 hX 3
  have g4 := frz8 hX 4
  have g5 := frz8 hX 5
  have g6 := frz8 hX 6
  have g7 := frz8 hX 7
  have g8 := frz8 hX 8
  have hzz : xb < w7.heap.size := lt_of_block hX
  have HXx := Lib.hid hX
  have HZx := Lib.hid hZ
  have HQx := Lib.hid hq
  clear hzl hzv hq hk hX hZ
  simp only [List.map_cons, List.map_nil]
  go_upto_region 6 with fail
  obtain ⟨w8, hw⟩ : ∃ x, (((((((w7.setCell ⟨xb, 2, none⟩ (.int .i64 a0)).setCell ⟨xb, 3, none⟩ (.int .i64 a1)).setCell ⟨xb, 4, none⟩ (.int .i64 a2)).setCell ⟨xb, 5, none⟩ (.int .i64 a3)).setCell ⟨xb, 6, none⟩ (.int .i64 a4)).setCell ⟨xb, 7, none⟩ (.int .i64 a5)).setCell ⟨xb, 8, none⟩ (.int .i64 a6)) = x := ⟨_, rfl⟩
  have h8 : ∀ i, i ≠ xb → w8.heap[i]? = w7.heap[i]? := fun i hin => by rw [← hw, Below.heap_setCell _ _ _ _ hin, Below.heap_setCell _ _ _ _ hin, Below.heap_setCell _ _ _ _ hin, Below.heap_setCell _ _ _ _ hin, Below.heap_setCell _ _ _ _ hin, Below.heap_setCell _ _ _ _ hin, Below.heap_setCell _ _ _ _ hin]
  have HX8 : Hid (w8.heap[xb]? = some (.cells #[.int .i64 y0, .int .i64 y1, .int .i64 a0, .int .i64 a1, .int .i64 a2, .int .i64 a3, .int .i64 a4, .int .i64 a5, .int .i64 a6] 37 (0, 0))) := by
    show _ = _
    have k2 := blk_set HXx.out 2 (.int .i64 a0)
    have k3 := blk_set k2 3 (.int .i64 a1)
    have k4 := blk_set k3 4 (.int .i64 a2)
    have k5 := blk_set k4 5 (.int .i64 a3)
    have k6 := blk_set k5 6 (.int .i64 a4)
    have k7 := blk_set k6 7 (.int .i64 a5)
    have k8 := blk_set k7 8 (.int .i64 a6)
    rw [← hw]
    exact k8
  have HB8 : Hid (Below w.heap.size w w8) := by show Below _ _ _; rw [← hw]; exact (((((((HB7.out.setCell (p := ⟨xb, 2, none⟩) HXW.out (.int .i64 a0)).setCell (p := ⟨xb, 3, none⟩) HXW.out (.int .i64 a1)).setCell (p := ⟨xb, 4, none⟩) HXW.out (.int .i64 a2)).setCell (p := ⟨xb, 5, none⟩) HXW.out (.int .i64 a3)).setCell (p := ⟨xb, 6, none⟩) HXW.out (.int .i64 a4)).setCell (p := ⟨xb, 7, none⟩) HXW.out (.int .i64 a5)).setCell (p := ⟨xb, 8, none⟩) HXW.out (.int .i64 a6))
  have HZ8 : Hid (w8.heap[nb]? = some (.cells #[.int .i64 0, .int .i64 0, .int .i64 0, .int .i64 0, .int .i64 0, .int .i64 0, .int .i64 0, .int .i64 0, .int .i64 0] 37 (0, 0))) := (h8 nb (by have := HXR.out; have := HR.out; omega)).trans HZx.out
  have HQ8 := Lib.hid (HQx.out.still fun k hk => h8 k (by have := HXR.out; omega))
  try simp only [hw]
  clear hw h8 HXx HZx HQx hzz x0 x1 x2 x3 x4 x5 x6 x7 x8 g2 g3 g4 g5 g6 g7 g8
  obtain ⟨e1, f1⟩ := numsQ_step (g := 8) HY0.out
  obtain ⟨e2, f2⟩ := numsQ_step (g := 7) HY1.out
  have HST : Hid (stU (numsQ 9 (begS bs k)) = stU (numsQ 7 (stU (intS (stU (intS (begS bs k))))))) := e1.trans e2
  have HVS : Hid (∀ vs t, numsQ 9 (begS bs k) = .ok vs t → vs = [y0, y1, a0, a1, a2, a3, a4, a5, a6]) := fun vs t h => by
    obtain ⟨vs1, rfl, h1⟩ := f1 vs t h
    obtain ⟨vs2, rfl, h2⟩ := f2 vs1 t h1
    rw [HZV.out vs2 t h2]
  have hq8 := HQ8.out
  rw [← HST.out] at hq8
  have HQ9 := Lib.hid hq8
  clear e1 f1 e2 f2 hq8 HQ8
  cases hs : numsQ 9 (begS bs k) with
  | err ke =>
    rw [hs] at HQ9 HE
    have hd : QdEr R w8 ke := HQ9.out
    have c2 := hd.c2
    have hp := hd.pos
    have hne : ((ke : Int) != 0) = true := by simp; omega
    have hRl : R < w8.heap.size := World.block_lt_of_cell? w8 _ c2
    obtain ⟨d0, d1, d2, d3, d4, d5, d6, d7, d8⟩ := box9' HZ8.out
    have g0 := frz8 HZ8.out 0
    have g1 := frz8 HZ8.out 1
    have g2 := frz8 HZ8.out 2
    have g3 := frz8 HZ8.out 3
    have g4 := frz8 HZ8.out 4
    have g5 := frz8 HZ8.out 5
    have g6 := frz8 HZ8.out 6
    have g7 := frz8 HZ8.out 7
    have g8 := frz8 HZ8.out 8
    have hzz : nb < w8.heap.size := lt_of_block HZ8.out
    have hRn : nb ≠ R := by have := HR.out; omega
    have hbb := HB8.out
    have hbe : Below w.heap.size w (((((((((w8.setCell ⟨nb, 0, none⟩ (.int .i64 0)).setCell ⟨nb, 1, none⟩ (.int .i64 0)).setCell ⟨nb, 2, none⟩ (.int .i64 0)).setCell ⟨nb, 3, none⟩ (.int .i64 0)).setCell ⟨nb, 4, none⟩ (.int .i64 0)).setCell ⟨nb, 5, none⟩ (.int .i64 0)).setCell ⟨nb, 6, none⟩ (.int .i64 0)).setCell ⟨nb, 7, none⟩ (.int .i64 0)).setCell ⟨nb, 8, none⟩ (.int .i64 0)) := (((((((((hbb.setCell (p := ⟨nb, 0, none⟩) HNW.out (.int .i64 0)).setCell (p := ⟨nb, 1, none⟩) HNW.out (.int .i64 0)).setCell (p := ⟨nb, 2, none⟩) HNW.out (.int .i64 0)).setCell (p := ⟨nb, 3, none⟩) HNW.out (.int .i64 0)).setCell (p := ⟨nb, 4, none⟩) HNW.out (.int .i64 0)).setCell (p := ⟨nb, 5, none⟩) HNW.out (.int .i64 0)).setCell (p := ⟨nb, 6, none⟩) HNW.out (.int .i64 0)).setCell (p := ⟨nb, 7, none⟩) HNW.out (.int .i64 0)).setCell (p := ⟨nb, 8, none⟩) HNW.out (.int .i64 0))
    have hbd := hbe.drew
    have HQ : Hid (RD VRow (.agg #[.int .i64 0, .int .i64 0, .int .i64 0, .int .i64 0, .int .i64 0, .int .i64 0, .int .i64 0, .int .i64 0, .int .i64 0]) bs (rdS (numsS 9) bs k) w (.returned (.tuple #[.agg #[.int .i64 0, .int .i64 0, .int .i64 0, .int .i64 0, .int .i64 0, .int .i64 0, .int .i64 0, .int .i64 0, .int .i64 0], .int .i64 0, .int .i64 ke])) (World.drew (((((((((w8.setCell ⟨nb, 0, none⟩ (.int .i64 0)).setCell ⟨nb, 1, none⟩ (.int .i64 0)).setCell ⟨nb, 2, none⟩ (.int .i64 0)).setCell ⟨nb, 3, none⟩ (.int .i64 0)).setCell ⟨nb, 4, none⟩ (.int .i64 0)).setCell ⟨nb, 5, none⟩ (.int .i64 0)).setCell ⟨nb, 6, none⟩ (.int .i64 0)).setCell ⟨nb, 7, none⟩ (.int .i64 0)).setCell ⟨nb, 8, none⟩ (.int .i64 0)))) := by
      show RD _ _ _ _ _ _ _
      rw [HE.out]
      exact ⟨rfl, hbd⟩
    clear hs hd hp hbb hbe hbd
    go_wp2_with fail
    go_region
    go_wp2_with fail
    refine bodyPost_ret (v := .tuple #[.agg #[.int .i64 0, .int .i64 0, .int .i64 0, .int .i64 0, .int .i64 0, .int .i64 0, .int .i64 0, .int .i64 0, .int .i64 0], .int .i64 0, .int .i64 ke]) ?_ rfl ?_
    · simp [results, Try.results40, go_sem, World.cell?_setCell_same, World.cell?_setCell_other, d0, d1, d2, d3, d4, d5, d6, d7, d8]
    · exact HQ.out
  | ok vs t =>
    have e0 := HVS.out vs t hs
    subst e0
    rw [hs] at HQ9 HE
    have hd : QdOk R w8 bs t := HQ9.out
    obtain ⟨A1, c1', k1, n1, c0, c1, hkn, hn40, hrl, hRl, hnb1, c2, f2, f1, hby⟩ := hd.at
    obtain ⟨d0, d1, d2, d3, d4, d5, d6, d7, d8⟩ := box9' HZ8.out
    obtain ⟨x0, x1, x2, x3, x4, x5, x6, x7, x8⟩ := box9' HX8.out
    have g0 := frz8 HZ8.out 0
    have g1 := frz8 HZ8.out 1
    have g2 := frz8 HZ8.out 2
    have g3 := frz8 HZ8.out 3
    have g4 := frz8 HZ8.out 4
    have g5 := frz8 HZ8.out 5
    have g6 := frz8 HZ8.out 6
    have g7 := frz8 HZ8.out 7
    have g8 := frz8 HZ8.out 8
    have hzz : nb < w8.heap.size := lt_of_block HZ8.out
    have hxz : xb < w8.heap.size := lt_of_block HX8.out
    have hRn : nb ≠ R := by have := HR.out; omega
    have hxn : nb ≠ xb := by have := HXR.out; have := HR.out; omega
    have hbb := HB8.out
    have hbe : Below w.heap.size w (((((((((w8.setCell ⟨nb, 0, none⟩ (.int .i64 y0)).setCell ⟨nb, 1, none⟩ (.int .i64 y1)).setCell ⟨nb, 2, none⟩ (.int .i64 a0)).setCell ⟨nb, 3, none⟩ (.int .i64 a1)).setCell ⟨nb, 4, none⟩ (.int .i64 a2)).setCell ⟨nb, 5, none⟩ (.int .i64 a3)).setCell ⟨nb, 6, none⟩ (.int .i64 a4)).setCell ⟨nb, 7, none⟩ (.int .i64 a5)).setCell ⟨nb, 8, none⟩ (.int .i64 a6)) := (((((((((hbb.setCell (p := ⟨nb, 0, none⟩) HNW.out (.int .i64 y0)).setCell (p := ⟨nb, 1, none⟩) HNW.out (.int .i64 y1)).setCell (p := ⟨nb, 2, none⟩) HNW.out (.int .i64 a0)).setCell (p := ⟨nb, 3, none⟩) HNW.out (.int .i64 a1)).setCell (p := ⟨nb, 4, none⟩) HNW.out (.int .i64 a2)).setCell (p := ⟨nb, 5, none⟩) HNW.out (.int .i64 a3)).setCell (p := ⟨nb, 6, none⟩) HNW.out (.int .i64 a4)).setCell (p := ⟨nb, 7, none⟩) HNW.out (.int .i64 a5)).setCell (p := ⟨nb, 8, none⟩) HNW.out (.int .i64 a6))
    have hbd := hbe.drew
    have HQ : Hid (RD VRow (.agg #[.int .i64 0, .int .i64 0, .int .i64 0, .int .i64 0, .int .i64 0, .int .i64 0, .int .i64 0, .int .i64 0, .int .i64 0]) bs (rdS (numsS 9) bs k) w (.returned (.tuple #[.agg #[.int .i64 y0, .int .i64 y1, .int .i64 a0, .int .i64 a1, .int .i64 a2, .int .i64 a3, .int .i64 a4, .int .i64 a5, .int .i64 a6], .int .i64 (k1 : Nat), .int .i64 0])) (World.drew (((((((((w8.setCell ⟨nb, 0, none⟩ (.int .i64 y0)).setCell ⟨nb, 1, none⟩ (.int .i64 y1)).setCell ⟨nb, 2, none⟩ (.int .i64 a0)).setCell ⟨nb, 3, none⟩ (.int .i64 a1)).setCell ⟨nb, 4, none⟩ (.int .i64 a2)).setCell ⟨nb, 5, none⟩ (.int .i64 a3)).setCell ⟨nb, 6, none⟩ (.int .i64 a4)).setCell ⟨nb, 7, none⟩ (.int .i64 a5)).setCell ⟨nb, 8, none⟩ (.int .i64 a6)))) := by
      show RD _ _ _ _ _ _ _
      rw [HE.out]
      exact ⟨_, by rw [show ((bs.length : Int) - t.length) = (k1 : Int) by omega], by show _ = _; rfl, by omega, hbd⟩
    clear hs hd hby hnb1 hrl c0 hbb hbe hbd
    go_wp2_with fail
    go_region
    go_wp2_with fail
    refine bodyPost_ret (v := .tuple #[.agg #[.int .i64 y0, .int .i64 y1, .int .i64 a0, .int .i64 a1, .int .i64 a2, .int .i64 a3, .int .i64 a4, .int .i64 a5, .int .i64 a6], .int .i64 k1, .int .i64 0]) ?_ rfl ?_
    · simp [results, Try.results40, go_sem, World.cell?_setCell_same, World.cell?_setCell_other, d0, d1, d2, d3, d4, d5, d6, d7, d8]
    · exact HQ.out
end Go.Proofs.Ytadikcioacaphaa
