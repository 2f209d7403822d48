/-
  What Int, Event and Det of the document's answer for chapter 8 return (gens91.py writes this text). Conditions: at most 2^40 bytes.
-/
import Derived.Test.YtadikcioacaphaaWalkQe
namespace Go.Proofs.Ytadikcioacaphaa
open Go.RowKit

theorem rdS_beg {bs : List Nat} {k : Int} : rdS numS bs k = intS (begS bs k) := by
  unfold rdS begS
  split <;> rfl
theorem rdS_begN {n : Nat} {bs : List Nat} {k : Int} : rdS (numsS n) bs k = numsQ n (begS bs k) := by
  unfold rdS begS
  split <;> rfl

set_option maxHeartbeats 2000000 in
set_option maxRecDepth 100000 in
theorem Int_ref (B : Nat) (bs : List Nat) (A : Option Addr) (n c : Nat) (k : Int) (w : World) (h : BsIn B w bs A n c) (hB : B ≤ w.heap.size) :
    Calls Try.prog 10 #[.slice A n c, .int .i64 k] w (RD VInt (.int .i64 0) bs (rdS numS bs k) w) := by
  have H := Lib.hid (begin_q B bs A n c k w h hB)
  have HE : Hid (rdS numS bs k = intS (begS bs k)) := rdS_beg
  clear h
  go_enter Try.func10, Try.ntmps10
  go_wp2_with fail
  refine H.out.mono ?_
  rintro e w1 ⟨R, rfl, hR, hq, hb⟩
  have HQ1 := Lib.hid hq
  have HB1 := Lib.hid hb
  have HR : Hid (w.heap.size ≤ R) := hR
  clear hq hb hR
  go_wp2_with fail
  refine (int_q HQ1.out).mono ?_
  rintro e w2 ⟨z, rfl, hz, _, hq, hk⟩
  have HB2 := Lib.hid (HB1.out.trans (hk.below (B := w.heap.size) HB1.out.size HR.out))
  cases hs : intS (begS bs k) with
  | err ke =>
    rw [hs] at hq HE
    have hd : QdEr R w2 ke := hq
    have c2 := hd.c2
    have hp := hd.pos
    have hne : ((ke : Int) != 0) = true := by simp; omega
    have hRl : R < w2.heap.size := World.block_lt_of_cell? w2 _ c2
    have HQ : Hid (∀ m, RD VInt (.int .i64 0) bs (rdS numS bs k) w (.returned (.tuple #[.int .i64 0, .int .i64 0, .int .i64 ke])) (w2.drewN m)) := fun m => by
      rw [HE.out]
      exact ⟨rfl, below_drewN HB2.out m⟩
    clear hz hq hk hs hd hp
    go_wp2_with fail
    go_quiet (fail)
    go_wp2_with fail
    refine bodyPost_ret (v := .tuple #[.int .i64 0, .int .i64 0, .int .i64 ke]) ?_ rfl ?_
    · simp [results, Try.results10, go_sem]
    · exact HQ.out _
  | ok z1 t =>
    have e0 := hz z1 t hs
    subst e0
    rw [hs] at hq HE
    have hd : QdOk R w2 bs t := hq
    obtain ⟨A1, c1', k1, n1, c0, c1, hkn, hn40, hrl, hRl, hnb, c2, f2, f1, hby⟩ := hd.at
    have HQ : Hid (∀ m, RD VInt (.int .i64 0) bs (rdS numS bs k) w (.returned (.tuple #[.int .i64 z, .int .i64 (k1 : Nat), .int .i64 0])) (w2.drewN m)) := fun m => by
      rw [HE.out]
      exact ⟨_, by rw [show ((bs.length : Int) - t.length) = (k1 : Int) by omega], rfl, by omega, below_drewN HB2.out m⟩
    clear hz hq hk hs hd hby hnb hrl c0
    go_wp2_with fail
    go_quiet (fail)
    go_wp2_with fail
    refine bodyPost_ret (v := .tuple #[.int .i64 z, .int .i64 k1, .int .i64 0]) ?_ rfl ?_
    · simp [results, Try.results10, go_sem]
    · exact HQ.out _

set_option maxHeartbeats 4000000 in
set_option maxRecDepth 100000 in
theorem Event_ref (B : Nat) (bs : List Nat) (A : Option Addr) (n c : Nat) (k : Int) (w : World) (h : BsIn B w bs A n c) (hB : B ≤ w.heap.size) :
    Calls Try.prog 38 #[.slice A n c, .int .i64 k] w (RD VRow (.agg #[.int .i64 0, .int .i64 0, .int .i64 0, .int .i64 0, .int .i64 0, .int .i64 0, .int .i64 0]) bs (rdS (numsS 7) bs k) w) := by
  obtain ⟨nb, hnb⟩ : ∃ x, w.heap.size = x := ⟨_, rfl⟩
  obtain ⟨W, hW⟩ : ∃ x, (w.alloc (.cells #[.int .i64 0, .int .i64 0, .int .i64 0, .int .i64 0, .int .i64 0, .int .i64 0, .int .i64 0] 35)) = x := ⟨_, rfl⟩
  have hb0 : Below w.heap.size w W := by rw [← hW]; exact rp_one1 _ _
  have hzs : W.heap.size = nb + 1 := by rw [← hW, new_size, hnb]
  have HZ0 : Hid (W.heap[nb]? = some (.cells #[.int .i64 0, .int .i64 0, .int .i64 0, .int .i64 0, .int .i64 0, .int .i64 0, .int .i64 0] 35 (0, 0))) := by show _ = _; rw [← hW, ← hnb]; exact new_blk _ _
  have H := Lib.hid (begin_q B bs A n c k W (h.below (hb0.mono hB)) (by omega))
  have HE : Hid (rdS (numsS 7) bs k = numsQ 7 (begS bs k)) := rdS_begN
  have HB0 := Lib.hid hb0
  have HNB : Hid (w.heap.size = nb) := hnb
  have HNW : Hid (w.heap.size ≤ nb) := Nat.le_of_eq hnb
  clear h hb0
  go_enter Try.func38, Try.ntmps38
  go_wp2_with fail
  try simp only [hW]
  refine H.out.mono ?_
  rintro e w1 ⟨R, rfl, hR, hq, hb⟩
  have HQ1 := Lib.hid hq
  have HB1 := Lib.hid (HB0.out.trans (hb.mono HB0.out.size))
  have HZ1 := Lib.hid (below_blk hb HZ0.out)
  have HR : Hid (nb + 1 ≤ R) := by show _ ≤ _; omega
  clear hq hb hR hW hnb hzs
  go_wp2_with fail
  refine (event_q R bs _ _ HQ1.out).mono ?_
  rintro e w2 ⟨zs, rfl, hzl, hzv, hq, hk⟩
  obtain ⟨a0, a1, a2, a3, a4, a5, a6, rfl⟩ := len7r hzl
  have HZ2 := Lib.hid (hk.blk HZ1.out (by have := HR.out; omega))
  have HB2 := Lib.hid (HB1.out.trans (hk.below (B := w.heap.size) HB1.out.size (by have := HR.out; have := HNB.out; omega)))
  have HQ2 := Lib.hid hq
  have HZV := Lib.hid hzv
  have hRl2 := hq.lt
  obtain ⟨xb, hxb⟩ : ∃ x, w2.heap.size = x := ⟨_, rfl⟩
  obtain ⟨w3, hw3⟩ : ∃ x, (w2.alloc (.cells #[.int .i64 a0, .int .i64 a1, .int .i64 a2, .int .i64 a3, .int .i64 a4, .int .i64 a5, .int .i64 a6] 35)) = x := ⟨_, rfl⟩
  have hb3 : Below w2.heap.size w2 w3 := by rw [← hw3]; exact rp_one1 _ _
  have HX3 : Hid (w3.heap[xb]? = some (.cells #[.int .i64 a0, .int .i64 a1, .int .i64 a2, .int .i64 a3, .int .i64 a4, .int .i64 a5, .int .i64 a6] 35 (0, 0))) := by show _ = _; rw [← hw3, ← hxb]; exact new_blk _ _
  have HQ3 := Lib.hid (HQ2.out.below hb3)
  have HZ3 := Lib.hid (below_blk hb3 HZ2.out)
  have HB3 := Lib.hid (HB2.out.trans (hb3.mono HB2.out.size))
  have HXN : Hid (nb < xb) := by have := lt_of_block HZ2.out; show _ < _; omega
  have HXR : Hid (R < xb) := by show _ < _; omega
  clear hzl hzv hq hk hb3 hRl2
  simp only [List.map_cons, List.map_nil]
  go_upto_region 3 with fail
  try simp only [hw3, hxb]
  clear hw3 hxb
  cases hs : numsQ 7 (begS bs k) with
  | err ke =>
    rw [hs] at HQ3 HE
    have hd : QdEr R w3 ke := HQ3.out
    have c2 := hd.c2
    have hp := hd.pos
    have hne : ((ke : Int) != 0) = true := by simp; omega
    have hRl : R < w3.heap.size := World.block_lt_of_cell? w3 _ c2
    obtain ⟨d0, d1, d2, d3, d4, d5, d6⟩ := box7' HZ3.out
    have g0 := frz8 HZ3.out 0
    have g1 := frz8 HZ3.out 1
    have g2 := frz8 HZ3.out 2
    have g3 := frz8 HZ3.out 3
    have g4 := frz8 HZ3.out 4
    have g5 := frz8 HZ3.out 5
    have g6 := frz8 HZ3.out 6
    have hzz : nb < w3.heap.size := lt_of_block HZ3.out
    have hRn : nb ≠ R := by have := HR.out; omega
    have hbb := HB3.out
    have hbe : Below w.heap.size w (((((((w3.setCell ⟨nb, 0, none⟩ (.int .i64 0)).setCell ⟨nb, 1, none⟩ (.int .i64 0)).setCell ⟨nb, 2, none⟩ (.int .i64 0)).setCell ⟨nb, 3, none⟩ (.int .i64 0)).setCell ⟨nb, 4, none⟩ (.int .i64 0)).setCell ⟨nb, 5, none⟩ (.int .i64 0)).setCell ⟨nb, 6, none⟩ (.int .i64 0)) := (((((((hbb.setCell (p := ⟨nb, 0, none⟩) HNW.out (.int .i64 0)).setCell (p := ⟨nb, 1, none⟩) HNW.out (.int .i64 0)).setCell (p := ⟨nb, 2, none⟩) HNW.out (.int .i64 0)).setCell (p := ⟨nb, 3, none⟩) HNW.out (.int .i64 0)).setCell (p := ⟨nb, 4, none⟩) HNW.out (.int .i64 0)).setCell (p := ⟨nb, 5, none⟩) HNW.out (.int .i64 0)).setCell (p := ⟨nb, 6, none⟩) HNW.out (.int .i64 0))
    have hbd := hbe.drew
    have HQ : Hid (RD VRow (.agg #[.int .i64 0, .int .i64 0, .int .i64 0, .int .i64 0, .int .i64 0, .int .i64 0, .int .i64 0]) bs (rdS (numsS 7) bs k) w (.returned (.tuple #[.agg #[.int .i64 0, .int .i64 0, .int .i64 0, .int .i64 0, .int .i64 0, .int .i64 0, .int .i64 0], .int .i64 0, .int .i64 ke])) (World.drew (((((((w3.setCell ⟨nb, 0, none⟩ (.int .i64 0)).setCell ⟨nb, 1, none⟩ (.int .i64 0)).setCell ⟨nb, 2, none⟩ (.int .i64 0)).setCell ⟨nb, 3, none⟩ (.int .i64 0)).setCell ⟨nb, 4, none⟩ (.int .i64 0)).setCell ⟨nb, 5, none⟩ (.int .i64 0)).setCell ⟨nb, 6, none⟩ (.int .i64 0)))) := by
      show RD _ _ _ _ _ _ _
      rw [HE.out]
      exact ⟨rfl, hbd⟩
    clear hs hd hp hbb hbe hbd
    go_wp2_with fail
    go_region
    go_wp2_with fail
    refine bodyPost_ret (v := .tuple #[.agg #[.int .i64 0, .int .i64 0, .int .i64 0, .int .i64 0, .int .i64 0, .int .i64 0, .int .i64 0], .int .i64 0, .int .i64 ke]) ?_ rfl ?_
    · simp [results, Try.results38, go_sem, World.cell?_setCell_same, World.cell?_setCell_other, d0, d1, d2, d3, d4, d5, d6]
    · exact HQ.out
  | ok vs t =>
    have e0 := HZV.out vs t hs
    subst e0
    rw [hs] at HQ3 HE
    have hd : QdOk R w3 bs t := HQ3.out
    obtain ⟨A1, c1', k1, n1, c0, c1, hkn, hn40, hrl, hRl, hnb1, c2, f2, f1, hby⟩ := hd.at
    obtain ⟨d0, d1, d2, d3, d4, d5, d6⟩ := box7' HZ3.out
    obtain ⟨x0, x1, x2, x3, x4, x5, x6⟩ := box7' HX3.out
    have g0 := frz8 HZ3.out 0
    have g1 := frz8 HZ3.out 1
    have g2 := frz8 HZ3.out 2
    have g3 := frz8 HZ3.out 3
    have g4 := frz8 HZ3.out 4
    have g5 := frz8 HZ3.out 5
    have g6 := frz8 HZ3.out 6
    have hzz : nb < w3.heap.size := lt_of_block HZ3.out
    have hxz : xb < w3.heap.size := lt_of_block HX3.out
    have hRn : nb ≠ R := by have := HR.out; omega
    have hxn : nb ≠ xb := by have := HXN.out; omega
    have hbb := HB3.out
    have hbe : Below w.heap.size w (((((((w3.setCell ⟨nb, 0, none⟩ (.int .i64 a0)).setCell ⟨nb, 1, none⟩ (.int .i64 a1)).setCell ⟨nb, 2, none⟩ (.int .i64 a2)).setCell ⟨nb, 3, none⟩ (.int .i64 a3)).setCell ⟨nb, 4, none⟩ (.int .i64 a4)).setCell ⟨nb, 5, none⟩ (.int .i64 a5)).setCell ⟨nb, 6, none⟩ (.int .i64 a6)) := (((((((hbb.setCell (p := ⟨nb, 0, none⟩) HNW.out (.int .i64 a0)).setCell (p := ⟨nb, 1, none⟩) HNW.out (.int .i64 a1)).setCell (p := ⟨nb, 2, none⟩) HNW.out (.int .i64 a2)).setCell (p := ⟨nb, 3, none⟩) HNW.out (.int .i64 a3)).setCell (p := ⟨nb, 4, none⟩) HNW.out (.int .i64 a4)).setCell (p := ⟨nb, 5, none⟩) HNW.out (.int .i64 a5)).setCell (p := ⟨nb, 6, none⟩) HNW.out (.int .i64 a6))
    have hbd := hbe.drew
    have HQ : Hid (RD VRow (.agg #[.int .i64 0, .int .i64 0, .int .i64 0, .int .i64 0, .int .i64 0, .int .i64 0, .int .i64 0]) bs (rdS (numsS 7) bs k) w (.returned (.tuple #[.agg #[.int .i64 a0, .int .i64 a1, .int .i64 a2, .int .i64 a3, .int .i64 a4, .int .i64 a5, .int .i64 a6], .int .i64 (k1 : Nat), .int .i64 0])) (World.drew (((((((w3.setCell ⟨nb, 0, none⟩ (.int .i64 a0)).setCell ⟨nb, 1, none⟩ (.int .i64 a1)).setCell ⟨nb, 2, none⟩ (.int .i64 a2)).setCell ⟨nb, 3, none⟩ (.int .i64 a3)).setCell ⟨nb, 4, none⟩ (.int .i64 a4)).setCell ⟨nb, 5, none⟩ (.int .i64 a5)).setCell ⟨nb, 6, none⟩ (.int .i64 a6)))) := by
      show RD _ _ _ _ _ _ _
      rw [HE.out]
      exact ⟨_, by rw [show ((bs.length : Int) - t.length) = (k1 : Int) by omega], by show _ = _; rfl, by omega, hbd⟩
    clear hs hd hby hnb1 hrl c0 hbb hbe hbd
    go_wp2_with fail
    go_region
    go_wp2_with fail
    refine bodyPost_ret (v := .tuple #[.agg #[.int .i64 a0, .int .i64 a1, .int .i64 a2, .int .i64 a3, .int .i64 a4, .int .i64 a5, .int .i64 a6], .int .i64 k1, .int .i64 0]) ?_ rfl ?_
    · simp [results, Try.results38, go_sem, World.cell?_setCell_same, World.cell?_setCell_other, d0, d1, d2, d3, d4, d5, d6]
    · exact HQ.out
end Go.Proofs.Ytadikcioacaphaa
