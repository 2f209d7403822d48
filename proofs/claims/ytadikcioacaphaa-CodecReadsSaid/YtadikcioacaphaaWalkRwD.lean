/-
  What read of package codec returns for D (gens86.py writes this text). Conditions: at most 2^40 bytes.
-/
import Derived.Test.YtadikcioacaphaaWalkRw8
namespace Go.Proofs.Ytadikcioacaphaa
open Go.RowKit

theorem len9r {l : List Int} (h : l.length = 9) : ∃ a0 a1 a2 a3 a4 a5 a6 a7 a8, l = [a0, a1, a2, a3, a4, a5, a6, a7, a8] := by
  match l, h with
  | [a0, a1, a2, a3, a4, a5, a6, a7, a8], _ => exact ⟨a0, a1, a2, a3, a4, a5, a6, a7, a8, rfl⟩
set_option maxHeartbeats 1000000 in
set_option maxRecDepth 100000 in
theorem catchD_thrown (b n : Nat) (y : Int) (w : World) (c6 : w.cell? ⟨b, 0, none⟩ = some (.int .i64 y)) (f6 : w.frozen? ⟨b, 0, none⟩ = false) :
    CallsD Try.prog 81 #[.pointer (some ⟨b, 0, none⟩)] (.panicking [thrown n]) w fun e u' w' =>
      e = .returned (.tuple #[]) ∧ u' = .panicking [{ thrown n with recovered := true }] ∧ w' = (w.setCell ⟨b, 0, none⟩ (.int .i64 n)).alloc (.cells #[.int .i64 n] 87) := by
  have h6 : b < w.heap.size := World.block_lt_of_cell? w _ c6
  have hta : ∀ w, (Instr.typeAssert (.iface 87 (.agg #[.int .i64 n])) 20 87 true).run Try.prog w = .ok (.tuple #[.agg #[.int .i64 n], .bool true]) w := fun w => by kernel_rfl
  refine callsD_of_wpS Try.func81 rfl fun c₀ cs hu => ?_
  apply wpS_seq
  apply wpS_region
  simp [wpOpsS, go_sem, recoverD, hu, Try.ntmps81, Exit.thenS, thrown]
  refine wpS_of_wp ?_
  go_wp2_with fail
  cases c₀
  simp_all [bodyPostS, results, Try.results81]

theorem catchD_idle (b : Nat) (w : World) :
    CallsD Try.prog 81 #[.pointer (some ⟨b, 0, none⟩)] .returning w fun e u' w' => e = .returned (.tuple #[]) ∧ u' = .returning ∧ w' = w := by
  refine callsD_of_wpS Try.func81 rfl fun c₀ cs hu => ?_
  apply wpS_seq
  apply wpS_region
  simp [wpOpsS, go_sem, recoverD, hu, Try.ntmps81, Exit.thenS]
  refine wpS_of_wp ?_
  go_wp2_with fail
  cases c₀
  simp_all [bodyPostS, results, Try.results81]


set_option maxHeartbeats 4000000 in
set_option maxRecDepth 100000 in
theorem readD_any (B : Nat) (bs : List Nat) (A : Option Addr) (n c : Nat) (k : Int) (w : World) (h : BsIn B w bs A n c) (hB : B ≤ w.heap.size) (b0 : Nat) (hb9 : b0 ≤ w.heap.size) :
    Calls Try.prog 62 #[.slice A n c, .int .i64 k, .func (.func 63) #[] #[]] w (RD VRow (.agg #[.int .i64 0, .int .i64 0, .int .i64 0, .int .i64 0, .int .i64 0, .int .i64 0, .int .i64 0, .int .i64 0, .int .i64 0]) bs (rdS (numsS 9) bs k) w) := by
  have hmf : ∀ (fn : Fn) (first cap : Array Value) (w : World), (Instr.makeFunc fn first cap).run Try.prog w = .ok (.func fn first cap) w := fun _ _ _ _ => rfl
  have HLE := Lib.hid h.len
  have HB9 : Hid (b0 ≤ w.heap.size) := hb9
  clear hb9
  have hn40 := h.le40
  obtain ⟨nb, hnb⟩ : ∃ x, w.heap.size = x := ⟨_, rfl⟩
  obtain ⟨W, hW⟩ : ∃ x, ((w.alloc (.cells #[.int .i64 0, .int .i64 0, .int .i64 0, .int .i64 0, .int .i64 0, .int .i64 0, .int .i64 0, .int .i64 0, .int .i64 0] 37)).alloc (.cells #[.int .i64 0] 26)) = x := ⟨_, rfl⟩
  have hb0 : Below w.heap.size w W := by rw [← hW]; exact (rp_one1 _ _).alloc (by rw [new_size]; omega) _
  have hzs : W.heap.size = nb + 1 + 1 := by rw [← hW, new_size, new_size, hnb]
  have HA0 : Hid (W.heap[nb]? = some (.cells #[.int .i64 0, .int .i64 0, .int .i64 0, .int .i64 0, .int .i64 0, .int .i64 0, .int .i64 0, .int .i64 0, .int .i64 0] 37 (0, 0))) := by show _ = _; rw [← hW, alloc_blk _ _ (by rw [new_size]; omega), ← hnb]; exact new_blk _ _
  have HZ0 : Hid (W.heap[nb + 1]? = some (.cells #[.int .i64 0] 26 (0, 0))) := by show _ = _; rw [← hW, ← hnb]; exact new_blk1 _ _ _
  have HB0 := Lib.hid hb0
  have HNB := Lib.hid hnb
  have HH := Lib.hid (h.below (hb0.mono hB))
  have HBN : Hid (B ≤ nb + 1 + 1) := by show _ ≤ _; omega
  have HZS := Lib.hid hzs
  clear h hb0
  by_cases hout : k < 0 ∨ (n : Int) < k
  · have HQ : Hid (∀ w', Below w.heap.size w w' → RD VRow (.agg #[.int .i64 0, .int .i64 0, .int .i64 0, .int .i64 0, .int .i64 0, .int .i64 0, .int .i64 0, .int .i64 0, .int .i64 0]) bs (rdS (numsS 9) bs k) w (.returned (.tuple #[.agg #[.int .i64 0, .int .i64 0, .int .i64 0, .int .i64 0, .int .i64 0, .int .i64 0, .int .i64 0, .int .i64 0, .int .i64 0], .int .i64 0, .int .i64 3])) w') := fun w' hb => by
      show RD _ _ _ _ _ _ _
      rw [rdS_out (by rw [← HLE.out]; exact hout)]
      exact ⟨rfl, hb⟩
    obtain ⟨d0, d1, d2, d3, d4, d5, d6, d7, d8⟩ := box9' HA0.out
    have g0 := frz8 HA0.out 0
    have g1 := frz8 HA0.out 1
    have g2 := frz8 HA0.out 2
    have g3 := frz8 HA0.out 3
    have g4 := frz8 HA0.out 4
    have g5 := frz8 HA0.out 5
    have g6 := frz8 HA0.out 6
    have g7 := frz8 HA0.out 7
    have g8 := frz8 HA0.out 8
    have dz := box1' HZ0.out
    have gz := frz8 HZ0.out 0
    have hz0 : nb < W.heap.size := lt_of_block HA0.out
    have hzz : nb + 1 < W.heap.size := lt_of_block HZ0.out
    have HQ3 := Lib.hid (HQ.out _ ((((((((((HB0.out.setCell (p := ⟨nb, 0, none⟩) (by show _ ≤ nb; omega) (.int .i64 0)).setCell (p := ⟨nb, 1, none⟩) (by show _ ≤ nb; omega) (.int .i64 0)).setCell (p := ⟨nb, 2, none⟩) (by show _ ≤ nb; omega) (.int .i64 0)).setCell (p := ⟨nb, 3, none⟩) (by show _ ≤ nb; omega) (.int .i64 0)).setCell (p := ⟨nb, 4, none⟩) (by show _ ≤ nb; omega) (.int .i64 0)).setCell (p := ⟨nb, 5, none⟩) (by show _ ≤ nb; omega) (.int .i64 0)).setCell (p := ⟨nb, 6, none⟩) (by show _ ≤ nb; omega) (.int .i64 0)).setCell (p := ⟨nb, 7, none⟩) (by show _ ≤ nb; omega) (.int .i64 0)).setCell (p := ⟨nb, 8, none⟩) (by show _ ≤ nb; omega) (.int .i64 0)).setCell (p := ⟨nb + 1, 0, none⟩) (by show _ ≤ nb + 1; omega) (.int .i64 3)))
    by_cases h0 : k < 0
    · clear hout hB hzs HQ
      go_enter_defers Try.func62, Try.ntmps62
      go_wp2_with fail
      exact ⟨.tuple #[.agg #[.int .i64 0, .int .i64 0, .int .i64 0, .int .i64 0, .int .i64 0, .int .i64 0, .int .i64 0, .int .i64 0, .int .i64 0], .int .i64 0, .int .i64 3], by simp [results, Try.results62, go_sem, World.cell?_setCell_same, World.cell?_setCell_other, d0, d1, d2, d3, d4, d5, d6, d7, d8, dz], HQ3.out⟩
    · have h1 : (n : Int) < k := by omega
      clear hout hB hzs HQ
      go_enter_defers Try.func62, Try.ntmps62
      go_wp2_with fail
      exact ⟨.tuple #[.agg #[.int .i64 0, .int .i64 0, .int .i64 0, .int .i64 0, .int .i64 0, .int .i64 0, .int .i64 0, .int .i64 0, .int .i64 0], .int .i64 0, .int .i64 3], by simp [results, Try.results62, go_sem, World.cell?_setCell_same, World.cell?_setCell_other, d0, d1, d2, d3, d4, d5, d6, d7, d8, dz], HQ3.out⟩
  obtain ⟨kk, rfl⟩ : ∃ kk : Nat, k = (kk : Int) := ⟨k.toNat, by omega⟩
  have hk0 : ¬ (kk : Int) < 0 := by omega
  have hkn : ¬ (n : Int) < (kk : Int) := by omega
  have HRD : Hid (RdSt (nb + 1 + 1) (W.alloc (.cells #[.slice A n c, .int .i64 (kk : Nat)] 90)) bs (bs.drop kk)) := by
    have := HH.out.rd (k := kk) (by rw [HZS.out]; exact HBN.out) (by omega) 90
    rwa [hzs] at this
  have HAR := Lib.hid (below_blk (rp_one1 W (.cells #[.slice A n c, .int .i64 (kk : Nat)] 90)) HA0.out)
  have HZR := Lib.hid (below_blk (rp_one1 W (.cells #[.slice A n c, .int .i64 (kk : Nat)] 90)) HZ0.out)
  have HBR := Lib.hid (HB0.out.trans ((rp_one1 W (.cells #[.slice A n c, .int .i64 (kk : Nat)] 90)).mono HB0.out.size))
  have HRS : Hid (rdS (numsS 9) bs (kk : Int) = (numsS 9) (bs.drop kk)) := rdS_in (by rw [← HLE.out]; omega)
  clear hout hB
  cases hn : (numsS 9) (bs.drop kk) with
  | err ke =>
    have HN := Lib.hid hn
    have HQ : Hid (∀ w', Below w.heap.size w w' → RD VRow (.agg #[.int .i64 0, .int .i64 0, .int .i64 0, .int .i64 0, .int .i64 0, .int .i64 0, .int .i64 0, .int .i64 0, .int .i64 0]) bs (rdS (numsS 9) bs kk) w (.returned (.tuple #[.agg #[.int .i64 0, .int .i64 0, .int .i64 0, .int .i64 0, .int .i64 0, .int .i64 0, .int .i64 0, .int .i64 0, .int .i64 0], .int .i64 0, .int .i64 ke])) w') := fun w' hb => by
      show RD _ _ _ _ _ _ _
      rw [HRS.out, HN.out]
      exact ⟨rfl, hb⟩
    clear hn
    go_enter_defers Try.func62, Try.ntmps62
    go_wp2_with fail
    try simp only [hzs]
    refine (any_err (det_any _ _ _ _ HRD.out) HN.out).mono ?_
    rintro e w5 ⟨rfl, hk⟩
    have ha5 := hk.blk HAR.out (by omega)
    have hz5 := hk.blk HZR.out (by omega)
    obtain ⟨d0, d1, d2, d3, d4, d5, d6, d7, d8⟩ := box9' ha5
    have c5 := box1' hz5
    have f5 := frz8 hz5 0
    have HB5 := Lib.hid (HBR.out.trans (hk.below (B := w.heap.size) HBR.out.size (by omega)))
    clear hz5 hk
    go_wp2_with fail
    refine leaves_cons (f := 81) (args := #[.pointer (some ⟨nb + 1, 0, none⟩)]) (by simp) (by simp [go_sem]) ?_
    refine (catchD_thrown (nb + 1) ke 0 w5 c5 f5).mono ?_
    rintro e u' w'' ⟨rfl, rfl, rfl⟩
    have hz0 : nb < w5.heap.size := lt_of_block ha5
    have hzz : nb + 1 < w5.heap.size := World.block_lt_of_cell? _ _ c5
    have HQ3 := Lib.hid (HQ.out _ ((HB5.out.setCell (p := ⟨nb + 1, 0, none⟩) (by show _ ≤ nb + 1; omega) (.int .i64 ke)).alloc (by rw [set_size]; exact HB5.out.size) (.cells #[.int .i64 ke] 87)))
    exact ⟨.tuple #[.agg #[.int .i64 0, .int .i64 0, .int .i64 0, .int .i64 0, .int .i64 0, .int .i64 0, .int .i64 0, .int .i64 0, .int .i64 0], .int .i64 0, .int .i64 ke], by simp [results, Try.results62, go_sem, World.cell?_setCell_same, World.cell?_setCell_other, d0, d1, d2, d3, d4, d5, d6, d7, d8, c5, hz0, hzz], HQ3.out⟩
  | ok z r =>
    have HN := Lib.hid hn
    clear hn
    go_enter_defers Try.func62, Try.ntmps62
    go_wp2_with fail
    try simp only [hzs]
    refine (any_ok (det_any _ _ _ _ HRD.out) HN.out).mono ?_
    rintro e w5 ⟨v, rfl, hv, hst, hk⟩
    obtain ⟨a0, a1, a2, a3, a4, a5, a6, a7, a8, hvs⟩ := len9r (numsS_len HN.out)
    have hve : v = .agg #[.int .i64 a0, .int .i64 a1, .int .i64 a2, .int .i64 a3, .int .i64 a4, .int .i64 a5, .int .i64 a6, .int .i64 a7, .int .i64 a8] := by rw [show v = _ from hv, hvs]; rfl
    subst hve
    have HVS := Lib.hid hvs
    clear hv hvs
    have ha5 := hk.blk HAR.out (by omega)
    have hz5 := hk.blk HZR.out (by omega)
    obtain ⟨d0, d1, d2, d3, d4, d5, d6, d7, d8⟩ := box9' ha5
    have g0 := frz8 ha5 0
    have g1 := frz8 ha5 1
    have g2 := frz8 ha5 2
    have g3 := frz8 ha5 3
    have g4 := frz8 ha5 4
    have g5 := frz8 ha5 5
    have g6 := frz8 ha5 6
    have g7 := frz8 ha5 7
    have g8 := frz8 ha5 8
    have hz0 : nb < w5.heap.size := lt_of_block ha5
    have HA5 := Lib.hid ha5
    have HZ5 := Lib.hid hz5
    have HS5 := Lib.hid hst
    have HB5 := Lib.hid (HBR.out.trans (hk.below (B := w.heap.size) HBR.out.size (by omega)))
    clear ha5 hz5 hst hk
    go_upto_region 6 with fail
    obtain ⟨w6, hw6⟩ : ∃ x, (((((((((w5.setCell ⟨nb, 0, none⟩ (.int .i64 a0)).setCell ⟨nb, 1, none⟩ (.int .i64 a1)).setCell ⟨nb, 2, none⟩ (.int .i64 a2)).setCell ⟨nb, 3, none⟩ (.int .i64 a3)).setCell ⟨nb, 4, none⟩ (.int .i64 a4)).setCell ⟨nb, 5, none⟩ (.int .i64 a5)).setCell ⟨nb, 6, none⟩ (.int .i64 a6)).setCell ⟨nb, 7, none⟩ (.int .i64 a7)).setCell ⟨nb, 8, none⟩ (.int .i64 a8)) = x := ⟨_, rfl⟩
    have h6 : ∀ i, i ≠ nb → w6.heap[i]? = w5.heap[i]? := fun i hin => by rw [← hw6, Below.heap_setCell _ _ _ _ hin, Below.heap_setCell _ _ _ _ hin, Below.heap_setCell _ _ _ _ hin, Below.heap_setCell _ _ _ _ hin, Below.heap_setCell _ _ _ _ hin, Below.heap_setCell _ _ _ _ hin, Below.heap_setCell _ _ _ _ hin, Below.heap_setCell _ _ _ _ hin, Below.heap_setCell _ _ _ _ hin]
    have hA6 : w6.heap[nb]? = some (.cells #[.int .i64 a0, .int .i64 a1, .int .i64 a2, .int .i64 a3, .int .i64 a4, .int .i64 a5, .int .i64 a6, .int .i64 a7, .int .i64 a8] 37 (0, 0)) := by
      have k0 := blk_set HA5.out 0 (.int .i64 a0)
      have k1 := blk_set k0 1 (.int .i64 a1)
      have k2 := blk_set k1 2 (.int .i64 a2)
      have k3 := blk_set k2 3 (.int .i64 a3)
      have k4 := blk_set k3 4 (.int .i64 a4)
      have k5 := blk_set k4 5 (.int .i64 a5)
      have k6 := blk_set k5 6 (.int .i64 a6)
      have k7 := blk_set k6 7 (.int .i64 a7)
      have k8 := blk_set k7 8 (.int .i64 a8)
      rw [← hw6]
      exact k8
    have hb6 : Below w.heap.size w w6 := by rw [← hw6]; exact (((((((((HB5.out.setCell (p := ⟨nb, 0, none⟩) (by show _ ≤ nb; omega) (.int .i64 a0)).setCell (p := ⟨nb, 1, none⟩) (by show _ ≤ nb; omega) (.int .i64 a1)).setCell (p := ⟨nb, 2, none⟩) (by show _ ≤ nb; omega) (.int .i64 a2)).setCell (p := ⟨nb, 3, none⟩) (by show _ ≤ nb; omega) (.int .i64 a3)).setCell (p := ⟨nb, 4, none⟩) (by show _ ≤ nb; omega) (.int .i64 a4)).setCell (p := ⟨nb, 5, none⟩) (by show _ ≤ nb; omega) (.int .i64 a5)).setCell (p := ⟨nb, 6, none⟩) (by show _ ≤ nb; omega) (.int .i64 a6)).setCell (p := ⟨nb, 7, none⟩) (by show _ ≤ nb; omega) (.int .i64 a7)).setCell (p := ⟨nb, 8, none⟩) (by show _ ≤ nb; omega) (.int .i64 a8))
    have hz6 := (h6 (nb + 1) (by omega)).trans HZ5.out
    obtain ⟨A5, q5, k5, n5, x0', x1', hkn5, hn5, hrl, hRl', hnb5⟩ := HS5.out.at
    have x0 := (World.cell?_of_block (w := w5) (a := ⟨nb + 1 + 1, 0, none⟩) (h6 (nb + 1 + 1) (by omega))).trans x0'
    have x1 := (World.cell?_of_block (w := w5) (a := ⟨nb + 1 + 1, 1, none⟩) (h6 (nb + 1 + 1) (by omega))).trans x1'
    have H6 := Lib.hid h6
    have HB6 := Lib.hid hb6
    simp only [hw6]
    clear hw6 x0' x1' hRl' d0 g0 d1 g1 d2 g2 d3 g3 d4 g4 d5 g5 d6 g6 d7 g7 d8 g8 h6 hb6 hz0
    obtain ⟨d0, d1, d2, d3, d4, d5, d6, d7, d8⟩ := box9' hA6
    have g0 := frz8 hA6 0
    have g1 := frz8 hA6 1
    have g2 := frz8 hA6 2
    have g3 := frz8 hA6 3
    have g4 := frz8 hA6 4
    have g5 := frz8 hA6 5
    have g6 := frz8 hA6 6
    have g7 := frz8 hA6 7
    have g8 := frz8 hA6 8
    have hz0 : nb < w6.heap.size := lt_of_block hA6
    have c5 := box1' hz6
    have f5 := frz8 hz6 0
    have hzz : nb + 1 < w6.heap.size := lt_of_block hz6
    have hRl : nb + 1 + 1 < w6.heap.size := World.block_lt_of_cell? _ _ x1
    have HQ : Hid (∀ w', (∀ i, nb + 1 + 1 + 1 ≤ i → w'.heap[i]? = w5.heap[i]?) → Below w.heap.size w w' → RD VRow (.agg #[.int .i64 0, .int .i64 0, .int .i64 0, .int .i64 0, .int .i64 0, .int .i64 0, .int .i64 0, .int .i64 0, .int .i64 0]) bs (rdS (numsS 9) bs kk) w (.returned (.tuple #[.agg #[.int .i64 a0, .int .i64 a1, .int .i64 a2, .int .i64 a3, .int .i64 a4, .int .i64 a5, .int .i64 a6, .int .i64 a7, .int .i64 a8], .int .i64 (k5 : Nat), .int .i64 0])) w') := fun w' hi hb => by
      show RD _ _ _ _ _ _ _
      rw [HRS.out, HN.out]
      exact ⟨_, by rw [show ((bs.length : Int) - r.length) = (k5 : Int) by omega], by show _ = _; rw [HVS.out]; rfl, by omega, hb⟩
    clear hA6 hz6 hrl hnb5
    go_region
    go_wp2_with fail
    refine leaves_cons (f := 81) (args := #[.pointer (some ⟨nb + 1, 0, none⟩)]) (by simp) (by simp [go_sem]) ?_
    refine (catchD_idle (nb + 1) _).mono ?_
    rintro e u' w'' ⟨rfl, rfl, rfl⟩
    have hb7 : Below w.heap.size w ((((((((((w6.setCell ⟨nb, 0, none⟩ (.int .i64 a0)).setCell ⟨nb, 1, none⟩ (.int .i64 a1)).setCell ⟨nb, 2, none⟩ (.int .i64 a2)).setCell ⟨nb, 3, none⟩ (.int .i64 a3)).setCell ⟨nb, 4, none⟩ (.int .i64 a4)).setCell ⟨nb, 5, none⟩ (.int .i64 a5)).setCell ⟨nb, 6, none⟩ (.int .i64 a6)).setCell ⟨nb, 7, none⟩ (.int .i64 a7)).setCell ⟨nb, 8, none⟩ (.int .i64 a8)).setCell ⟨nb + 1, 0, none⟩ (.int .i64 0)) := (((((((((HB6.out.setCell (p := ⟨nb, 0, none⟩) (by show _ ≤ nb; omega) (.int .i64 a0)).setCell (p := ⟨nb, 1, none⟩) (by show _ ≤ nb; omega) (.int .i64 a1)).setCell (p := ⟨nb, 2, none⟩) (by show _ ≤ nb; omega) (.int .i64 a2)).setCell (p := ⟨nb, 3, none⟩) (by show _ ≤ nb; omega) (.int .i64 a3)).setCell (p := ⟨nb, 4, none⟩) (by show _ ≤ nb; omega) (.int .i64 a4)).setCell (p := ⟨nb, 5, none⟩) (by show _ ≤ nb; omega) (.int .i64 a5)).setCell (p := ⟨nb, 6, none⟩) (by show _ ≤ nb; omega) (.int .i64 a6)).setCell (p := ⟨nb, 7, none⟩) (by show _ ≤ nb; omega) (.int .i64 a7)).setCell (p := ⟨nb, 8, none⟩) (by show _ ≤ nb; omega) (.int .i64 a8)).setCell (p := ⟨nb + 1, 0, none⟩) (by show _ ≤ nb + 1; omega) (.int .i64 0)
    have hi7 : ∀ i, nb + 1 + 1 + 1 ≤ i → ((((((((((w6.setCell ⟨nb, 0, none⟩ (.int .i64 a0)).setCell ⟨nb, 1, none⟩ (.int .i64 a1)).setCell ⟨nb, 2, none⟩ (.int .i64 a2)).setCell ⟨nb, 3, none⟩ (.int .i64 a3)).setCell ⟨nb, 4, none⟩ (.int .i64 a4)).setCell ⟨nb, 5, none⟩ (.int .i64 a5)).setCell ⟨nb, 6, none⟩ (.int .i64 a6)).setCell ⟨nb, 7, none⟩ (.int .i64 a7)).setCell ⟨nb, 8, none⟩ (.int .i64 a8)).setCell ⟨nb + 1, 0, none⟩ (.int .i64 0)).heap[i]? = w5.heap[i]? := fun i hi => by
      have e1 : i ≠ nb := by omega
      have e2 : i ≠ nb + 1 := by omega
      rw [Below.heap_setCell _ _ _ _ e2, Below.heap_setCell _ _ _ _ e1, Below.heap_setCell _ _ _ _ e1, Below.heap_setCell _ _ _ _ e1, Below.heap_setCell _ _ _ _ e1, Below.heap_setCell _ _ _ _ e1, Below.heap_setCell _ _ _ _ e1, Below.heap_setCell _ _ _ _ e1, Below.heap_setCell _ _ _ _ e1, Below.heap_setCell _ _ _ _ e1]
      exact H6.out i e1
    have HQ3 := Lib.hid (HQ.out _ hi7 hb7)
    have HQ4 := Lib.hid (HQ.out _ (at_drew hi7) hb7.drew)
    clear hb7 hi7
    exact ⟨.tuple #[.agg #[.int .i64 a0, .int .i64 a1, .int .i64 a2, .int .i64 a3, .int .i64 a4, .int .i64 a5, .int .i64 a6, .int .i64 a7, .int .i64 a8], .int .i64 k5, .int .i64 0], by simp [results, Try.results62, go_sem, World.cell?_setCell_same, World.cell?_setCell_other, d0, d1, d2, d3, d4, d5, d6, d7, d8, c5], HQ4.out⟩
end Go.Proofs.Ytadikcioacaphaa
