/-
  What read of package codec returns for S (gens86.py writes this text). Conditions: at most 2^40 bytes.
-/
import Derived.Test.YtadikcioacaphaaWalkRw8
namespace Go.Proofs.Ytadikcioacaphaa
open Go.RowKit

set_option maxHeartbeats 1000000 in
set_option maxRecDepth 100000 in
theorem catchS_thrown (b n : Nat) (y : Int) (w : World) (c6 : w.cell? ⟨b, 0, none⟩ = some (.int .i64 y)) (f6 : w.frozen? ⟨b, 0, none⟩ = false) :
    CallsD Try.prog 74 #[.pointer (some ⟨b, 0, none⟩)] (.panicking [thrown n]) w fun e u' w' =>
      e = .returned (.tuple #[]) ∧ u' = .panicking [{ thrown n with recovered := true }] ∧ w' = (w.setCell ⟨b, 0, none⟩ (.int .i64 n)).alloc (.cells #[.int .i64 n] 87) := by
  have h6 : b < w.heap.size := World.block_lt_of_cell? w _ c6
  have hta : ∀ w, (Instr.typeAssert (.iface 87 (.agg #[.int .i64 n])) 20 87 true).run Try.prog w = .ok (.tuple #[.agg #[.int .i64 n], .bool true]) w := fun w => by kernel_rfl
  refine callsD_of_wpS Try.func74 rfl fun c₀ cs hu => ?_
  apply wpS_seq
  apply wpS_region
  simp [wpOpsS, go_sem, recoverD, hu, Try.ntmps74, Exit.thenS, thrown]
  refine wpS_of_wp ?_
  go_wp2_with fail
  cases c₀
  simp_all [bodyPostS, results, Try.results74]

theorem catchS_idle (b : Nat) (w : World) :
    CallsD Try.prog 74 #[.pointer (some ⟨b, 0, none⟩)] .returning w fun e u' w' => e = .returned (.tuple #[]) ∧ u' = .returning ∧ w' = w := by
  refine callsD_of_wpS Try.func74 rfl fun c₀ cs hu => ?_
  apply wpS_seq
  apply wpS_region
  simp [wpOpsS, go_sem, recoverD, hu, Try.ntmps74, Exit.thenS]
  refine wpS_of_wp ?_
  go_wp2_with fail
  cases c₀
  simp_all [bodyPostS, results, Try.results74]


set_option maxHeartbeats 4000000 in
set_option maxRecDepth 100000 in
theorem readS_any (B : Nat) (bs : List Nat) (A : Option Addr) (n c : Nat) (k : Int) (w : World) (h : BsIn B w bs A n c) (hB : B ≤ w.heap.size) (b0 : Nat) (hb9 : b0 ≤ w.heap.size) :
    Calls Try.prog 49 #[.slice A n c, .int .i64 k, .func (.func 50) #[] #[]] w (RD (VState b0) (.agg #[.slice none 0 0, .slice none 0 0, .slice none 0 0, .slice none 0 0]) bs (rdS stS bs k) w) := by
  have hmf : ∀ (fn : Fn) (first cap : Array Value) (w : World), (Instr.makeFunc fn first cap).run Try.prog w = .ok (.func fn first cap) w := fun _ _ _ _ => rfl
  have HLE := Lib.hid h.len
  have HB9 : Hid (b0 ≤ w.heap.size) := hb9
  clear hb9
  have hn40 := h.le40
  obtain ⟨nb, hnb⟩ : ∃ x, w.heap.size = x := ⟨_, rfl⟩
  obtain ⟨W, hW⟩ : ∃ x, ((w.alloc (.cells #[.slice none 0 0, .slice none 0 0, .slice none 0 0, .slice none 0 0] 43)).alloc (.cells #[.int .i64 0] 26)) = x := ⟨_, rfl⟩
  have hb0 : Below w.heap.size w W := by rw [← hW]; exact (rp_one1 _ _).alloc (by rw [new_size]; omega) _
  have hzs : W.heap.size = nb + 1 + 1 := by rw [← hW, new_size, new_size, hnb]
  have HA0 : Hid (W.heap[nb]? = some (.cells #[.slice none 0 0, .slice none 0 0, .slice none 0 0, .slice none 0 0] 43 (0, 0))) := by show _ = _; rw [← hW, alloc_blk _ _ (by rw [new_size]; omega), ← hnb]; exact new_blk _ _
  have HZ0 : Hid (W.heap[nb + 1]? = some (.cells #[.int .i64 0] 26 (0, 0))) := by show _ = _; rw [← hW, ← hnb]; exact new_blk1 _ _ _
  have HB0 := Lib.hid hb0
  have HNB := Lib.hid hnb
  have HH := Lib.hid (h.below (hb0.mono hB))
  have HBN : Hid (B ≤ nb + 1 + 1) := by show _ ≤ _; omega
  have HZS := Lib.hid hzs
  clear h hb0
  by_cases hout : k < 0 ∨ (n : Int) < k
  · have HQ : Hid (∀ w', Below w.heap.size w w' → RD (VState b0) (.agg #[.slice none 0 0, .slice none 0 0, .slice none 0 0, .slice none 0 0]) bs (rdS stS bs k) w (.returned (.tuple #[.agg #[.slice none 0 0, .slice none 0 0, .slice none 0 0, .slice none 0 0], .int .i64 0, .int .i64 3])) w') := fun w' hb => by
      show RD _ _ _ _ _ _ _
      rw [rdS_out (by rw [← HLE.out]; exact hout)]
      exact ⟨rfl, hb⟩
    obtain ⟨d0, d1, d2, d3⟩ := box4' HA0.out
    have g0 := frz8 HA0.out 0
    have g1 := frz8 HA0.out 1
    have g2 := frz8 HA0.out 2
    have g3 := frz8 HA0.out 3
    have dz := box1' HZ0.out
    have gz := frz8 HZ0.out 0
    have hz0 : nb < W.heap.size := lt_of_block HA0.out
    have hzz : nb + 1 < W.heap.size := lt_of_block HZ0.out
    have HQ3 := Lib.hid (HQ.out _ (((((HB0.out.setCell (p := ⟨nb, 0, none⟩) (by show _ ≤ nb; omega) (.slice none 0 0)).setCell (p := ⟨nb, 1, none⟩) (by show _ ≤ nb; omega) (.slice none 0 0)).setCell (p := ⟨nb, 2, none⟩) (by show _ ≤ nb; omega) (.slice none 0 0)).setCell (p := ⟨nb, 3, none⟩) (by show _ ≤ nb; omega) (.slice none 0 0)).setCell (p := ⟨nb + 1, 0, none⟩) (by show _ ≤ nb + 1; omega) (.int .i64 3)))
    by_cases h0 : k < 0
    · clear hout hB hzs HQ
      go_enter_defers Try.func49, Try.ntmps49
      go_wp2_with fail
      exact ⟨.tuple #[.agg #[.slice none 0 0, .slice none 0 0, .slice none 0 0, .slice none 0 0], .int .i64 0, .int .i64 3], by simp [results, Try.results49, go_sem, World.cell?_setCell_same, World.cell?_setCell_other, d0, d1, d2, d3, dz], HQ3.out⟩
    · have h1 : (n : Int) < k := by omega
      clear hout hB hzs HQ
      go_enter_defers Try.func49, Try.ntmps49
      go_wp2_with fail
      exact ⟨.tuple #[.agg #[.slice none 0 0, .slice none 0 0, .slice none 0 0, .slice none 0 0], .int .i64 0, .int .i64 3], by simp [results, Try.results49, go_sem, World.cell?_setCell_same, World.cell?_setCell_other, d0, d1, d2, d3, dz], HQ3.out⟩
  obtain ⟨kk, rfl⟩ : ∃ kk : Nat, k = (kk : Int) := ⟨k.toNat, by omega⟩
  have hk0 : ¬ (kk : Int) < 0 := by omega
  have hkn : ¬ (n : Int) < (kk : Int) := by omega
  have HRD : Hid (RdSt (nb + 1 + 1) (W.alloc (.cells #[.slice A n c, .int .i64 (kk : Nat)] 90)) bs (bs.drop kk)) := by
    have := HH.out.rd (k := kk) (by rw [HZS.out]; exact HBN.out) (by omega) 90
    rwa [hzs] at this
  have HAR := Lib.hid (below_blk (rp_one1 W (.cells #[.slice A n c, .int .i64 (kk : Nat)] 90)) HA0.out)
  have HZR := Lib.hid (below_blk (rp_one1 W (.cells #[.slice A n c, .int .i64 (kk : Nat)] 90)) HZ0.out)
  have HBR := Lib.hid (HB0.out.trans ((rp_one1 W (.cells #[.slice A n c, .int .i64 (kk : Nat)] 90)).mono HB0.out.size))
  have HRS : Hid (rdS stS bs (kk : Int) = stS (bs.drop kk)) := rdS_in (by rw [← HLE.out]; omega)
  clear hout hB
  cases hn : stS (bs.drop kk) with
  | err ke =>
    have HN := Lib.hid hn
    have HQ : Hid (∀ w', Below w.heap.size w w' → RD (VState b0) (.agg #[.slice none 0 0, .slice none 0 0, .slice none 0 0, .slice none 0 0]) bs (rdS stS bs kk) w (.returned (.tuple #[.agg #[.slice none 0 0, .slice none 0 0, .slice none 0 0, .slice none 0 0], .int .i64 0, .int .i64 ke])) w') := fun w' hb => by
      show RD _ _ _ _ _ _ _
      rw [HRS.out, HN.out]
      exact ⟨rfl, hb⟩
    clear hn
    go_enter_defers Try.func49, Try.ntmps49
    go_wp2_with fail
    try simp only [hzs]
    refine (any_err (state_any _ _ _ _ HRD.out) HN.out).mono ?_
    rintro e w5 ⟨rfl, hk⟩
    have ha5 := hk.blk HAR.out (by omega)
    have hz5 := hk.blk HZR.out (by omega)
    obtain ⟨d0, d1, d2, d3⟩ := box4' ha5
    have c5 := box1' hz5
    have f5 := frz8 hz5 0
    have HB5 := Lib.hid (HBR.out.trans (hk.below (B := w.heap.size) HBR.out.size (by omega)))
    clear hz5 hk
    go_wp2_with fail
    refine leaves_cons (f := 74) (args := #[.pointer (some ⟨nb + 1, 0, none⟩)]) (by simp) (by simp [go_sem]) ?_
    refine (catchS_thrown (nb + 1) ke 0 w5 c5 f5).mono ?_
    rintro e u' w'' ⟨rfl, rfl, rfl⟩
    have hz0 : nb < w5.heap.size := lt_of_block ha5
    have hzz : nb + 1 < w5.heap.size := World.block_lt_of_cell? _ _ c5
    have HQ3 := Lib.hid (HQ.out _ ((HB5.out.setCell (p := ⟨nb + 1, 0, none⟩) (by show _ ≤ nb + 1; omega) (.int .i64 ke)).alloc (by rw [set_size]; exact HB5.out.size) (.cells #[.int .i64 ke] 87)))
    exact ⟨.tuple #[.agg #[.slice none 0 0, .slice none 0 0, .slice none 0 0, .slice none 0 0], .int .i64 0, .int .i64 ke], by simp [results, Try.results49, go_sem, World.cell?_setCell_same, World.cell?_setCell_other, d0, d1, d2, d3, c5, hz0, hzz], HQ3.out⟩
  | ok z r =>
    have HN := Lib.hid hn
    clear hn
    go_enter_defers Try.func49, Try.ntmps49
    go_wp2_with fail
    try simp only [hzs]
    refine (any_ok (state_any _ _ _ _ HRD.out) HN.out).mono ?_
    rintro e w5 ⟨v, rfl, hv, hst, hk⟩
    obtain ⟨v0, v1, v2, v3, hve, hv1, hv2, hv3, hv4⟩ := hv
    subst hve
    have HV : Hid (VState (W.alloc (.cells #[.slice A n c, .int .i64 (kk : Nat)] 90)).heap.size w5 z (.agg #[v0, v1, v2, v3])) := ⟨_, _, _, _, rfl, hv1, hv2, hv3, hv4⟩
    obtain ⟨B0, n0, q0, rfl, _⟩ := hv1.slice
    obtain ⟨B1, n1, q1, rfl, _⟩ := hv2.slice
    obtain ⟨B2, n2, q2, rfl, _⟩ := hv3.slice
    obtain ⟨B3, n3, q3, rfl, _⟩ := hv4.slice
    clear hv1 hv2 hv3 hv4
    have ha5 := hk.blk HAR.out (by omega)
    have hz5 := hk.blk HZR.out (by omega)
    obtain ⟨d0, d1, d2, d3⟩ := box4' ha5
    have g0 := frz8 ha5 0
    have g1 := frz8 ha5 1
    have g2 := frz8 ha5 2
    have g3 := frz8 ha5 3
    have hz0 : nb < w5.heap.size := lt_of_block ha5
    have HA5 := Lib.hid ha5
    have HZ5 := Lib.hid hz5
    have HS5 := Lib.hid hst
    have HB5 := Lib.hid (HBR.out.trans (hk.below (B := w.heap.size) HBR.out.size (by omega)))
    clear ha5 hz5 hst hk
    go_upto_region 6 with fail
    obtain ⟨w6, hw6⟩ : ∃ x, ((((w5.setCell ⟨nb, 0, none⟩ (.slice B0 n0 q0)).setCell ⟨nb, 1, none⟩ (.slice B1 n1 q1)).setCell ⟨nb, 2, none⟩ (.slice B2 n2 q2)).setCell ⟨nb, 3, none⟩ (.slice B3 n3 q3)) = x := ⟨_, rfl⟩
    have h6 : ∀ i, i ≠ nb → w6.heap[i]? = w5.heap[i]? := fun i hin => by rw [← hw6, Below.heap_setCell _ _ _ _ hin, Below.heap_setCell _ _ _ _ hin, Below.heap_setCell _ _ _ _ hin, Below.heap_setCell _ _ _ _ hin]
    have hA6 : w6.heap[nb]? = some (.cells #[.slice B0 n0 q0, .slice B1 n1 q1, .slice B2 n2 q2, .slice B3 n3 q3] 43 (0, 0)) := by
      have k0 := blk_set HA5.out 0 (.slice B0 n0 q0)
      have k1 := blk_set k0 1 (.slice B1 n1 q1)
      have k2 := blk_set k1 2 (.slice B2 n2 q2)
      have k3 := blk_set k2 3 (.slice B3 n3 q3)
      rw [← hw6]
      exact k3
    have hb6 : Below w.heap.size w w6 := by rw [← hw6]; exact ((((HB5.out.setCell (p := ⟨nb, 0, none⟩) (by show _ ≤ nb; omega) (.slice B0 n0 q0)).setCell (p := ⟨nb, 1, none⟩) (by show _ ≤ nb; omega) (.slice B1 n1 q1)).setCell (p := ⟨nb, 2, none⟩) (by show _ ≤ nb; omega) (.slice B2 n2 q2)).setCell (p := ⟨nb, 3, none⟩) (by show _ ≤ nb; omega) (.slice B3 n3 q3))
    have hz6 := (h6 (nb + 1) (by omega)).trans HZ5.out
    obtain ⟨A5, q5, k5, n5, x0', x1', hkn5, hn5, hrl, hRl', hnb5⟩ := HS5.out.at
    have x0 := (World.cell?_of_block (w := w5) (a := ⟨nb + 1 + 1, 0, none⟩) (h6 (nb + 1 + 1) (by omega))).trans x0'
    have x1 := (World.cell?_of_block (w := w5) (a := ⟨nb + 1 + 1, 1, none⟩) (h6 (nb + 1 + 1) (by omega))).trans x1'
    have H6 := Lib.hid h6
    have HB6 := Lib.hid hb6
    simp only [hw6]
    clear hw6 x0' x1' hRl' d0 g0 d1 g1 d2 g2 d3 g3 h6 hb6 hz0
    obtain ⟨d0, d1, d2, d3⟩ := box4' hA6
    have g0 := frz8 hA6 0
    have g1 := frz8 hA6 1
    have g2 := frz8 hA6 2
    have g3 := frz8 hA6 3
    have hz0 : nb < w6.heap.size := lt_of_block hA6
    have c5 := box1' hz6
    have f5 := frz8 hz6 0
    have hzz : nb + 1 < w6.heap.size := lt_of_block hz6
    have hRl : nb + 1 + 1 < w6.heap.size := World.block_lt_of_cell? _ _ x1
    have HQ : Hid (∀ w', (∀ i, nb + 1 + 1 + 1 ≤ i → w'.heap[i]? = w5.heap[i]?) → Below w.heap.size w w' → RD (VState b0) (.agg #[.slice none 0 0, .slice none 0 0, .slice none 0 0, .slice none 0 0]) bs (rdS stS bs kk) w (.returned (.tuple #[.agg #[.slice B0 n0 q0, .slice B1 n1 q1, .slice B2 n2 q2, .slice B3 n3 q3], .int .i64 (k5 : Nat), .int .i64 0])) w') := fun w' hi hb => by
      show RD _ _ _ _ _ _ _
      rw [HRS.out, HN.out]
      exact ⟨_, by rw [show ((bs.length : Int) - r.length) = (k5 : Int) by omega], HV.out.up (fun i h => hi i (by rw [new_size, HZS.out] at h; omega) ) (by rw [new_size, HZS.out]; have := HB9.out; omega), by omega, hb⟩
    clear hA6 hz6 hrl hnb5
    go_region
    go_wp2_with fail
    refine leaves_cons (f := 74) (args := #[.pointer (some ⟨nb + 1, 0, none⟩)]) (by simp) (by simp [go_sem]) ?_
    refine (catchS_idle (nb + 1) _).mono ?_
    rintro e u' w'' ⟨rfl, rfl, rfl⟩
    have hb7 : Below w.heap.size w (((((w6.setCell ⟨nb, 0, none⟩ (.slice B0 n0 q0)).setCell ⟨nb, 1, none⟩ (.slice B1 n1 q1)).setCell ⟨nb, 2, none⟩ (.slice B2 n2 q2)).setCell ⟨nb, 3, none⟩ (.slice B3 n3 q3)).setCell ⟨nb + 1, 0, none⟩ (.int .i64 0)) := ((((HB6.out.setCell (p := ⟨nb, 0, none⟩) (by show _ ≤ nb; omega) (.slice B0 n0 q0)).setCell (p := ⟨nb, 1, none⟩) (by show _ ≤ nb; omega) (.slice B1 n1 q1)).setCell (p := ⟨nb, 2, none⟩) (by show _ ≤ nb; omega) (.slice B2 n2 q2)).setCell (p := ⟨nb, 3, none⟩) (by show _ ≤ nb; omega) (.slice B3 n3 q3)).setCell (p := ⟨nb + 1, 0, none⟩) (by show _ ≤ nb + 1; omega) (.int .i64 0)
    have hi7 : ∀ i, nb + 1 + 1 + 1 ≤ i → (((((w6.setCell ⟨nb, 0, none⟩ (.slice B0 n0 q0)).setCell ⟨nb, 1, none⟩ (.slice B1 n1 q1)).setCell ⟨nb, 2, none⟩ (.slice B2 n2 q2)).setCell ⟨nb, 3, none⟩ (.slice B3 n3 q3)).setCell ⟨nb + 1, 0, none⟩ (.int .i64 0)).heap[i]? = w5.heap[i]? := fun i hi => by
      have e1 : i ≠ nb := by omega
      have e2 : i ≠ nb + 1 := by omega
      rw [Below.heap_setCell _ _ _ _ e2, Below.heap_setCell _ _ _ _ e1, Below.heap_setCell _ _ _ _ e1, Below.heap_setCell _ _ _ _ e1, Below.heap_setCell _ _ _ _ e1]
      exact H6.out i e1
    have HQ3 := Lib.hid (HQ.out _ hi7 hb7)
    have HQ4 := Lib.hid (HQ.out _ (at_drew hi7) hb7.drew)
    clear hb7 hi7
    exact ⟨.tuple #[.agg #[.slice B0 n0 q0, .slice B1 n1 q1, .slice B2 n2 q2, .slice B3 n3 q3], .int .i64 k5, .int .i64 0], by simp [results, Try.results49, go_sem, World.cell?_setCell_same, World.cell?_setCell_other, d0, d1, d2, d3, c5], HQ4.out⟩
end Go.Proofs.Ytadikcioacaphaa
