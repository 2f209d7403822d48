/-
  What read of package codec returns for pages (gens86.py writes this text). Conditions: at most 2^40 bytes.
-/
import Derived.Test.YtadikcioacaphaaWalkRw8
namespace Go.Proofs.Ytadikcioacaphaa
open Go.RowKit

set_option maxHeartbeats 1000000 in
set_option maxRecDepth 100000 in
theorem catchP_thrown (b n : Nat) (y : Int) (w : World) (c6 : w.cell? ⟨b, 0, none⟩ = some (.int .i64 y)) (f6 : w.frozen? ⟨b, 0, none⟩ = false) :
    CallsD Try.prog 71 #[.pointer (some ⟨b, 0, none⟩)] (.panicking [thrown n]) w fun e u' w' =>
      e = .returned (.tuple #[]) ∧ u' = .panicking [{ thrown n with recovered := true }] ∧ w' = (w.setCell ⟨b, 0, none⟩ (.int .i64 n)).alloc (.cells #[.int .i64 n] 87) := by
  have h6 : b < w.heap.size := World.block_lt_of_cell? w _ c6
  have hta : ∀ w, (Instr.typeAssert (.iface 87 (.agg #[.int .i64 n])) 20 87 true).run Try.prog w = .ok (.tuple #[.agg #[.int .i64 n], .bool true]) w := fun w => by kernel_rfl
  refine callsD_of_wpS Try.func71 rfl fun c₀ cs hu => ?_
  apply wpS_seq
  apply wpS_region
  simp [wpOpsS, go_sem, recoverD, hu, Try.ntmps71, Exit.thenS, thrown]
  refine wpS_of_wp ?_
  go_wp2_with fail
  cases c₀
  simp_all [bodyPostS, results, Try.results71]

theorem catchP_idle (b : Nat) (w : World) :
    CallsD Try.prog 71 #[.pointer (some ⟨b, 0, none⟩)] .returning w fun e u' w' => e = .returned (.tuple #[]) ∧ u' = .returning ∧ w' = w := by
  refine callsD_of_wpS Try.func71 rfl fun c₀ cs hu => ?_
  apply wpS_seq
  apply wpS_region
  simp [wpOpsS, go_sem, recoverD, hu, Try.ntmps71, Exit.thenS]
  refine wpS_of_wp ?_
  go_wp2_with fail
  cases c₀
  simp_all [bodyPostS, results, Try.results71]

set_option maxHeartbeats 2000000 in
set_option maxRecDepth 100000 in
theorem readP_any (B : Nat) (bs : List Nat) (A : Option Addr) (n c : Nat) (k : Int) (w : World) (h : BsIn B w bs A n c) (hB : B ≤ w.heap.size) (b0 : Nat) (hb9 : b0 ≤ w.heap.size) :
    Calls Try.prog 47 #[.slice A n c, .int .i64 k, .func (.func 48) #[] #[]] w (RD (VPages b0) (.slice none 0 0) bs (rdS pgsS bs k) w) := by
  have hmf : ∀ (fn : Fn) (first cap : Array Value) (w : World), (Instr.makeFunc fn first cap).run Try.prog w = .ok (.func fn first cap) w := fun _ _ _ _ => rfl
  have HLE := Lib.hid h.len
  have HB9 : Hid (b0 ≤ w.heap.size) := hb9
  clear hb9
  have hn40 := h.le40
  obtain ⟨nb, hnb⟩ : ∃ x, w.heap.size = x := ⟨_, rfl⟩
  obtain ⟨W, hW⟩ : ∃ x, (w.alloc (.cells #[.int .i64 0] 26)) = x := ⟨_, rfl⟩
  have hb0 : Below w.heap.size w W := by rw [← hW]; exact rp_one1 _ _
  have hzs : W.heap.size = nb + 1 := by rw [← hW, new_size, hnb]
  have HZ0 : Hid (W.heap[nb]? = some (.cells #[.int .i64 0] 26 (0, 0))) := by show _ = _; rw [← hW, ← hnb]; exact new_blk _ _
  have HB0 := Lib.hid hb0
  have HNB := Lib.hid hnb
  have HH := Lib.hid (h.below (hb0.mono hB))
  have HBN : Hid (B ≤ nb + 1) := by show _ ≤ _; omega
  have HZS := Lib.hid hzs
  clear h hb0
  by_cases hout : k < 0 ∨ (n : Int) < k
  · have HQ : Hid (∀ w', Below w.heap.size w w' → RD (VPages b0) (.slice none 0 0) bs (rdS pgsS bs k) w (.returned (.tuple #[.slice none 0 0, .int .i64 0, .int .i64 3])) w') := fun w' hb => by
      show RD _ _ _ _ _ _ _
      rw [rdS_out (by rw [← HLE.out]; exact hout)]
      exact ⟨rfl, hb⟩
    have d0 := box1' HZ0.out
    have g0 := frz8 HZ0.out 0
    have hzz : nb < W.heap.size := lt_of_block HZ0.out
    have HQ3 := Lib.hid (HQ.out _ (HB0.out.setCell (p := ⟨nb, 0, none⟩) (by show _ ≤ nb; omega) (.int .i64 3)))
    by_cases h0 : k < 0
    · clear hout hB hzs HQ
      go_enter_defers Try.func47, Try.ntmps47
      go_wp2_with fail
      exact ⟨.tuple #[.slice none 0 0, .int .i64 0, .int .i64 3], by simp [results, Try.results47, go_sem, World.cell?_setCell_same, d0], HQ3.out⟩
    · have h1 : (n : Int) < k := by omega
      clear hout hB hzs HQ
      go_enter_defers Try.func47, Try.ntmps47
      go_wp2_with fail
      exact ⟨.tuple #[.slice none 0 0, .int .i64 0, .int .i64 3], by simp [results, Try.results47, go_sem, World.cell?_setCell_same, d0], HQ3.out⟩
  obtain ⟨kk, rfl⟩ : ∃ kk : Nat, k = (kk : Int) := ⟨k.toNat, by omega⟩
  have hk0 : ¬ (kk : Int) < 0 := by omega
  have hkn : ¬ (n : Int) < (kk : Int) := by omega
  have HRD : Hid (RdSt (nb + 1) (W.alloc (.cells #[.slice A n c, .int .i64 (kk : Nat)] 90)) bs (bs.drop kk)) := by
    have := HH.out.rd (k := kk) (by rw [HZS.out]; exact HBN.out) (by omega) 90
    rwa [hzs] at this
  have HZR := Lib.hid (below_blk (rp_one1 W (.cells #[.slice A n c, .int .i64 (kk : Nat)] 90)) HZ0.out)
  have HBR := Lib.hid (HB0.out.trans ((rp_one1 W (.cells #[.slice A n c, .int .i64 (kk : Nat)] 90)).mono HB0.out.size))
  have HRS : Hid (rdS pgsS bs (kk : Int) = pgsS (bs.drop kk)) := rdS_in (by rw [← HLE.out]; omega)
  clear hout hB
  cases hn : pgsS (bs.drop kk) with
  | err ke =>
    have HN := Lib.hid hn
    have HQ : Hid (∀ w', Below w.heap.size w w' → RD (VPages b0) (.slice none 0 0) bs (rdS pgsS bs kk) w (.returned (.tuple #[.slice none 0 0, .int .i64 0, .int .i64 ke])) w') := fun w' hb => by
      show RD _ _ _ _ _ _ _
      rw [HRS.out, HN.out]
      exact ⟨rfl, hb⟩
    clear hn
    go_enter_defers Try.func47, Try.ntmps47
    go_wp2_with fail
    try simp only [hzs]
    refine (any_err (pages_any _ _ _ _ HRD.out) HN.out).mono ?_
    rintro e w5 ⟨rfl, hk⟩
    have hz5 := hk.blk HZR.out (by omega)
    have c5 := box1' hz5
    have f5 := frz8 hz5 0
    have HB5 := Lib.hid (HBR.out.trans (hk.below (B := w.heap.size) HBR.out.size (by omega)))
    clear hz5 hk
    go_wp2_with fail
    refine leaves_cons (f := 71) (args := #[.pointer (some ⟨nb, 0, none⟩)]) (by simp) (by simp [go_sem]) ?_
    refine (catchP_thrown nb ke 0 w5 c5 f5).mono ?_
    rintro e u' w'' ⟨rfl, rfl, rfl⟩
    have hzz : nb < w5.heap.size := World.block_lt_of_cell? _ _ c5
    have HQ3 := Lib.hid (HQ.out _ ((HB5.out.setCell (p := ⟨nb, 0, none⟩) (by show _ ≤ nb; omega) (.int .i64 ke)).alloc (by rw [set_size]; exact HB5.out.size) (.cells #[.int .i64 ke] 87)))
    exact ⟨.tuple #[.slice none 0 0, .int .i64 0, .int .i64 ke], by simp [results, Try.results47, go_sem, World.cell?_setCell_same, c5, hzz], HQ3.out⟩
  | ok z r =>
    have HN := Lib.hid hn
    clear hn
    go_enter_defers Try.func47, Try.ntmps47
    go_wp2_with fail
    try simp only [hzs]
    refine (any_ok (pages_any _ _ _ _ HRD.out) HN.out).mono ?_
    rintro e w5 ⟨v, rfl, hv, hst, hk⟩
    have HV := Lib.hid hv
    clear hv
    have hz5 := hk.blk HZR.out (by omega)
    have c5 := box1' hz5
    have f5 := frz8 hz5 0
    obtain ⟨A5, q5, k5, n5, x0, x1, hkn5, hn5, hrl, hRl, hnb5⟩ := hst.at
    have HB5 := Lib.hid (HBR.out.trans (hk.below (B := w.heap.size) HBR.out.size (by omega)))
    have HQ : Hid (∀ w', (∀ i, nb + 1 + 1 ≤ i → w'.heap[i]? = w5.heap[i]?) → Below w.heap.size w w' → RD (VPages b0) (.slice none 0 0) bs (rdS pgsS bs kk) w (.returned (.tuple #[v, .int .i64 (k5 : Nat), .int .i64 0])) w') := fun w' hi hb => by
      show RD _ _ _ _ _ _ _
      rw [HRS.out, HN.out]
      exact ⟨_, by rw [show ((bs.length : Int) - r.length) = (k5 : Int) by omega], HV.out.up (fun i h => hi i (by rw [new_size, HZS.out] at h; omega)) (by rw [new_size, HZS.out]; have := HB9.out; omega), by omega, hb⟩
    have hzz : nb < w5.heap.size := World.block_lt_of_cell? _ _ c5
    clear hz5 hk hst hrl hnb5
    go_wp2_with fail
    go_region
    go_wp2_with fail
    refine leaves_cons (f := 71) (args := #[.pointer (some ⟨nb, 0, none⟩)]) (by simp) (by simp [go_sem]) ?_
    refine (catchP_idle nb _).mono ?_
    rintro e u' w'' ⟨rfl, rfl, rfl⟩
    exact ⟨.tuple #[v, .int .i64 k5, .int .i64 0], by simp [results, Try.results47, go_sem, World.cell?_setCell_same, c5], HQ.out _ (fun i hi => Below.heap_setCell _ _ _ _ (by show i ≠ nb; omega)) ((HB5.out.setCell (p := ⟨nb, 0, none⟩) (by show _ ≤ nb; omega) (.int .i64 0)).drew)⟩
end Go.Proofs.Ytadikcioacaphaa
