/-
  What output, send, event and det of package codec read: their numbers one after another, or the first error (gens82.py writes this text). Conditions: as for a number.
-/
import Derived.Test.YtadikcioacaphaaWalkRb
import Derived.Test.YtadikcioacaphaaWalkPd
namespace Go.Proofs.Ytadikcioacaphaa
open Go.RowKit

theorem number_ok {R : Nat} {bs rest r : List Nat} {z : Int} {w : World} (h : RdSt R w bs rest) (hn : numS rest = .ok z r) :
    Calls Try.prog 27 #[.pointer (some ⟨R, 0, none⟩)] w fun e w' => e = .returned (.int .i64 z) ∧ RdSt R w' bs r ∧ Keep R w w' := by
  have := number_any R bs rest w h
  rw [hn] at this
  refine this.mono ?_
  rintro e w' ⟨v, rfl, hv, h1, h2⟩
  exact ⟨by rw [show v = .int .i64 z from hv], h1, h2⟩
theorem number_err {R : Nat} {bs rest : List Nat} {k : Nat} {w : World} (h : RdSt R w bs rest) (hn : numS rest = .err k) :
    Calls Try.prog 27 #[.pointer (some ⟨R, 0, none⟩)] w fun e w' => e = .panicked [thrown k] ∧ Keep R w w' := by
  have := number_any R bs rest w h
  rw [hn] at this
  exact this
/-- The numbers of one element. -/
def VRow : World → List Int → Value → Prop := fun _ zs v => v = .agg (zs.map (Value.int .i64)).toArray
theorem frz8 {w : World} {n : Nat} {cs : Array Value} {T : TypeId} (h : w.heap[n]? = some (.cells cs T (0, 0))) (j : Nat) : w.frozen? ⟨n, j, none⟩ = false := Lib.frozen_of_heap h j
theorem numsS_cons {n : Nat} {l r : List Nat} {v : Int} (h : numS l = .ok v r) : numsS (n + 1) l = (numsS n r).bind fun vs r' => .ok (v :: vs) r' := by simp only [numsS, RR.bind, h]
theorem numsS_len : ∀ {n : Nat} {l r : List Nat} {vs : List Int}, numsS n l = .ok vs r → vs.length = n
  | 0, l, r, vs, h => by simp only [numsS] at h; injection h with h1 _; subst h1; rfl
  | n + 1, l, r, vs, h => by
    simp only [numsS] at h
    cases h1 : numS l with
    | err k => rw [h1] at h; simp [RR.bind] at h
    | ok v l1 =>
      rw [h1] at h
      simp only [RR.bind] at h
      cases h2 : numsS n l1 with
      | err k => rw [h2] at h; simp at h
      | ok vs2 l2 =>
        rw [h2] at h
        simp only at h
        injection h with h3 _
        subst h3
        simp [numsS_len h2]
theorem rowS_ok {R f : Nat} {bs rest r : List Nat} {k : Nat} {vs : List Int} {w : World} {args : Array Value} (h : Calls Try.prog f args w (RP R bs VRow (numsS k rest) w)) (hn : numsS k rest = .ok vs r) :
    Calls Try.prog f args w fun e w' => e = .returned (.agg (vs.map (Value.int .i64)).toArray) ∧ RdSt R w' bs r ∧ Keep R w w' := by
  rw [hn] at h
  refine h.mono ?_
  rintro e w' ⟨v, rfl, hv, h1, h2⟩
  exact ⟨by rw [show v = _ from hv], h1, h2⟩
theorem rowS_err {R f : Nat} {bs rest : List Nat} {k ke : Nat} {w : World} {args : Array Value} (h : Calls Try.prog f args w (RP R bs VRow (numsS k rest) w)) (hn : numsS k rest = .err ke) :
    Calls Try.prog f args w fun e w' => e = .panicked [thrown ke] ∧ Keep R w w' := by
  rw [hn] at h
  exact h
theorem len7r {l : List Int} (h : l.length = 7) : ∃ a0 a1 a2 a3 a4 a5 a6, l = [a0, a1, a2, a3, a4, a5, a6] := by
  match l, h with
  | [a0, a1, a2, a3, a4, a5, a6], _ => exact ⟨a0, a1, a2, a3, a4, a5, a6, rfl⟩

set_option maxHeartbeats 4000000 in
set_option maxRecDepth 100000 in
theorem output_any (R : Nat) (bs rest : List Nat) (w : World) (h : RdSt R w bs rest) :
    Calls Try.prog 80 #[.pointer (some ⟨R, 0, none⟩)] w (RP R bs VRow (numsS 2 rest) w) := by
  obtain ⟨nb, hnb⟩ : ∃ x, w.heap.size = x := ⟨_, rfl⟩
  obtain ⟨W, hW⟩ : ∃ x, (w.alloc (.cells #[.int .i64 0, .int .i64 0] 75)) = x := ⟨_, rfl⟩
  have hb0 : Below w.heap.size w W := by rw [← hW]; exact rp_one1 _ _
  have HZ0 : Hid (W.heap[nb]? = some (.cells #[.int .i64 0, .int .i64 0] 75 (0, 0))) := by show _ = _; rw [← hW, ← hnb]; exact new_blk _ _
  have HNR : Hid (nb ≠ R) := by have := h.lt; show _ ≠ _; omega
  have HB0 : Hid (R < nb) := by have := h.lt; show _ < _; omega
  have HNW : Hid (w.heap.size ≤ nb) := by show _ ≤ _; omega
  have HS0 := Lib.hid (h.below hb0)
  have HK0 := Lib.hid (Keep.of_below (R := R) hb0)
  clear h hb0
  go_enter Try.func80, Try.ntmps80
  go_upto_region 1 with fail
  try simp only [hW]
  clear hW hnb
  cases hn0 : numS rest with
  | err ke =>
    have HN0 := Lib.hid hn0
    have HQ : Hid (∀ w', Keep R w w' → RP R bs VRow (numsS 2 rest) w (.panicked [thrown ke]) w') := fun w' hk => by
      show RP _ _ _ _ _ _ _
      simp only [numsS, RR.bind, HN0.out]
      exact ⟨rfl, hk⟩
    clear hn0
    go_wp2_with fail
    refine (number_err HS0.out HN0.out).mono ?_
    rintro e w1 ⟨rfl, hk⟩
    exact ⟨rfl, HQ.out _ (HK0.out.trans hk)⟩
  | ok a0 r1 =>
  have HN0 := Lib.hid hn0
  clear hn0
  go_wp2_with fail
  refine (number_ok HS0.out HN0.out).mono ?_
  rintro e w1 ⟨rfl, hst, hk⟩
  have HS1 := Lib.hid hst
  have HK1 := Lib.hid (HK0.out.trans hk)
  have HZ1 := Lib.hid (hk.blk HZ0.out HNR.out)
  clear hst hk
  cases hn1 : numS r1 with
  | err ke =>
    have HN1 := Lib.hid hn1
    have HQ : Hid (∀ w', Keep R w w' → RP R bs VRow (numsS 2 rest) w (.panicked [thrown ke]) w') := fun w' hk => by
      show RP _ _ _ _ _ _ _
      simp only [numsS, RR.bind, HN0.out, HN1.out]
      exact ⟨rfl, hk⟩
    clear hn1
    go_wp2_with fail
    refine (number_err HS1.out HN1.out).mono ?_
    rintro e w1 ⟨rfl, hk⟩
    exact ⟨rfl, HQ.out _ (HK1.out.trans hk)⟩
  | ok a1 r2 =>
  have HN1 := Lib.hid hn1
  clear hn1
  go_wp2_with fail
  refine (number_ok HS1.out HN1.out).mono ?_
  rintro e w2 ⟨rfl, hst, hk⟩
  have HS2 := Lib.hid hst
  have HK2 := Lib.hid (HK1.out.trans hk)
  have HZ2 := Lib.hid (hk.blk HZ1.out HNR.out)
  clear hst hk
  obtain ⟨d0, d1⟩ := box2' HZ2.out
  have g0 := frz8 HZ2.out 0
  have g1 := frz8 HZ2.out 1
  have hzz : nb < w2.heap.size := lt_of_block HZ2.out
  have HQ : Hid (RP R bs VRow (numsS 2 rest) w (.returned (.agg #[.int .i64 a0, .int .i64 a1])) ((w2.setCell ⟨nb, 0, none⟩ (.int .i64 a0)).setCell ⟨nb, 1, none⟩ (.int .i64 a1))) := by
    show RP _ _ _ _ _ _ _
    simp only [numsS, RR.bind, HN0.out, HN1.out]
    refine ⟨_, rfl, rfl, HS2.out.still fun k hk => ?_, ?_⟩
    · have hkn : k ≠ nb := by have := HB0.out; omega
      rw [Below.heap_setCell _ _ _ _ hkn, Below.heap_setCell _ _ _ _ hkn]
    · exact ((HK2.out.setNew (p := ⟨nb, 0, none⟩) HNW.out _).setNew (p := ⟨nb, 1, none⟩) HNW.out _)
  go_wp2_with fail
  refine bodyPost_ret (v := .agg #[.int .i64 a0, .int .i64 a1]) ?_ rfl ?_
  · simp [results, Try.results80, go_sem, World.cell?_setCell_same, World.cell?_setCell_other, d0, d1]
  · exact HQ.out

set_option maxHeartbeats 4000000 in
set_option maxRecDepth 100000 in
theorem send_any (R : Nat) (bs rest : List Nat) (w : World) (h : RdSt R w bs rest) :
    Calls Try.prog 78 #[.pointer (some ⟨R, 0, none⟩)] w (RP R bs VRow (numsS 4 rest) w) := by
  obtain ⟨nb, hnb⟩ : ∃ x, w.heap.size = x := ⟨_, rfl⟩
  obtain ⟨W, hW⟩ : ∃ x, (w.alloc (.cells #[.int .i64 0, .int .i64 0, .int .i64 0, .int .i64 0] 73)) = x := ⟨_, rfl⟩
  have hb0 : Below w.heap.size w W := by rw [← hW]; exact rp_one1 _ _
  have HZ0 : Hid (W.heap[nb]? = some (.cells #[.int .i64 0, .int .i64 0, .int .i64 0, .int .i64 0] 73 (0, 0))) := by show _ = _; rw [← hW, ← hnb]; exact new_blk _ _
  have HNR : Hid (nb ≠ R) := by have := h.lt; show _ ≠ _; omega
  have HB0 : Hid (R < nb) := by have := h.lt; show _ < _; omega
  have HNW : Hid (w.heap.size ≤ nb) := by show _ ≤ _; omega
  have HS0 := Lib.hid (h.below hb0)
  have HK0 := Lib.hid (Keep.of_below (R := R) hb0)
  clear h hb0
  go_enter Try.func78, Try.ntmps78
  go_upto_region 1 with fail
  try simp only [hW]
  clear hW hnb
  cases hn0 : numS rest with
  | err ke =>
    have HN0 := Lib.hid hn0
    have HQ : Hid (∀ w', Keep R w w' → RP R bs VRow (numsS 4 rest) w (.panicked [thrown ke]) w') := fun w' hk => by
      show RP _ _ _ _ _ _ _
      simp only [numsS, RR.bind, HN0.out]
      exact ⟨rfl, hk⟩
    clear hn0
    go_wp2_with fail
    refine (number_err HS0.out HN0.out).mono ?_
    rintro e w1 ⟨rfl, hk⟩
    exact ⟨rfl, HQ.out _ (HK0.out.trans hk)⟩
  | ok a0 r1 =>
  have HN0 := Lib.hid hn0
  clear hn0
  go_wp2_with fail
  refine (number_ok HS0.out HN0.out).mono ?_
  rintro e w1 ⟨rfl, hst, hk⟩
  have HS1 := Lib.hid hst
  have HK1 := Lib.hid (HK0.out.trans hk)
  have HZ1 := Lib.hid (hk.blk HZ0.out HNR.out)
  clear hst hk
  cases hn1 : numS r1 with
  | err ke =>
    have HN1 := Lib.hid hn1
    have HQ : Hid (∀ w', Keep R w w' → RP R bs VRow (numsS 4 rest) w (.panicked [thrown ke]) w') := fun w' hk => by
      show RP _ _ _ _ _ _ _
      simp only [numsS, RR.bind, HN0.out, HN1.out]
      exact ⟨rfl, hk⟩
    clear hn1
    go_wp2_with fail
    refine (number_err HS1.out HN1.out).mono ?_
    rintro e w1 ⟨rfl, hk⟩
    exact ⟨rfl, HQ.out _ (HK1.out.trans hk)⟩
  | ok a1 r2 =>
  have HN1 := Lib.hid hn1
  clear hn1
  go_wp2_with fail
  refine (number_ok HS1.out HN1.out).mono ?_
  rintro e w2 ⟨rfl, hst, hk⟩
  have HS2 := Lib.hid hst
  have HK2 := Lib.hid (HK1.out.trans hk)
  have HZ2 := Lib.hid (hk.blk HZ1.out HNR.out)
  clear hst hk
  cases hn2 : numS r2 with
  | err ke =>
    have HN2 := Lib.hid hn2
    have HQ : Hid (∀ w', Keep R w w' → RP R bs VRow (numsS 4 rest) w (.panicked [thrown ke]) w') := fun w' hk => by
      show RP _ _ _ _ _ _ _
      simp only [numsS, RR.bind, HN0.out, HN1.out, HN2.out]
      exact ⟨rfl, hk⟩
    clear hn2
    go_wp2_with fail
    refine (number_err HS2.out HN2.out).mono ?_
    rintro e w1 ⟨rfl, hk⟩
    exact ⟨rfl, HQ.out _ (HK2.out.trans hk)⟩
  | ok a2 r3 =>
  have HN2 := Lib.hid hn2
  clear hn2
  go_wp2_with fail
  refine (number_ok HS2.out HN2.out).mono ?_
  rintro e w3 ⟨rfl, hst, hk⟩
  have HS3 := Lib.hid hst
  have HK3 := Lib.hid (HK2.out.trans hk)
  have HZ3 := Lib.hid (hk.blk HZ2.out HNR.out)
  clear hst hk
  cases hn3 : numS r3 with
  | err ke =>
    have HN3 := Lib.hid hn3
    have HQ : Hid (∀ w', Keep R w w' → RP R bs VRow (numsS 4 rest) w (.panicked [thrown ke]) w') := fun w' hk => by
      show RP _ _ _ _ _ _ _
      simp only [numsS, RR.bind, HN0.out, HN1.out, HN2.out, HN3.out]
      exact ⟨rfl, hk⟩
    clear hn3
    go_wp2_with fail
    refine (number_err HS3.out HN3.out).mono ?_
    rintro e w1 ⟨rfl, hk⟩
    exact ⟨rfl, HQ.out _ (HK3.out.trans hk)⟩
  | ok a3 r4 =>
  have HN3 := Lib.hid hn3
  clear hn3
  go_wp2_with fail
  refine (number_ok HS3.out HN3.out).mono ?_
  rintro e w4 ⟨rfl, hst, hk⟩
  have HS4 := Lib.hid hst
  have HK4 := Lib.hid (HK3.out.trans hk)
  have HZ4 := Lib.hid (hk.blk HZ3.out HNR.out)
  clear hst hk
  obtain ⟨d0, d1, d2, d3⟩ := box4' HZ4.out
  have g0 := frz8 HZ4.out 0
  have g1 := frz8 HZ4.out 1
  have g2 := frz8 HZ4.out 2
  have g3 := frz8 HZ4.out 3
  have hzz : nb < w4.heap.size := lt_of_block HZ4.out
  have HQ : Hid (RP R bs VRow (numsS 4 rest) w (.returned (.agg #[.int .i64 a0, .int .i64 a1, .int .i64 a2, .int .i64 a3])) ((((w4.setCell ⟨nb, 0, none⟩ (.int .i64 a0)).setCell ⟨nb, 1, none⟩ (.int .i64 a1)).setCell ⟨nb, 2, none⟩ (.int .i64 a2)).setCell ⟨nb, 3, none⟩ (.int .i64 a3))) := by
    show RP _ _ _ _ _ _ _
    simp only [numsS, RR.bind, HN0.out, HN1.out, HN2.out, HN3.out]
    refine ⟨_, rfl, rfl, HS4.out.still fun k hk => ?_, ?_⟩
    · have hkn : k ≠ nb := by have := HB0.out; omega
      rw [Below.heap_setCell _ _ _ _ hkn, Below.heap_setCell _ _ _ _ hkn, Below.heap_setCell _ _ _ _ hkn, Below.heap_setCell _ _ _ _ hkn]
    · exact ((((HK4.out.setNew (p := ⟨nb, 0, none⟩) HNW.out _).setNew (p := ⟨nb, 1, none⟩) HNW.out _).setNew (p := ⟨nb, 2, none⟩) HNW.out _).setNew (p := ⟨nb, 3, none⟩) HNW.out _)
  go_wp2_with fail
  refine bodyPost_ret (v := .agg #[.int .i64 a0, .int .i64 a1, .int .i64 a2, .int .i64 a3]) ?_ rfl ?_
  · simp [results, Try.results78, go_sem, World.cell?_setCell_same, World.cell?_setCell_other, d0, d1, d2, d3]
  · exact HQ.out

set_option maxHeartbeats 4000000 in
set_option maxRecDepth 100000 in
theorem event_any (R : Nat) (bs rest : List Nat) (w : World) (h : RdSt R w bs rest) :
    Calls Try.prog 46 #[.pointer (some ⟨R, 0, none⟩)] w (RP R bs VRow (numsS 7 rest) w) := by
  obtain ⟨nb, hnb⟩ : ∃ x, w.heap.size = x := ⟨_, rfl⟩
  obtain ⟨W, hW⟩ : ∃ x, (w.alloc (.cells #[.int .i64 0, .int .i64 0, .int .i64 0, .int .i64 0, .int .i64 0, .int .i64 0, .int .i64 0] 35)) = x := ⟨_, rfl⟩
  have hb0 : Below w.heap.size w W := by rw [← hW]; exact rp_one1 _ _
  have HZ0 : Hid (W.heap[nb]? = some (.cells #[.int .i64 0, .int .i64 0, .int .i64 0, .int .i64 0, .int .i64 0, .int .i64 0, .int .i64 0] 35 (0, 0))) := by show _ = _; rw [← hW, ← hnb]; exact new_blk _ _
  have HNR : Hid (nb ≠ R) := by have := h.lt; show _ ≠ _; omega
  have HB0 : Hid (R < nb) := by have := h.lt; show _ < _; omega
  have HNW : Hid (w.heap.size ≤ nb) := by show _ ≤ _; omega
  have HS0 := Lib.hid (h.below hb0)
  have HK0 := Lib.hid (Keep.of_below (R := R) hb0)
  clear h hb0
  go_enter Try.func46, Try.ntmps46
  go_upto_region 1 with fail
  try simp only [hW]
  clear hW hnb
  cases hn0 : numS rest with
  | err ke =>
    have HN0 := Lib.hid hn0
    have HQ : Hid (∀ w', Keep R w w' → RP R bs VRow (numsS 7 rest) w (.panicked [thrown ke]) w') := fun w' hk => by
      show RP _ _ _ _ _ _ _
      simp only [numsS, RR.bind, HN0.out]
      exact ⟨rfl, hk⟩
    clear hn0
    go_wp2_with fail
    refine (number_err HS0.out HN0.out).mono ?_
    rintro e w1 ⟨rfl, hk⟩
    exact ⟨rfl, HQ.out _ (HK0.out.trans hk)⟩
  | ok a0 r1 =>
  have HN0 := Lib.hid hn0
  clear hn0
  go_wp2_with fail
  refine (number_ok HS0.out HN0.out).mono ?_
  rintro e w1 ⟨rfl, hst, hk⟩
  have HS1 := Lib.hid hst
  have HK1 := Lib.hid (HK0.out.trans hk)
  have HZ1 := Lib.hid (hk.blk HZ0.out HNR.out)
  clear hst hk
  cases hn1 : numS r1 with
  | err ke =>
    have HN1 := Lib.hid hn1
    have HQ : Hid (∀ w', Keep R w w' → RP R bs VRow (numsS 7 rest) w (.panicked [thrown ke]) w') := fun w' hk => by
      show RP _ _ _ _ _ _ _
      simp only [numsS, RR.bind, HN0.out, HN1.out]
      exact ⟨rfl, hk⟩
    clear hn1
    go_wp2_with fail
    refine (number_err HS1.out HN1.out).mono ?_
    rintro e w1 ⟨rfl, hk⟩
    exact ⟨rfl, HQ.out _ (HK1.out.trans hk)⟩
  | ok a1 r2 =>
  have HN1 := Lib.hid hn1
  clear hn1
  go_wp2_with fail
  refine (number_ok HS1.out HN1.out).mono ?_
  rintro e w2 ⟨rfl, hst, hk⟩
  have HS2 := Lib.hid hst
  have HK2 := Lib.hid (HK1.out.trans hk)
  have HZ2 := Lib.hid (hk.blk HZ1.out HNR.out)
  clear hst hk
  cases hn2 : numS r2 with
  | err ke =>
    have HN2 := Lib.hid hn2
    have HQ : Hid (∀ w', Keep R w w' → RP R bs VRow (numsS 7 rest) w (.panicked [thrown ke]) w') := fun w' hk => by
      show RP _ _ _ _ _ _ _
      simp only [numsS, RR.bind, HN0.out, HN1.out, HN2.out]
      exact ⟨rfl, hk⟩
    clear hn2
    go_wp2_with fail
    refine (number_err HS2.out HN2.out).mono ?_
    rintro e w1 ⟨rfl, hk⟩
    exact ⟨rfl, HQ.out _ (HK2.out.trans hk)⟩
  | ok a2 r3 =>
  have HN2 := Lib.hid hn2
  clear hn2
  go_wp2_with fail
  refine (number_ok HS2.out HN2.out).mono ?_
  rintro e w3 ⟨rfl, hst, hk⟩
  have HS3 := Lib.hid hst
  have HK3 := Lib.hid (HK2.out.trans hk)
  have HZ3 := Lib.hid (hk.blk HZ2.out HNR.out)
  clear hst hk
  cases hn3 : numS r3 with
  | err ke =>
    have HN3 := Lib.hid hn3
    have HQ : Hid (∀ w', Keep R w w' → RP R bs VRow (numsS 7 rest) w (.panicked [thrown ke]) w') := fun w' hk => by
      show RP _ _ _ _ _ _ _
      simp only [numsS, RR.bind, HN0.out, HN1.out, HN2.out, HN3.out]
      exact ⟨rfl, hk⟩
    clear hn3
    go_wp2_with fail
    refine (number_err HS3.out HN3.out).mono ?_
    rintro e w1 ⟨rfl, hk⟩
    exact ⟨rfl, HQ.out _ (HK3.out.trans hk)⟩
  | ok a3 r4 =>
  have HN3 := Lib.hid hn3
  clear hn3
  go_wp2_with fail
  refine (number_ok HS3.out HN3.out).mono ?_
  rintro e w4 ⟨rfl, hst, hk⟩
  have HS4 := Lib.hid hst
  have HK4 := Lib.hid (HK3.out.trans hk)
  have HZ4 := Lib.hid (hk.blk HZ3.out HNR.out)
  clear hst hk
  cases hn4 : numS r4 with
  | err ke =>
    have HN4 := Lib.hid hn4
    have HQ : Hid (∀ w', Keep R w w' → RP R bs VRow (numsS 7 rest) w (.panicked [thrown ke]) w') := fun w' hk => by
      show RP _ _ _ _ _ _ _
      simp only [numsS, RR.bind, HN0.out, HN1.out, HN2.out, HN3.out, HN4.out]
      exact ⟨rfl, hk⟩
    clear hn4
    go_wp2_with fail
    refine (number_err HS4.out HN4.out).mono ?_
    rintro e w1 ⟨rfl, hk⟩
    exact ⟨rfl, HQ.out _ (HK4.out.trans hk)⟩
  | ok a4 r5 =>
  have HN4 := Lib.hid hn4
  clear hn4
  go_wp2_with fail
  refine (number_ok HS4.out HN4.out).mono ?_
  rintro e w5 ⟨rfl, hst, hk⟩
  have HS5 := Lib.hid hst
  have HK5 := Lib.hid (HK4.out.trans hk)
  have HZ5 := Lib.hid (hk.blk HZ4.out HNR.out)
  clear hst hk
  cases hn5 : numS r5 with
  | err ke =>
    have HN5 := Lib.hid hn5
    have HQ : Hid (∀ w', Keep R w w' → RP R bs VRow (numsS 7 rest) w (.panicked [thrown ke]) w') := fun w' hk => by
      show RP _ _ _ _ _ _ _
      simp only [numsS, RR.bind, HN0.out, HN1.out, HN2.out, HN3.out, HN4.out, HN5.out]
      exact ⟨rfl, hk⟩
    clear hn5
    go_wp2_with fail
    refine (number_err HS5.out HN5.out).mono ?_
    rintro e w1 ⟨rfl, hk⟩
    exact ⟨rfl, HQ.out _ (HK5.out.trans hk)⟩
  | ok a5 r6 =>
  have HN5 := Lib.hid hn5
  clear hn5
  go_wp2_with fail
  refine (number_ok HS5.out HN5.out).mono ?_
  rintro e w6 ⟨rfl, hst, hk⟩
  have HS6 := Lib.hid hst
  have HK6 := Lib.hid (HK5.out.trans hk)
  have HZ6 := Lib.hid (hk.blk HZ5.out HNR.out)
  clear hst hk
  cases hn6 : numS r6 with
  | err ke =>
    have HN6 := Lib.hid hn6
    have HQ : Hid (∀ w', Keep R w w' → RP R bs VRow (numsS 7 rest) w (.panicked [thrown ke]) w') := fun w' hk => by
      show RP _ _ _ _ _ _ _
      simp only [numsS, RR.bind, HN0.out, HN1.out, HN2.out, HN3.out, HN4.out, HN5.out, HN6.out]
      exact ⟨rfl, hk⟩
    clear hn6
    go_wp2_with fail
    refine (number_err HS6.out HN6.out).mono ?_
    rintro e w1 ⟨rfl, hk⟩
    exact ⟨rfl, HQ.out _ (HK6.out.trans hk)⟩
  | ok a6 r7 =>
  have HN6 := Lib.hid hn6
  clear hn6
  go_wp2_with fail
  refine (number_ok HS6.out HN6.out).mono ?_
  rintro e w7 ⟨rfl, hst, hk⟩
  have HS7 := Lib.hid hst
  have HK7 := Lib.hid (HK6.out.trans hk)
  have HZ7 := Lib.hid (hk.blk HZ6.out HNR.out)
  clear hst hk
  obtain ⟨d0, d1, d2, d3, d4, d5, d6⟩ := box7' HZ7.out
  have g0 := frz8 HZ7.out 0
  have g1 := frz8 HZ7.out 1
  have g2 := frz8 HZ7.out 2
  have g3 := frz8 HZ7.out 3
  have g4 := frz8 HZ7.out 4
  have g5 := frz8 HZ7.out 5
  have g6 := frz8 HZ7.out 6
  have hzz : nb < w7.heap.size := lt_of_block HZ7.out
  have HQ : Hid (RP R bs VRow (numsS 7 rest) w (.returned (.agg #[.int .i64 a0, .int .i64 a1, .int .i64 a2, .int .i64 a3, .int .i64 a4, .int .i64 a5, .int .i64 a6])) (((((((w7.setCell ⟨nb, 0, none⟩ (.int .i64 a0)).setCell ⟨nb, 1, none⟩ (.int .i64 a1)).setCell ⟨nb, 2, none⟩ (.int .i64 a2)).setCell ⟨nb, 3, none⟩ (.int .i64 a3)).setCell ⟨nb, 4, none⟩ (.int .i64 a4)).setCell ⟨nb, 5, none⟩ (.int .i64 a5)).setCell ⟨nb, 6, none⟩ (.int .i64 a6))) := by
    show RP _ _ _ _ _ _ _
    simp only [numsS, RR.bind, HN0.out, HN1.out, HN2.out, HN3.out, HN4.out, HN5.out, HN6.out]
    refine ⟨_, rfl, rfl, HS7.out.still fun k hk => ?_, ?_⟩
    · have hkn : k ≠ nb := by have := HB0.out; omega
      rw [Below.heap_setCell _ _ _ _ hkn, Below.heap_setCell _ _ _ _ hkn, Below.heap_setCell _ _ _ _ hkn, Below.heap_setCell _ _ _ _ hkn, Below.heap_setCell _ _ _ _ hkn, Below.heap_setCell _ _ _ _ hkn, Below.heap_setCell _ _ _ _ hkn]
    · exact (((((((HK7.out.setNew (p := ⟨nb, 0, none⟩) HNW.out _).setNew (p := ⟨nb, 1, none⟩) HNW.out _).setNew (p := ⟨nb, 2, none⟩) HNW.out _).setNew (p := ⟨nb, 3, none⟩) HNW.out _).setNew (p := ⟨nb, 4, none⟩) HNW.out _).setNew (p := ⟨nb, 5, none⟩) HNW.out _).setNew (p := ⟨nb, 6, none⟩) HNW.out _)
  go_wp2_with fail
  refine bodyPost_ret (v := .agg #[.int .i64 a0, .int .i64 a1, .int .i64 a2, .int .i64 a3, .int .i64 a4, .int .i64 a5, .int .i64 a6]) ?_ rfl ?_
  · simp [results, Try.results46, go_sem, World.cell?_setCell_same, World.cell?_setCell_other, d0, d1, d2, d3, d4, d5, d6]
  · exact HQ.out

set_option maxHeartbeats 4000000 in
set_option maxRecDepth 100000 in
theorem det_any (R : Nat) (bs rest : List Nat) (w : World) (h : RdSt R w bs rest) :
    Calls Try.prog 63 #[.pointer (some ⟨R, 0, none⟩)] w (RP R bs VRow (numsS 9 rest) w) := by
  obtain ⟨nb, hnb⟩ : ∃ x, w.heap.size = x := ⟨_, rfl⟩
  obtain ⟨W, hW⟩ : ∃ x, (w.alloc (.cells #[.int .i64 0, .int .i64 0, .int .i64 0, .int .i64 0, .int .i64 0, .int .i64 0, .int .i64 0, .int .i64 0, .int .i64 0] 37)) = x := ⟨_, rfl⟩
  have hb0 : Below w.heap.size w W := by rw [← hW]; exact rp_one1 _ _
  have HZ0 : Hid (W.heap[nb]? = some (.cells #[.int .i64 0, .int .i64 0, .int .i64 0, .int .i64 0, .int .i64 0, .int .i64 0, .int .i64 0, .int .i64 0, .int .i64 0] 37 (0, 0))) := by show _ = _; rw [← hW, ← hnb]; exact new_blk _ _
  have HNR : Hid (nb ≠ R) := by have := h.lt; show _ ≠ _; omega
  have HB0 : Hid (R < nb) := by have := h.lt; show _ < _; omega
  have HNW : Hid (w.heap.size ≤ nb) := by show _ ≤ _; omega
  have HS0 := Lib.hid (h.below hb0)
  have HK0 := Lib.hid (Keep.of_below (R := R) hb0)
  clear h hb0
  go_enter Try.func63, Try.ntmps63
  go_upto_region 1 with fail
  try simp only [hW]
  clear hW hnb
  cases hn0 : numS rest with
  | err ke =>
    have HN0 := Lib.hid hn0
    have HQ : Hid (∀ w', Keep R w w' → RP R bs VRow (numsS 9 rest) w (.panicked [thrown ke]) w') := fun w' hk => by
      show RP _ _ _ _ _ _ _
      simp only [numsS, RR.bind, HN0.out]
      exact ⟨rfl, hk⟩
    clear hn0
    go_wp2_with fail
    refine (number_err HS0.out HN0.out).mono ?_
    rintro e w1 ⟨rfl, hk⟩
    exact ⟨rfl, HQ.out _ (HK0.out.trans hk)⟩
  | ok a0 r1 =>
  have HN0 := Lib.hid hn0
  clear hn0
  go_wp2_with fail
  refine (number_ok HS0.out HN0.out).mono ?_
  rintro e w1 ⟨rfl, hst, hk⟩
  have HS1 := Lib.hid hst
  have HK1 := Lib.hid (HK0.out.trans hk)
  have HZ1 := Lib.hid (hk.blk HZ0.out HNR.out)
  clear hst hk
  cases hn1 : numS r1 with
  | err ke =>
    have HN1 := Lib.hid hn1
    have HQ : Hid (∀ w', Keep R w w' → RP R bs VRow (numsS 9 rest) w (.panicked [thrown ke]) w') := fun w' hk => by
      show RP _ _ _ _ _ _ _
      simp only [numsS, RR.bind, HN0.out, HN1.out]
      exact ⟨rfl, hk⟩
    clear hn1
    go_wp2_with fail
    refine (number_err HS1.out HN1.out).mono ?_
    rintro e w1 ⟨rfl, hk⟩
    exact ⟨rfl, HQ.out _ (HK1.out.trans hk)⟩
  | ok a1 r2 =>
  have HN1 := Lib.hid hn1
  clear hn1
  go_wp2_with fail
  refine (number_ok HS1.out HN1.out).mono ?_
  rintro e w2 ⟨rfl, hst, hk⟩
  have HS2 := Lib.hid hst
  have HK2 := Lib.hid (HK1.out.trans hk)
  have HZ2 := Lib.hid (hk.blk HZ1.out HNR.out)
  clear hst hk
  cases hn2 : numsS 7 r2 with
  | err ke =>
    have HN2 := Lib.hid hn2
    have HQ : Hid (∀ w', Keep R w w' → RP R bs VRow (numsS 9 rest) w (.panicked [thrown ke]) w') := fun w' hk => by
      show RP _ _ _ _ _ _ _
      rw [numsS_cons HN0.out, numsS_cons HN1.out, HN2.out]
      exact ⟨rfl, hk⟩
    clear hn2
    go_wp2_with fail
    refine (rowS_err (event_any R bs _ _ HS2.out) HN2.out).mono ?_
    rintro e w1 ⟨rfl, hk⟩
    exact ⟨rfl, HQ.out _ (HK2.out.trans hk)⟩
  | ok vs r3 =>
  have HN2 := Lib.hid hn2
  obtain ⟨a2, a3, a4, a5, a6, a7, a8, rfl⟩ := len7r (numsS_len hn2)
  clear hn2
  go_wp2_with fail
  refine (rowS_ok (event_any R bs _ _ HS2.out) HN2.out).mono ?_
  rintro e w3 ⟨rfl, hst, hk⟩
  have HS3 := Lib.hid hst
  have HK3 := Lib.hid (HK2.out.trans hk)
  have HZ3 := Lib.hid (hk.blk HZ2.out HNR.out)
  clear hst hk
  obtain ⟨d0, d1, d2, d3, d4, d5, d6, d7, d8⟩ := box9' HZ3.out
  have g0 := frz8 HZ3.out 0
  have g1 := frz8 HZ3.out 1
  have g2 := frz8 HZ3.out 2
  have g3 := frz8 HZ3.out 3
  have g4 := frz8 HZ3.out 4
  have g5 := frz8 HZ3.out 5
  have g6 := frz8 HZ3.out 6
  have g7 := frz8 HZ3.out 7
  have g8 := frz8 HZ3.out 8
  have hzz : nb < w3.heap.size := lt_of_block HZ3.out
  have HQ : Hid (RP R bs VRow (numsS 9 rest) w (.returned (.agg #[.int .i64 a0, .int .i64 a1, .int .i64 a2, .int .i64 a3, .int .i64 a4, .int .i64 a5, .int .i64 a6, .int .i64 a7, .int .i64 a8])) (((((((((w3.setCell ⟨nb, 0, none⟩ (.int .i64 a0)).setCell ⟨nb, 1, none⟩ (.int .i64 a1)).setCell ⟨nb, 2, none⟩ (.int .i64 a2)).setCell ⟨nb, 3, none⟩ (.int .i64 a3)).setCell ⟨nb, 4, none⟩ (.int .i64 a4)).setCell ⟨nb, 5, none⟩ (.int .i64 a5)).setCell ⟨nb, 6, none⟩ (.int .i64 a6)).setCell ⟨nb, 7, none⟩ (.int .i64 a7)).setCell ⟨nb, 8, none⟩ (.int .i64 a8))) := by
    show RP _ _ _ _ _ _ _
    rw [numsS_cons HN0.out, numsS_cons HN1.out, HN2.out]
    refine ⟨_, rfl, rfl, HS3.out.still fun k hk => ?_, ?_⟩
    · have hkn : k ≠ nb := by have := HB0.out; omega
      rw [Below.heap_setCell _ _ _ _ hkn, Below.heap_setCell _ _ _ _ hkn, Below.heap_setCell _ _ _ _ hkn, Below.heap_setCell _ _ _ _ hkn, Below.heap_setCell _ _ _ _ hkn, Below.heap_setCell _ _ _ _ hkn, Below.heap_setCell _ _ _ _ hkn, Below.heap_setCell _ _ _ _ hkn, Below.heap_setCell _ _ _ _ hkn]
    · exact (((((((((HK3.out.setNew (p := ⟨nb, 0, none⟩) HNW.out _).setNew (p := ⟨nb, 1, none⟩) HNW.out _).setNew (p := ⟨nb, 2, none⟩) HNW.out _).setNew (p := ⟨nb, 3, none⟩) HNW.out _).setNew (p := ⟨nb, 4, none⟩) HNW.out _).setNew (p := ⟨nb, 5, none⟩) HNW.out _).setNew (p := ⟨nb, 6, none⟩) HNW.out _).setNew (p := ⟨nb, 7, none⟩) HNW.out _).setNew (p := ⟨nb, 8, none⟩) HNW.out _)
  go_wp2_with fail
  refine bodyPost_ret (v := .agg #[.int .i64 a0, .int .i64 a1, .int .i64 a2, .int .i64 a3, .int .i64 a4, .int .i64 a5, .int .i64 a6, .int .i64 a7, .int .i64 a8]) ?_ rfl ?_
  · simp [results, Try.results63, go_sem, World.cell?_setCell_same, World.cell?_setCell_other, d0, d1, d2, d3, d4, d5, d6, d7, d8]
  · exact HQ.out
end Go.Proofs.Ytadikcioacaphaa
