/-
  SameInts of the document's answer only draws; what Same of the answer returns: whether two lists of pages are one. No conditions beyond what slices that read as lists are.
-/
import Derived.Test.YtadikcioacaphaaWalkPm
import Derived.Test.YtadikcioacaphaaWalkSi
namespace Go.Proofs.Ytadikcioacaphaa
open Go.RowKit

theorem qb {w wr : World} (h : ∃ j, wr = w.drewN j) : Below w.heap.size w wr := by
  obtain ⟨j, rfl⟩ := h
  exact below_drewN (Below.refl _ _) j
theorem q_more {w wr : World} (h : ∃ j, wr = w.drewN j) (n : Nat) : ∃ j, wr.drewN n = w.drewN j := by
  obtain ⟨j, rfl⟩ := h
  exact ⟨j + n, World.drewN_drewN ..⟩

set_option maxHeartbeats 1000000 in
set_option maxRecDepth 100000 in
theorem sameInts_q (xs ys : List Int) (A B : Option Addr) (n m c d : Nat) (w : World) (h1 : ZsAt w xs A n) (h2 : ZsAt w ys B m) :
    Calls Try.prog 66 #[.slice A n c, .slice B m d] w fun e w' => e = .returned (.bool (decide (xs = ys))) ∧ ∃ j, w' = w.drewN j := by
  obtain ⟨hn, hnm, hx⟩ := h1
  obtain ⟨hm, hmm, hy⟩ := h2
  by_cases hl : n = m
  · subst hl
    obtain ⟨R, hR⟩ : ∃ R, decide (xs = ys) = R := ⟨_, rfl⟩
    rw [hR]
    have HN := Lib.hid hn
    have HM := Lib.hid hm
    have HX := Lib.hid hx
    have HY := Lib.hid hy
    have HR := Lib.hid hR
    have hii : (n : Int) ≤ 9223372036854775807 := by omega
    clear hn hm hx hy hR hmm hnm
    go_enter Try.func66, Try.ntmps66
    go_wp2_with fail
    go_loopg [5] n (fun g i wr => ∃ k : Nat, k + g = n ∧ i = .int .i64 k ∧ Hid (xs.take k = ys.take k) ∧ Hid (∃ j, wr = w.drewN j))
    case atStart => exact ⟨0, by omega, rfl, by show _ = _; simp, ⟨0, rfl⟩⟩
    case round =>
      obtain ⟨k, hkg, rfl, HT, HB⟩ := hrel
      cases gk with
      | zero =>
        have hkn : k = n := by omega
        subst hkn
        have hnl : ¬ (k : Int) < (k : Int) := by omega
        have hR2 : R = true := by
          have h := HT.out
          rw [List.take_of_length_le (by have := HN.out; omega), List.take_of_length_le (by have := HM.out; omega)] at h
          rw [← HR.out, h]; simp
        subst hR2
        clear hkg
        go_wp2_with fail
        go_ret
        exact ⟨rfl, HB.out⟩
      | succ g =>
        have hlt : k < n := by omega
        have hlt' : (k : Int) < (n : Int) := by omega
        have hk0 : (0 : Int) ≤ (k : Int) := by omega
        have HG := Lib.hid hkg
        obtain ⟨b1, o1, rfl, hc1⟩ := HX.out (by omega)
        obtain ⟨b2, o2, rfl, hc2⟩ := HY.out (by omega)
        have f1 := hc1 k hlt
        have f2 := hc2 k hlt
        have y1 : wr.cell? ⟨b1, o1 + k, none⟩ = some (.int .i64 (xs.getD k 0)) := ((qb HB.out).cell (p := ⟨b1, _, none⟩) (World.block_lt_of_cell? w _ f1)).trans f1
        have y2 : wr.cell? ⟨b2, o2 + k, none⟩ = some (.int .i64 (ys.getD k 0)) := ((qb HB.out).cell (p := ⟨b2, _, none⟩) (World.block_lt_of_cell? w _ f2)).trans f2
        obtain ⟨X, hX⟩ : ∃ x, xs.getD k 0 = x := ⟨_, rfl⟩
        obtain ⟨Y, hY⟩ : ∃ x, ys.getD k 0 = x := ⟨_, rfl⟩
        rw [hX] at y1
        rw [hY] at y2
        have HXX := Lib.hid hX
        have HYY := Lib.hid hY
        clear hkg hc1 hc2 f1 f2 hX hY
        by_cases he : X = Y
        · subst he
          go_upto_region 6 with fail
          go_quiet (fail)
          go_wp2_with fail
          go_roundg g
          case rel => exact ⟨k + 1, by have := HG.out; omega, by go_num, take_succ_eq HT.out (by have := HN.out; omega) (by have := HM.out; omega) (HXX.out.trans HYY.out.symm), q_more HB.out _⟩
          case measure => omega
        · have hne : (X != Y) = true := by simpa using he
          have hR2 : R = false := by
            rw [← HR.out]
            exact decide_eq_false fun h => he (by rw [← HXX.out, ← HYY.out, h])
          subst hR2
          go_upto_region 6 with fail
          go_quiet (fail)
          go_wp2_with fail
          go_ret
          exact ⟨rfl, q_more HB.out _⟩
  · have hR : decide (xs = ys) = false := decide_eq_false fun h => hl (by rw [hn, hm, h])
    rw [hR]
    have hne : ((n : Int) != (m : Int)) = true := by
      rw [bne_iff_ne]; omega
    clear hR hn hm hx hy
    go_enter Try.func66, Try.ntmps66
    go_wp2_with fail
    go_ret
    exact ⟨rfl, 0, rfl⟩

theorem take_succ_pg {ps qs : List Pg} {k : Nat} {p : Pg} (h : ps.take k = qs.take k) (h1 : ps[k]? = some p) (h2 : qs[k]? = some p) : ps.take (k + 1) = qs.take (k + 1) := by
  rw [List.take_add_one, List.take_add_one, h, h1, h2]

set_option maxHeartbeats 1000000 in
set_option maxRecDepth 100000 in
theorem same7_any {S S' : Nat → Prop} (ps qs : List Pg) (A B : Option Addr) (n m c d : Nat) (w : World) (h1 : PgAt S w ps A n) (h2 : PgAt S' w qs B m) :
    Calls Try.prog 42 #[.slice A n c, .slice B m d] w fun e w' => e = .returned (.bool (decide (ps = qs))) ∧ Below w.heap.size w w' := by
  by_cases hl : n = m
  · subst hl
    obtain ⟨R, hR⟩ : ∃ R, decide (ps = qs) = R := ⟨_, rfl⟩
    rw [hR]
    have HN := Lib.hid h1.1
    have HM := Lib.hid h2.1
    have hii : (n : Int) ≤ 9223372036854775807 := by have := h1.2.1; omega
    have HX := Lib.hid h1
    have HY := Lib.hid h2
    have HR := Lib.hid hR
    clear h1 h2 hR
    go_enter Try.func42, Try.ntmps42
    go_wp2_with fail
    go_loopg [5] n (fun g i wr => ∃ k : Nat, k + g = n ∧ i = .int .i64 k ∧ Hid (ps.take k = qs.take k) ∧ Hid (∃ j, wr = w.drewN j))
    case atStart => exact ⟨0, by omega, rfl, by show _ = _; simp, ⟨0, rfl⟩⟩
    case round =>
      obtain ⟨k, hkg, rfl, HT, HB⟩ := hrel
      cases gk with
      | zero =>
        have hkn : k = n := by omega
        subst hkn
        have hnl : ¬ (k : Int) < (k : Int) := by omega
        have hR2 : R = true := by
          have h := HT.out
          rw [List.take_of_length_le (by have := HN.out; omega), List.take_of_length_le (by have := HM.out; omega)] at h
          rw [← HR.out, h]; simp
        subst hR2
        clear hkg
        go_wp2_with fail
        go_ret
        exact ⟨rfl, qb HB.out⟩
      | succ g =>
        have hlt : k < n := by omega
        have hlt' : (k : Int) < (n : Int) := by omega
        have hk0 : (0 : Int) ≤ (k : Int) := by omega
        have HG := Lib.hid hkg
        obtain ⟨b1, o1, p, A1, c1, rfl, hp, f1, f2, _, hz1⟩ := (HX.out.belowS (qb HB.out)).get hlt
        obtain ⟨b2, o2, q, A2, c2, rfl, hq, g1, g2, _, hz2⟩ := (HY.out.belowS (qb HB.out)).get hlt
        obtain ⟨pn, pc⟩ := p
        obtain ⟨qn, qc⟩ := q
        simp only at f1 f2 g1 g2 hz1 hz2
        have HP := Lib.hid hp
        have HQ := Lib.hid hq
        have HZ1 := Lib.hid hz1.at
        have HZ2 := Lib.hid hz2.at
        obtain ⟨l1, hl1⟩ : ∃ x, pc.length = x := ⟨_, rfl⟩
        obtain ⟨l2, hl2⟩ : ∃ x, qc.length = x := ⟨_, rfl⟩
        rw [hl1] at f2 HZ1
        rw [hl2] at g2 HZ2
        obtain ⟨r, hr⟩ : ∃ r, decide (pc = qc) = r := ⟨_, rfl⟩
        have HS : Hid (∀ j, Calls Try.prog 66 #[.slice A1 l1 c1, .slice A2 l2 c2] (wr.drewN j) fun e w' => e = .returned (.bool r) ∧ ∃ m, w' = (wr.drewN j).drewN m) := fun j => by
          have := sameInts_q pc qc A1 A2 l1 l2 c1 c2 (wr.drewN j) (HZ1.out.below (below_drewN (Below.refl _ _) j)) (HZ2.out.below (below_drewN (Below.refl _ _) j))
          rw [hr] at this; exact this
        have HRR := Lib.hid hr
        clear hkg hp hq hz1 hz2 hl1 hl2 hr
        by_cases he : pn = qn
        · subst he
          have hnn : (pn != pn) = false := by simp
          cases r with
          | true =>
            have HNX := Lib.hid (take_succ_pg HT.out HP.out (by rw [HQ.out, of_decide_eq_true HRR.out]))
            go_upto_region 6 with fail
            go_quiet ((go_at_call 66; exact Calls.quiet_of (HS.out _)))
            go_wp2_with fail
            go_roundg g
            case rel => exact ⟨k + 1, by have := HG.out; omega, by go_num, HNX, q_more HB.out _⟩
            case measure => omega
          | false =>
            have hR2 : R = false := by
              rw [← HR.out]
              exact decide_eq_false fun h => (of_decide_eq_false HRR.out) (by have h1 := HP.out; rw [h, HQ.out] at h1; injection h1 with h1; injection h1 with _ h1; exact h1.symm)
            subst hR2
            go_upto_region 6 with fail
            go_quiet ((go_at_call 66; exact Calls.quiet_of (HS.out _)))
            go_wp2_with fail
            go_ret
            exact ⟨rfl, qb (q_more HB.out _)⟩
        · have hne : (pn != qn) = true := by simpa using he
          have hR2 : R = false := by
            rw [← HR.out]
            exact decide_eq_false fun h => he (by have h1 := HP.out; rw [h, HQ.out] at h1; injection h1 with h1; injection h1 with h1 _; exact h1.symm)
          subst hR2
          clear he
          go_upto_region 6 with fail
          go_quiet (fail)
          go_wp2_with fail
          go_ret
          exact ⟨rfl, qb (q_more HB.out _)⟩
  · have hR : decide (ps = qs) = false := decide_eq_false fun h => hl (by rw [h1.1, h2.1, h])
    rw [hR]
    have hne : ((n : Int) != (m : Int)) = true := by
      rw [bne_iff_ne]; omega
    clear hR h1 h2
    go_enter Try.func42, Try.ntmps42
    go_wp2_with fail
    go_ret
    exact ⟨rfl, Below.refl _ _⟩
end Go.Proofs.Ytadikcioacaphaa
