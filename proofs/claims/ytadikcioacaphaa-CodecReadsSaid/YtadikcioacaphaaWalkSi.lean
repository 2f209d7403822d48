/-
  What SameInts of the document's answer returns: whether two lists of numbers are one. No conditions beyond what two slices that read as lists are.
-/
import Derived.Test.YtadikcioacaphaaWalkZa
namespace Go.Proofs.Ytadikcioacaphaa
open Go.RowKit

theorem take_succ_eq {xs ys : List Int} {k : Nat} (h : xs.take k = ys.take k) (h1 : k < xs.length) (h2 : k < ys.length) (he : xs.getD k 0 = ys.getD k 0) : xs.take (k + 1) = ys.take (k + 1) := by
  rw [List.take_add_one, List.take_add_one, h]
  rw [List.getD_eq_getElem?_getD, List.getD_eq_getElem?_getD, List.getElem?_eq_getElem h1, List.getElem?_eq_getElem h2] at he
  rw [List.getElem?_eq_getElem h1, List.getElem?_eq_getElem h2]
  have he2 : xs[k] = ys[k] := by simpa using he
  rw [he2]

set_option maxHeartbeats 1000000 in
set_option maxRecDepth 100000 in
theorem sameInts_any (xs ys : List Int) (A B : Option Addr) (n m c d : Nat) (w : World) (h1 : ZsAt w xs A n) (h2 : ZsAt w ys B m) :
    Calls Try.prog 66 #[.slice A n c, .slice B m d] w fun e w' => e = .returned (.bool (decide (xs = ys))) ∧ Below w.heap.size w w' := by
  obtain ⟨hn, hnm, hx⟩ := h1
  obtain ⟨hm, hmm, hy⟩ := h2
  by_cases hl : n = m
  · subst hl
    obtain ⟨R, hR⟩ : ∃ R, decide (xs = ys) = R := ⟨_, rfl⟩
    rw [hR]
    have HN := Lib.hid hn
    have HM := Lib.hid hm
    have HX := Lib.hid hx
    have HY := Lib.hid hy
    have HR := Lib.hid hR
    have hii : (n : Int) ≤ 9223372036854775807 := by omega
    clear hn hm hx hy hR hmm hnm
    go_enter Try.func66, Try.ntmps66
    go_wp2_with fail
    go_loopg [5] n (fun g i wr => ∃ k : Nat, k + g = n ∧ i = .int .i64 k ∧ Hid (xs.take k = ys.take k) ∧ Hid (Below w.heap.size w wr))
    case atStart => exact ⟨0, by omega, rfl, by show _ = _; simp, Below.refl _ _⟩
    case round =>
      obtain ⟨k, hkg, rfl, HT, HB⟩ := hrel
      cases gk with
      | zero =>
        have hkn : k = n := by omega
        subst hkn
        have hnl : ¬ (k : Int) < (k : Int) := by omega
        have hR2 : R = true := by
          have h := HT.out
          rw [List.take_of_length_le (by have := HN.out; omega), List.take_of_length_le (by have := HM.out; omega)] at h
          rw [← HR.out, h]; simp
        subst hR2
        clear hkg
        go_wp2_with fail
        go_ret
        exact ⟨rfl, HB.out⟩
      | succ g =>
        have hlt : k < n := by omega
        have hlt' : (k : Int) < (n : Int) := by omega
        have hk0 : (0 : Int) ≤ (k : Int) := by omega
        have HG := Lib.hid hkg
        obtain ⟨b1, o1, rfl, hc1⟩ := HX.out (by omega)
        obtain ⟨b2, o2, rfl, hc2⟩ := HY.out (by omega)
        have f1 := hc1 k hlt
        have f2 := hc2 k hlt
        have y1 : wr.cell? ⟨b1, o1 + k, none⟩ = some (.int .i64 (xs.getD k 0)) := (HB.out.cell (p := ⟨b1, _, none⟩) (World.block_lt_of_cell? w _ f1)).trans f1
        have y2 : wr.cell? ⟨b2, o2 + k, none⟩ = some (.int .i64 (ys.getD k 0)) := (HB.out.cell (p := ⟨b2, _, none⟩) (World.block_lt_of_cell? w _ f2)).trans f2
        obtain ⟨X, hX⟩ : ∃ x, xs.getD k 0 = x := ⟨_, rfl⟩
        obtain ⟨Y, hY⟩ : ∃ x, ys.getD k 0 = x := ⟨_, rfl⟩
        rw [hX] at y1
        rw [hY] at y2
        have HXX := Lib.hid hX
        have HYY := Lib.hid hY
        clear hkg hc1 hc2 f1 f2 hX hY
        by_cases he : X = Y
        · subst he
          go_upto_region 6 with fail
          go_quiet (fail)
          go_wp2_with fail
          go_roundg g
          case rel => exact ⟨k + 1, by have := HG.out; omega, by go_num, take_succ_eq HT.out (by have := HN.out; omega) (by have := HM.out; omega) (HXX.out.trans HYY.out.symm), by first | exact below_drewN HB.out _ | exact HB.out.drew⟩
          case measure => omega
        · have hne : (X != Y) = true := by simpa using he
          have hR2 : R = false := by
            rw [← HR.out]
            exact decide_eq_false fun h => he (by rw [← HXX.out, ← HYY.out, h])
          subst hR2
          go_upto_region 6 with fail
          go_quiet (fail)
          go_wp2_with fail
          go_ret
          exact ⟨rfl, by first | exact below_drewN HB.out _ | exact HB.out.drew⟩
  · have hR : decide (xs = ys) = false := decide_eq_false fun h => hl (by rw [hn, hm, h])
    rw [hR]
    have hne : ((n : Int) != (m : Int)) = true := by
      rw [bne_iff_ne]; omega
    clear hR hn hm hx hy
    go_enter Try.func66, Try.ntmps66
    go_wp2_with fail
    go_ret
    exact ⟨rfl, Below.refl _ _⟩
end Go.Proofs.Ytadikcioacaphaa
