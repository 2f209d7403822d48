/-
  What Count and cut of package image, and Count and page of the document's answer return. Conditions: at most 1000000 cells; the page is there (cut).
-/
import Derived.Test.YtkhaapdokhhbdaaMathI
import Derived.Test.YtkhaapdokhhbdaaWalkZa
namespace Go.Proofs.Ytkhaapdokhhbdaa
open Go.RowKit

theorem cnt_int (n : Nat) : ((n : Int) + 4 - 1) / 4 = ((cntS n : Nat) : Int) := by unfold cntS; omega

set_option maxHeartbeats 400000 in
theorem count_any (A : Option Addr) (n c : Nat) (w : World) (hn : n ≤ 1000000) :
    Calls Try.prog 17 #[.slice A n c] w fun e w' => e = .returned (.int .i64 (cntS n : Nat)) ∧ w' = w := by
  go_enter Try.func17, Try.ntmps17
  go_wp2
  go_ret
  exact ⟨ret_int (by unfold cntS; omega), rfl⟩

set_option maxHeartbeats 400000 in
theorem rcount_any (A : Option Addr) (n c : Nat) (w : World) (hn : n ≤ 1000000) :
    Calls Try.prog 18 #[.slice A n c] w fun e w' => e = .returned (.int .i64 (cntS n : Nat)) ∧ w' = w := by
  by_cases h : (n : Int) % 4 = 0
  · have h' : ((n : Int) % 4 != 0) = false := by simpa using h
    go_enter Try.func18, Try.ntmps18
    go_wp2
    go_ret
    exact ⟨ret_int (by unfold cntS; omega), rfl⟩
  · have h' : ((n : Int) % 4 != 0) = true := by simpa using h
    go_enter Try.func18, Try.ntmps18
    go_wp2
    go_ret
    exact ⟨ret_int (by unfold cntS; omega), rfl⟩

theorem ret_sl {b o o2 n n2 c c2 : Nat} (h1 : o = o2) (h2 : n = n2) (h3 : c = c2) : Ending.returned (.slice (some ⟨b, o, none⟩) n c) = .returned (.slice (some ⟨b, o2, none⟩) n2 c2) := by rw [h1, h2, h3]

set_option maxHeartbeats 400000 in
theorem cut_any (b o n c k : Nat) (w : World) (hn : n ≤ 1000000) (hc : n ≤ c) (hk : 4 * k < n) :
    Calls Try.prog 27 #[.slice (some ⟨b, o, none⟩) n c, .int .i64 k] w fun e w' => e = .returned (.slice (some ⟨b, o + 4 * k, none⟩) (min 4 (n - 4 * k)) (min 4 (n - 4 * k))) ∧ w' = w := by
  by_cases h : 4 * k + 4 ≤ n
  · go_enter Try.func27, Try.ntmps27
    go_wp2
    go_ret
    exact ⟨ret_sl (by omega) (by omega) (by omega), rfl⟩
  · go_enter Try.func27, Try.ntmps27
    go_wp2
    all_goals
      go_ret
      exact ⟨ret_sl (by omega) (by omega) (by omega), rfl⟩

set_option maxHeartbeats 400000 in
theorem page_no (A : Option Addr) (n c : Nat) (z : Int) (w : World) (hn : n ≤ 1000000) (hz : z < 0 ∨ (cntS n : Int) ≤ z) :
    Calls Try.prog 30 #[.slice A n c, .int .i64 z] w fun e w' => e = .returned (.slice none 0 0) ∧ w' = w := by
  rcases hz with h | h
  · go_enter Try.func30, Try.ntmps30
    go_wp2_with fail
    go_ret
    exact ⟨rfl, rfl⟩
  · have h0 : ¬ z < 0 := by omega
    go_enter Try.func30, Try.ntmps30
    go_wp2_with (go_at_call 18; refine (rcount_any _ _ _ _ hn).mono ?_; rintro e w' ⟨rfl, rfl⟩)
    go_ret
    exact ⟨rfl, rfl⟩

set_option maxHeartbeats 400000 in
theorem page_is (b o n c k : Nat) (w : World) (hn : n ≤ 1000000) (hc : n ≤ c) (hk : 4 * k < n) :
    Calls Try.prog 30 #[.slice (some ⟨b, o, none⟩) n c, .int .i64 k] w fun e w' => e = .returned (.slice (some ⟨b, o + 4 * k, none⟩) (min 4 (n - 4 * k)) (c - 4 * k)) ∧ w' = w := by
  have h1 : (k : Int) < (cntS n : Nat) := by unfold cntS; omega
  by_cases h : 4 * k + 4 ≤ n
  all_goals
    go_enter Try.func30, Try.ntmps30
    go_wp2_with (go_at_call 18; refine (rcount_any _ _ _ _ hn).mono ?_; rintro e w' ⟨rfl, rfl⟩)
    all_goals
      go_ret
      exact ⟨ret_sl (by omega) (by omega) (by omega), rfl⟩

theorem page_yes (b o n c k : Nat) (w : World) (hn : n ≤ 1000000) (hc : n ≤ c) (hk : 4 * k < n) :
    Calls Try.prog 30 #[.slice (some ⟨b, o, none⟩) n c, .int .i64 k] w fun e w' => (∃ c', min 4 (n - 4 * k) ≤ c' ∧ e = .returned (.slice (some ⟨b, o + 4 * k, none⟩) (min 4 (n - 4 * k)) c')) ∧ w' = w :=
  (page_is b o n c k w hn hc hk).mono fun _ _ ⟨he, hw⟩ => ⟨⟨_, by omega, he⟩, hw⟩

theorem ZsAt.page {w : World} {zs : List Int} {b o n : Nat} (h : ZsAt w zs (some ⟨b, o, none⟩) n) (k : Nat) : ZsAt w (pgS zs k) (some ⟨b, o + 4 * k, none⟩) (min 4 (n - 4 * k)) := by
  obtain ⟨h1, h2, h3⟩ := h
  refine ⟨by rw [pgS_len, h1], by omega, fun h0 => ?_⟩
  obtain ⟨b', o', hA, hi⟩ := h3 (by omega)
  injection hA with hA
  injection hA with e1 e2 _
  subst e1 e2
  refine ⟨b, o + 4 * k, rfl, fun i hi' => ?_⟩
  have := hi (4 * k + i) (by omega)
  rw [pgS_getD _ _ _ (by omega), Nat.add_assoc]
  exact this
theorem ZsAt.addr {w : World} {zs : List Int} {A : Option Addr} {n : Nat} (h : ZsAt w zs A n) (h0 : 0 < n) : ∃ b o, A = some ⟨b, o, none⟩ := by
  obtain ⟨b, o, hA, _⟩ := h.2.2 h0
  exact ⟨b, o, hA⟩
theorem zs_nil (w : World) : ZsAt w [] none 0 := ⟨rfl, by decide, fun h => absurd h (by decide)⟩
end Go.Proofs.Ytkhaapdokhhbdaa
