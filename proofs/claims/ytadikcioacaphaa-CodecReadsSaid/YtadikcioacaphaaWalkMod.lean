/-
  What rollbacknetmake.Mod returns: a number from 0 to n - 1. Condition: n is from 1 to 100000.
-/
import Derived.Test.YtadikcioacaphaaImQ
namespace Go.Proofs.Ytadikcioacaphaa
open Go.RowKit

set_option maxHeartbeats 400000 in
set_option maxRecDepth 100000 in
theorem mod_any (x : Int) (n : Nat) (w : World) (hn : 0 < n) (hn2 : n ≤ 100000) :
    Calls Try.prog 8 #[.int .i64 x, .int .i64 n] w fun e w' => ∃ k : Nat, k < n ∧ e = .returned (.int .i64 k) ∧ w' = w := by
  have hq := Int.natAbs_tmod x n
  have hq2 : x.natAbs % (n : Int).natAbs < n := by rw [Int.natAbs_natCast]; exact Nat.mod_lt _ hn
  have hb1 : -(n : Int) < Int.tmod x n := by omega
  have hb2 : Int.tmod x n < n := by omega
  clear hq hq2
  go_enter Try.func8, Try.ntmps8
  have hz : ((n : Int) == 0) = false := beq_eq_false_iff_ne.2 (by omega)
  go_wp2
  · have h0 : x.tmod n < 0 := by assumption
    obtain ⟨k, hk⟩ := Int.eq_ofNat_of_zero_le (show 0 ≤ x.tmod n + n by omega)
    go_ret
    exact ⟨k, by omega, by rw [hk]; rfl, rfl⟩
  · have h0 : 0 ≤ x.tmod n := by assumption
    obtain ⟨k, hk⟩ := Int.eq_ofNat_of_zero_le h0
    go_ret
    exact ⟨k, by omega, by rw [hk]; rfl, rfl⟩
end Go.Proofs.Ytadikcioacaphaa
