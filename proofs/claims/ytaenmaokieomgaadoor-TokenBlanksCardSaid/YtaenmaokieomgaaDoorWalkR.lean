/-
  What number, double and single of the document's answer return. Conditions: number's text holds digits alone.
-/
import Derived.Test.YtaenmaokieomgaaDoorWalkS
namespace Go.Proofs.YtaenmaokieomgaaDoor
open Go.RowKit

theorem allDig_drop : ∀ (k : Nat) (l : List UInt8), allDig l → allDig (l.drop k)
  | 0, _, h => by rw [List.drop_zero]; exact h
  | k + 1, [], _ => by simp [allDig]
  | k + 1, c :: r, h => by rw [List.drop_succ_cons]; exact allDig_drop k r h.2
theorem allDig_at {s : ByteArray} (h : allDig s.data.toList) (k : Nat) (hk : k < s.size) : digitC s[k].toNat = true := by
  have h1 := allDig_drop k _ h
  rw [drop_get s k hk] at h1
  exact h1.1

theorem int_val {k : IntKind} {a b : Int} (h : a = b) : Value.int k a = .int k b := by rw [h]

/-- What number of the document's answer returns, of digits whose value is V. -/
def numEnd (V : Nat) : Ending := if V < 9223372036854775808 then .returned (.tuple #[.int .i64 V, .bool true]) else .returned (.tuple #[.int .i64 0, .bool false])
theorem numEnd_ok {V N : Nat} (h : N = V) (hN : N ≤ 9223372036854775807) : Ending.returned (.tuple #[.int .i64 N, .bool true]) = numEnd V := by
  have h1 : V < 9223372036854775808 := by omega
  unfold numEnd
  rw [if_pos h1, h]
theorem numEnd_no {V : Nat} (h : ¬ V < 9223372036854775808) : Ending.returned (.tuple #[.int .i64 0, .bool false]) = numEnd V := by
  unfold numEnd
  rw [if_neg h]

set_option maxHeartbeats 400000 in
theorem rnumber_any (s : ByteArray) (w : World) (hs : s.size ≤ 9223372036854775806) (ha : allDig s.data.toList) :
    Calls Tryd.prog 43 #[.string s] w fun e w' => e = numEnd (decVal 0 s.data.toList) ∧ w = w' := by
  obtain ⟨V, hV⟩ : ∃ V, decVal 0 s.data.toList = V := ⟨_, rfl⟩
  rw [hV]
  have HA := Lib.hid (allDig_at ha)
  have HV := Lib.hid hV
  clear hV ha
  go_enter Tryd.func43, Tryd.ntmps43
  go_wp2
  go_loop [4, 5] (fun n i => ∃ (k N : Nat), k ≤ s.size ∧ i = .int .i64 k ∧ n = .int .i64 N ∧ N ≤ 9223372036854775807 ∧ decVal N (s.data.toList.drop k) = V) (fun _ i => s.size - (intOf i).toNat)
  case atStart => exact ⟨0, 0, Nat.zero_le _, rfl, rfl, by omega, by rw [List.drop_zero]; exact HV.out⟩
  case round =>
    obtain ⟨k, N, hk, rfl, rfl, hN, hn⟩ := hrel
    by_cases hlt : k < s.size
    · have hdg := (digitC_iff s[k]).1 (HA.out k hlt)
      rw [drop_get s k hlt, decVal_cons] at hn
      have HN := Lib.hid hn
      clear hn
      by_cases hov : N * 10 + (s[k].toNat - 48) < 9223372036854775808
      · have htst : ¬ (9223372036854775807 - ((s[k].toNat : Int) - 48)) / 10 < (N : Int) := by omega
        go_wp2
        go_round
        case rel => exact ⟨k + 1, N * 10 + (s[k].toNat - 48), by omega, by go_num, int_val (by omega), by omega, HN.out⟩
        case measure => simp [intOf]; omega
      · have htst : (9223372036854775807 - ((s[k].toNat : Int) - 48)) / 10 < (N : Int) := by omega
        have HP : Hid (¬ V < 9223372036854775808) := by
          have hg := decVal_ge (s.data.toList.drop (k + 1)) (N * 10 + (s[k].toNat - 48))
          rw [HN.out] at hg
          show ¬ _
          omega
        clear hov
        go_wp2
        go_ret2
        exact ⟨numEnd_no HP.out, rfl⟩
    · have HP : Hid (N = V) := by
        have e : s.data.toList.drop k = [] := List.drop_eq_nil_of_le (by simp; omega)
        rw [e, decVal_nil] at hn
        exact hn
      clear hn
      go_wp2
      go_ret2
      exact ⟨numEnd_ok HP.out hN, rfl⟩

theorem signSz_eq_two (a b : Int) : signSz a b = 2 ↔ (b = 61 ∧ (a = 61 ∨ a = 33 ∨ a = 60 ∨ a = 62)) ∨ (a = 38 ∧ b = 38) ∨ (a = 124 ∧ b = 124) := by
  unfold signSz
  (repeat' split) <;> omega

set_option maxHeartbeats 1000000 in
theorem rdouble_any (a b : Int) (w : World) : Calls Tryd.prog 44 #[.int .u8 a, .int .u8 b] w fun e w' => e = .returned (.bool (decide (signSz a b = 2))) ∧ w = w' := by
  go_enter Tryd.func44, Tryd.ntmps44
  go_wp2
  all_goals (go_ret; refine ⟨ret_bool (Bool.eq_iff_iff.2 ?_), rfl⟩; simp [signSz_eq_two] <;> omega)

def signStr : ByteArray := ⟨#[40, 41, 123, 125, 91, 93, 44, 59, 61, 60, 62, 43, 45, 42, 47, 37, 33]⟩
theorem signStr_one : ∀ j (h : j < 17), signSz (signStr[j]'h).toNat 0 = 1 := by decide
theorem signStr_mem (c : Int) (h : signSz c 0 = 1) : ∃ j, ∃ h : j < 17, ((signStr[j]'h).toNat : Int) = c := by
  have h1 : c = 40 ∨ c = 41 ∨ c = 123 ∨ c = 125 ∨ c = 91 ∨ c = 93 ∨ c = 44 ∨ c = 59 ∨ c = 61 ∨ c = 60 ∨ c = 62 ∨ c = 43 ∨ c = 45 ∨ c = 42 ∨ c = 47 ∨ c = 37 ∨ c = 33 := by
    unfold signSz at h
    (repeat' split at h) <;> omega
  rcases h1 with rfl | rfl | rfl | rfl | rfl | rfl | rfl | rfl | rfl | rfl | rfl | rfl | rfl | rfl | rfl | rfl | rfl
  · exact ⟨0, by decide, rfl⟩
  · exact ⟨1, by decide, rfl⟩
  · exact ⟨2, by decide, rfl⟩
  · exact ⟨3, by decide, rfl⟩
  · exact ⟨4, by decide, rfl⟩
  · exact ⟨5, by decide, rfl⟩
  · exact ⟨6, by decide, rfl⟩
  · exact ⟨7, by decide, rfl⟩
  · exact ⟨8, by decide, rfl⟩
  · exact ⟨9, by decide, rfl⟩
  · exact ⟨10, by decide, rfl⟩
  · exact ⟨11, by decide, rfl⟩
  · exact ⟨12, by decide, rfl⟩
  · exact ⟨13, by decide, rfl⟩
  · exact ⟨14, by decide, rfl⟩
  · exact ⟨15, by decide, rfl⟩
  · exact ⟨16, by decide, rfl⟩

set_option maxHeartbeats 1000000 in
theorem rsingle_any (c : Int) (w : World) : Calls Tryd.prog 45 #[.int .u8 c] w fun e w' => e = .returned (.bool (decide (signSz c 0 = 1))) ∧ w = w' := by
  go_enter Tryd.func45, Tryd.ntmps45
  go_wp2
  go_loop [3] (fun i => ∃ k : Nat, k ≤ 17 ∧ i = .int .i64 k ∧ ∀ j (h : j < 17), j < k → ((signStr[j]'h).toNat : Int) ≠ c) (fun i => 17 - (intOf i).toNat)
  case atStart => exact ⟨0, Nat.zero_le _, rfl, fun j _ h => absurd h (Nat.not_lt_zero j)⟩
  case round =>
    obtain ⟨k, hk, rfl, hn⟩ := hrel
    have HN := Lib.hid hn
    clear hn
    by_cases hlt : k < 17
    · go_wp2
      · have ht : ((signStr[k]'hlt).toNat : Int) = c := beq_iff_eq.1 (by assumption)
        go_ret
        exact ⟨ret_bool (by rw [← ht]; exact (decide_eq_true (signStr_one k hlt)).symm), rfl⟩
      · have ht : ((signStr[k]'hlt).toNat : Int) ≠ c := beq_eq_false_iff_ne.1 (by assumption)
        go_round
        case rel =>
          refine ⟨k + 1, by omega, by go_num, fun j h hj => ?_⟩
          rcases Nat.lt_or_ge j k with h1 | h1
          · exact HN.out j h h1
          · obtain rfl : j = k := by omega
            exact ht
        case measure => simp [intOf]; omega
    · have HP : Hid (decide (signSz c 0 = 1) = false) := by
        refine decide_eq_false fun h => ?_
        obtain ⟨j, hj, e⟩ := signStr_mem c h
        exact HN.out j hj (by omega) e
      go_wp2
      go_ret
      exact ⟨ret_bool HP.out.symm, rfl⟩

end Go.Proofs.YtaenmaokieomgaaDoor
