/-
  What Reserved and Valid of package token return. Conditions: the text has at most 2^47 bytes.
-/
import Derived.Test.YtgkioompcmgmdaaDoorWalkB
import Derived.Test.YtgkioompcmgmdaaDoorMathR
import Derived.Lib.Strings
import Derived.Deep.LoopGhost
namespace Go.Proofs.YtgkioompcmgmdaaDoor
open Go.RowKit

set_option maxHeartbeats 2000000 in
theorem reserved_any (s : ByteArray) (w : World) : Calls Tryd.prog 57 #[.string s] w fun e w' => e = .returned (.bool (resB s.data.toList)) ∧ w = w' := by
  rw [← Lib.toList_data]
  go_enter Tryd.func57, Tryd.ntmps57
  go_wp2
  all_goals (go_ret; refine ⟨ret_bool ?_, rfl⟩; unfold resB resWords; simp_all)

theorem reserved_b (s : ByteArray) (b : Bool) (h : resB s.data.toList = b) (w : World) : Calls Tryd.prog 57 #[.string s] w fun e w' => e = .returned (.bool b) ∧ w = w' := by
  subst h; exact reserved_any s w
theorem nameSize_n (s : ByteArray) (w : World) (hs : s.size ≤ 9223372036854775807) (n : Nat) (h : nameSz s.data.toList = n) : Calls Tryd.prog 56 #[.string s] w fun e w' => e = .returned (.int .i64 n) ∧ w = w' := by
  subst h; exact nameSize_any s w hs
theorem toList_ne {s : ByteArray} (h : 0 < s.size) : s.toList.isEmpty = false := by
  rw [Lib.toList_data, list_cons s h]; rfl
theorem toList_nil {s : ByteArray} (h : s.size = 0) : s.toList = [] := by
  rw [Lib.toList_data]
  apply List.length_eq_zero_iff.1
  simpa using h

set_option maxHeartbeats 1000000 in
theorem valid_any (s : ByteArray) (w : World) (hs : s.size ≤ 140737488351232) : Calls Tryd.prog 45 #[.string s] w fun e w' => e = .returned (.bool (validS s.data.toList)) ∧ w = w' := by
  have hz : s.data.toList.length = s.size := by simp
  by_cases h0 : 0 < s.size
  · have hne := toList_ne h0
    rw [validS_cons (list_cons s h0), hz]
    by_cases h16 : s.size ≤ 16
    · by_cases hl : letterC s[0].toNat = true
      · obtain ⟨n, hn⟩ : ∃ n, nameSz s.data.toList = n := ⟨_, rfl⟩
        obtain ⟨b, hb⟩ : ∃ b, resB s.data.toList = b := ⟨_, rfl⟩
        rw [hl, hn, hb, decide_eq_true h16]
        have HL := Lib.hid hl
        have HN := Lib.hid hn
        have HBB := Lib.hid hb
        clear hl hn hb hz
        by_cases hnn : n = s.size
        · have htst : ((n : Int) == (s.size : Int)) = true := by simp [hnn]
          have HD : Hid (decide (n = s.size) = true) := decide_eq_true hnn
          clear hnn
          go_enter Tryd.func45, Tryd.ntmps45
          go_wp2_with (first | (go_at_call 55; refine (isLetter_b _ _ HL.out _).mono ?_; rintro e w' ⟨rfl, rfl⟩) | (go_at_call 56; refine (nameSize_n s _ (by omega) n HN.out).mono ?_; rintro e w' ⟨rfl, rfl⟩) | (go_at_call 57; refine (reserved_b s _ HBB.out _).mono ?_; rintro e w' ⟨rfl, rfl⟩))
          go_ret
          exact ⟨ret_bool (by rw [HD.out]; simp), rfl⟩
        · have htst : ((n : Int) == (s.size : Int)) = false := by simp; omega
          have HD : Hid (decide (n = s.size) = false) := decide_eq_false hnn
          clear hnn
          go_enter Tryd.func45, Tryd.ntmps45
          go_wp2_with (first | (go_at_call 55; refine (isLetter_b _ _ HL.out _).mono ?_; rintro e w' ⟨rfl, rfl⟩) | (go_at_call 56; refine (nameSize_n s _ (by omega) n HN.out).mono ?_; rintro e w' ⟨rfl, rfl⟩))
          go_ret
          exact ⟨ret_bool (by rw [HD.out]; simp), rfl⟩
      · have HL := hid_false hl
        have HE : Hid ((decide (s.size ≤ 16) && letterC s[0].toNat && decide (nameSz s.data.toList = s.size) && !resB s.data.toList) = false) := by
          show _ = _
          rw [HL.out]; simp
        clear hl
        go_enter Tryd.func45, Tryd.ntmps45
        go_wp2_with (go_at_call 55; refine (isLetter_b _ _ HL.out _).mono ?_; rintro e w' ⟨rfl, rfl⟩)
        go_ret
        first | exact ⟨ret_bool HE.out.symm, rfl⟩ | exact ⟨rfl, rfl⟩
    · have HE : Hid ((decide (s.size ≤ 16) && letterC s[0].toNat && decide (nameSz s.data.toList = s.size) && !resB s.data.toList) = false) := by
        show _ = _
        rw [decide_eq_false h16]; rfl
      go_enter Tryd.func45, Tryd.ntmps45
      go_wp2
      go_ret
      first | exact ⟨ret_bool HE.out.symm, rfl⟩ | exact ⟨rfl, rfl⟩
  · have hnil := toList_nil (s := s) (by omega)
    have HE : Hid (validS s.data.toList = false) := by rw [← Lib.toList_data, hnil]; rfl
    go_enter Tryd.func45, Tryd.ntmps45
    go_wp2
    go_ret
    first | exact ⟨ret_bool HE.out.symm, rfl⟩ | exact ⟨rfl, rfl⟩


/-! ### The document's answer -/
end Go.Proofs.YtgkioompcmgmdaaDoor
