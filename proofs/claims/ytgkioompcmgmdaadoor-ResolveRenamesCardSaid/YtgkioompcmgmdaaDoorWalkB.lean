/-
  What nameSize and numberSize of package token return: how many bytes of a word, of a number, a text begins with. Conditions: the text has at most 2^63 - 1 bytes.
-/
import Derived.Test.YtgkioompcmgmdaaDoorWalkA
import Derived.Lib.Hide
namespace Go.Proofs.YtgkioompcmgmdaaDoor
open Go.RowKit

theorem hid_false {b : Bool} (h : ¬ b = true) : Hid (b = false) := Bool.eq_false_iff.2 h
theorem ret_int {k : IntKind} {a b : Int} (h : a = b) : Ending.returned (.int k a) = .returned (.int k b) := by rw [h]
theorem drop_get (s : ByteArray) (k : Nat) (h : k < s.size) : s.data.toList.drop k = s[k] :: s.data.toList.drop (k + 1) := by
  rw [List.drop_eq_getElem_cons (by simpa using h)]; rfl

theorem list_cons (s : ByteArray) (h0 : 0 < s.size) : s.data.toList = s[0] :: s.data.toList.drop 1 := by
  have := drop_get s 0 h0
  rwa [List.drop_zero] at this

theorem isDigit_b (c : Int) (b : Bool) (h : digitC c = b) (w : World) : Calls Tryd.prog 67 #[.int .u8 c] w fun e w' => e = .returned (.bool b) ∧ w = w' := by
  subst h; exact isDigit_any c w
theorem isLetter_b (c : Int) (b : Bool) (h : letterC c = b) (w : World) : Calls Tryd.prog 55 #[.int .u8 c] w fun e w' => e = .returned (.bool b) ∧ w = w' := by
  subst h; exact isLetter_any c w

set_option maxHeartbeats 400000 in
theorem isWord_any (c : Int) (w : World) : Calls Tryd.prog 65 #[.int .u8 c] w fun e w' => e = .returned (.bool (wordC c)) ∧ w = w' := by
  by_cases h : letterC c = true
  · go_enter Tryd.func65, Tryd.ntmps65
    go_wp2_with (go_at_call 55; refine (isLetter_any _ _).mono ?_; rintro e w' ⟨rfl, rfl⟩)
    go_ret
    exact ⟨ret_bool (by simp [wordC, h]), rfl⟩
  · have h' : letterC c = false := by simpa using h
    clear h
    go_enter Tryd.func65, Tryd.ntmps65
    go_wp2_with (first | (go_at_call 55; refine (isLetter_any _ _).mono ?_; rintro e w' ⟨rfl, rfl⟩) | (go_at_call 67; refine (isDigit_any _ _).mono ?_; rintro e w' ⟨rfl, rfl⟩))
    go_ret
    exact ⟨ret_bool (by simp [wordC, h']), rfl⟩

set_option maxHeartbeats 400000 in
theorem nameSize_any (s : ByteArray) (w : World) (hs : s.size ≤ 9223372036854775807) :
    Calls Tryd.prog 56 #[.string s] w fun e w' => e = .returned (.int .i64 (nameSz s.data.toList)) ∧ w = w' := by
  go_enter Tryd.func56, Tryd.ntmps56
  go_wp2
  go_loop [3] (fun i => ∃ k : Nat, k ≤ s.size ∧ i = .int .i64 k ∧ nameSz (s.data.toList.drop k) + k = nameSz s.data.toList) (fun i => s.size - (intOf i).toNat)
  case atStart => exact ⟨0, Nat.zero_le _, rfl, by simp⟩
  case round =>
    obtain ⟨k, hk, rfl, hn⟩ := hrel
    by_cases hlt : k < s.size
    · have hd := drop_get s k hlt
      by_cases hw : wordC (s[k].toNat : Int) = true
      · have HN : Hid (nameSz (s.data.toList.drop (k + 1)) + (k + 1) = nameSz s.data.toList) := by
          rw [hd] at hn; simp only [nameSz, hw, if_true] at hn; show _ = _; omega
        clear hn hd
        go_wp2_with (go_at_call 65; refine (isWord_any _ _).mono ?_; rintro e w' ⟨rfl, rfl⟩)
        go_round
        case rel => exact ⟨k + 1, by omega, by go_num, HN.out⟩
        case measure => simp [intOf]; omega
      · have hw' : wordC (s[k].toNat : Int) = false := by simpa using hw
        have HN : Hid (k = nameSz s.data.toList) := by
          rw [hd] at hn; simp only [nameSz, hw'] at hn; show _ = _; simpa using hn
        clear hn hd hw
        go_wp2_with (go_at_call 65; refine (isWord_any _ _).mono ?_; rintro e w' ⟨rfl, rfl⟩)
        go_ret
        exact ⟨ret_int (by rw [← HN.out]), rfl⟩
    · have HN : Hid (k = nameSz s.data.toList) := by
        have e : s.data.toList.drop k = [] := List.drop_eq_nil_of_le (by simp; omega)
        rw [e] at hn; show _ = _; simpa [nameSz] using hn
      clear hn
      go_wp2
      go_ret
      exact ⟨ret_int (by rw [← HN.out]), rfl⟩

end Go.Proofs.YtgkioompcmgmdaaDoor
