/-
  The walk of the law TokenNames.
-/
import Derived.Test.YtaenmaokieomgaaDoorWalkW
import Derived.Deep.LoopGhost
namespace Go.Proofs.YtaenmaokieomgaaDoor
open Go.RowKit

/-- The reserved words. -/
def resWords : List (List UInt8) := [[118, 97, 114], [97, 114, 114, 97, 121], [111, 110], [115, 116, 97, 114, 116], [109, 101, 115, 115, 97, 103, 101], [116, 105, 99, 107], [105, 110, 112, 117, 116], [105, 102], [101, 108, 115, 101], [119, 104, 105, 108, 101], [115, 101, 110, 100], [111, 117, 116, 112, 117, 116], [115, 101, 108, 102], [112, 114, 111, 99, 115], [102, 114, 111, 109], [118, 97, 108, 117, 101]]
def resB (l : List UInt8) : Bool := resWords.contains l

set_option maxHeartbeats 2000000 in
theorem reserved_any (s : ByteArray) (w : World) : Calls Tryd.prog 17 #[.string s] w fun e w' => e = .returned (.bool (resB s.data.toList)) ∧ w = w' := by
  rw [← Lib.toList_data]
  go_enter Tryd.func17, Tryd.ntmps17
  go_wp2
  all_goals (go_ret; refine ⟨ret_bool ?_, rfl⟩; unfold resB resWords; simp_all)

/-- P1.4: which texts are valid names. -/
def validS (l : List UInt8) : Bool := match l with
  | [] => false
  | c :: _ => decide (l.length ≤ 16) && letterC c.toNat && decide (nameSz l = l.length) && !resB l

theorem validS_cons {l r : List UInt8} {c : UInt8} (e : l = c :: r) : validS l = (decide (l.length ≤ 16) && letterC c.toNat && decide (nameSz l = l.length) && !resB l) := by subst e; rfl
theorem reserved_b (s : ByteArray) (b : Bool) (h : resB s.data.toList = b) (w : World) : Calls Tryd.prog 17 #[.string s] w fun e w' => e = .returned (.bool b) ∧ w = w' := by
  subst h; exact reserved_any s w
theorem nameSize_n (s : ByteArray) (w : World) (hs : s.size ≤ 9223372036854775807) (n : Nat) (h : nameSz s.data.toList = n) : Calls Tryd.prog 31 #[.string s] w fun e w' => e = .returned (.int .i64 n) ∧ w = w' := by
  subst h; exact nameSize_any s w hs
theorem toList_ne {s : ByteArray} (h : 0 < s.size) : s.toList.isEmpty = false := by
  rw [Lib.toList_data, list_cons s h]; rfl
theorem toList_nil {s : ByteArray} (h : s.size = 0) : s.toList = [] := by
  rw [Lib.toList_data]
  apply List.length_eq_zero_iff.1
  simpa using h

set_option maxHeartbeats 1000000 in
theorem valid_any (s : ByteArray) (w : World) (hs : s.size ≤ 140737488351232) : Calls Tryd.prog 15 #[.string s] w fun e w' => e = .returned (.bool (validS s.data.toList)) ∧ w = w' := by
  have hz : s.data.toList.length = s.size := by simp
  by_cases h0 : 0 < s.size
  · have hne := toList_ne h0
    rw [validS_cons (list_cons s h0), hz]
    by_cases h16 : s.size ≤ 16
    · by_cases hl : letterC s[0].toNat = true
      · obtain ⟨n, hn⟩ : ∃ n, nameSz s.data.toList = n := ⟨_, rfl⟩
        obtain ⟨b, hb⟩ : ∃ b, resB s.data.toList = b := ⟨_, rfl⟩
        rw [hl, hn, hb, decide_eq_true h16]
        have HL := Lib.hid hl
        have HN := Lib.hid hn
        have HBB := Lib.hid hb
        clear hl hn hb hz
        by_cases hnn : n = s.size
        · have htst : ((n : Int) == (s.size : Int)) = true := by simp [hnn]
          have HD : Hid (decide (n = s.size) = true) := decide_eq_true hnn
          clear hnn
          go_enter Tryd.func15, Tryd.ntmps15
          go_wp2_with (first | (go_at_call 30; refine (isLetter_b _ _ HL.out _).mono ?_; rintro e w' ⟨rfl, rfl⟩) | (go_at_call 31; refine (nameSize_n s _ (by omega) n HN.out).mono ?_; rintro e w' ⟨rfl, rfl⟩) | (go_at_call 17; refine (reserved_b s _ HBB.out _).mono ?_; rintro e w' ⟨rfl, rfl⟩))
          go_ret
          exact ⟨ret_bool (by rw [HD.out]; simp), rfl⟩
        · have htst : ((n : Int) == (s.size : Int)) = false := by simp; omega
          have HD : Hid (decide (n = s.size) = false) := decide_eq_false hnn
          clear hnn
          go_enter Tryd.func15, Tryd.ntmps15
          go_wp2_with (first | (go_at_call 30; refine (isLetter_b _ _ HL.out _).mono ?_; rintro e w' ⟨rfl, rfl⟩) | (go_at_call 31; refine (nameSize_n s _ (by omega) n HN.out).mono ?_; rintro e w' ⟨rfl, rfl⟩))
          go_ret
          exact ⟨ret_bool (by rw [HD.out]; simp), rfl⟩
      · have HL := hid_false hl
        have HE : Hid ((decide (s.size ≤ 16) && letterC s[0].toNat && decide (nameSz s.data.toList = s.size) && !resB s.data.toList) = false) := by
          show _ = _
          rw [HL.out]; simp
        clear hl
        go_enter Tryd.func15, Tryd.ntmps15
        go_wp2_with (go_at_call 30; refine (isLetter_b _ _ HL.out _).mono ?_; rintro e w' ⟨rfl, rfl⟩)
        go_ret
        first | exact ⟨ret_bool HE.out.symm, rfl⟩ | exact ⟨rfl, rfl⟩
    · have HE : Hid ((decide (s.size ≤ 16) && letterC s[0].toNat && decide (nameSz s.data.toList = s.size) && !resB s.data.toList) = false) := by
        show _ = _
        rw [decide_eq_false h16]; rfl
      go_enter Tryd.func15, Tryd.ntmps15
      go_wp2
      go_ret
      first | exact ⟨ret_bool HE.out.symm, rfl⟩ | exact ⟨rfl, rfl⟩
  · have hnil := toList_nil (s := s) (by omega)
    have HE : Hid (validS s.data.toList = false) := by rw [← Lib.toList_data, hnil]; rfl
    go_enter Tryd.func15, Tryd.ntmps15
    go_wp2
    go_ret
    first | exact ⟨ret_bool HE.out.symm, rfl⟩ | exact ⟨rfl, rfl⟩


/-! ### The document's answer -/

/-- The reserved words, each one between blanks. -/
def wordsL : List UInt8 := [32, 118, 97, 114, 32, 97, 114, 114, 97, 121, 32, 111, 110, 32, 115, 116, 97, 114, 116, 32, 109, 101, 115, 115, 97, 103, 101, 32, 116, 105, 99, 107, 32, 105, 110, 112, 117, 116, 32, 105, 102, 32, 101, 108, 115, 101, 32, 119, 104, 105, 108, 101, 32, 115, 101, 110, 100, 32, 111, 117, 116, 112, 117, 116, 32, 115, 101, 108, 102, 32, 112, 114, 111, 99, 115, 32, 102, 114, 111, 109, 32, 118, 97, 108, 117, 101, 32]

def hasBlank : List UInt8 → Bool
  | [] => false
  | c :: r => (c == 32) || hasBlank r

/-- Whether the words hold a list of bytes at the place i. -/
def holdsAt (l : List UInt8) (i : Nat) : Bool := (wordsL.drop i).take (l.length + 2) == 32 :: (l ++ [32])

theorem take_until (l : List UInt8) (h : hasBlank l = false) : ∀ r : List UInt8, (l ++ 32 :: r).takeWhile (· != 32) = l := by
  induction l with
  | nil => intro r; rfl
  | cons c l ih =>
    intro r
    simp only [hasBlank, Bool.or_eq_false_iff, beq_eq_false_iff_ne] at h
    rw [List.cons_append, List.takeWhile_cons, if_pos (by simpa using h.1), ih h.2 r]

theorem words_at : ∀ i, i < 86 → (wordsL.drop i).head? = some 32 → resWords.contains ((wordsL.drop (i + 1)).takeWhile (· != 32)) = true := by decide
theorem words_have : ∀ w ∈ resWords, (List.range 87).any (fun i => decide (i + (w.length + 2) ≤ 87) && holdsAt w i) = true := by decide

/-- A list of bytes without blanks that is not empty stands between blanks among the words exactly if it is one of them. -/
theorem res_iff (l : List UInt8) (h0 : l ≠ []) (hb : hasBlank l = false) : resB l = true ↔ ∃ i, i + (l.length + 2) ≤ 87 ∧ holdsAt l i = true := by
  constructor
  · intro h
    have := words_have l (by simpa [resB] using h)
    obtain ⟨i, _, hi⟩ := List.any_eq_true.1 this
    rw [Bool.and_eq_true, decide_eq_true_iff] at hi
    exact ⟨i, hi⟩
  · rintro ⟨i, hi, hh⟩
    have hl : 0 < l.length := List.length_pos_iff.2 h0
    have e := eq_of_beq hh
    have hw : (wordsL.drop i).take (l.length + 2) ++ (wordsL.drop i).drop (l.length + 2) = wordsL.drop i := List.take_append_drop _ _
    rw [e] at hw
    have h1 : (wordsL.drop i).head? = some 32 := by rw [← hw]; rfl
    have h2 : wordsL.drop (i + 1) = l ++ 32 :: (wordsL.drop i).drop (l.length + 2) := by
      rw [← List.drop_drop (i := 1) (j := i), ← hw]
      simp
    have h3 := words_at i (by omega) h1
    rw [h2, take_until l hb] at h3
    exact h3
theorem res_blank (l : List UInt8) (hb : hasBlank l = true) : resB l = false := by
  have h : ∀ w ∈ resWords, hasBlank w = false := by decide
  by_cases hr : resB l = true
  · have := h l (by simpa [resB] using hr)
    rw [hb] at this; cases this
  · simpa using hr
theorem res_nil : resB [] = false := rfl


theorem blank_next {s : ByteArray} {k : Nat} (h : hasBlank (s.data.toList.drop k) = hasBlank s.data.toList) (hlt : k < s.size) (hc : ((s[k].toNat : Int) == 32) = false) : hasBlank (s.data.toList.drop (k + 1)) = hasBlank s.data.toList := by
  rw [drop_get s k hlt, hasBlank] at h
  have : (s[k] == 32) = false := by
    rw [beq_eq_false_iff_ne] at hc ⊢
    intro e; rw [e] at hc; exact hc rfl
  rw [this, Bool.false_or] at h
  exact h
theorem blank_here {s : ByteArray} {k : Nat} (h : hasBlank (s.data.toList.drop k) = hasBlank s.data.toList) (hlt : k < s.size) (hc : ((s[k].toNat : Int) == 32) = true) : hasBlank s.data.toList = true := by
  rw [drop_get s k hlt, hasBlank] at h
  have : (s[k] == 32) = true := by
    rw [beq_iff_eq] at hc ⊢
    exact UInt8.toNat_inj.1 (by have h2 : ((32 : UInt8)).toNat = 32 := rfl; omega)
  rw [this, Bool.true_or] at h
  exact h.symm

theorem holds_walk (s : ByteArray) (j : Nat) : ((({ data := #[32, 118, 97, 114, 32, 97, 114, 114, 97, 121, 32, 111, 110, 32, 115, 116, 97, 114, 116, 32, 109, 101, 115, 115, 97, 103, 101, 32, 116, 105, 99, 107, 32, 105, 110, 112, 117, 116, 32, 105, 102, 32, 101, 108, 115, 101, 32, 119, 104, 105, 108, 101, 32, 115, 101, 110, 100, 32, 111, 117, 116, 112, 117, 116, 32, 115, 101, 108, 102, 32, 112, 114, 111, 99, 115, 32, 102, 114, 111, 109, 32, 118, 97, 108, 117, 101, 32] } : ByteArray).extract j (j + (1 + s.size + 1))).toList == (({ data := #[32] } : ByteArray) ++ s ++ { data := #[32] }).toList) = holdsAt s.data.toList j := by
  have hz : s.data.toList.length = s.size := by simp
  rw [Lib.toList_data, Lib.toList_data, Lib.extract_data]
  unfold holdsAt
  rw [hz, show j + (1 + s.size + 1) - j = s.size + 2 by omega]
  have e : ((({ data := #[32] } : ByteArray) ++ s ++ { data := #[32] }).data.toList) = 32 :: (s.data.toList ++ [32]) := by simp
  rw [e]
  rfl

set_option maxHeartbeats 1000000 in
set_option maxRecDepth 100000 in
theorem rreserved_some (s : ByteArray) (w : World) (hs : s.size ≤ 140737488351232) (h0 : 0 < s.size) : Calls Tryd.prog 18 #[.string s] w fun e w' => e = .returned (.bool (resB s.data.toList)) ∧ w = w' := by
  have hz : ((s.size : Int) == 0) = false := beq_eq_false_iff_ne.2 (by omega)
  obtain ⟨b, hb⟩ : ∃ b, resB s.data.toList = b := ⟨_, rfl⟩
  rw [hb]
  have HBB := Lib.hid hb
  clear hb
  go_enter Tryd.func18, Tryd.ntmps18
  go_wp2
  go_loopg [3] s.size (fun g i wx => ∃ k : Nat, k + g = s.size ∧ i = .int .i64 k ∧ hasBlank (s.data.toList.drop k) = hasBlank s.data.toList ∧ wx = w)
  case atStart => exact ⟨0, by omega, rfl, rfl, rfl⟩
  case round =>
    obtain ⟨k, hkg, rfl, hbl, rfl⟩ := hrel
    have HG := Lib.hid hkg
    have HBL := Lib.hid hbl
    clear hkg hbl
    cases gk with
    | succ g =>
      have hlt : k < s.size := by have := HG.out; omega
      obtain ⟨t, ht⟩ : ∃ t, ((s[k].toNat : Int) == 32) = t := ⟨_, rfl⟩
      cases t with
      | true =>
        have HP := Lib.hid (blank_here HBL.out hlt ht)
        go_wp2
        go_ret
        have h := res_blank _ HP.out
        rw [HBB.out] at h
        exact ⟨ret_bool h.symm, rfl⟩
      | false =>
        have HP := Lib.hid (blank_next HBL.out hlt ht)
        go_wp2
        go_roundg g
        case rel => exact ⟨k + 1, by have := HG.out; omega, by go_num, HP.out, rfl⟩
        case measure => omega
    | zero =>
      have hge : s.size ≤ k := by have := HG.out; omega
      go_wp2
      have HNB : Hid (hasBlank s.data.toList = false) := by
        have h := HBL.out
        rw [List.drop_eq_nil_of_le (by simp; omega)] at h
        exact h.symm
      clear HBL HG
      go_loopg [5] 87 (fun g i wx => ∃ k : Nat, k + g = 87 ∧ i = .int .i64 k ∧ (∀ j, j < k → j + (s.data.toList.length + 2) ≤ 87 → holdsAt s.data.toList j = false) ∧ wx = wr)
      case atStart => exact ⟨0, by omega, rfl, fun j h => absurd h (Nat.not_lt_zero j), rfl⟩
      case round =>
        obtain ⟨j, hjg, rfl, hno, rfl⟩ := hrel
        have HJG := Lib.hid hjg
        have HNO := Lib.hid hno
        have hzz : s.data.toList.length = s.size := by simp
        have HZ := Lib.hid hzz
        have hne : s.data.toList ≠ [] := fun h => by rw [h] at hzz; simp at hzz; omega
        have HNE := Lib.hid hne
        clear hjg hno hzz hne
        by_cases hjl : j + (s.size + 2) ≤ 87
        · have hj86 : j ≤ 87 := by omega
          go_wp2
          · have ht : holdsAt s.data.toList j = true := (holds_walk s j).symm.trans (by assumption)
            have h := (res_iff _ HNE.out HNB.out).2 ⟨j, by rw [HZ.out]; exact hjl, ht⟩
            go_ret
            rw [HBB.out] at h
            exact ⟨ret_bool h.symm, rfl⟩
          · have ht : holdsAt s.data.toList j = false := (holds_walk s j).symm.trans (by assumption)
            go_roundg (87 - (j + 1))
            case rel =>
              refine ⟨j + 1, by have := HJG.out; omega, by go_num, fun i hi hl => ?_, rfl⟩
              rcases Nat.lt_or_ge i j with h1 | h1
              · exact HNO.out i h1 hl
              · obtain rfl : i = j := by omega
                exact ht
            case measure => have := HJG.out; omega
        · have hj86 : j ≤ 87 := by have := HJG.out; omega
          go_wp2
          go_ret
          have h : ¬ resB s.data.toList = true := fun h => by
            obtain ⟨i, hi, hh⟩ := (res_iff _ HNE.out HNB.out).1 h
            have h2 := HZ.out
            rw [HNO.out i (by omega) hi] at hh
            cases hh
          rw [HBB.out] at h
          exact ⟨ret_bool (Bool.eq_false_iff.2 h).symm, rfl⟩

set_option maxHeartbeats 400000 in
theorem rreserved_none (s : ByteArray) (w : World) (h0 : s.size = 0) : Calls Tryd.prog 18 #[.string s] w fun e w' => e = .returned (.bool false) ∧ w = w' := by
  go_enter Tryd.func18, Tryd.ntmps18
  go_wp2
  go_ret
  exact ⟨rfl, rfl⟩

theorem rreserved_any (s : ByteArray) (w : World) (hs : s.size ≤ 140737488351232) : Calls Tryd.prog 18 #[.string s] w fun e w' => e = .returned (.bool (resB s.data.toList)) ∧ w = w' := by
  by_cases h0 : 0 < s.size
  · exact rreserved_some s w hs h0
  · have e : s.data.toList = [] := by rw [← Lib.toList_data]; exact toList_nil (by omega)
    rw [e, res_nil]
    exact rreserved_none s w (by omega)


theorem rreserved_b (s : ByteArray) (hs : s.size ≤ 140737488351232) (b : Bool) (h : resB s.data.toList = b) (w : World) : Calls Tryd.prog 18 #[.string s] w fun e w' => e = .returned (.bool b) ∧ w = w' := by
  subst h; exact rreserved_any s w hs

theorem name_go {s : ByteArray} {k : Nat} (h : nameSz (s.data.toList.drop k) + k = nameSz s.data.toList) (hlt : k < s.size) (hw : wordC s[k].toNat = true) : nameSz (s.data.toList.drop (k + 1)) + (k + 1) = nameSz s.data.toList := by
  rw [drop_get s k hlt, nameSz, if_pos hw] at h; omega
theorem name_halt {s : ByteArray} {k : Nat} (h : nameSz (s.data.toList.drop k) + k = nameSz s.data.toList) (hlt : k < s.size) (hw : wordC s[k].toNat = false) : nameSz s.data.toList = k := by
  rw [drop_get s k hlt, nameSz, if_neg (by simp [hw])] at h; omega
theorem name_done {s : ByteArray} {k : Nat} (h : nameSz (s.data.toList.drop k) + k = nameSz s.data.toList) (hlt : ¬ k < s.size) : nameSz s.data.toList = k := by
  rw [List.drop_eq_nil_of_le (by simp; omega), nameSz] at h; omega

set_option maxHeartbeats 1000000 in
set_option maxRecDepth 100000 in
theorem rvalid_any (s : ByteArray) (w : World) (hs : s.size ≤ 140737488351232) : Calls Tryd.prog 16 #[.string s] w fun e w' => e = .returned (.bool (validS s.data.toList)) ∧ w = w' := by
  have hz : s.data.toList.length = s.size := by simp
  obtain ⟨b, hb⟩ : ∃ b, validS s.data.toList = b := ⟨_, rfl⟩
  rw [hb]
  by_cases h0 : 0 < s.size
  · rw [validS_cons (list_cons s h0), hz] at hb
    have hz0 : ((s.size : Int) == 0) = false := beq_eq_false_iff_ne.2 (by omega)
    by_cases h16 : s.size ≤ 16
    · have h16' : decide (16 < (s.size : Int)) = false := decide_eq_false (by omega)
      by_cases hl : letterC s[0].toNat = true
      · have HL := Lib.hid hl
        by_cases hr : resB s.data.toList = true
        · rw [hr] at hb
          have HBF : Hid (b = false) := by rw [← hb]; show _ = _; simp
          have HRS := Lib.hid hr
          clear hb hl hr hz
          go_enter Tryd.func16, Tryd.ntmps16
          go_wp2_with (first | (go_at_call 32; refine (rletter_b _ _ HL.out _).mono ?_; rintro e w' ⟨rfl, rfl⟩) | (go_at_call 18; refine (rreserved_b s hs _ HRS.out _).mono ?_; rintro e w' ⟨rfl, rfl⟩))
          go_ret
          exact ⟨ret_bool HBF.out.symm, rfl⟩
        · have hr' : resB s.data.toList = false := by simpa using hr
          have HRS := Lib.hid hr'
          rw [hl, hr', decide_eq_true h16] at hb
          have HBN : Hid (decide (nameSz s.data.toList = s.size) = b) := by rw [← hb]; show _ = _; simp
          clear hb hl hr hr' hz
          go_enter Tryd.func16, Tryd.ntmps16
          go_wp2_with (first | (go_at_call 32; refine (rletter_b _ _ HL.out _).mono ?_; rintro e w' ⟨rfl, rfl⟩) | (go_at_call 18; refine (rreserved_b s hs _ HRS.out _).mono ?_; rintro e w' ⟨rfl, rfl⟩))
          go_loopg [3] s.size (fun g i wx => ∃ k : Nat, k + g = s.size ∧ i = .int .i64 k ∧ nameSz (s.data.toList.drop k) + k = nameSz s.data.toList ∧ wx = w)
          case atStart => exact ⟨0, by omega, rfl, rfl, rfl⟩
          case round =>
            obtain ⟨k, hkg, rfl, hn, rfl⟩ := hrel
            have HG := Lib.hid hkg
            have HN := Lib.hid hn
            clear hkg hn
            by_cases hlt : k < s.size
            · by_cases hlk : letterC s[k].toNat = true
              · have HT := Lib.hid hlk
                clear hlk
                go_wp2_with (go_at_call 32; refine (rletter_b _ _ HT.out _).mono ?_; rintro e w' ⟨rfl, rfl⟩)
                go_roundg (s.size - (k + 1))
                case rel => exact ⟨k + 1, by have := HG.out; omega, by go_num, name_go HN.out hlt (word_letter HT.out), rfl⟩
                case measure => have := HG.out; omega
              · have HT := hid_false hlk
                clear hlk
                by_cases hdk : digitC s[k].toNat = true
                · have HD := Lib.hid hdk
                  clear hdk
                  go_wp2_with (first | (go_at_call 32; refine (rletter_b _ _ HT.out _).mono ?_; rintro e w' ⟨rfl, rfl⟩) | (go_at_call 33; refine (rdigit_b _ _ HD.out _).mono ?_; rintro e w' ⟨rfl, rfl⟩))
                  go_roundg (s.size - (k + 1))
                  case rel => exact ⟨k + 1, by have := HG.out; omega, by go_num, name_go HN.out hlt (word_digit HD.out), rfl⟩
                  case measure => have := HG.out; omega
                · have HD := hid_false hdk
                  clear hdk
                  go_wp2_with (first | (go_at_call 32; refine (rletter_b _ _ HT.out _).mono ?_; rintro e w' ⟨rfl, rfl⟩) | (go_at_call 33; refine (rdigit_b _ _ HD.out _).mono ?_; rintro e w' ⟨rfl, rfl⟩))
                  go_ret
                  have h := name_halt HN.out hlt (word_no HT.out HD.out)
                  exact ⟨ret_bool (by rw [← HBN.out, h]; exact (decide_eq_false (by omega)).symm), rfl⟩
            · go_wp2
              go_ret
              have h := name_done HN.out hlt
              have hg := HG.out
              exact ⟨ret_bool (by rw [← HBN.out, h]; exact (decide_eq_true (by omega)).symm), rfl⟩
      · have HL := hid_false hl
        have HBF : Hid (b = false) := by rw [← hb, HL.out]; show _ = _; simp
        clear hb hl hz
        go_enter Tryd.func16, Tryd.ntmps16
        go_wp2_with (go_at_call 32; refine (rletter_b _ _ HL.out _).mono ?_; rintro e w' ⟨rfl, rfl⟩)
        go_ret
        exact ⟨ret_bool HBF.out.symm, rfl⟩
    · have HBF : Hid (b = false) := by rw [← hb, decide_eq_false h16]; show _ = _; rfl
      have h16' : decide (16 < (s.size : Int)) = true := decide_eq_true (by omega)
      clear hb hz
      go_enter Tryd.func16, Tryd.ntmps16
      go_wp2
      go_ret
      exact ⟨ret_bool HBF.out.symm, rfl⟩
  · have e : s.data.toList = [] := by rw [← Lib.toList_data]; exact toList_nil (by omega)
    rw [e] at hb
    have HBF : Hid (b = false) := hb.symm
    have hz0 : ((s.size : Int) == 0) = true := beq_iff_eq.2 (by omega)
    clear hb e hz
    go_enter Tryd.func16, Tryd.ntmps16
    go_wp2
    go_ret
    exact ⟨ret_bool HBF.out.symm, rfl⟩

set_option maxHeartbeats 1000000 in
set_option maxRecDepth 100000 in
theorem tokenNames_any (s : ByteArray) (w : World) (hs : s.size ≤ 140737488351232) (hL : LW w) : Calls Tryd.prog 4 #[.string s] w fun e w' => e = .returned (.bool true) ∧ Below w.heap.size w w' := by
  have HL := Lib.hid hL
  clear hL
  go_enter Tryd.func4, Tryd.ntmps4
  go_wp2_with (go_at_call 11; refine (awake_any _ HL.out).mono ?_; rintro e w1 ⟨rfl, hb⟩; have HB1 := Lib.hid hb; clear hb)
  go_wp2_with (first | (go_at_call 15; refine (valid_any s _ hs).mono ?_; rintro e w' ⟨rfl, rfl⟩) | (go_at_call 16; refine (rvalid_any s _ hs).mono ?_; rintro e w' ⟨rfl, rfl⟩) | (go_at_call 17; refine (reserved_any s _).mono ?_; rintro e w' ⟨rfl, rfl⟩) | (go_at_call 18; refine (rreserved_any s _ hs).mono ?_; rintro e w' ⟨rfl, rfl⟩))
  go_ret
  exact ⟨ret_bool (by simp), HB1.out⟩

end Go.Proofs.YtaenmaokieomgaaDoor
