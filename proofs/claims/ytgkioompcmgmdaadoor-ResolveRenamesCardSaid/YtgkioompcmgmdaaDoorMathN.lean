/-
  Plain mathematics of chapter 1, token: the values of numbers, and the token that a list of bytes begins with. No conditions.
-/
import Derived.Lib.AtoiAllCases
import Derived.Test.YtgkioompcmgmdaaDoorMath
namespace Go.Proofs.YtgkioompcmgmdaaDoor
open Go

/-- The value of digits behind a value. -/
def decVal (acc : Nat) (l : List UInt8) : Nat := l.foldl (fun a c => a * 10 + (c.toNat - 48)) acc
theorem decVal_nil (acc : Nat) : decVal acc [] = acc := rfl
theorem decVal_cons (acc : Nat) (c : UInt8) (r : List UInt8) : decVal acc (c :: r) = decVal (acc * 10 + (c.toNat - 48)) r := by unfold decVal; rw [List.foldl_cons]

def allDig : List UInt8 → Prop
  | [] => True
  | c :: r => digitC c.toNat = true ∧ allDig r

theorem digitC_iff (c : UInt8) : digitC c.toNat = true ↔ 48 ≤ c.toNat ∧ c.toNat ≤ 57 := by
  simp [digitC]; omega

theorem decVal_ge : ∀ (l : List UInt8) (acc : Nat), acc ≤ decVal acc l
  | [], acc => Nat.le_refl _
  | c :: r, acc => by
    have := decVal_ge r (acc * 10 + (c.toNat - 48))
    rw [decVal_cons]; omega

theorem parse_dec (l : List UInt8) : ∀ (acc : Nat), allDig l → acc < 18446744073709551616 → Lib.parseUint10 acc l = if decVal acc l < 18446744073709551616 then .ok (decVal acc l) else .range := by
  induction l with
  | nil => intro acc _ h; rw [Lib.parseUint10, decVal_nil, if_pos h]
  | cons c r ih =>
    intro acc ha h
    have hc := (digitC_iff c).1 ha.1
    have hg := decVal_ge r (acc * 10 + (c.toNat - 48))
    rw [decVal_cons]
    simp only [Lib.parseUint10]
    rw [if_pos hc]
    by_cases h1 : 1844674407370955162 ≤ acc
    · have h3 : ¬ decVal (acc * 10 + (c.toNat - 48)) r < 18446744073709551616 := by omega
      rw [if_pos h1, if_neg h3]
    · rw [if_neg h1]
      by_cases h2 : 18446744073709551616 ≤ acc * 10 + (c.toNat - 48)
      · have h3 : ¬ decVal (acc * 10 + (c.toNat - 48)) r < 18446744073709551616 := by omega
        rw [if_pos h2, if_neg h3]
      · have h3 : acc * 10 + (c.toNat - 48) < 18446744073709551616 := by omega
        rw [if_neg h2, ih _ ha.2 h3]

theorem atoi_dec (l : List UInt8) (h0 : l ≠ []) (ha : allDig l) : Lib.atoiAll l = if decVal 0 l < 9223372036854775808 then .ok (decVal 0 l : Int) else .range := by
  cases l with
  | nil => exact absurd rfl h0
  | cons c r =>
    have hc := (digitC_iff c).1 ha.1
    rw [Lib.atoiAll_plain c r (by omega) (by omega), Lib.parseMag, if_neg h0, parse_dec _ _ ha (by omega)]
    by_cases h1 : decVal 0 (c :: r) < 18446744073709551616
    · rw [if_pos h1]
      simp only [Lib.signless]
      by_cases h2 : decVal 0 (c :: r) < 9223372036854775808
      · rw [if_pos h2, if_neg (by omega)]
      · rw [if_neg h2, if_pos (by omega)]
    · rw [if_neg h1, if_neg (by omega)]
      rfl

theorem allDig_run : ∀ l : List UInt8, allDig (l.take (digRun l))
  | [] => by simp [allDig]
  | c :: r => by
    unfold digRun
    by_cases h : digitC c.toNat = true
    · rw [if_pos h, List.take_succ_cons]; exact ⟨h, allDig_run r⟩
    · rw [if_neg h]; simp [allDig]

theorem allDig_num (l : List UInt8) (h : ∀ c r, l = c :: r → digitC c.toNat = true) : allDig (l.take (numSz l)) := by
  cases l with
  | nil => simp [allDig]
  | cons c r =>
    have hc := h c r rfl
    by_cases hz : (c.toNat : Int) = 48
    · rw [numSz, if_pos hz, List.take_succ_cons]; exact ⟨hc, by simp [allDig]⟩
    · rw [numSz, if_neg hz, List.take_succ_cons]; exact ⟨hc, allDig_run r⟩

theorem numSz_pos (c : UInt8) (r : List UInt8) : 0 < numSz (c :: r) := by
  by_cases hz : (c.toNat : Int) = 48
  · rw [numSz, if_pos hz]; omega
  · rw [numSz, if_neg hz]; omega

/-- The token that a list of bytes begins with, but for its place; its size. -/
structure FTok where
  kind : Int
  text : List UInt8
  value : Int
  size : Nat

def noTok : FTok := ⟨0, [], 0, 0⟩

def headWord : List UInt8 → Bool
  | [] => false
  | c :: _ => wordC c.toNat

/-- The error (0: none), and the token. -/
def firstS (l : List UInt8) : Int × FTok :=
  match l with
  | [] => (1, noTok)
  | c :: _ =>
    if digitC c.toNat then
      if headWord (l.drop (numSz l)) then (1, noTok)
      else if decVal 0 (l.take (numSz l)) < 9223372036854775808 then (0, ⟨2, [], decVal 0 (l.take (numSz l)), numSz l⟩)
      else (3, noTok)
    else if letterC c.toNat then
      if nameSz l ≤ 16 then (0, ⟨1, l.take (nameSz l), 0, nameSz l⟩) else (5, noTok)
    else if signSz c.toNat (secondB l) = 0 then (1, noTok)
    else (0, ⟨3, l.take (signSz c.toNat (secondB l)).toNat, 0, (signSz c.toNat (secondB l)).toNat⟩)

end Go.Proofs.YtgkioompcmgmdaaDoor
