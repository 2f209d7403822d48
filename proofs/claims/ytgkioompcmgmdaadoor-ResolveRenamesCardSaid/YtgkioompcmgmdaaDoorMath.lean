/-
  Plain mathematics of chapter 1, token: the tokens of a list of bytes, without any program. No conditions.
-/
namespace Go.Proofs.YtgkioompcmgmdaaDoor

def blankC (c : Int) : Bool := c == 9 || c == 10 || c == 13 || c == 32
def digitC (c : Int) : Bool := decide (48 ≤ c) && decide (c ≤ 57)
def letterC (c : Int) : Bool := (decide (97 ≤ c) && decide (c ≤ 122)) || (decide (65 ≤ c) && decide (c ≤ 90)) || c == 95
def wordC (c : Int) : Bool := letterC c || digitC c

/-- How many bytes of a word a list begins with. -/
def nameSz : List UInt8 → Nat
  | [] => 0
  | c :: r => if wordC c.toNat then nameSz r + 1 else 0

theorem nameSz_le : ∀ l, nameSz l ≤ l.length
  | [] => Nat.le_refl _
  | c :: r => by
    unfold nameSz
    split
    · have := nameSz_le r; simp; omega
    · simp

/-- How many digits a list begins with. -/
def digRun : List UInt8 → Nat
  | [] => 0
  | c :: r => if digitC c.toNat then digRun r + 1 else 0

theorem digRun_le : ∀ l, digRun l ≤ l.length
  | [] => Nat.le_refl _
  | c :: r => by
    unfold digRun
    split
    · have := digRun_le r; simp; omega
    · simp

/-- How many bytes the number takes that a list begins with: nothing but a 0 begins with a 0. -/
def numSz : List UInt8 → Nat
  | [] => 0
  | c :: r => if (c.toNat : Int) = 48 then 1 else digRun r + 1

theorem numSz_le : ∀ l, numSz l ≤ l.length
  | [] => Nat.le_refl _
  | c :: r => by
    have := digRun_le r
    by_cases h : (c.toNat : Int) = 48
    · rw [numSz, if_pos h, List.length_cons]; omega
    · rw [numSz, if_neg h, List.length_cons]; omega

/-- How many bytes the sign takes that begins with the bytes a and b (b is 0 where there is no second one); 0: none. -/
def signSz (a b : Int) : Int :=
  if a = 38 ∨ a = 124 then (if b = a then 2 else 0)
  else if a = 61 ∨ a = 33 ∨ a = 60 ∨ a = 62 then (if b = 61 then 2 else 1)
  else if a = 40 ∨ a = 41 ∨ a = 123 ∨ a = 125 ∨ a = 91 ∨ a = 93 ∨ a = 44 ∨ a = 59 ∨ a = 43 ∨ a = 45 ∨ a = 42 ∨ a = 47 ∨ a = 37 then 1 else 0

theorem signSz_bd (a b : Int) : 0 ≤ signSz a b ∧ signSz a b ≤ 2 := by
  unfold signSz
  constructor <;> (repeat' split) <;> omega

theorem signSz_two (a b : Int) (h : signSz a b = 2) : b ≠ 0 := by
  unfold signSz at h
  (repeat' split at h) <;> omega

/-- The second byte of a list, 0 where there is none. -/
def secondB (l : List UInt8) : Int := match l with
  | _ :: b :: _ => b.toNat
  | _ => 0

end Go.Proofs.YtgkioompcmgmdaaDoor
