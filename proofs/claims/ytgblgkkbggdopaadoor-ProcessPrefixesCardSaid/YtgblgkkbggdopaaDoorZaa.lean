/-
  Texts of a walk, laid together by a program of the prover's own (merge.py). No conditions beyond those that each text names.
-/
import Derived.Test.YtgblgkkbggdopaaDoorRows
import Derived.WalkKit
import Derived.WalkSpells
import Derived.WalkLawsBesides
import Derived.Lib.AtoiAllCases
import Derived.Lib.IndexBytes
import Derived.Lib.SmallJoins
/-
  Plain mathematics of chapter 1, token: the tokens of a list of bytes, without any program. No conditions.
-/
namespace Go.Proofs.YtgblgkkbggdopaaDoor

def blankC (c : Int) : Bool := c == 9 || c == 10 || c == 13 || c == 32
def digitC (c : Int) : Bool := decide (48 ≤ c) && decide (c ≤ 57)
def letterC (c : Int) : Bool := (decide (97 ≤ c) && decide (c ≤ 122)) || (decide (65 ≤ c) && decide (c ≤ 90)) || c == 95
def wordC (c : Int) : Bool := letterC c || digitC c

/-- How many bytes of a word a list begins with. -/
def nameSz : List UInt8 → Nat
  | [] => 0
  | c :: r => if wordC c.toNat then nameSz r + 1 else 0

theorem nameSz_le : ∀ l, nameSz l ≤ l.length
  | [] => Nat.le_refl _
  | c :: r => by
    unfold nameSz
    split
    · have := nameSz_le r; simp; omega
    · simp

/-- How many digits a list begins with. -/
def digRun : List UInt8 → Nat
  | [] => 0
  | c :: r => if digitC c.toNat then digRun r + 1 else 0

theorem digRun_le : ∀ l, digRun l ≤ l.length
  | [] => Nat.le_refl _
  | c :: r => by
    unfold digRun
    split
    · have := digRun_le r; simp; omega
    · simp

/-- How many bytes the number takes that a list begins with: nothing but a 0 begins with a 0. -/
def numSz : List UInt8 → Nat
  | [] => 0
  | c :: r => if (c.toNat : Int) = 48 then 1 else digRun r + 1

theorem numSz_le : ∀ l, numSz l ≤ l.length
  | [] => Nat.le_refl _
  | c :: r => by
    have := digRun_le r
    by_cases h : (c.toNat : Int) = 48
    · rw [numSz, if_pos h, List.length_cons]; omega
    · rw [numSz, if_neg h, List.length_cons]; omega

/-- How many bytes the sign takes that begins with the bytes a and b (b is 0 where there is no second one); 0: none. -/
def signSz (a b : Int) : Int :=
  if a = 38 ∨ a = 124 then (if b = a then 2 else 0)
  else if a = 61 ∨ a = 33 ∨ a = 60 ∨ a = 62 then (if b = 61 then 2 else 1)
  else if a = 40 ∨ a = 41 ∨ a = 123 ∨ a = 125 ∨ a = 91 ∨ a = 93 ∨ a = 44 ∨ a = 59 ∨ a = 43 ∨ a = 45 ∨ a = 42 ∨ a = 47 ∨ a = 37 then 1 else 0

theorem signSz_bd (a b : Int) : 0 ≤ signSz a b ∧ signSz a b ≤ 2 := by
  unfold signSz
  constructor <;> (repeat' split) <;> omega

theorem signSz_two (a b : Int) (h : signSz a b = 2) : b ≠ 0 := by
  unfold signSz at h
  (repeat' split at h) <;> omega

/-- The second byte of a list, 0 where there is none. -/
def secondB (l : List UInt8) : Int := match l with
  | _ :: b :: _ => b.toNat
  | _ => 0

end Go.Proofs.YtgblgkkbggdopaaDoor

/-
  What the small functions of package token and of the document's answer on single bytes return. No conditions.
-/
namespace Go.Proofs.YtgblgkkbggdopaaDoor
open Go.RowKit

theorem ret_bool {a b : Bool} (h : a = b) : Ending.returned (.bool a) = .returned (.bool b) := by rw [h]

end Go.Proofs.YtgblgkkbggdopaaDoor

/-
  Plain mathematics of chapter 1, token: the values of numbers, and the token that a list of bytes begins with. No conditions.
-/
namespace Go.Proofs.YtgblgkkbggdopaaDoor
open Go

/-- The value of digits behind a value. -/
def decVal (acc : Nat) (l : List UInt8) : Nat := l.foldl (fun a c => a * 10 + (c.toNat - 48)) acc
theorem decVal_nil (acc : Nat) : decVal acc [] = acc := rfl
theorem decVal_cons (acc : Nat) (c : UInt8) (r : List UInt8) : decVal acc (c :: r) = decVal (acc * 10 + (c.toNat - 48)) r := by unfold decVal; rw [List.foldl_cons]

def allDig : List UInt8 → Prop
  | [] => True
  | c :: r => digitC c.toNat = true ∧ allDig r

theorem digitC_iff (c : UInt8) : digitC c.toNat = true ↔ 48 ≤ c.toNat ∧ c.toNat ≤ 57 := by
  simp [digitC]; omega

theorem decVal_ge : ∀ (l : List UInt8) (acc : Nat), acc ≤ decVal acc l
  | [], acc => Nat.le_refl _
  | c :: r, acc => by
    have := decVal_ge r (acc * 10 + (c.toNat - 48))
    rw [decVal_cons]; omega

theorem parse_dec (l : List UInt8) : ∀ (acc : Nat), allDig l → acc < 18446744073709551616 → Lib.parseUint10 acc l = if decVal acc l < 18446744073709551616 then .ok (decVal acc l) else .range := by
  induction l with
  | nil => intro acc _ h; rw [Lib.parseUint10, decVal_nil, if_pos h]
  | cons c r ih =>
    intro acc ha h
    have hc := (digitC_iff c).1 ha.1
    have hg := decVal_ge r (acc * 10 + (c.toNat - 48))
    rw [decVal_cons]
    simp only [Lib.parseUint10]
    rw [if_pos hc]
    by_cases h1 : 1844674407370955162 ≤ acc
    · have h3 : ¬ decVal (acc * 10 + (c.toNat - 48)) r < 18446744073709551616 := by omega
      rw [if_pos h1, if_neg h3]
    · rw [if_neg h1]
      by_cases h2 : 18446744073709551616 ≤ acc * 10 + (c.toNat - 48)
      · have h3 : ¬ decVal (acc * 10 + (c.toNat - 48)) r < 18446744073709551616 := by omega
        rw [if_pos h2, if_neg h3]
      · have h3 : acc * 10 + (c.toNat - 48) < 18446744073709551616 := by omega
        rw [if_neg h2, ih _ ha.2 h3]

theorem atoi_dec (l : List UInt8) (h0 : l ≠ []) (ha : allDig l) : Lib.atoiAll l = if decVal 0 l < 9223372036854775808 then .ok (decVal 0 l : Int) else .range := by
  cases l with
  | nil => exact absurd rfl h0
  | cons c r =>
    have hc := (digitC_iff c).1 ha.1
    rw [Lib.atoiAll_plain c r (by omega) (by omega), Lib.parseMag, if_neg h0, parse_dec _ _ ha (by omega)]
    by_cases h1 : decVal 0 (c :: r) < 18446744073709551616
    · rw [if_pos h1]
      simp only [Lib.signless]
      by_cases h2 : decVal 0 (c :: r) < 9223372036854775808
      · rw [if_pos h2, if_neg (by omega)]
      · rw [if_neg h2, if_pos (by omega)]
    · rw [if_neg h1, if_neg (by omega)]
      rfl

theorem allDig_run : ∀ l : List UInt8, allDig (l.take (digRun l))
  | [] => by simp [allDig]
  | c :: r => by
    unfold digRun
    by_cases h : digitC c.toNat = true
    · rw [if_pos h, List.take_succ_cons]; exact ⟨h, allDig_run r⟩
    · rw [if_neg h]; simp [allDig]

theorem allDig_num (l : List UInt8) (h : ∀ c r, l = c :: r → digitC c.toNat = true) : allDig (l.take (numSz l)) := by
  cases l with
  | nil => simp [allDig]
  | cons c r =>
    have hc := h c r rfl
    by_cases hz : (c.toNat : Int) = 48
    · rw [numSz, if_pos hz, List.take_succ_cons]; exact ⟨hc, by simp [allDig]⟩
    · rw [numSz, if_neg hz, List.take_succ_cons]; exact ⟨hc, allDig_run r⟩

theorem numSz_pos (c : UInt8) (r : List UInt8) : 0 < numSz (c :: r) := by
  by_cases hz : (c.toNat : Int) = 48
  · rw [numSz, if_pos hz]; omega
  · rw [numSz, if_neg hz]; omega

/-- The token that a list of bytes begins with, but for its place; its size. -/
structure FTok where
  kind : Int
  text : List UInt8
  value : Int
  size : Nat

def noTok : FTok := ⟨0, [], 0, 0⟩

def headWord : List UInt8 → Bool
  | [] => false
  | c :: _ => wordC c.toNat

/-- The error (0: none), and the token. -/
def firstS (l : List UInt8) : Int × FTok :=
  match l with
  | [] => (1, noTok)
  | c :: _ =>
    if digitC c.toNat then
      if headWord (l.drop (numSz l)) then (1, noTok)
      else if decVal 0 (l.take (numSz l)) < 9223372036854775808 then (0, ⟨2, [], decVal 0 (l.take (numSz l)), numSz l⟩)
      else (3, noTok)
    else if letterC c.toNat then
      if nameSz l ≤ 16 then (0, ⟨1, l.take (nameSz l), 0, nameSz l⟩) else (5, noTok)
    else if signSz c.toNat (secondB l) = 0 then (1, noTok)
    else (0, ⟨3, l.take (signSz c.toNat (secondB l)).toNat, 0, (signSz c.toNat (secondB l)).toNat⟩)

end Go.Proofs.YtgblgkkbggdopaaDoor

/-
  Plain mathematics of chapter 1, token: the tokens of a text, or the first error. No conditions.
-/
namespace Go.Proofs.YtgblgkkbggdopaaDoor

/-- A token with its place. -/
structure Tok where
  kind : Int
  text : List UInt8
  value : Int
  off : Nat

/-- What a scan gives: the tokens, 0 and 0, or none, the place of the error and the error. -/
structure ScanR where
  toks : List Tok
  off : Nat
  err : Int

/-- How many bytes there are up to the next line feed, or the end. -/
def comSz : List UInt8 → Nat
  | [] => 0
  | c :: r => if (c.toNat : Int) = 10 then 0 else comSz r + 1

theorem comSz_le : ∀ l, comSz l ≤ l.length
  | [] => Nat.le_refl _
  | c :: r => by
    have := comSz_le r
    by_cases h : (c.toNat : Int) = 10
    · rw [comSz, if_pos h]; omega
    · rw [comSz, if_neg h, List.length_cons]; omega

def consR (t : Tok) (r : ScanR) : ScanR := if r.err = 0 then ⟨t :: r.toks, r.off, r.err⟩ else r
def appR (acc : List Tok) (r : ScanR) : ScanR := if r.err = 0 then ⟨acc ++ r.toks, r.off, r.err⟩ else r

theorem appR_nil (r : ScanR) : appR [] r = r := by unfold appR; split <;> rfl
theorem appR_cons (acc : List Tok) (t : Tok) (r : ScanR) : appR acc (consR t r) = appR (acc ++ [t]) r := by
  unfold appR consR
  by_cases h : r.err = 0
  · rw [if_pos h, if_pos h, if_pos h, List.append_assoc]; rfl
  · rw [if_neg h, if_neg h, if_neg h]

def tokAt (f : FTok) (off : Nat) : Tok := ⟨f.kind, f.text, f.value, off⟩

def scanF : Nat → List UInt8 → Nat → ScanR
  | 0, _, _ => ⟨[], 0, 0⟩
  | _ + 1, [], _ => ⟨[], 0, 0⟩
  | f + 1, c :: r, k =>
    if blankC c.toNat then scanF f r (k + 1)
    else if (c.toNat : Int) = 35 then scanF f (r.drop (comSz r)) (k + 1 + comSz r)
    else if (firstS (c :: r)).1 = 0 then consR (tokAt (firstS (c :: r)).2 k) (scanF f ((c :: r).drop (firstS (c :: r)).2.size) (k + (firstS (c :: r)).2.size))
    else ⟨[], k, (firstS (c :: r)).1⟩

/-- What there is of a token that was found: its size. -/
theorem firstS_size (c : UInt8) (r : List UInt8) (h : (firstS (c :: r)).1 = 0) : 0 < (firstS (c :: r)).2.size ∧ (firstS (c :: r)).2.size ≤ (c :: r).length := by
  by_cases hd : digitC c.toNat = true
  · have e : firstS (c :: r) = if headWord ((c :: r).drop (numSz (c :: r))) then (1, noTok)
      else if decVal 0 ((c :: r).take (numSz (c :: r))) < 9223372036854775808 then (0, ⟨2, [], decVal 0 ((c :: r).take (numSz (c :: r))), numSz (c :: r)⟩)
      else (3, noTok) := by simp only [firstS, hd, if_true]
    rw [e] at h ⊢
    by_cases h1 : headWord ((c :: r).drop (numSz (c :: r))) = true
    · rw [if_pos h1] at h; cases h
    · rw [if_neg h1] at h ⊢
      by_cases h2 : decVal 0 ((c :: r).take (numSz (c :: r))) < 9223372036854775808
      · rw [if_pos h2]; exact ⟨numSz_pos c r, numSz_le (c :: r)⟩
      · rw [if_neg h2] at h; cases h
  · have hd' : digitC c.toNat = false := by simpa using hd
    by_cases hl : letterC c.toNat = true
    · have e : firstS (c :: r) = if nameSz (c :: r) ≤ 16 then (0, ⟨1, (c :: r).take (nameSz (c :: r)), 0, nameSz (c :: r)⟩) else (5, noTok) := by
        simp only [firstS, hd', hl, if_true]; rfl
      rw [e] at h ⊢
      by_cases h1 : nameSz (c :: r) ≤ 16
      · rw [if_pos h1]
        refine ⟨?_, nameSz_le (c :: r)⟩
        show 0 < nameSz (c :: r)
        have : wordC c.toNat = true := by unfold wordC; rw [hl]; rfl
        rw [nameSz, if_pos this]; omega
      · rw [if_neg h1] at h; cases h
    · have hl' : letterC c.toNat = false := by simpa using hl
      have e : firstS (c :: r) = if signSz c.toNat (secondB (c :: r)) = 0 then (1, noTok)
        else (0, ⟨3, (c :: r).take (signSz c.toNat (secondB (c :: r))).toNat, 0, (signSz c.toNat (secondB (c :: r))).toNat⟩) := by
        simp only [firstS, hd', hl']; rfl
      rw [e] at h ⊢
      have hb := signSz_bd c.toNat (secondB (c :: r))
      by_cases h1 : signSz c.toNat (secondB (c :: r)) = 0
      · rw [if_pos h1] at h; cases h
      · rw [if_neg h1]
        refine ⟨by show 0 < (signSz c.toNat (secondB (c :: r))).toNat; omega, ?_⟩
        show (signSz c.toNat (secondB (c :: r))).toNat ≤ _
        cases r with
        | nil =>
          have h2 := signSz_two c.toNat (secondB [c])
          have h3 : secondB [c] = 0 := rfl
          have h4 : ¬ signSz c.toNat (secondB [c]) = 2 := fun h => h2 h h3
          simp only [List.length_cons, List.length_nil]; omega
        | cons b r => simp only [List.length_cons]; omega

theorem scanF_same : ∀ (f g : Nat) (l : List UInt8) (k : Nat), l.length < f → l.length < g → scanF f l k = scanF g l k
  | 0, _, _, _, h, _ => absurd h (Nat.not_lt_zero _)
  | _, 0, _, _, _, h => absurd h (Nat.not_lt_zero _)
  | f + 1, g + 1, [], k, _, _ => rfl
  | f + 1, g + 1, c :: r, k, hf, hg => by
    simp only [List.length_cons] at hf hg
    rw [scanF, scanF]
    by_cases h1 : blankC c.toNat = true
    · rw [if_pos h1, if_pos h1]; exact scanF_same f g r _ (by omega) (by omega)
    · rw [if_neg h1, if_neg h1]
      by_cases h2 : (c.toNat : Int) = 35
      · rw [if_pos h2, if_pos h2]
        exact scanF_same f g _ _ (by rw [List.length_drop]; omega) (by rw [List.length_drop]; omega)
      · rw [if_neg h2, if_neg h2]
        by_cases h3 : (firstS (c :: r)).1 = 0
        · rw [if_pos h3, if_pos h3]
          have hs := firstS_size c r h3
          simp only [List.length_cons] at hs
          rw [scanF_same f g _ _ (by rw [List.length_drop, List.length_cons]; omega) (by rw [List.length_drop, List.length_cons]; omega)]
        · rw [if_neg h3, if_neg h3]

/-- What a scan of a list that lies at the place k gives. -/
def scanL (l : List UInt8) (k : Nat) : ScanR := scanF (l.length + 1) l k

theorem scanL_nil (k : Nat) : scanL [] k = ⟨[], 0, 0⟩ := rfl
theorem scanL_blank {l r : List UInt8} {c : UInt8} (k : Nat) (e : l = c :: r) (h : blankC c.toNat = true) : scanL l k = scanL r (k + 1) := by
  subst e
  unfold scanL
  rw [scanF, if_pos h]; rfl
theorem scanL_com {l r : List UInt8} {c : UInt8} (k : Nat) (e : l = c :: r) (h : blankC c.toNat = false) (h2 : (c.toNat : Int) = 35) : scanL l k = scanL (l.drop (comSz l)) (k + comSz l) := by
  subst e
  have hc : comSz (c :: r) = comSz r + 1 := by rw [comSz, if_neg (by omega)]
  have hl := comSz_le r
  rw [hc, List.drop_succ_cons]
  unfold scanL
  rw [scanF, if_neg (by simp [h]), if_pos h2, show k + 1 + comSz r = k + (comSz r + 1) by omega]
  exact scanF_same _ _ _ _ (by rw [List.length_drop, List.length_cons]; omega) (by omega)
theorem scanL_tok {l r : List UInt8} {c : UInt8} (k : Nat) (e : l = c :: r) (h : blankC c.toNat = false) (h2 : (c.toNat : Int) ≠ 35) (h3 : (firstS l).1 = 0) :
    scanL l k = consR (tokAt (firstS l).2 k) (scanL (l.drop (firstS l).2.size) (k + (firstS l).2.size)) := by
  subst e
  have hs := firstS_size c r h3
  simp only [List.length_cons] at hs
  unfold scanL
  rw [scanF, if_neg (by simp [h]), if_neg h2, if_pos h3]
  rw [scanF_same (c :: r).length _ _ _ (by rw [List.length_drop, List.length_cons]; omega) (Nat.lt_succ_self _)]
theorem scanL_err {l r : List UInt8} {c : UInt8} (k : Nat) (e : l = c :: r) (h : blankC c.toNat = false) (h2 : (c.toNat : Int) ≠ 35) (h3 : (firstS l).1 ≠ 0) :
    scanL l k = ⟨[], k, (firstS l).1⟩ := by
  subst e
  unfold scanL
  rw [scanF, if_neg (by simp [h]), if_neg h2, if_neg h3]

/-- P1.2: what Scan gives. -/
def scanS (l : List UInt8) : ScanR := if 4096 < l.length then ⟨[], 0, 5⟩ else scanL l 0

theorem consR_len (t : Tok) (r : ScanR) : (consR t r).toks.length ≤ r.toks.length + 1 := by
  unfold consR
  split
  · exact Nat.le_refl _
  · exact Nat.le_succ _

theorem scanF_len : ∀ (f : Nat) (l : List UInt8) (k : Nat), (scanF f l k).toks.length ≤ l.length
  | 0, _, _ => Nat.zero_le _
  | f + 1, [], _ => Nat.le_refl _
  | f + 1, c :: r, k => by
    rw [scanF, List.length_cons]
    by_cases h1 : blankC c.toNat = true
    · rw [if_pos h1]; have := scanF_len f r (k + 1); omega
    · rw [if_neg h1]
      by_cases h2 : (c.toNat : Int) = 35
      · rw [if_pos h2]
        have := scanF_len f (r.drop (comSz r)) (k + 1 + comSz r)
        rw [List.length_drop] at this; omega
      · rw [if_neg h2]
        by_cases h3 : (firstS (c :: r)).1 = 0
        · rw [if_pos h3]
          have hs := firstS_size c r h3
          simp only [List.length_cons] at hs
          have h4 := scanF_len f ((c :: r).drop (firstS (c :: r)).2.size) (k + (firstS (c :: r)).2.size)
          rw [List.length_drop, List.length_cons] at h4
          have h5 := consR_len (tokAt (firstS (c :: r)).2 k) (scanF f ((c :: r).drop (firstS (c :: r)).2.size) (k + (firstS (c :: r)).2.size))
          omega
        · rw [if_neg h3]; exact Nat.zero_le _

theorem scanS_len (l : List UInt8) : (scanS l).toks.length ≤ 4096 ∧ (scanS l).toks.length ≤ l.length := by
  unfold scanS
  by_cases h : 4096 < l.length
  · rw [if_pos h]; exact ⟨Nat.zero_le _, Nat.zero_le _⟩
  · rw [if_neg h]
    have := scanF_len (l.length + 1) l 0
    exact ⟨Nat.le_trans this (by omega), this⟩

end Go.Proofs.YtgblgkkbggdopaaDoor

/-
  How tokens lie in memory. No conditions.
-/
namespace Go.Proofs.YtgblgkkbggdopaaDoor
open Go.RowKit

abbrev tokV (kind : Int) (text : ByteArray) (value off : Int) : Value := .agg #[.int .i64 kind, .string text, .int .i64 value, .int .i64 off]
def strB (l : List UInt8) : ByteArray := ⟨l.toArray⟩
theorem strB_take (s : ByteArray) (n : Nat) : s.extract 0 n = strB (s.data.toList.take n) := by rw [Lib.extract_eq]; rfl
theorem strB_drop (s : ByteArray) (a b : Nat) : s.extract a b = strB ((s.data.toList.drop a).take (b - a)) := Lib.extract_eq s a b
/-- The four cells of a token. -/
def TokAt (w : World) (b o : Nat) (t : Tok) : Prop :=
  w.cell? ⟨b, o, none⟩ = some (.int .i64 t.kind) ∧ w.cell? ⟨b, o + 1, none⟩ = some (.string (strB t.text)) ∧ w.cell? ⟨b, o + 2, none⟩ = some (.int .i64 t.value) ∧ w.cell? ⟨b, o + 3, none⟩ = some (.int .i64 t.off)

/-- A slice of tokens reads as a list. -/
def TokSlice (w : World) (v : Value) (ts : List Tok) : Prop :=
  ∃ A c, v = .slice A ts.length c ∧ ts.length ≤ c ∧ (ts ≠ [] → ∃ b o, A = some ⟨b, o, none⟩ ∧ ∀ (i : Nat) (t : Tok), ts[i]? = some t → TokAt w b (o + i * 4) t)

theorem TokSlice.below {w w' : World} {v : Value} {ts : List Tok} (h : TokSlice w v ts) (hb : Below w.heap.size w w') : TokSlice w' v ts := by
  obtain ⟨A, c, hv, hc, h1⟩ := h
  refine ⟨A, c, hv, hc, fun hne => ?_⟩
  obtain ⟨b, o, hA, h2⟩ := h1 hne
  refine ⟨b, o, hA, fun i t hi => ?_⟩
  obtain ⟨e0, e1, e2, e3⟩ := h2 i t hi
  have hlt : b < w.heap.size := World.block_lt_of_cell? w _ e0
  exact ⟨(hb.cell (p := ⟨b, _, none⟩) hlt).trans e0, (hb.cell (p := ⟨b, _, none⟩) hlt).trans e1, (hb.cell (p := ⟨b, _, none⟩) hlt).trans e2, (hb.cell (p := ⟨b, _, none⟩) hlt).trans e3⟩

end Go.Proofs.YtgblgkkbggdopaaDoor

/-
  Plain mathematics of chapter 1, token: reserved words and valid names. No conditions.
-/
namespace Go.Proofs.YtgblgkkbggdopaaDoor

/-- The reserved words. -/
def resWords : List (List UInt8) := [[118, 97, 114], [97, 114, 114, 97, 121], [111, 110], [115, 116, 97, 114, 116], [109, 101, 115, 115, 97, 103, 101], [116, 105, 99, 107], [105, 110, 112, 117, 116], [105, 102], [101, 108, 115, 101], [119, 104, 105, 108, 101], [115, 101, 110, 100], [111, 117, 116, 112, 117, 116], [115, 101, 108, 102], [112, 114, 111, 99, 115], [102, 114, 111, 109], [118, 97, 108, 117, 101]]
def resB (l : List UInt8) : Bool := resWords.contains l

/-- P1.4: which texts are valid names. -/
def validS (l : List UInt8) : Bool := match l with
  | [] => false
  | c :: _ => decide (l.length ≤ 16) && letterC c.toNat && decide (nameSz l = l.length) && !resB l

theorem validS_cons {l r : List UInt8} {c : UInt8} (e : l = c :: r) : validS l = (decide (l.length ≤ 16) && letterC c.toNat && decide (nameSz l = l.length) && !resB l) := by subst e; rfl

end Go.Proofs.YtgblgkkbggdopaaDoor
