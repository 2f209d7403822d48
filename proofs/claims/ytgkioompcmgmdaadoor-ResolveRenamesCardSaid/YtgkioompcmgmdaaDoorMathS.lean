/-
  Plain mathematics of chapter 1, token: the tokens of a text, or the first error. No conditions.
-/
import Derived.Test.YtgkioompcmgmdaaDoorMathN
namespace Go.Proofs.YtgkioompcmgmdaaDoor

/-- A token with its place. -/
structure Tok where
  kind : Int
  text : List UInt8
  value : Int
  off : Nat

/-- What a scan gives: the tokens, 0 and 0, or none, the place of the error and the error. -/
structure ScanR where
  toks : List Tok
  off : Nat
  err : Int

/-- How many bytes there are up to the next line feed, or the end. -/
def comSz : List UInt8 → Nat
  | [] => 0
  | c :: r => if (c.toNat : Int) = 10 then 0 else comSz r + 1

theorem comSz_le : ∀ l, comSz l ≤ l.length
  | [] => Nat.le_refl _
  | c :: r => by
    have := comSz_le r
    by_cases h : (c.toNat : Int) = 10
    · rw [comSz, if_pos h]; omega
    · rw [comSz, if_neg h, List.length_cons]; omega

def consR (t : Tok) (r : ScanR) : ScanR := if r.err = 0 then ⟨t :: r.toks, r.off, r.err⟩ else r
def appR (acc : List Tok) (r : ScanR) : ScanR := if r.err = 0 then ⟨acc ++ r.toks, r.off, r.err⟩ else r

theorem appR_nil (r : ScanR) : appR [] r = r := by unfold appR; split <;> rfl
theorem appR_cons (acc : List Tok) (t : Tok) (r : ScanR) : appR acc (consR t r) = appR (acc ++ [t]) r := by
  unfold appR consR
  by_cases h : r.err = 0
  · rw [if_pos h, if_pos h, if_pos h, List.append_assoc]; rfl
  · rw [if_neg h, if_neg h, if_neg h]

def tokAt (f : FTok) (off : Nat) : Tok := ⟨f.kind, f.text, f.value, off⟩

def scanF : Nat → List UInt8 → Nat → ScanR
  | 0, _, _ => ⟨[], 0, 0⟩
  | _ + 1, [], _ => ⟨[], 0, 0⟩
  | f + 1, c :: r, k =>
    if blankC c.toNat then scanF f r (k + 1)
    else if (c.toNat : Int) = 35 then scanF f (r.drop (comSz r)) (k + 1 + comSz r)
    else if (firstS (c :: r)).1 = 0 then consR (tokAt (firstS (c :: r)).2 k) (scanF f ((c :: r).drop (firstS (c :: r)).2.size) (k + (firstS (c :: r)).2.size))
    else ⟨[], k, (firstS (c :: r)).1⟩

/-- What there is of a token that was found: its size. -/
theorem firstS_size (c : UInt8) (r : List UInt8) (h : (firstS (c :: r)).1 = 0) : 0 < (firstS (c :: r)).2.size ∧ (firstS (c :: r)).2.size ≤ (c :: r).length := by
  by_cases hd : digitC c.toNat = true
  · have e : firstS (c :: r) = if headWord ((c :: r).drop (numSz (c :: r))) then (1, noTok)
      else if decVal 0 ((c :: r).take (numSz (c :: r))) < 9223372036854775808 then (0, ⟨2, [], decVal 0 ((c :: r).take (numSz (c :: r))), numSz (c :: r)⟩)
      else (3, noTok) := by simp only [firstS, hd, if_true]
    rw [e] at h ⊢
    by_cases h1 : headWord ((c :: r).drop (numSz (c :: r))) = true
    · rw [if_pos h1] at h; cases h
    · rw [if_neg h1] at h ⊢
      by_cases h2 : decVal 0 ((c :: r).take (numSz (c :: r))) < 9223372036854775808
      · rw [if_pos h2]; exact ⟨numSz_pos c r, numSz_le (c :: r)⟩
      · rw [if_neg h2] at h; cases h
  · have hd' : digitC c.toNat = false := by simpa using hd
    by_cases hl : letterC c.toNat = true
    · have e : firstS (c :: r) = if nameSz (c :: r) ≤ 16 then (0, ⟨1, (c :: r).take (nameSz (c :: r)), 0, nameSz (c :: r)⟩) else (5, noTok) := by
        simp only [firstS, hd', hl, if_true]; rfl
      rw [e] at h ⊢
      by_cases h1 : nameSz (c :: r) ≤ 16
      · rw [if_pos h1]
        refine ⟨?_, nameSz_le (c :: r)⟩
        show 0 < nameSz (c :: r)
        have : wordC c.toNat = true := by unfold wordC; rw [hl]; rfl
        rw [nameSz, if_pos this]; omega
      · rw [if_neg h1] at h; cases h
    · have hl' : letterC c.toNat = false := by simpa using hl
      have e : firstS (c :: r) = if signSz c.toNat (secondB (c :: r)) = 0 then (1, noTok)
        else (0, ⟨3, (c :: r).take (signSz c.toNat (secondB (c :: r))).toNat, 0, (signSz c.toNat (secondB (c :: r))).toNat⟩) := by
        simp only [firstS, hd', hl']; rfl
      rw [e] at h ⊢
      have hb := signSz_bd c.toNat (secondB (c :: r))
      by_cases h1 : signSz c.toNat (secondB (c :: r)) = 0
      · rw [if_pos h1] at h; cases h
      · rw [if_neg h1]
        refine ⟨by show 0 < (signSz c.toNat (secondB (c :: r))).toNat; omega, ?_⟩
        show (signSz c.toNat (secondB (c :: r))).toNat ≤ _
        cases r with
        | nil =>
          have h2 := signSz_two c.toNat (secondB [c])
          have h3 : secondB [c] = 0 := rfl
          have h4 : ¬ signSz c.toNat (secondB [c]) = 2 := fun h => h2 h h3
          simp only [List.length_cons, List.length_nil]; omega
        | cons b r => simp only [List.length_cons]; omega

theorem scanF_same : ∀ (f g : Nat) (l : List UInt8) (k : Nat), l.length < f → l.length < g → scanF f l k = scanF g l k
  | 0, _, _, _, h, _ => absurd h (Nat.not_lt_zero _)
  | _, 0, _, _, _, h => absurd h (Nat.not_lt_zero _)
  | f + 1, g + 1, [], k, _, _ => rfl
  | f + 1, g + 1, c :: r, k, hf, hg => by
    simp only [List.length_cons] at hf hg
    rw [scanF, scanF]
    by_cases h1 : blankC c.toNat = true
    · rw [if_pos h1, if_pos h1]; exact scanF_same f g r _ (by omega) (by omega)
    · rw [if_neg h1, if_neg h1]
      by_cases h2 : (c.toNat : Int) = 35
      · rw [if_pos h2, if_pos h2]
        exact scanF_same f g _ _ (by rw [List.length_drop]; omega) (by rw [List.length_drop]; omega)
      · rw [if_neg h2, if_neg h2]
        by_cases h3 : (firstS (c :: r)).1 = 0
        · rw [if_pos h3, if_pos h3]
          have hs := firstS_size c r h3
          simp only [List.length_cons] at hs
          rw [scanF_same f g _ _ (by rw [List.length_drop, List.length_cons]; omega) (by rw [List.length_drop, List.length_cons]; omega)]
        · rw [if_neg h3, if_neg h3]

/-- What a scan of a list that lies at the place k gives. -/
def scanL (l : List UInt8) (k : Nat) : ScanR := scanF (l.length + 1) l k

theorem scanL_nil (k : Nat) : scanL [] k = ⟨[], 0, 0⟩ := rfl
theorem scanL_blank {l r : List UInt8} {c : UInt8} (k : Nat) (e : l = c :: r) (h : blankC c.toNat = true) : scanL l k = scanL r (k + 1) := by
  subst e
  unfold scanL
  rw [scanF, if_pos h]; rfl
theorem scanL_com {l r : List UInt8} {c : UInt8} (k : Nat) (e : l = c :: r) (h : blankC c.toNat = false) (h2 : (c.toNat : Int) = 35) : scanL l k = scanL (l.drop (comSz l)) (k + comSz l) := by
  subst e
  have hc : comSz (c :: r) = comSz r + 1 := by rw [comSz, if_neg (by omega)]
  have hl := comSz_le r
  rw [hc, List.drop_succ_cons]
  unfold scanL
  rw [scanF, if_neg (by simp [h]), if_pos h2, show k + 1 + comSz r = k + (comSz r + 1) by omega]
  exact scanF_same _ _ _ _ (by rw [List.length_drop, List.length_cons]; omega) (by omega)
theorem scanL_tok {l r : List UInt8} {c : UInt8} (k : Nat) (e : l = c :: r) (h : blankC c.toNat = false) (h2 : (c.toNat : Int) ≠ 35) (h3 : (firstS l).1 = 0) :
    scanL l k = consR (tokAt (firstS l).2 k) (scanL (l.drop (firstS l).2.size) (k + (firstS l).2.size)) := by
  subst e
  have hs := firstS_size c r h3
  simp only [List.length_cons] at hs
  unfold scanL
  rw [scanF, if_neg (by simp [h]), if_neg h2, if_pos h3]
  rw [scanF_same (c :: r).length _ _ _ (by rw [List.length_drop, List.length_cons]; omega) (Nat.lt_succ_self _)]
theorem scanL_err {l r : List UInt8} {c : UInt8} (k : Nat) (e : l = c :: r) (h : blankC c.toNat = false) (h2 : (c.toNat : Int) ≠ 35) (h3 : (firstS l).1 ≠ 0) :
    scanL l k = ⟨[], k, (firstS l).1⟩ := by
  subst e
  unfold scanL
  rw [scanF, if_neg (by simp [h]), if_neg h2, if_neg h3]

/-- P1.2: what Scan gives. -/
def scanS (l : List UInt8) : ScanR := if 4096 < l.length then ⟨[], 0, 5⟩ else scanL l 0

theorem consR_len (t : Tok) (r : ScanR) : (consR t r).toks.length ≤ r.toks.length + 1 := by
  unfold consR
  split
  · exact Nat.le_refl _
  · exact Nat.le_succ _

theorem scanF_len : ∀ (f : Nat) (l : List UInt8) (k : Nat), (scanF f l k).toks.length ≤ l.length
  | 0, _, _ => Nat.zero_le _
  | f + 1, [], _ => Nat.le_refl _
  | f + 1, c :: r, k => by
    rw [scanF, List.length_cons]
    by_cases h1 : blankC c.toNat = true
    · rw [if_pos h1]; have := scanF_len f r (k + 1); omega
    · rw [if_neg h1]
      by_cases h2 : (c.toNat : Int) = 35
      · rw [if_pos h2]
        have := scanF_len f (r.drop (comSz r)) (k + 1 + comSz r)
        rw [List.length_drop] at this; omega
      · rw [if_neg h2]
        by_cases h3 : (firstS (c :: r)).1 = 0
        · rw [if_pos h3]
          have hs := firstS_size c r h3
          simp only [List.length_cons] at hs
          have h4 := scanF_len f ((c :: r).drop (firstS (c :: r)).2.size) (k + (firstS (c :: r)).2.size)
          rw [List.length_drop, List.length_cons] at h4
          have h5 := consR_len (tokAt (firstS (c :: r)).2 k) (scanF f ((c :: r).drop (firstS (c :: r)).2.size) (k + (firstS (c :: r)).2.size))
          omega
        · rw [if_neg h3]; exact Nat.zero_le _

theorem scanS_len (l : List UInt8) : (scanS l).toks.length ≤ 4096 ∧ (scanS l).toks.length ≤ l.length := by
  unfold scanS
  by_cases h : 4096 < l.length
  · rw [if_pos h]; exact ⟨Nat.zero_le _, Nat.zero_le _⟩
  · rw [if_neg h]
    have := scanF_len (l.length + 1) l 0
    exact ⟨Nat.le_trans this (by omega), this⟩

end Go.Proofs.YtgkioompcmgmdaaDoor
