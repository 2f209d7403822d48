/-
  Plain mathematics of chapter 1, token: the decimal digits of a number, as a text that is scanned. No conditions.
-/
import Derived.Test.YtaenmaokieomgaaDoorMathS
import Derived.Lib.ItoaNum
namespace Go.Proofs.YtaenmaokieomgaaDoor
open Go

theorem decVal_append (acc : Nat) (a b : List UInt8) : decVal acc (a ++ b) = decVal (decVal acc a) b := by unfold decVal; rw [List.foldl_append]

theorem allDig_append : ∀ (a b : List UInt8), allDig a → allDig b → allDig (a ++ b)
  | [], _, _, hb => hb
  | _ :: r, b, ha, hb => ⟨ha.1, allDig_append r b ha.2 hb⟩

theorem digit_of (d : Nat) (h : d < 10) : (UInt8.ofNat (48 + d)).toNat = 48 + d := by simp; omega
theorem digit_dig (d : Nat) (h : d < 10) : digitC (UInt8.ofNat (48 + d)).toNat = true := (digitC_iff _).2 (by rw [digit_of d h]; omega)

theorem dec_facts : ∀ (m : Nat), allDig (Lib.decDigits m) ∧ Lib.decDigits m ≠ [] ∧ (0 < m → ∀ c r, Lib.decDigits m = c :: r → (c.toNat : Int) ≠ 48) ∧ decVal 0 (Lib.decDigits m) = m := by
  intro m
  induction m using Nat.strongRecOn with
  | _ m ih =>
    by_cases h : m < 10
    · rw [Lib.decDigits_one h]
      refine ⟨⟨digit_dig m h, trivial⟩, by simp, ?_, ?_⟩
      · intro hm c r e
        injection e with e1 _
        rw [← e1, digit_of m h]
        omega
      · rw [decVal_cons, decVal_nil, digit_of m h]; omega
    · obtain ⟨h1, h2, h3, h4⟩ := ih (m / 10) (by omega)
      rw [Lib.decDigits, dif_neg h]
      have hd : m % 10 < 10 := by omega
      refine ⟨allDig_append _ _ h1 ⟨digit_dig _ hd, trivial⟩, by simp, ?_, ?_⟩
      · intro _ c r e
        cases hD : Lib.decDigits (m / 10) with
        | nil => exact absurd hD h2
        | cons c' r' =>
          rw [hD] at e
          injection e with e1 _
          rw [← e1]
          exact h3 (by omega) c' r' hD
      · rw [decVal_append, h4, decVal_cons, decVal_nil, digit_of _ hd]; omega

theorem headDig {l : List UInt8} (h : allDig l) (hne : l ≠ []) : ∃ c r, l = c :: r ∧ digitC c.toNat = true := by
  cases l with
  | nil => exact absurd rfl hne
  | cons c r => exact ⟨c, r, rfl, h.1⟩

def notDig : List UInt8 → Prop
  | [] => True
  | c :: _ => digitC c.toNat = false

theorem digRun_all : ∀ (a b : List UInt8), allDig a → notDig b → digRun (a ++ b) = a.length
  | [], [], _, _ => rfl
  | [], c :: r, _, h => by rw [List.nil_append, digRun, if_neg (by simpa [notDig] using h)]; rfl
  | c :: r, b, ha, hb => by rw [List.cons_append, digRun, if_pos ha.1, digRun_all r b ha.2 hb, List.length_cons]

theorem numSz_dec (m : Nat) (b : List UInt8) (hb : notDig b) : numSz (Lib.decDigits m ++ b) = (Lib.decDigits m).length := by
  obtain ⟨h1, h2, h3, _⟩ := dec_facts m
  by_cases hm : m = 0
  · subst hm
    rw [Lib.decDigits_one (by omega)]
    rfl
  · cases hD : Lib.decDigits m with
    | nil => exact absurd hD h2
    | cons c r =>
      rw [hD] at h1
      rw [List.cons_append, numSz, if_neg (h3 (by omega) c r hD), digRun_all r b h1.2 hb, List.length_cons]

theorem digit_noblank {c : Int} (h : digitC c = true) : blankC c = false ∧ c ≠ 35 ∧ wordC c = true := by
  have hw : wordC c = true := by unfold wordC; rw [h]; exact Bool.or_true _
  unfold digitC at h
  simp at h
  refine ⟨?_, by omega, hw⟩
  unfold blankC
  simp
  omega

/-- The first token of a number that is followed by no word byte. -/
theorem first_dec (m : Nat) (hm : m < 9223372036854775808) (b : List UInt8) (hb : notDig b) (hw : headWord b = false) : firstS (Lib.decDigits m ++ b) = (0, ⟨2, [], m, (Lib.decDigits m).length⟩) := by
  obtain ⟨h1, h2, _, h4⟩ := dec_facts m
  obtain ⟨c, r, e, hc⟩ := headDig h1 h2
  have hn := numSz_dec m b hb
  have e2 : Lib.decDigits m ++ b = c :: (r ++ b) := by rw [e]; rfl
  have e1 : firstS (Lib.decDigits m ++ b) = if headWord ((Lib.decDigits m ++ b).drop (numSz (Lib.decDigits m ++ b))) then (1, noTok)
      else if decVal 0 ((Lib.decDigits m ++ b).take (numSz (Lib.decDigits m ++ b))) < 9223372036854775808 then (0, ⟨2, [], decVal 0 ((Lib.decDigits m ++ b).take (numSz (Lib.decDigits m ++ b))), numSz (Lib.decDigits m ++ b)⟩)
      else (3, noTok) := by
    rw [e2]; simp only [firstS, hc, if_true]
  rw [e1, hn, List.drop_left, List.take_left, h4, hw, if_neg (by simp), if_pos hm]

/-- .. and of one that is. -/
theorem first_bad (m : Nat) (b : List UInt8) (hb : notDig b) (hw : headWord b = true) : firstS (Lib.decDigits m ++ b) = (1, noTok) := by
  obtain ⟨h1, h2, _, h4⟩ := dec_facts m
  obtain ⟨c, r, e, hc⟩ := headDig h1 h2
  have hn := numSz_dec m b hb
  have e2 : Lib.decDigits m ++ b = c :: (r ++ b) := by rw [e]; rfl
  have e1 : firstS (Lib.decDigits m ++ b) = if headWord ((Lib.decDigits m ++ b).drop (numSz (Lib.decDigits m ++ b))) then (1, noTok)
      else if decVal 0 ((Lib.decDigits m ++ b).take (numSz (Lib.decDigits m ++ b))) < 9223372036854775808 then (0, ⟨2, [], decVal 0 ((Lib.decDigits m ++ b).take (numSz (Lib.decDigits m ++ b))), numSz (Lib.decDigits m ++ b)⟩)
      else (3, noTok) := by
    rw [e2]; simp only [firstS, hc, if_true]
  rw [e1, hn, List.drop_left, hw]
  rfl

theorem scan_dec (m : Nat) (hm : m < 9223372036854775808) (hl : (Lib.decDigits m).length ≤ 4096) : scanS (Lib.decDigits m) = ⟨[⟨2, [], m, 0⟩], 0, 0⟩ := by
  obtain ⟨h1, h2, _, _⟩ := dec_facts m
  obtain ⟨c, r, e, hc⟩ := headDig h1 h2
  have hf := first_dec m hm [] trivial rfl
  rw [List.append_nil] at hf
  unfold scanS
  rw [if_neg (by omega), scanL_tok 0 e (digit_noblank hc).1 (digit_noblank hc).2.1 (by rw [hf]), hf]
  simp only [List.drop_length, scanL_nil]
  rfl

theorem scan_bad (m : Nat) (b : List UInt8) (hb : notDig b) (hw : headWord b = true) (hl : (Lib.decDigits m).length + b.length ≤ 4000) : scanS (32 :: (Lib.decDigits m ++ b)) = ⟨[], 1, 1⟩ := by
  obtain ⟨h1, h2, _, _⟩ := dec_facts m
  obtain ⟨c, r, e, hc⟩ := headDig h1 h2
  have hf := first_bad m b hb hw
  have e2 : Lib.decDigits m ++ b = c :: (r ++ b) := by rw [e]; rfl
  unfold scanS
  rw [if_neg (by rw [List.length_cons, List.length_append]; omega), scanL_blank 0 rfl rfl, scanL_err 1 e2 (digit_noblank hc).1 (digit_noblank hc).2.1 (by rw [hf]; decide), hf]

theorem scan_zero (m : Nat) (hl : (Lib.decDigits m).length ≤ 4000) : scanS (48 :: Lib.decDigits m) = ⟨[], 0, 1⟩ := by
  obtain ⟨h1, h2, _, _⟩ := dec_facts m
  obtain ⟨c, r, e, hc⟩ := headDig h1 h2
  have hf : firstS (48 :: Lib.decDigits m) = (1, noTok) := by
    have hd : digitC ((48 : UInt8).toNat : Int) = true := rfl
    have hn : numSz (48 :: Lib.decDigits m) = 1 := rfl
    have e1 : firstS (48 :: Lib.decDigits m) = if headWord ((48 :: Lib.decDigits m).drop (numSz (48 :: Lib.decDigits m))) then (1, noTok)
      else if decVal 0 ((48 :: Lib.decDigits m).take (numSz (48 :: Lib.decDigits m))) < 9223372036854775808 then (0, ⟨2, [], decVal 0 ((48 :: Lib.decDigits m).take (numSz (48 :: Lib.decDigits m))), numSz (48 :: Lib.decDigits m)⟩)
      else (3, noTok) := by simp only [firstS, hd, if_true]
    rw [e1, hn, List.drop_succ_cons, List.drop_zero, e]
    have : headWord (c :: r) = true := (digit_noblank hc).2.2
    rw [this]; rfl
  unfold scanS
  rw [if_neg (by rw [List.length_cons]; omega), scanL_err 0 rfl rfl (by decide) (by rw [hf]; decide), hf]

theorem scan_great : (scanS [57, 50, 50, 51, 51, 55, 50, 48, 51, 54, 56, 53, 52, 55, 55, 53, 56, 48, 56]).err = 3 := by decide

end Go.Proofs.YtaenmaokieomgaaDoor
