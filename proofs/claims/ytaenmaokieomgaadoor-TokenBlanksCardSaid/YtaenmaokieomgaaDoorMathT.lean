/-
  Plain mathematics of chapter 1, token: what a token's text says of it, whatever stands behind it; the scan of a text that is put together out of tokens. No conditions.
-/
import Derived.Test.YtaenmaokieomgaaDoorMathD
namespace Go.Proofs.YtaenmaokieomgaaDoor
open Go

/-- The text of a token by its kind. -/
def itemT (kind : Int) (text : List UInt8) (value : Int) : List UInt8 :=
  if kind = 1 ∨ kind = 3 then text else if kind = 2 then Lib.decDigits value.toNat else []

def hdB : List UInt8 → Int
  | [] => 0
  | b :: _ => b.toNat

/-- What may stand behind a token with the text x, so that it ends there. -/
def okTail (x r : List UInt8) (kind : Int) : Prop := (kind ≠ 3 → headWord r = false) ∧ (kind = 3 → x.length = 2 ∨ ∃ c, x = [c] ∧ signSz c.toNat (hdB r) = 1)

theorem decDigits_app (x : List UInt8) : ∀ acc : Nat, 0 < acc → allDig x → Lib.decDigits (decVal acc x) = Lib.decDigits acc ++ x := by
  induction x with
  | nil => intro acc _ _; rw [decVal_nil, List.append_nil]
  | cons c r ih =>
    intro acc h0 ha
    have hc := (digitC_iff c).1 ha.1
    rw [decVal_cons, ih _ (by omega) ha.2, Lib.decDigits, dif_neg (by omega)]
    have e1 : (acc * 10 + (c.toNat - 48)) / 10 = acc := by omega
    have e2 : (acc * 10 + (c.toNat - 48)) % 10 = c.toNat - 48 := by omega
    have e3 : UInt8.ofNat (48 + (c.toNat - 48)) = c := by
      apply UInt8.toNat_inj.1
      rw [digit_of _ (by omega)]
      omega
    rw [e1, e2, e3, List.append_assoc]
    rfl

/-- Digits without a leading 0 (but for 0 itself) are the digits of their value. -/
theorem dec_back {c : UInt8} {d : List UInt8} (ha : allDig (c :: d)) (h0 : (c.toNat : Int) = 48 → d = []) : Lib.decDigits (decVal 0 (c :: d)) = c :: d := by
  have hc := (digitC_iff c).1 ha.1
  rw [decVal_cons]
  by_cases hz : (c.toNat : Int) = 48
  · rw [h0 hz, decVal_nil]
    have e : 0 * 10 + (c.toNat - 48) = 0 := by omega
    rw [e, Lib.decDigits_one (by omega)]
    have e3 : UInt8.ofNat (48 + 0) = c := by
      apply UInt8.toNat_inj.1
      rw [digit_of 0 (by omega)]
      omega
    rw [e3]
  · rw [decDigits_app d _ (by omega) ha.2, Lib.decDigits_one (by omega)]
    have e3 : UInt8.ofNat (48 + (0 * 10 + (c.toNat - 48))) = c := by
      apply UInt8.toNat_inj.1
      rw [digit_of _ (by omega)]
      omega
    rw [e3]
    rfl

theorem numSz_app {c : UInt8} {d r : List UInt8} (ha : allDig (c :: d)) (h0 : (c.toNat : Int) = 48 → d = []) (hr : notDig r) : numSz (c :: d ++ r) = (c :: d).length := by
  rw [List.cons_append]
  by_cases hz : (c.toNat : Int) = 48
  · rw [numSz, if_pos hz, h0 hz]; rfl
  · rw [numSz, if_neg hz, digRun_all d r ha.2 hr, List.length_cons]

theorem notDig_of_word {r : List UInt8} (h : headWord r = false) : notDig r := by
  cases r with
  | nil => trivial
  | cons b r =>
    show digitC b.toNat = false
    have h1 : wordC b.toNat = false := h
    unfold wordC at h1
    exact (Bool.or_eq_false_iff.1 h1).2

theorem nameSz_app : ∀ (x r : List UInt8), (∀ b ∈ x, wordC b.toNat = true) → headWord r = false → nameSz (x ++ r) = x.length
  | [], [], _, _ => rfl
  | [], c :: r, _, h => by
    have h1 : wordC c.toNat = false := h
    rw [List.nil_append, nameSz, if_neg (by simp [h1])]; rfl
  | c :: x, r, hx, h => by
    rw [List.cons_append, nameSz, if_pos (hx c List.mem_cons_self), nameSz_app x r (fun b hb => hx b (List.mem_cons_of_mem _ hb)) h, List.length_cons]

theorem nameSz_word : ∀ (l : List UInt8), ∀ b ∈ l.take (nameSz l), wordC b.toNat = true
  | [], b, h => by simp at h
  | c :: r, b, h => by
    by_cases hc : wordC c.toNat = true
    · rw [nameSz, if_pos hc, List.take_succ_cons] at h
      rcases List.mem_cons.1 h with rfl | h
      · exact hc
      · exact nameSz_word r b h
    · rw [nameSz, if_neg hc] at h
      simp at h

theorem nameSz_tail : ∀ (l : List UInt8), headWord (l.drop (nameSz l)) = false
  | [] => rfl
  | c :: r => by
    by_cases hc : wordC c.toNat = true
    · rw [nameSz, if_pos hc, List.drop_succ_cons]; exact nameSz_tail r
    · rw [nameSz, if_neg hc]; simpa [headWord] using hc

/-- WHAT A TOKEN THAT WAS FOUND SAYS: its text is the text that it takes; what stands behind it lets it end; and it is found again wherever its text stands with such a thing behind it. -/
theorem first_local {l : List UInt8} {f : FTok} (h : firstS l = (0, f)) (hne : l ≠ []) :
    itemT f.kind f.text f.value = l.take f.size ∧ okTail (l.take f.size) (l.drop f.size) f.kind ∧ (l.take f.size).length = f.size ∧ 0 < f.size ∧
    (∀ r, okTail (l.take f.size) r f.kind → firstS (l.take f.size ++ r) = (0, f)) ∧
    (∀ c s, l.take f.size = c :: s → blankC c.toNat = false ∧ (c.toNat : Int) ≠ 35) := by
  cases l with
  | nil => exact absurd rfl hne
  | cons c t =>
    have hsz := firstS_size c t (by rw [h])
    rw [h] at hsz
    have hlen : ((c :: t).take f.size).length = f.size := by
      rw [List.length_take]
      have h2 : f.size ≤ (c :: t).length := hsz.2
      omega
    by_cases hd : digitC c.toNat = true
    · have e1 : ∀ u, firstS (c :: u) = if headWord ((c :: u).drop (numSz (c :: u))) then (1, noTok)
        else if decVal 0 ((c :: u).take (numSz (c :: u))) < 9223372036854775808 then (0, ⟨2, [], decVal 0 ((c :: u).take (numSz (c :: u))), numSz (c :: u)⟩)
        else (3, noTok) := fun u => by simp only [firstS, hd, if_true]
      rw [e1] at h
      by_cases hw : headWord ((c :: t).drop (numSz (c :: t))) = true
      · rw [if_pos hw] at h; cases h
      · rw [if_neg hw] at h
        by_cases hv : decVal 0 ((c :: t).take (numSz (c :: t))) < 9223372036854775808
        · rw [if_pos hv] at h
          injection h with _ h
          subst h
          have hall := allDig_num (c :: t) (fun c' r' e => by injection e with e _; rw [← e]; exact hd)
          obtain ⟨n, hn⟩ : ∃ n, numSz (c :: t) = n + 1 := ⟨numSz (c :: t) - 1, by have := numSz_pos c t; omega⟩
          have h0 : (c.toNat : Int) = 48 → t.take n = [] := fun hz => by
            rw [numSz, if_pos hz] at hn
            have : n = 0 := by omega
            rw [this, List.take_zero]
          have hw' : headWord ((c :: t).drop (numSz (c :: t))) = false := by simpa using hw
          simp only [hn] at *
          rw [List.take_succ_cons] at *
          refine ⟨?_, ⟨fun _ => hw', fun h => absurd h (by decide)⟩, hlen, by omega, ?_, ?_⟩
          · unfold itemT
            rw [if_neg (by decide), if_pos rfl]
            exact dec_back hall h0
          · intro r hr
            have hr1 := hr.1 (by decide)
            have hs := numSz_app hall h0 (notDig_of_word hr1)
            have hl2 : (c :: List.take n t).length = n + 1 := hlen
            rw [List.cons_append] at hs ⊢
            rw [e1, hs, hl2]
            have ed : (c :: (List.take n t ++ r)).drop (n + 1) = r := by
              rw [← List.cons_append, ← hl2, List.drop_left]
            have et : (c :: (List.take n t ++ r)).take (n + 1) = c :: List.take n t := by
              rw [← List.cons_append, ← hl2, List.take_left]
            rw [ed, et, hr1, if_neg (by simp), if_pos hv]
          · intro c' s e
            injection e with e _
            rw [← e]
            exact ⟨(digit_noblank hd).1, (digit_noblank hd).2.1⟩
        · rw [if_neg hv] at h; cases h
    · have hd' : digitC c.toNat = false := by simpa using hd
      by_cases hl : letterC c.toNat = true
      · have e1 : ∀ u, firstS (c :: u) = if nameSz (c :: u) ≤ 16 then (0, ⟨1, (c :: u).take (nameSz (c :: u)), 0, nameSz (c :: u)⟩) else (5, noTok) := fun u => by
          simp only [firstS, hd', hl, if_true]; rfl
        rw [e1] at h
        by_cases h16 : nameSz (c :: t) ≤ 16
        · rw [if_pos h16] at h
          injection h with _ h
          subst h
          have hwd := nameSz_word (c :: t)
          have htl := nameSz_tail (c :: t)
          have hpos : 0 < nameSz (c :: t) := hsz.1
          obtain ⟨n, hn⟩ : ∃ n, nameSz (c :: t) = n + 1 := ⟨nameSz (c :: t) - 1, by omega⟩
          simp only [hn] at *
          rw [List.take_succ_cons] at *
          have hl2 : (c :: List.take n t).length = n + 1 := hlen
          refine ⟨by unfold itemT; rw [if_pos (.inl rfl)], ⟨fun _ => htl, fun h => absurd h (by decide)⟩, hlen, by omega, ?_, ?_⟩
          · intro r hr
            have hs := nameSz_app (c :: List.take n t) r hwd (hr.1 (by decide))
            rw [List.cons_append] at hs ⊢
            rw [e1, hs, hl2, if_pos h16]
            have et : (c :: (List.take n t ++ r)).take (n + 1) = c :: List.take n t := by
              rw [← List.cons_append, ← hl2, List.take_left]
            rw [et]
          · intro c' s e
            injection e with e _
            rw [← e]
            unfold letterC at hl
            unfold blankC
            simp at hl ⊢
            omega
        · rw [if_neg h16] at h; cases h
      · have hl' : letterC c.toNat = false := by simpa using hl
        have e1 : ∀ u, firstS (c :: u) = if signSz c.toNat (secondB (c :: u)) = 0 then (1, noTok)
          else (0, ⟨3, (c :: u).take (signSz c.toNat (secondB (c :: u))).toNat, 0, (signSz c.toNat (secondB (c :: u))).toNat⟩) := fun u => by
          simp only [firstS, hd', hl']; rfl
        have esec : ∀ u, secondB (c :: u) = hdB u := fun u => by cases u <;> rfl
        rw [e1] at h
        have hbd := signSz_bd c.toNat (secondB (c :: t))
        by_cases hz : signSz c.toNat (secondB (c :: t)) = 0
        · rw [if_pos hz] at h; cases h
        · rw [if_neg hz] at h
          injection h with _ h
          subst h
          have hbl : blankC c.toNat = false ∧ (c.toNat : Int) ≠ 35 := by
            unfold signSz at hz
            unfold blankC
            constructor
            · simp
              (repeat' split at hz) <;> omega
            · (repeat' split at hz) <;> omega
          by_cases h2 : signSz c.toNat (secondB (c :: t)) = 2
          · cases t with
            | nil => exact absurd rfl (signSz_two _ _ h2)
            | cons b t =>
              have h2' : signSz c.toNat b.toNat = 2 := h2
              simp only [h2] at *
              refine ⟨by unfold itemT; rw [if_pos (.inr rfl)], ⟨fun h => absurd rfl h, fun _ => .inl rfl⟩, rfl, by decide, ?_, ?_⟩
              · intro r _
                show firstS (c :: b :: r) = _
                have e3 : secondB (c :: b :: r) = b.toNat := rfl
                rw [e1, e3, h2']
                rfl
              · intro c' s e
                injection e with e _
                rw [← e]; exact hbl
          · have h1 : signSz c.toNat (secondB (c :: t)) = 1 := by omega
            have h1' : signSz c.toNat (hdB t) = 1 := by rw [← esec]; exact h1
            simp only [h1] at *
            refine ⟨by unfold itemT; rw [if_pos (.inr rfl)], ⟨fun h => absurd rfl h, fun _ => .inr ⟨c, rfl, h1'⟩⟩, rfl, by decide, ?_, ?_⟩
            · intro r hr
              show firstS (c :: r) = _
              rcases hr.2 rfl with h | ⟨c', e, h⟩
              · cases h
              · have ec : c = c' := by injection e
                rw [← ec] at h
                rw [e1, esec, h]
                rfl
            · intro c' s e
              injection e with e _
              rw [← e]; exact hbl

theorem signSz_zero' (a b : Int) (h : signSz a b ≠ 2) : signSz a b = signSz a 0 := by
  unfold signSz at h ⊢
  (repeat' split at h) <;> (repeat' split) <;> omega

end Go.Proofs.YtaenmaokieomgaaDoor
