/-
  Plain mathematics of chapter 1, token: where the tokens of a text stand in it, and what a beginning of the text gives. No conditions.
-/
import Derived.Test.YtaenmaokieomgaaDoorMathT
namespace Go.Proofs.YtaenmaokieomgaaDoor
open Go

theorem scan_token {x r : List UInt8} {f : FTok} (k : Nat) (hx : x.length = f.size) (hp : 0 < f.size) (h : firstS (x ++ r) = (0, f)) (hb : ∀ c s, x = c :: s → blankC c.toNat = false ∧ (c.toNat : Int) ≠ 35) :
    scanL (x ++ r) k = consR (tokAt f k) (scanL r (k + f.size)) := by
  cases x with
  | nil => simp at hx; omega
  | cons c s =>
    obtain ⟨h1, h2⟩ := hb c s rfl
    have e : c :: s ++ r = c :: (s ++ r) := rfl
    rw [scanL_tok k e h1 h2 (by rw [h]), h]
    simp only [← hx]
    rw [List.drop_left]

theorem ok_nil {x r : List UInt8} {kind : Int} (h : okTail x r kind) : okTail x [] kind := by
  refine ⟨fun _ => rfl, fun hk => ?_⟩
  rcases h.2 hk with h2 | ⟨c, e, h2⟩
  · exact .inl h2
  · refine .inr ⟨c, e, ?_⟩
    have hz : signSz c.toNat (hdB r) ≠ 2 := by omega
    rw [signSz_zero' _ _ hz] at h2
    exact h2

theorem ok_take {x r : List UInt8} {kind : Int} (j : Nat) (h : okTail x r kind) : okTail x (r.take j) kind := by
  cases j with
  | zero => rw [List.take_zero]; exact ok_nil h
  | succ j =>
    cases r with
    | nil => exact h
    | cons b r =>
      rw [List.take_succ_cons]
      exact ⟨fun hk => h.1 hk, fun hk => h.2 hk⟩

theorem comSz_take : ∀ (l : List UInt8) (j : Nat), comSz (l.take (comSz l + j)) = comSz l
  | [], _ => by simp [comSz]
  | c :: r, j => by
    by_cases h : (c.toNat : Int) = 10
    · have e : comSz (c :: r) = 0 := by rw [comSz, if_pos h]
      rw [e, Nat.zero_add]
      cases j with
      | zero => rfl
      | succ j => rw [List.take_succ_cons, comSz, if_pos h]
    · have e : comSz (c :: r) = comSz r + 1 := by rw [comSz, if_neg h]
      rw [e, show comSz r + 1 + j = (comSz r + j) + 1 by omega, List.take_succ_cons, comSz, if_neg h, comSz_take r j]

/-- WHERE THE TOKENS STAND: each token of a scan without error is found at its place, behind the token before; the text up to it, or up to behind it, has just the tokens up to it. -/
theorem scan_parts (n : Nat) : ∀ (l : List UInt8) (k : Nat) (ts : List Tok), l.length ≤ n → scanL l k = ⟨ts, 0, 0⟩ → ∀ (i : Nat) (t : Tok), ts[i]? = some t →
    ∃ j f, t = tokAt f (k + j) ∧ firstS (l.drop j) = (0, f) ∧ l.drop j ≠ [] ∧ j + f.size ≤ l.length ∧ scanL (l.take j) k = ⟨ts.take i, 0, 0⟩ ∧ scanL (l.take (j + f.size)) k = ⟨ts.take (i + 1), 0, 0⟩ ∧
      (∀ t', ts[i + 1]? = some t' → k + j + f.size ≤ t'.off) := by
  induction n with
  | zero =>
    intro l k ts hl hs i t ht
    have e : l = [] := List.length_eq_zero_iff.1 (by omega)
    subst e
    rw [scanL_nil] at hs
    injection hs with hs _ _
    rw [← hs] at ht
    simp at ht
  | succ n ih =>
    intro l k ts hl hs i t ht
    cases l with
    | nil =>
      rw [scanL_nil] at hs
      injection hs with hs _ _
      rw [← hs] at ht
      simp at ht
    | cons c r =>
      simp only [List.length_cons] at hl
      by_cases hb : blankC c.toNat = true
      · rw [scanL_blank k rfl hb] at hs
        obtain ⟨j, f, h1, h2, h3, h4, h5, h6, h7⟩ := ih r (k + 1) ts (by omega) hs i t ht
        refine ⟨j + 1, f, by rw [h1]; congr 1; omega, by rw [List.drop_succ_cons]; exact h2, by rw [List.drop_succ_cons]; exact h3, by rw [List.length_cons]; omega, ?_, ?_, fun t' ht' => by have := h7 t' ht'; omega⟩
        · rw [List.take_succ_cons, scanL_blank k rfl hb]; exact h5
        · rw [show j + 1 + f.size = (j + f.size) + 1 by omega, List.take_succ_cons, scanL_blank k rfl hb]; exact h6
      · have hb' : blankC c.toNat = false := by simpa using hb
        by_cases hc : (c.toNat : Int) = 35
        · have hm : 0 < comSz (c :: r) := by rw [comSz, if_neg (by omega)]; omega
          have hml := comSz_le (c :: r)
          rw [scanL_com k rfl hb' hc] at hs
          obtain ⟨j, f, h1, h2, h3, h4, h5, h6, h7⟩ := ih _ _ ts (by rw [List.length_drop, List.length_cons]; omega) hs i t ht
          rw [List.drop_drop] at h2 h3
          rw [List.length_drop] at h4
          have key : ∀ q, scanL ((c :: r).take (comSz (c :: r) + q)) k = scanL (((c :: r).drop (comSz (c :: r))).take q) (k + comSz (c :: r)) := by
            intro q
            obtain ⟨m, hmm⟩ : ∃ m, comSz (c :: r) + q = m + 1 := ⟨comSz (c :: r) + q - 1, by omega⟩
            have e : (c :: r).take (comSz (c :: r) + q) = c :: r.take m := by rw [hmm, List.take_succ_cons]
            have hct := comSz_take (c :: r) q
            rw [scanL_com k e hb' hc, hct]
            congr 1
            rw [List.drop_take]
            congr 1
            omega
          refine ⟨comSz (c :: r) + j, f, by rw [h1]; congr 1; omega, h2, h3, by omega, ?_, ?_, fun t' ht' => by have := h7 t' ht'; omega⟩
          · rw [key]; exact h5
          · rw [Nat.add_assoc, key]; exact h6
        · by_cases he : (firstS (c :: r)).1 = 0
          · obtain ⟨f, hf⟩ : ∃ f, firstS (c :: r) = (0, f) := ⟨(firstS (c :: r)).2, by rw [← he]⟩
            obtain ⟨_, q2, q3, q4, q5, q6⟩ := first_local hf (by simp)
            rw [scanL_tok k rfl hb' hc he, hf] at hs
            have hs' : consR (tokAt f k) (scanL ((c :: r).drop f.size) (k + f.size)) = ⟨ts, 0, 0⟩ := hs
            generalize hR : scanL ((c :: r).drop f.size) (k + f.size) = R at hs'
            obtain ⟨ts', off', er'⟩ := R
            unfold consR at hs'
            by_cases her : er' = 0
            · rw [if_pos her] at hs'
              injection hs' with e1 e2 _
              subst her
              have e2' : off' = 0 := e2
              subst e2'
              have hfl : f.size ≤ (c :: r).length := by rw [List.length_take] at q3; omega
              have tok : ∀ q, scanL ((c :: r).take (f.size + q)) k = consR (tokAt f k) (scanL (((c :: r).drop f.size).take q) (k + f.size)) := by
                intro q
                have e : (c :: r).take (f.size + q) = (c :: r).take f.size ++ ((c :: r).drop f.size).take q := List.take_add
                rw [e]
                exact scan_token k q3 q4 (q5 _ (ok_take q q2)) q6
              cases i with
              | zero =>
                rw [← e1, List.getElem?_cons_zero] at ht
                injection ht with ht
                refine ⟨0, f, by rw [← ht]; rfl, hf, by simp, by omega, ?_, ?_, ?_⟩
                · rw [List.take_zero, List.take_zero, scanL_nil]
                · have := tok 0
                  rw [List.take_zero, scanL_nil, Nat.add_zero] at this
                  rw [Nat.zero_add, this, ← e1]
                  rfl
                · intro t' ht'
                  rw [← e1, List.getElem?_cons_succ] at ht'
                  obtain ⟨j, f', h1, _⟩ := ih _ _ ts' (by rw [List.length_drop, List.length_cons]; omega) hR 0 t' ht'
                  rw [h1]
                  show _ ≤ k + f.size + j
                  omega
              | succ i =>
                rw [← e1, List.getElem?_cons_succ] at ht
                obtain ⟨j, f', h1, h2, h3, h4, h5, h6, h7⟩ := ih _ _ ts' (by rw [List.length_drop, List.length_cons]; omega) hR i t ht
                rw [List.drop_drop] at h2 h3
                rw [List.length_drop] at h4
                refine ⟨f.size + j, f', by rw [h1]; congr 1; omega, h2, h3, by omega, ?_, ?_, ?_⟩
                · rw [tok, h5, ← e1]; rfl
                · rw [Nat.add_assoc, tok, h6, ← e1]; rfl
                · intro t' ht'
                  rw [← e1, List.getElem?_cons_succ] at ht'
                  have := h7 t' ht'
                  omega
            · rw [if_neg her] at hs'
              injection hs' with _ _ e3
              exact absurd e3 her
          · rw [scanL_err k rfl hb' hc he] at hs
            injection hs with _ _ e3
            exact absurd e3 he

theorem scanF_err : ∀ (f : Nat) (l : List UInt8) (k : Nat), (scanF f l k).err ≠ 0 → (scanF f l k).toks = [] ∧ (scanF f l k).off ≤ k + l.length
  | 0, _, _, h => absurd rfl h
  | f + 1, [], _, h => absurd rfl h
  | f + 1, c :: r, k, h => by
    rw [scanF] at h ⊢
    rw [List.length_cons]
    by_cases h1 : blankC c.toNat = true
    · rw [if_pos h1] at h ⊢; have := scanF_err f r (k + 1) h; exact ⟨this.1, by omega⟩
    · rw [if_neg h1] at h ⊢
      by_cases h2 : (c.toNat : Int) = 35
      · rw [if_pos h2] at h ⊢
        have := scanF_err f _ _ h
        have hc := comSz_le r
        rw [List.length_drop] at this
        exact ⟨this.1, by omega⟩
      · rw [if_neg h2] at h ⊢
        by_cases h3 : (firstS (c :: r)).1 = 0
        · rw [if_pos h3] at h ⊢
          have hs := firstS_size c r h3
          simp only [List.length_cons] at hs
          generalize hR : scanF f ((c :: r).drop (firstS (c :: r)).2.size) (k + (firstS (c :: r)).2.size) = R at h ⊢
          unfold consR at h ⊢
          by_cases h4 : R.err = 0
          · rw [if_pos h4] at h; exact absurd h4 h
          · rw [if_neg h4] at h ⊢
            rw [← hR] at h ⊢
            have := scanF_err f _ _ h
            rw [List.length_drop, List.length_cons] at this
            exact ⟨this.1, by omega⟩
        · rw [if_neg h3]; exact ⟨rfl, by show k ≤ _; omega⟩

theorem scanF_off : ∀ (f : Nat) (l : List UInt8) (k : Nat), (scanF f l k).err = 0 → (scanF f l k).off = 0
  | 0, _, _, _ => rfl
  | f + 1, [], _, _ => rfl
  | f + 1, c :: r, k, h => by
    rw [scanF] at h ⊢
    by_cases h1 : blankC c.toNat = true
    · rw [if_pos h1] at h ⊢; exact scanF_off f r (k + 1) h
    · rw [if_neg h1] at h ⊢
      by_cases h2 : (c.toNat : Int) = 35
      · rw [if_pos h2] at h ⊢; exact scanF_off f _ _ h
      · rw [if_neg h2] at h ⊢
        by_cases h3 : (firstS (c :: r)).1 = 0
        · rw [if_pos h3] at h ⊢
          generalize hR : scanF f ((c :: r).drop (firstS (c :: r)).2.size) (k + (firstS (c :: r)).2.size) = R at h ⊢
          unfold consR at h ⊢
          by_cases h4 : R.err = 0
          · rw [if_pos h4] at h ⊢
            rw [← hR] at h4 ⊢
            exact scanF_off f _ _ h4
          · rw [if_neg h4] at h; exact absurd h h4
        · rw [if_neg h3] at h; exact absurd h h3

/-- A scan either gives tokens, or an error within the text and no tokens. -/
theorem scanS_cases (l : List UInt8) : (∃ ts, scanS l = ⟨ts, 0, 0⟩ ∧ scanL l 0 = ⟨ts, 0, 0⟩ ∧ l.length ≤ 4096) ∨ (∃ off er, scanS l = ⟨[], off, er⟩ ∧ er ≠ 0 ∧ off ≤ l.length) := by
  unfold scanS
  by_cases h : 4096 < l.length
  · rw [if_pos h]; exact .inr ⟨0, 5, rfl, by decide, Nat.zero_le _⟩
  · rw [if_neg h]
    generalize hR : scanL l 0 = R
    obtain ⟨ts, off, er⟩ := R
    by_cases he : er = 0
    · subst he
      have ho := scanF_off (l.length + 1) l 0 (by show (scanL l 0).err = 0; rw [hR])
      have ho' : (scanL l 0).off = 0 := ho
      rw [hR] at ho'
      have : off = 0 := ho'
      subst this
      exact .inl ⟨ts, rfl, rfl, by omega⟩
    · have hh := scanF_err (l.length + 1) l 0 (by show (scanL l 0).err ≠ 0; rw [hR]; exact he)
      have h1 : (scanL l 0).toks = [] := hh.1
      have h2 : (scanL l 0).off ≤ 0 + l.length := hh.2
      rw [hR] at h1 h2
      have h1' : ts = [] := h1
      subst h1'
      exact .inr ⟨off, er, rfl, he, by have h3 : off ≤ 0 + l.length := h2; omega⟩

/-- What is known of each token of a text without error: its text stands at its place, is not empty, and ends ahead of the next token. -/
theorem token_at {l : List UInt8} {ts : List Tok} (h : scanL l 0 = ⟨ts, 0, 0⟩) {i : Nat} {t : Tok} (ht : ts[i]? = some t) :
    0 < (itemT t.kind t.text t.value).length ∧ t.off + (itemT t.kind t.text t.value).length ≤ l.length ∧ (l.drop t.off).take (itemT t.kind t.text t.value).length = itemT t.kind t.text t.value ∧
    scanL (l.take t.off) 0 = ⟨ts.take i, 0, 0⟩ ∧ scanL (l.take (t.off + (itemT t.kind t.text t.value).length)) 0 = ⟨ts.take (i + 1), 0, 0⟩ ∧ (∀ t', ts[i + 1]? = some t' → t.off + (itemT t.kind t.text t.value).length ≤ t'.off) ∧
    (∃ f, t = tokAt f t.off ∧ firstS (l.drop t.off) = (0, f) ∧ l.drop t.off ≠ []) := by
  obtain ⟨j, f, h1, h2, h3, h4, h5, h6, h7⟩ := scan_parts l.length l 0 ts (Nat.le_refl _) h i t ht
  obtain ⟨q1, _, q3, q4, _, _⟩ := first_local h2 h3
  have ho : t.off = j := by rw [h1]; show 0 + j = j; omega
  have hi : itemT t.kind t.text t.value = (l.drop j).take f.size := by rw [h1]; exact q1
  have hil : (itemT t.kind t.text t.value).length = f.size := by rw [hi]; exact q3
  rw [hil, ho, hi]
  refine ⟨q4, h4, rfl, h5, h6, fun t' ht' => by have := h7 t' ht'; omega, f, ?_, h2, h3⟩
  rw [h1, Nat.zero_add]

theorem firstS_value {l : List UInt8} {f : FTok} (h : firstS l = (0, f)) : 0 ≤ f.value ∧ f.value ≤ 9223372036854775807 := by
  cases l with
  | nil => cases h
  | cons c t =>
    unfold firstS at h
    simp only at h
    by_cases hd : digitC c.toNat = true
    · rw [if_pos hd] at h
      by_cases hw : headWord ((c :: t).drop (numSz (c :: t))) = true
      · rw [if_pos hw] at h; cases h
      · rw [if_neg hw] at h
        by_cases hv : decVal 0 ((c :: t).take (numSz (c :: t))) < 9223372036854775808
        · rw [if_pos hv] at h
          injection h with _ h
          subst h
          exact ⟨Int.natCast_nonneg _, by show ((decVal 0 _ : Nat) : Int) ≤ _; omega⟩
        · rw [if_neg hv] at h; cases h
    · rw [if_neg hd] at h
      by_cases hl : letterC c.toNat = true
      · rw [if_pos hl] at h
        by_cases h16 : nameSz (c :: t) ≤ 16
        · rw [if_pos h16] at h; injection h with _ h; subst h; exact ⟨Int.le_refl _, (by decide : (0 : Int) ≤ 9223372036854775807)⟩
        · rw [if_neg h16] at h; cases h
      · rw [if_neg hl] at h
        by_cases hz : signSz c.toNat (secondB (c :: t)) = 0
        · rw [if_pos hz] at h; cases h
        · rw [if_neg hz] at h; injection h with _ h; subst h; exact ⟨Int.le_refl _, (by decide : (0 : Int) ≤ 9223372036854775807)⟩

end Go.Proofs.YtaenmaokieomgaaDoor
