/-
  Plain mathematics of chapter 2, syntax: what is parsed takes at least one token. No conditions.
-/
import Derived.Test.YtdlnpfocmgclmaaDoorMathP
namespace Go.Proofs.YtdlnpfocmgclmaaDoor

/-- If there is a result, its rest has fewer than n tokens. -/
def Res.Sh {α : Type} (n : Nat) : Res α → Prop
  | .ok _ t => t.length < n
  | _ => True
theorem Res.Sh.bind {α β : Type} {n m : Nat} {r : Res α} {f : α → List Tok → Res β} (h : r.Sh n) (hf : ∀ a t, t.length < n → (f a t).Sh m) : (r.bind f).Sh m := by
  cases r with
  | ok a t => exact hf a t h
  | fail t => exact trivial
  | out => exact trivial
theorem Res.Sh.mono {α : Type} {n m : Nat} {r : Res α} (h : r.Sh n) (hm : n ≤ m) : r.Sh m := by
  cases r with
  | ok a t => exact Nat.lt_of_lt_of_le h hm
  | fail t => exact trivial
  | out => exact trivial
theorem Res.In.sh {α : Type} {n : Nat} {r : Res α} (h : r.In n) : r.Sh n := by
  cases r with
  | ok a t => exact h
  | fail t => exact trivial
  | out => exact trivial

theorem pE_sh : ∀ f : Nat,
    (∀ n ts, (pBin f n ts).Sh ts.length) ∧ (∀ n e ts, (pLoop f n e ts).Sh (ts.length + 1)) ∧ (∀ ts, (pUn f ts).Sh ts.length) ∧ (∀ ts, (pPrim f ts).Sh ts.length)
  | 0 => ⟨fun _ _ => trivial, fun _ _ _ => trivial, fun _ => trivial, fun _ => trivial⟩
  | f + 1 => by
    obtain ⟨hB, hL, hU, hP⟩ := pE_sh f
    refine ⟨fun n ts => ?_, fun n e ts => ?_, fun ts => ?_, fun ts => ?_⟩
    · rw [pBin]
      by_cases h5 : n = 5
      · rw [if_pos h5]; exact hU ts
      · rw [if_neg h5]
        exact (hB (n + 1) ts).bind fun e t ht => (hL n e t).mono (by omega)
    · rw [pLoop]
      by_cases h0 : symS n ts = 0
      · rw [if_pos h0]; show ts.length < ts.length + 1; omega
      · rw [if_neg h0]
        have := symS_lt h0
        exact (hB (n + 1) ts.tail).bind fun e2 t ht => (hL n _ t).mono (by omega)
    · rw [pUn]
      by_cases h0 : symS 5 ts = 0
      · rw [if_pos h0]; exact hP ts
      · rw [if_neg h0]
        have := symS_lt h0
        exact (hU ts.tail).bind fun e t ht => by show t.length < _; omega
    · rw [pPrim]
      by_cases h0 : symS 6 ts ≠ 0
      · rw [if_pos h0]; exact symS_lt h0
      · rw [if_neg h0]
        by_cases h1 : txt ts = [40]
        · rw [if_pos h1]
          have := tail_lt h1 (by decide)
          exact (hB 0 ts.tail).bind fun e t ht => (expectS_in _ (by decide) t).sh.bind fun _ t' ht' => by show t'.length < _; omega
        · rw [if_neg h1]
          by_cases h2 : knd ts = 2
          · rw [if_pos h2]; exact (numS_in 0 ts).sh.bind fun v t ht => ht
          · rw [if_neg h2]
            refine (nameS_in ts).sh.bind fun nm t ht => ?_
            by_cases h3 : txt t = [91]
            · rw [if_pos h3]
              have := tail_lt h3 (by decide)
              exact (hB 0 t.tail).bind fun e t' ht' => (expectS_in _ (by decide) t').sh.bind fun _ t2 ht2 => by show t2.length < _; omega
            · rw [if_neg h3]; exact ht

theorem pBin_sh (f n : Nat) (ts : List Tok) : (pBin f n ts).Sh ts.length := (pE_sh f).1 n ts
theorem exp_sh {s : List UInt8} (hs : s ≠ []) (t : List Tok) : (expectS s t).Sh t.length := (expectS_in s hs t).sh

theorem pS_sh : ∀ f : Nat,
    (∀ ts, (pBlock f ts).Sh ts.length) ∧ (∀ acc ts, (pStmts f acc ts).Sh (ts.length + 1)) ∧ (∀ ts, (pStmt f ts).Sh ts.length)
  | 0 => ⟨fun _ => trivial, fun _ _ => trivial, fun _ => trivial⟩
  | f + 1 => by
    obtain ⟨hB, hL, hS⟩ := pS_sh f
    refine ⟨fun ts => ?_, fun acc ts => ?_, fun ts => ?_⟩
    · rw [pBlock]
      exact (exp_sh (by decide) ts).bind fun _ t ht => (hL [] t).mono (by omega)
    · rw [pStmts]
      by_cases h0 : txt ts = [125]
      · rw [if_pos h0]; have := tail_lt h0 (by decide); show ts.tail.length < _; omega
      · rw [if_neg h0]
        exact (hS ts).bind fun s t ht => (hL _ t).mono (by omega)
    · rw [pStmt]
      by_cases h1 : txt ts = [105, 102]
      · rw [if_pos h1]
        have := tail_lt h1 (by decide)
        refine (pBin_sh _ _ _).bind fun c t ht => (hB t).bind fun b t2 ht2 => ?_
        by_cases h2 : txt t2 = [101, 108, 115, 101]
        · rw [if_pos h2]
          have := tail_lt h2 (by decide)
          exact (hB t2.tail).bind fun e t3 ht3 => by show t3.length < _; omega
        · rw [if_neg h2]; show t2.length < _; omega
      · rw [if_neg h1]
        by_cases h2 : txt ts = [119, 104, 105, 108, 101]
        · rw [if_pos h2]
          have := tail_lt h2 (by decide)
          exact (pBin_sh _ _ _).bind fun c t ht => (hB t).bind fun b t2 ht2 => by show t2.length < _; omega
        · rw [if_neg h2]
          by_cases h3 : txt ts = [115, 101, 110, 100]
          · rw [if_pos h3]
            have := tail_lt h3 (by decide)
            exact (pBin_sh _ _ _).bind fun p t ht => (exp_sh (by decide) t).bind fun _ t2 ht2 => (pBin_sh _ _ _).bind fun v t3 ht3 => (exp_sh (by decide) t3).bind fun _ t4 ht4 => by show t4.length < _; omega
          · rw [if_neg h3]
            by_cases h4 : txt ts = [111, 117, 116, 112, 117, 116]
            · rw [if_pos h4]
              have := tail_lt h4 (by decide)
              exact (pBin_sh _ _ _).bind fun v t3 ht3 => (exp_sh (by decide) t3).bind fun _ t4 ht4 => by show t4.length < _; omega
            · rw [if_neg h4]
              refine (nameS_in ts).sh.bind fun nm t ht => ?_
              by_cases h5 : txt t = [91]
              · rw [if_pos h5]
                have := tail_lt h5 (by decide)
                exact (pBin_sh _ _ _).bind fun p t1 ht1 => (exp_sh (by decide) t1).bind fun _ t2 ht2 => (exp_sh (by decide) t2).bind fun _ t3 ht3 => (pBin_sh _ _ _).bind fun v t4 ht4 => (exp_sh (by decide) t4).bind fun _ t5 ht5 => by show t5.length < _; omega
              · rw [if_neg h5]
                exact (exp_sh (by decide) t).bind fun _ t3 ht3 => (pBin_sh _ _ _).bind fun v t4 ht4 => (exp_sh (by decide) t4).bind fun _ t5 ht5 => by show t5.length < _; omega

theorem pStmt_sh {f : Nat} {ts t : List Tok} {s : St} (h : pStmt f ts = .ok s t) : t.length < ts.length := by
  have := (pS_sh f).2.2 ts
  rw [h] at this; exact this
theorem pVar_sh {ts t : List Tok} {v : Vr} (h : pVar ts = .ok v t) : t.length < ts.length := by
  have := (pVar_in ts).sh
  rw [h] at this; exact this
theorem pArr_sh {ts t : List Tok} {v : Vr} (h : pArr ts = .ok v t) : t.length < ts.length := by
  have := (pArr_in ts).sh
  rw [h] at this; exact this
end Go.Proofs.YtdlnpfocmgclmaaDoor
