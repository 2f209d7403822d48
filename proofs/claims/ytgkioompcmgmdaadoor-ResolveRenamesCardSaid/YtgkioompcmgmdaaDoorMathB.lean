/-
  Plain mathematics of chapter 2, syntax: how large a program is. No conditions.
-/
import Derived.Test.YtgkioompcmgmdaaDoorMathP
namespace Go.Proofs.YtgkioompcmgmdaaDoor

/-! ### How large a program is -/
mutual
def Ex.big : Ex → Nat
  | .mk _ _ _ _ _ args => Ex.bigL args + 1
def Ex.bigL : List Ex → Nat
  | [] => 0
  | e :: r => e.big + Ex.bigL r
end
mutual
def St.big : St → Nat
  | .mk _ _ _ _ p v b e => 1 + p.big + v.big + St.bigL b + St.bigL e
def St.bigL : List St → Nat
  | [] => 0
  | s :: r => s.big + St.bigL r
end
def Pr.big (p : Pr) : Nat := St.bigL p.start + St.bigL p.message + St.bigL p.tick + St.bigL p.input
mutual
theorem Ex.deep_big : ∀ e : Ex, e.deep ≤ e.big
  | .mk _ _ _ _ _ args => by simp only [Ex.deep, Ex.big]; have := Ex.deepL_big args; omega
theorem Ex.deepL_big : ∀ l : List Ex, Ex.deepL l ≤ Ex.bigL l
  | [] => by simp [Ex.deepL]
  | e :: r => by simp only [Ex.deepL, Ex.bigL]; have := Ex.deep_big e; have := Ex.deepL_big r; omega
end
theorem Ex.big_pos (e : Ex) : 0 < e.big := by cases e; simp only [Ex.big]; omega
theorem Ex.len_big : ∀ l : List Ex, l.length ≤ Ex.bigL l
  | [] => by simp
  | e :: r => by simp only [List.length_cons, Ex.bigL]; have := Ex.big_pos e; have := Ex.len_big r; omega
theorem Ex.big_at : ∀ (l : List Ex) (k : Nat) (e : Ex), l[k]? = some e → e.big ≤ Ex.bigL l
  | [], _, _, h => by simp at h
  | x :: r, 0, e, h => by
    simp only [List.getElem?_cons_zero, Option.some.injEq] at h
    subst h
    simp only [Ex.bigL]; omega
  | x :: r, k + 1, e, h => by
    simp only [List.getElem?_cons_succ] at h
    have := Ex.big_at r k e h
    simp only [Ex.bigL]; omega
mutual
theorem St.deep_big : ∀ e : St, e.deep ≤ e.big
  | .mk _ _ _ _ p v b e => by simp only [St.deep, St.big]; have := Ex.deep_big p; have := Ex.deep_big v; have := St.deepL_big b; have := St.deepL_big e; omega
theorem St.deepL_big : ∀ l : List St, St.deepL l ≤ St.bigL l
  | [] => by simp [St.deepL]
  | e :: r => by simp only [St.deepL, St.bigL]; have := St.deep_big e; have := St.deepL_big r; omega
end
theorem St.big_pos (e : St) : 0 < e.big := by cases e; simp only [St.big]; omega
theorem St.len_big : ∀ l : List St, l.length ≤ St.bigL l
  | [] => by simp
  | e :: r => by simp only [List.length_cons, St.bigL]; have := St.big_pos e; have := St.len_big r; omega
theorem St.big_at : ∀ (l : List St) (k : Nat) (e : St), l[k]? = some e → e.big ≤ St.bigL l
  | [], _, _, h => by simp at h
  | x :: r, 0, e, h => by
    simp only [List.getElem?_cons_zero, Option.some.injEq] at h
    subst h
    simp only [St.bigL]; omega
  | x :: r, k + 1, e, h => by
    simp only [List.getElem?_cons_succ] at h
    have := St.big_at r k e h
    simp only [St.bigL]; omega
end Go.Proofs.YtgkioompcmgmdaaDoor
