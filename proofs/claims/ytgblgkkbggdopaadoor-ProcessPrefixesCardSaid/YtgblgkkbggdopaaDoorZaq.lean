/-
  Texts of a walk, laid together by a program of the prover's own (merge.py). No conditions beyond those that each text names.
-/
import Derived.Test.YtgblgkkbggdopaaDoorZab
import Derived.Test.YtgblgkkbggdopaaDoorZap
import Derived.Test.YtgblgkkbggdopaaDoorZai
/-
  What Operands and zero of the document's answer return. No conditions beyond what is said.
-/
namespace Go.Proofs.YtgblgkkbggdopaaDoor
open Go.RowKit

/-- How many operands the answer gives an operator. -/
def rop (k : Nat) : Int := if k = 1 ∨ k = 2 ∨ (4 ≤ k ∧ k ≤ 7) then 0 else if k = 3 ∨ k = 8 ∨ k = 9 then 1 else if 10 ≤ k ∧ k ≤ 22 then 2 else -1
theorem opN_rop : ∀ k : Nat, k < 23 → opN (k : Int) = if k = 0 then none else some (rop k) := by decide +kernel

set_option maxHeartbeats 4000000 in
set_option maxRecDepth 100000 in
theorem rops_any (k : Nat) (hk : k < 23) (w : World) : Calls Tryd.prog 82 #[.int .i64 k] w fun e w' => e = .returned (.int .i64 (rop k)) ∧ w' = w := by
  have h : k = 0 ∨ k = 1 ∨ k = 2 ∨ k = 3 ∨ k = 4 ∨ k = 5 ∨ k = 6 ∨ k = 7 ∨ k = 8 ∨ k = 9 ∨ k = 10 ∨ k = 11 ∨ k = 12 ∨ k = 13 ∨ k = 14 ∨ k = 15 ∨ k = 16 ∨ k = 17 ∨ k = 18 ∨ k = 19 ∨ k = 20 ∨ k = 21 ∨ k = 22 := by omega
  rcases h with rfl | rfl | rfl | rfl | rfl | rfl | rfl | rfl | rfl | rfl | rfl | rfl | rfl | rfl | rfl | rfl | rfl | rfl | rfl | rfl | rfl | rfl | rfl
  all_goals
    go_enter Tryd.func82, Tryd.ntmps82
    go_wp2_with fail
    go_ret
    exact ⟨rfl, rfl⟩
set_option maxHeartbeats 4000000 in
set_option maxRecDepth 100000 in
theorem rzero_yes (A : Option Addr) (q : Nat) (w : World) :
    Calls Tryd.prog 75 #[.agg #[.int .i64 0, .int .i64 0, .string ⟨#[]⟩, .int .i64 0, .int .i64 0, .slice A 0 q]] w fun e' w' => e' = .returned (.bool true) ∧ Below w.heap.size w w' := by
  go_enter Tryd.func75, Tryd.ntmps75
  go_wp2_with fail
  go_ret
  exact ⟨rfl, (Below.refl _ _).alloc (Nat.le_refl _) _⟩
end Go.Proofs.YtgblgkkbggdopaaDoor

/-
  What isExpr of package syntax returns for an expression that is as parsing makes it: true. Conditions: the table of symbols holds what start-up laid; names have at most 4096 bytes; an expression has at most 100000 parts.
-/
namespace Go.Proofs.YtgblgkkbggdopaaDoor
open Go.RowKit

theorem goodL_at : ∀ (l : List Ex) (k : Nat) (e : Ex), Ex.goodL l = true → l[k]? = some e → e.good = true
  | [], _, _, _, h => by simp at h
  | x :: r, 0, e, hs, h => by
    simp only [List.getElem?_cons_zero, Option.some.injEq] at h
    subst h
    simp only [Ex.goodL, Bool.and_eq_true] at hs
    exact hs.1
  | x :: r, k + 1, e, hs, h => by
    simp only [List.getElem?_cons_succ] at h
    simp only [Ex.goodL, Bool.and_eq_true] at hs
    exact goodL_at r k e hs.2 h

end Go.Proofs.YtgblgkkbggdopaaDoor

/-
  What isPlace, isStmt and areStmts of package syntax return for statements that are as parsing makes them: true. Conditions: as for isExpr.
-/
namespace Go.Proofs.YtgblgkkbggdopaaDoor
open Go.RowKit

/-- Whether a statement is as parsing makes it, whatever the statements in it are. -/
def St.good1 : St → Bool
  | .mk kind nm sl sz place value body els => decide (1 ≤ kind) && decide (kind ≤ 6) && decide (sl = 0) && decide (sz = 0) && nmB (decide (kind = 1) || decide (kind = 2)) nm && value.good &&
    (if kind = 2 ∨ kind = 5 then place.good else match place with | .mk op v n a b l => decide (op = 0) && decide (v = 0) && decide (n = []) && decide (a = 0) && decide (b = 0) && decide (l.length = 0)) &&
    (decide (kind = 3) || decide (kind = 4) || decide (body.length = 0)) && (decide (kind = 3) || decide (els.length = 0))
def St.short1 : St → Prop
  | .mk _ nm _ _ place value _ _ => nm.length ≤ 4096 ∧ place.short ∧ value.short

end Go.Proofs.YtgblgkkbggdopaaDoor

/-
  What areStmts of package syntax returns for statements that are as parsing makes them: true. Conditions: as for isExpr.
-/
namespace Go.Proofs.YtgblgkkbggdopaaDoor
open Go.RowKit

mutual
/-- Whether a statement is as parsing makes it, with all statements in it. -/
def St.goodR : St → Bool
  | .mk kind nm sl sz place value body els => (St.mk kind nm sl sz place value body els).good1 && St.goodRL body && St.goodRL els
def St.goodRL : List St → Bool
  | [] => true
  | s :: r => s.goodR && St.goodRL r
end
mutual
/-- All names are short. -/
def St.shortR : St → Prop
  | .mk kind nm sl sz place value body els => (St.mk kind nm sl sz place value body els).short1 ∧ St.shortRL body ∧ St.shortRL els
def St.shortRL : List St → Prop
  | [] => True
  | s :: r => s.shortR ∧ St.shortRL r
end
theorem goodRL_at : ∀ (l : List St) (k : Nat) (e : St), St.goodRL l = true → l[k]? = some e → e.goodR = true
  | [], _, _, _, h => by simp at h
  | x :: r, 0, e, hs, h => by
    simp only [List.getElem?_cons_zero, Option.some.injEq] at h
    subst h
    simp only [St.goodRL, Bool.and_eq_true] at hs
    exact hs.1
  | x :: r, k + 1, e, hs, h => by
    simp only [List.getElem?_cons_succ] at h
    simp only [St.goodRL, Bool.and_eq_true] at hs
    exact goodRL_at r k e hs.2 h
theorem shortRL_at : ∀ (l : List St) (k : Nat) (e : St), St.shortRL l → l[k]? = some e → e.shortR
  | [], _, _, _, h => by simp at h
  | x :: r, 0, e, hs, h => by
    simp only [List.getElem?_cons_zero, Option.some.injEq] at h
    subst h
    simp only [St.shortRL] at hs
    exact hs.1
  | x :: r, k + 1, e, hs, h => by
    simp only [List.getElem?_cons_succ] at h
    simp only [St.shortRL] at hs
    exact shortRL_at r k e hs.2 h

end Go.Proofs.YtgblgkkbggdopaaDoor
