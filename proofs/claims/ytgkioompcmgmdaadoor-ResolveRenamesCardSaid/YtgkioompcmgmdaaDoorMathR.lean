/-
  Plain mathematics of chapter 1, token: reserved words and valid names. No conditions.
-/
import Derived.Test.YtgkioompcmgmdaaDoorMathS
namespace Go.Proofs.YtgkioompcmgmdaaDoor

/-- The reserved words. -/
def resWords : List (List UInt8) := [[118, 97, 114], [97, 114, 114, 97, 121], [111, 110], [115, 116, 97, 114, 116], [109, 101, 115, 115, 97, 103, 101], [116, 105, 99, 107], [105, 110, 112, 117, 116], [105, 102], [101, 108, 115, 101], [119, 104, 105, 108, 101], [115, 101, 110, 100], [111, 117, 116, 112, 117, 116], [115, 101, 108, 102], [112, 114, 111, 99, 115], [102, 114, 111, 109], [118, 97, 108, 117, 101]]
def resB (l : List UInt8) : Bool := resWords.contains l

/-- P1.4: which texts are valid names. -/
def validS (l : List UInt8) : Bool := match l with
  | [] => false
  | c :: _ => decide (l.length ≤ 16) && letterC c.toNat && decide (nameSz l = l.length) && !resB l

theorem validS_cons {l r : List UInt8} {c : UInt8} (e : l = c :: r) : validS l = (decide (l.length ≤ 16) && letterC c.toNat && decide (nameSz l = l.length) && !resB l) := by subst e; rfl

end Go.Proofs.YtgkioompcmgmdaaDoor
