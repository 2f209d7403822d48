/-
  Plain mathematics of chapter 3, resolve: where declarations have their cells, and which declarations a program may have. No conditions.
-/
import Derived.Test.YtgkioompcmgmdaaDoorMathP
namespace Go.Proofs.YtgkioompcmgmdaaDoor

/-- How many cells a declaration has. -/
def cellsN (v : Vr) : Int := max v.size 1
/-- The first cell and the size of a declaration, counted from a cell on. -/
def lookS (nm : List UInt8) : List Vr → Int → Int × Int × Bool
  | [], _ => (0, 0, false)
  | v :: r, s => if v.name = nm then (s, max v.size 0, true) else if 2147483648 < s + cellsN v then (0, 0, false) else lookS nm r (s + cellsN v)

theorem cellsN_pos (v : Vr) : 1 ≤ cellsN v := by unfold cellsN; omega

/-- Whether there is a text for a declaration. -/
def varOK (v : Vr) : Bool := validS v.name && decide (0 ≤ v.size) && decide (v.init ≠ -9223372036854775808) && (decide (v.size = 0) || decide (v.init = 0))

/-- What names stand for. -/
abbrev Pl := List UInt8 → Option (Int × Int)
def pl0 : Pl := fun _ => none
def Pl.upd (f : Pl) (nm : List UInt8) (x : Int × Int) : Pl := fun s => if s = nm then some x else f s
/-- All names are noted; none: one occurs twice. -/
def seenS : List Vr → Pl → Option Pl
  | [], f => some f
  | v :: r, f => if (f v.name).isSome then none else seenS r (f.upd v.name (0, 0))
/-- The initial values of all cells, and what names stand for; none: too many cells. -/
def valsS : List Vr → List Int → Pl → Option (List Int × Pl)
  | [], acc, f => some (acc, f)
  | v :: r, acc, f => if 32 - (acc.length : Int) < cellsN v then none else valsS r (acc ++ List.replicate (cellsN v).toNat v.init) (f.upd v.name (acc.length, v.size))
/-- The error of declarations, their initial values and places. -/
def declS (l : List Vr) : Int × List Int × Pl :=
  if 16 < l.length then (4, [], pl0) else
  match seenS l pl0 with
  | none => (2, [], pl0)
  | some f => match valsS l [] f with
    | none => (4, [], pl0)
    | some (a, g) => (0, a, g)
end Go.Proofs.YtgkioompcmgmdaaDoor
