/-
  DERIVED. GIVEN WITH THE SEED: THE CARDS: each row of YtocebddhllfhpaaDoorRows.lean that lists a variable, with what it lists TIED to the program's text (the seventh form; the later family's looks); each row that meets fmt, with fmt's text TOLD by the authors' own Lean function (tested against real Go, not proved from fmt's source: count such statements apart). THE CARD IS WHAT COUNTS. Prove the row's statement (the work); the ties are given (YtocebddhllfhpaaDoorTie.lean); close each card by the builder's one call (the guide's Derived/Test/ToyasCard.lean, 'card_holds'). Laid BY PROGRAM, IN A SANDBOX (cutbox-door.mjs). By AI agents, Wed Nov 11 2026. No macro, syntax, notation, axiom, sorry.
-/
import Derived.Test.YtocebddhllfhpaaDoorRows
import GoSem.ClaimSeven
namespace Go.Proofs.YtocebddhllfhpaaDoor
namespace Rows

/-- THE TIED CARD OF 'rollbacknetlaw04.EvalValues'. -/
def evalValuesCard : Claim7 := { stood := { row := evalValuesRow, standIns := [], harness := (true, "03ebff3af4844f05d67794f1d0ba5f987c64ca667211c3ff511a349b0349607d"), looks := false }, kinds := [], alts := [], laidByText := true, laidKinds := [.data, .data], laidTests := true, laidLooks := .later }
def EvalValuesCardSaid : Prop := Claim7.holds Tryd.pinned (.plain (OpenSpec.ofChange evalValuesSpec)) evalValuesCard

/-- THE TIED CARD OF 'rollbacknetlaw04.EvalIgnores'. -/
def evalIgnoresCard : Claim7 := { stood := { row := evalIgnoresRow, standIns := [], harness := (true, "03ebff3af4844f05d67794f1d0ba5f987c64ca667211c3ff511a349b0349607d"), looks := false }, kinds := [], alts := [], laidByText := true, laidKinds := [.data, .data], laidTests := true, laidLooks := .later }
def EvalIgnoresCardSaid : Prop := Claim7.holds Tryd.pinned (.plain (OpenSpec.ofChange evalIgnoresSpec)) evalIgnoresCard

/-- THE TIED CARD OF 'rollbacknetlaw04.EvalTree'. -/
def evalTreeCard : Claim7 := { stood := { row := evalTreeRow, standIns := [], harness := (true, "03ebff3af4844f05d67794f1d0ba5f987c64ca667211c3ff511a349b0349607d"), looks := false }, kinds := [], alts := [], laidByText := true, laidKinds := [.data, .data], laidTests := true, laidLooks := .later }
def EvalTreeCardSaid : Prop := Claim7.holds Tryd.pinned (.plain (OpenSpec.ofChange evalTreeSpec)) evalTreeCard

/-- THE SECOND FORM's CARD OF 'rollbacknetlaw04.EvalValues'. -/
def evalValuesUptoCard : Claim7 := { stood := { row := evalValuesUptoRow, standIns := [], harness := (true, "03ebff3af4844f05d67794f1d0ba5f987c64ca667211c3ff511a349b0349607d"), looks := false }, kinds := [], alts := [], laidByText := true, laidKinds := [.data, .data], laidTests := true, laidLooks := .later }
def EvalValuesUptoCardSaid : Prop := Claim7.holds Tryd.pinned (.plain (OpenSpec.upto evalValuesSpec)) evalValuesUptoCard

/-- THE SECOND FORM's CARD OF 'rollbacknetlaw04.EvalIgnores'. -/
def evalIgnoresUptoCard : Claim7 := { stood := { row := evalIgnoresUptoRow, standIns := [], harness := (true, "03ebff3af4844f05d67794f1d0ba5f987c64ca667211c3ff511a349b0349607d"), looks := false }, kinds := [], alts := [], laidByText := true, laidKinds := [.data, .data], laidTests := true, laidLooks := .later }
def EvalIgnoresUptoCardSaid : Prop := Claim7.holds Tryd.pinned (.plain (OpenSpec.upto evalIgnoresSpec)) evalIgnoresUptoCard

/-- THE SECOND FORM's CARD OF 'rollbacknetlaw04.EvalTree'. -/
def evalTreeUptoCard : Claim7 := { stood := { row := evalTreeUptoRow, standIns := [], harness := (true, "03ebff3af4844f05d67794f1d0ba5f987c64ca667211c3ff511a349b0349607d"), looks := false }, kinds := [], alts := [], laidByText := true, laidKinds := [.data, .data], laidTests := true, laidLooks := .later }
def EvalTreeUptoCardSaid : Prop := Claim7.holds Tryd.pinned (.plain (OpenSpec.upto evalTreeSpec)) evalTreeUptoCard
end Rows
end Go.Proofs.YtocebddhllfhpaaDoor
