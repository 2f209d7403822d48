/-
  DERIVED. GIVEN WITH THE SEED: THE CARDS: each row of YtgblgkkbggdopaaDoorRows.lean that lists a variable, with what it lists TIED to the program's text (the seventh form; the later family's looks); each row that meets fmt, with fmt's text TOLD by the authors' own Lean function (tested against real Go, not proved from fmt's source: count such statements apart). THE CARD IS WHAT COUNTS. Prove the row's statement (the work); the ties are given (YtgblgkkbggdopaaDoorTie.lean); close each card by the builder's one call (the guide's Derived/Test/ToyasCard.lean, 'card_holds'). Laid BY PROGRAM, IN A SANDBOX (cutbox-door.mjs). By AI agents, Wed Nov 11 2026. No macro, syntax, notation, axiom, sorry.
-/
import Derived.Test.YtgblgkkbggdopaaDoorRows
import GoSem.ClaimSeven
namespace Go.Proofs.YtgblgkkbggdopaaDoor
namespace Rows

/-- THE TIED CARD OF 'rollbacknetlaw06.ProcessStates'. -/
def processStatesCard : Claim7 := { stood := { row := processStatesRow, standIns := [], harness := (true, "4d3489d40038467725dd3de814bb53d7e54ca81f7d376d3321760a4e2428995c"), looks := true }, kinds := [], alts := [], laidByText := true, laidKinds := [.data, .data], laidTests := true, laidLooks := .later }
def ProcessStatesCardSaid : Prop := Claim7.holds Tryd.pinned (.plain (OpenSpec.ofChange processStatesSpec)) processStatesCard

/-- THE TIED CARD OF 'rollbacknetlaw06.ProcessPrefixes'. -/
def processPrefixesCard : Claim7 := { stood := { row := processPrefixesRow, standIns := [], harness := (true, "4d3489d40038467725dd3de814bb53d7e54ca81f7d376d3321760a4e2428995c"), looks := true }, kinds := [], alts := [], laidByText := true, laidKinds := [.data, .data], laidTests := true, laidLooks := .later }
def ProcessPrefixesCardSaid : Prop := Claim7.holds Tryd.pinned (.plain (OpenSpec.ofChange processPrefixesSpec)) processPrefixesCard

/-- THE TIED CARD OF 'rollbacknetlaw06.ProcessAsks'. -/
def processAsksCard : Claim7 := { stood := { row := processAsksRow, standIns := [], harness := (true, "4d3489d40038467725dd3de814bb53d7e54ca81f7d376d3321760a4e2428995c"), looks := true }, kinds := [], alts := [], laidByText := true, laidKinds := [.data, .data], laidTests := true, laidLooks := .later }
def ProcessAsksCardSaid : Prop := Claim7.holds Tryd.pinned (.plain (OpenSpec.ofChange processAsksSpec)) processAsksCard

/-- THE TIED CARD OF 'rollbacknetlaw06.ProcessLabels'. -/
def processLabelsCard : Claim7 := { stood := { row := processLabelsRow, standIns := [], harness := (true, "4d3489d40038467725dd3de814bb53d7e54ca81f7d376d3321760a4e2428995c"), looks := true }, kinds := [], alts := [], laidByText := true, laidKinds := [.data, .data], laidTests := true, laidLooks := .later }
def ProcessLabelsCardSaid : Prop := Claim7.holds Tryd.pinned (.plain (OpenSpec.ofChange processLabelsSpec)) processLabelsCard

/-- THE TIED CARD OF 'rollbacknetlaw06.ProcessNumbers'. -/
def processNumbersCard : Claim7 := { stood := { row := processNumbersRow, standIns := [], harness := (true, "4d3489d40038467725dd3de814bb53d7e54ca81f7d376d3321760a4e2428995c"), looks := true }, kinds := [], alts := [], laidByText := true, laidKinds := [.data, .data], laidTests := true, laidLooks := .later }
def ProcessNumbersCardSaid : Prop := Claim7.holds Tryd.pinned (.plain (OpenSpec.ofChange processNumbersSpec)) processNumbersCard

/-- THE SECOND FORM's CARD OF 'rollbacknetlaw06.ProcessStates'. -/
def processStatesUptoCard : Claim7 := { stood := { row := processStatesUptoRow, standIns := [], harness := (true, "4d3489d40038467725dd3de814bb53d7e54ca81f7d376d3321760a4e2428995c"), looks := true }, kinds := [], alts := [], laidByText := true, laidKinds := [.data, .data], laidTests := true, laidLooks := .later }
def ProcessStatesUptoCardSaid : Prop := Claim7.holds Tryd.pinned (.plain (OpenSpec.upto processStatesSpec)) processStatesUptoCard

/-- THE SECOND FORM's CARD OF 'rollbacknetlaw06.ProcessPrefixes'. -/
def processPrefixesUptoCard : Claim7 := { stood := { row := processPrefixesUptoRow, standIns := [], harness := (true, "4d3489d40038467725dd3de814bb53d7e54ca81f7d376d3321760a4e2428995c"), looks := true }, kinds := [], alts := [], laidByText := true, laidKinds := [.data, .data], laidTests := true, laidLooks := .later }
def ProcessPrefixesUptoCardSaid : Prop := Claim7.holds Tryd.pinned (.plain (OpenSpec.upto processPrefixesSpec)) processPrefixesUptoCard

/-- THE SECOND FORM's CARD OF 'rollbacknetlaw06.ProcessAsks'. -/
def processAsksUptoCard : Claim7 := { stood := { row := processAsksUptoRow, standIns := [], harness := (true, "4d3489d40038467725dd3de814bb53d7e54ca81f7d376d3321760a4e2428995c"), looks := true }, kinds := [], alts := [], laidByText := true, laidKinds := [.data, .data], laidTests := true, laidLooks := .later }
def ProcessAsksUptoCardSaid : Prop := Claim7.holds Tryd.pinned (.plain (OpenSpec.upto processAsksSpec)) processAsksUptoCard

/-- THE SECOND FORM's CARD OF 'rollbacknetlaw06.ProcessLabels'. -/
def processLabelsUptoCard : Claim7 := { stood := { row := processLabelsUptoRow, standIns := [], harness := (true, "4d3489d40038467725dd3de814bb53d7e54ca81f7d376d3321760a4e2428995c"), looks := true }, kinds := [], alts := [], laidByText := true, laidKinds := [.data, .data], laidTests := true, laidLooks := .later }
def ProcessLabelsUptoCardSaid : Prop := Claim7.holds Tryd.pinned (.plain (OpenSpec.upto processLabelsSpec)) processLabelsUptoCard

/-- THE SECOND FORM's CARD OF 'rollbacknetlaw06.ProcessNumbers'. -/
def processNumbersUptoCard : Claim7 := { stood := { row := processNumbersUptoRow, standIns := [], harness := (true, "4d3489d40038467725dd3de814bb53d7e54ca81f7d376d3321760a4e2428995c"), looks := true }, kinds := [], alts := [], laidByText := true, laidKinds := [.data, .data], laidTests := true, laidLooks := .later }
def ProcessNumbersUptoCardSaid : Prop := Claim7.holds Tryd.pinned (.plain (OpenSpec.upto processNumbersSpec)) processNumbersUptoCard
end Rows
end Go.Proofs.YtgblgkkbggdopaaDoor
