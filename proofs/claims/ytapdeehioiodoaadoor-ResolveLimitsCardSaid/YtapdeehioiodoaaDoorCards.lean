/-
  DERIVED. GIVEN WITH THE SEED: THE CARDS: each row of YtapdeehioiodoaaDoorRows.lean that lists a variable, with what it lists TIED to the program's text (the seventh form; the later family's looks); each row that meets fmt, with fmt's text TOLD by the authors' own Lean function (tested against real Go, not proved from fmt's source: count such statements apart). THE CARD IS WHAT COUNTS. Prove the row's statement (the work); the ties are given (YtapdeehioiodoaaDoorTie.lean); close each card by the builder's one call (the guide's Derived/Test/ToyasCard.lean, 'card_holds'). Laid BY PROGRAM, IN A SANDBOX (cutbox-door.mjs). By AI agents, Wed Nov 11 2026. No macro, syntax, notation, axiom, sorry.
-/
import Derived.Test.YtapdeehioiodoaaDoorRows
import GoSem.ClaimSeven
namespace Go.Proofs.YtapdeehioiodoaaDoor
namespace Rows

/-- THE TIED CARD OF 'rollbacknetlaw03.ResolveCodes'. -/
def resolveCodesCard : Claim7 := { stood := { row := resolveCodesRow, standIns := [], harness := (true, "c4bdcbb6320b2688cc455806595ebfc74feb5ff29f62abcbfbe34a13bb7262cf"), looks := false }, kinds := [], alts := [], laidByText := true, laidKinds := [.data, .data, .data], laidTests := true, laidLooks := .later }
def ResolveCodesCardSaid : Prop := Claim7.holds Tryd.pinned (.plain (OpenSpec.ofChange resolveCodesSpec)) resolveCodesCard

/-- THE TIED CARD OF 'rollbacknetlaw03.ResolveLooks'. -/
def resolveLooksCard : Claim7 := { stood := { row := resolveLooksRow, standIns := [], harness := (true, "c4bdcbb6320b2688cc455806595ebfc74feb5ff29f62abcbfbe34a13bb7262cf"), looks := false }, kinds := [], alts := [], laidByText := true, laidKinds := [.data], laidTests := true, laidLooks := .later }
def ResolveLooksCardSaid : Prop := Claim7.holds Tryd.pinned (.plain (OpenSpec.ofChange resolveLooksSpec)) resolveLooksCard

/-- THE TIED CARD OF 'rollbacknetlaw03.ResolveCells'. -/
def resolveCellsCard : Claim7 := { stood := { row := resolveCellsRow, standIns := [], harness := (true, "c4bdcbb6320b2688cc455806595ebfc74feb5ff29f62abcbfbe34a13bb7262cf"), looks := false }, kinds := [], alts := [], laidByText := true, laidKinds := [.data, .data, .data], laidTests := true, laidLooks := .later }
def ResolveCellsCardSaid : Prop := Claim7.holds Tryd.pinned (.plain (OpenSpec.ofChange resolveCellsSpec)) resolveCellsCard

/-- THE TIED CARD OF 'rollbacknetlaw03.ResolveRenames'. -/
def resolveRenamesCard : Claim7 := { stood := { row := resolveRenamesRow, standIns := [], harness := (true, "c4bdcbb6320b2688cc455806595ebfc74feb5ff29f62abcbfbe34a13bb7262cf"), looks := false }, kinds := [], alts := [], laidByText := true, laidKinds := [.data, .data, .data], laidTests := true, laidLooks := .later }
def ResolveRenamesCardSaid : Prop := Claim7.holds Tryd.pinned (.plain (OpenSpec.ofChange resolveRenamesSpec)) resolveRenamesCard

/-- THE TIED CARD OF 'rollbacknetlaw03.ResolveLimits'. -/
def resolveLimitsCard : Claim7 := { stood := { row := resolveLimitsRow, standIns := [], harness := (true, "c4bdcbb6320b2688cc455806595ebfc74feb5ff29f62abcbfbe34a13bb7262cf"), looks := false }, kinds := [], alts := [], laidByText := true, laidKinds := [.data], laidTests := true, laidLooks := .later }
def ResolveLimitsCardSaid : Prop := Claim7.holds Tryd.pinned (.plain (OpenSpec.ofChange resolveLimitsSpec)) resolveLimitsCard

/-- THE SECOND FORM's CARD OF 'rollbacknetlaw03.ResolveCodes'. -/
def resolveCodesUptoCard : Claim7 := { stood := { row := resolveCodesUptoRow, standIns := [], harness := (true, "c4bdcbb6320b2688cc455806595ebfc74feb5ff29f62abcbfbe34a13bb7262cf"), looks := false }, kinds := [], alts := [], laidByText := true, laidKinds := [.data, .data, .data], laidTests := true, laidLooks := .later }
def ResolveCodesUptoCardSaid : Prop := Claim7.holds Tryd.pinned (.plain (OpenSpec.upto resolveCodesSpec)) resolveCodesUptoCard

/-- THE SECOND FORM's CARD OF 'rollbacknetlaw03.ResolveLooks'. -/
def resolveLooksUptoCard : Claim7 := { stood := { row := resolveLooksUptoRow, standIns := [], harness := (true, "c4bdcbb6320b2688cc455806595ebfc74feb5ff29f62abcbfbe34a13bb7262cf"), looks := false }, kinds := [], alts := [], laidByText := true, laidKinds := [.data], laidTests := true, laidLooks := .later }
def ResolveLooksUptoCardSaid : Prop := Claim7.holds Tryd.pinned (.plain (OpenSpec.upto resolveLooksSpec)) resolveLooksUptoCard

/-- THE SECOND FORM's CARD OF 'rollbacknetlaw03.ResolveCells'. -/
def resolveCellsUptoCard : Claim7 := { stood := { row := resolveCellsUptoRow, standIns := [], harness := (true, "c4bdcbb6320b2688cc455806595ebfc74feb5ff29f62abcbfbe34a13bb7262cf"), looks := false }, kinds := [], alts := [], laidByText := true, laidKinds := [.data, .data, .data], laidTests := true, laidLooks := .later }
def ResolveCellsUptoCardSaid : Prop := Claim7.holds Tryd.pinned (.plain (OpenSpec.upto resolveCellsSpec)) resolveCellsUptoCard

/-- THE SECOND FORM's CARD OF 'rollbacknetlaw03.ResolveRenames'. -/
def resolveRenamesUptoCard : Claim7 := { stood := { row := resolveRenamesUptoRow, standIns := [], harness := (true, "c4bdcbb6320b2688cc455806595ebfc74feb5ff29f62abcbfbe34a13bb7262cf"), looks := false }, kinds := [], alts := [], laidByText := true, laidKinds := [.data, .data, .data], laidTests := true, laidLooks := .later }
def ResolveRenamesUptoCardSaid : Prop := Claim7.holds Tryd.pinned (.plain (OpenSpec.upto resolveRenamesSpec)) resolveRenamesUptoCard

/-- THE SECOND FORM's CARD OF 'rollbacknetlaw03.ResolveLimits'. -/
def resolveLimitsUptoCard : Claim7 := { stood := { row := resolveLimitsUptoRow, standIns := [], harness := (true, "c4bdcbb6320b2688cc455806595ebfc74feb5ff29f62abcbfbe34a13bb7262cf"), looks := false }, kinds := [], alts := [], laidByText := true, laidKinds := [.data], laidTests := true, laidLooks := .later }
def ResolveLimitsUptoCardSaid : Prop := Claim7.holds Tryd.pinned (.plain (OpenSpec.upto resolveLimitsSpec)) resolveLimitsUptoCard
end Rows
end Go.Proofs.YtapdeehioiodoaaDoor
