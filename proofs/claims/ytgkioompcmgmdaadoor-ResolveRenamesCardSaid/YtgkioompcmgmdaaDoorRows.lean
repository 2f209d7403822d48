/-
  NARROWER THAN 'FOR EVERY INPUT', by the rows' own cells (each row's printed sentence says how): ResolveCodes: laid · ResolveRenames: laid.
  DERIVED. THE GIVEN ROWS OF THIS SEAT. 2 by the template 'for every input the law returns true; each argument reads behind the call as it read before'; 0 by the template 'total and deterministic' (their statements: YtgkioompcmgmdaaDoorTotals.lean).
  GIVEN WITH THE SEED: the statements are not yours to turn. If you find one false, say at which input.
  Laid BY PROGRAM, IN A SANDBOX (cutbox-rows.mjs): the forced cells as the released guide's own fill.sh prints them over the translation 41fb7fa3503e9173… (all of the seat's roots in one cut). By AI agents, Wed Nov 11 2026. No macro, syntax, notation, axiom, sorry.
-/
import Derived.Test.YtgkioompcmgmdaaDoorChecked
import GoSem.Claim
import GoSem.ClaimJoined
import GoSem.ClaimMapViews
import Derived.JoinedTies
import Derived.KernelRfl
namespace Go.Proofs.YtgkioompcmgmdaaDoor
/- THE CELL 'sum', in the pinned program and in every row, IS THE sha256 OF THE DUMP (.gsa) THAT YtgkioompcmgmdaaDoorProg.lean LOADS. Nothing in Lean hashes anything: it is a label: what it is worth is what the hold of that sum in a sandbox is worth. -/
noncomputable def Tryd.pinned : Pinned := { name := "ytgkioompcmgmdaadoor", sum := "41fb7fa3503e91733186dc48dd3a0cdff91f101aed219a54eb28dfd6ceb67480", checked := Tryd.checked }
namespace Rows
def none {H : Type} : Left H := { results := [], args := [] }

/- WHAT THE LISTED PACKAGE-LEVEL VARIABLES READ AS WHEN THE CALL BEGINS. Each datum BY PROGRAM (the guide's laid-datum.mjs) off the statement by which the dump's own 'gosem.cut.vars' lays the variable. In a bare row this is a premise. The card (YtgkioompcmgmdaaDoorCards.lean) ties it to the program's text. -/
def laid_rollbacknet_rollbacknetmake_scalars {H : Type} : DataW H := .agg [.lit (.string [120]), .lit (.string [121]), .lit (.string [122])]
def laid_rollbacknet_rollbacknetmake_arrays {H : Type} : DataW H := .agg [.lit (.string [97]), .lit (.string [98])]
def laid_rollbacknet_syntax_symbols {H : Type} : DataW H := .agg [.agg [.lit (.string [124, 124]), .lit (.int .i64 22), .lit (.int .i64 0)], .agg [.lit (.string [38, 38]), .lit (.int .i64 21), .lit (.int .i64 1)], .agg [.lit (.string [61, 61]), .lit (.int .i64 19), .lit (.int .i64 2)], .agg [.lit (.string [33, 61]), .lit (.int .i64 20), .lit (.int .i64 2)], .agg [.lit (.string [60]), .lit (.int .i64 15), .lit (.int .i64 2)], .agg [.lit (.string [60, 61]), .lit (.int .i64 16), .lit (.int .i64 2)], .agg [.lit (.string [62]), .lit (.int .i64 17), .lit (.int .i64 2)], .agg [.lit (.string [62, 61]), .lit (.int .i64 18), .lit (.int .i64 2)], .agg [.lit (.string [43]), .lit (.int .i64 10), .lit (.int .i64 3)], .agg [.lit (.string [45]), .lit (.int .i64 11), .lit (.int .i64 3)], .agg [.lit (.string [42]), .lit (.int .i64 12), .lit (.int .i64 4)], .agg [.lit (.string [47]), .lit (.int .i64 13), .lit (.int .i64 4)], .agg [.lit (.string [37]), .lit (.int .i64 14), .lit (.int .i64 4)], .agg [.lit (.string [45]), .lit (.int .i64 8), .lit (.int .i64 5)], .agg [.lit (.string [33]), .lit (.int .i64 9), .lit (.int .i64 5)], .agg [.lit (.string [115, 101, 108, 102]), .lit (.int .i64 4), .lit (.int .i64 6)], .agg [.lit (.string [112, 114, 111, 99, 115]), .lit (.int .i64 5), .lit (.int .i64 6)], .agg [.lit (.string [102, 114, 111, 109]), .lit (.int .i64 6), .lit (.int .i64 6)], .agg [.lit (.string [118, 97, 108, 117, 101]), .lit (.int .i64 7), .lit (.int .i64 6)]]

/-- 'rollbacknetlaw03.ResolveCodes': WHATEVER THE INPUT: true; the input reads as it did. -/
def resolveCodesSpec : ChangeSpec := { name := "resolveCodes", fn := fun _ => fun
  | [d] => { results := [.lit (.bool true)], args := [d] }
  | _ => none }
def resolveCodesRow : OpenClaim := { program := "ytgkioompcmgmdaadoor", sum := "41fb7fa3503e91733186dc48dd3a0cdff91f101aed219a54eb28dfd6ceb67480", func := "rollbacknet/rollbacknetlaw03.ResolveCodes", spec := "resolveCodes", recurses := true, named := ["rollbacknet/syntax.symbols", "rollbacknet/rollbacknetmake.scalars", "rollbacknet/rollbacknetmake.arrays"], apart := false, laid := [("rollbacknet/rollbacknetmake.scalars", laid_rollbacknet_rollbacknetmake_scalars), ("rollbacknet/rollbacknetmake.arrays", laid_rollbacknet_rollbacknetmake_arrays), ("rollbacknet/syntax.symbols", laid_rollbacknet_syntax_symbols)] }
def ResolveCodesSaid : Prop := resolveCodesRow.holds Tryd.pinned (OpenSpec.ofChange resolveCodesSpec)

/-- ITS FALSE NEIGHBOUR: 'it returns false'. Refute it at one input. -/
def resolveCodesWrong : ChangeSpec := { name := "resolveCodes", fn := fun _ => fun
  | [d] => { results := [.lit (.bool false)], args := [d] }
  | _ => none }
def ResolveCodesWrongFalsely : Prop := resolveCodesRow.holds Tryd.pinned (OpenSpec.ofChange resolveCodesWrong)

/-- 'rollbacknetlaw03.ResolveRenames': WHATEVER THE INPUT: true; the input reads as it did. -/
def resolveRenamesSpec : ChangeSpec := { name := "resolveRenames", fn := fun _ => fun
  | [d] => { results := [.lit (.bool true)], args := [d] }
  | _ => none }
def resolveRenamesRow : OpenClaim := { program := "ytgkioompcmgmdaadoor", sum := "41fb7fa3503e91733186dc48dd3a0cdff91f101aed219a54eb28dfd6ceb67480", func := "rollbacknet/rollbacknetlaw03.ResolveRenames", spec := "resolveRenames", recurses := true, named := ["rollbacknet/syntax.symbols", "rollbacknet/rollbacknetmake.scalars", "rollbacknet/rollbacknetmake.arrays"], apart := false, laid := [("rollbacknet/rollbacknetmake.scalars", laid_rollbacknet_rollbacknetmake_scalars), ("rollbacknet/rollbacknetmake.arrays", laid_rollbacknet_rollbacknetmake_arrays), ("rollbacknet/syntax.symbols", laid_rollbacknet_syntax_symbols)] }
def ResolveRenamesSaid : Prop := resolveRenamesRow.holds Tryd.pinned (OpenSpec.ofChange resolveRenamesSpec)

/-- ITS FALSE NEIGHBOUR: 'it returns false'. Refute it at one input. -/
def resolveRenamesWrong : ChangeSpec := { name := "resolveRenames", fn := fun _ => fun
  | [d] => { results := [.lit (.bool false)], args := [d] }
  | _ => none }
def ResolveRenamesWrongFalsely : Prop := resolveRenamesRow.holds Tryd.pinned (OpenSpec.ofChange resolveRenamesWrong)

/- THE SECOND FORM. 'bulk': how many values and letters a reading holds, each counted each time it is reached (what is shared counts as often as it is met; a slice's spare places count too). A statement '..UptoSaid' is the law's where the arguments, and the package variables that the reading takes, are together of bulk at most 1048576: NARROWER than '..Said'. Prove '..Said' where nothing that the law and all that it calls make is longer than what came in: it says more and counts as full. Else prove '..UptoSaid'. A law counts once. -/
mutual
def uptoBulk {H : Type} : DataW H → Nat
  | .lit (.string bytes) => bytes.length + 1
  | .lit _ => 1
  | .nil => 1
  | .ptr d => uptoBulk d + 1
  | .slice elems spare => uptoBulkAll elems + uptoBulkAll spare + 1
  | .agg parts => uptoBulkAll parts + 1
  | .iface _ d => uptoBulk d + 1
  | .map entries => uptoBulkEntries entries + 1
  | .held _ => 1
def uptoBulkAll {H : Type} : List (DataW H) → Nat
  | [] => 0
  | d :: r => uptoBulk d + uptoBulkAll r
def uptoBulkEntries {H : Type} : List (Lit × DataW H) → Nat
  | [] => 0
  | x :: r => uptoBulkEntry x + uptoBulkEntries r
def uptoBulkEntry {H : Type} : Lit × DataW H → Nat
  | (.string bytes, d) => bytes.length + uptoBulk d + 1
  | (_, d) => uptoBulk d + 1
 end
def uptoSmall : (H : Type) → List (DataW H) → Bool := fun _ ds => decide (uptoBulkAll ds ≤ 1048576)
def OpenSpec.upto (s : _root_.Go.ChangeSpec) : _root_.Go.OpenSpec := { _root_.Go.OpenSpec.ofChange s with cond := some uptoSmall }

/-- 'rollbacknetlaw03.ResolveCodes', WHERE WHAT IT READS IS OF BULK AT MOST 1048576: true; the input reads as it did. -/
def resolveCodesUptoRow : OpenClaim := { program := "ytgkioompcmgmdaadoor", sum := "41fb7fa3503e91733186dc48dd3a0cdff91f101aed219a54eb28dfd6ceb67480", func := "rollbacknet/rollbacknetlaw03.ResolveCodes", spec := "resolveCodes", recurses := true, named := ["rollbacknet/syntax.symbols", "rollbacknet/rollbacknetmake.scalars", "rollbacknet/rollbacknetmake.arrays"], apart := false, laid := [("rollbacknet/rollbacknetmake.scalars", laid_rollbacknet_rollbacknetmake_scalars), ("rollbacknet/rollbacknetmake.arrays", laid_rollbacknet_rollbacknetmake_arrays), ("rollbacknet/syntax.symbols", laid_rollbacknet_syntax_symbols)], narrowed := true }
def ResolveCodesUptoSaid : Prop := resolveCodesUptoRow.holds Tryd.pinned (OpenSpec.upto resolveCodesSpec)

/-- 'rollbacknetlaw03.ResolveRenames', WHERE WHAT IT READS IS OF BULK AT MOST 1048576: true; the input reads as it did. -/
def resolveRenamesUptoRow : OpenClaim := { program := "ytgkioompcmgmdaadoor", sum := "41fb7fa3503e91733186dc48dd3a0cdff91f101aed219a54eb28dfd6ceb67480", func := "rollbacknet/rollbacknetlaw03.ResolveRenames", spec := "resolveRenames", recurses := true, named := ["rollbacknet/syntax.symbols", "rollbacknet/rollbacknetmake.scalars", "rollbacknet/rollbacknetmake.arrays"], apart := false, laid := [("rollbacknet/rollbacknetmake.scalars", laid_rollbacknet_rollbacknetmake_scalars), ("rollbacknet/rollbacknetmake.arrays", laid_rollbacknet_rollbacknetmake_arrays), ("rollbacknet/syntax.symbols", laid_rollbacknet_syntax_symbols)], narrowed := true }
def ResolveRenamesUptoSaid : Prop := resolveRenamesUptoRow.holds Tryd.pinned (OpenSpec.upto resolveRenamesSpec)

end Rows
end Go.Proofs.YtgkioompcmgmdaaDoor
