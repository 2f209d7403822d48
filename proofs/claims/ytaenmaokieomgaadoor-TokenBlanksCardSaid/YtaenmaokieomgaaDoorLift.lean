/-
  From the walk of a law (it returns true and leaves memory below its own blocks as it was) to its row: what a row's condition on the library's variables gives, and what a row asks behind the call. No conditions of its own.
-/
import Derived.Test.YtaenmaokieomgaaDoorWalkW
import Derived.Test.YtaenmaokieomgaaDoorRows
import Derived.ProofKit
import Derived.LaidMore
import Derived.OpenShut
import Derived.ShutString
import Derived.Stop.Joined
import Derived.Stop.LaidErr
import Derived.Lib.LaidTab
import Derived.LaidSub
namespace Go.Proofs.YtaenmaokieomgaaDoor
open Go.ChangeShapes Go.WideShapes Go.ChangeAt Go.WideMaps Go.WideElems Go.RowKit

theorem own : ownKnob Tryd.prog.godebug = none := by kernel_rfl
theorem laidOut : laidOutB Tryd.prog = true := by kernel_rfl

/-- The five variables of the library's that the rows list. -/
def laid5 : List (String × DataW Unit) := Rows.tokenScansRow.laid

/-- The heap that start-up leaves meets the condition. -/
theorem door_met (os : Os) (args : Array Value) : laidMetH Tryd.prog laid5 ((World.doorLaid Tryd.prog 400 os).forCall (fun _ _ => 0) ⟨#[], args, []⟩).memory :=
  laidMetH_of_parts3 (fuel := 8) (laidMet_of_run' 8 (by kernel_rfl) (by kernel_rfl)) (by kernel_rfl) (by kernel_rfl)

theorem gTabTy : (Tryd.prog.globals[0]?).map (·.type) = some 80 := by kernel_rfl
theorem gRngTy : (Tryd.prog.globals[2]?).map (·.type) = some 52 := by kernel_rfl
theorem cellsU64 : Tryd.prog.cellsOf 68 = 1 := by kernel_rfl
theorem cellsTab : Tryd.prog.cellsOf 80 = 20 := by kernel_rfl
theorem cellsES : Tryd.prog.cellsOf 96 = 1 := by kernel_rfl
theorem cellsStr : Tryd.prog.cellsOf 9 = 1 := by kernel_rfl
theorem star : "*" ++ "errors.errorString" = "*errors.errorString" := by decide
theorem rowES (u : TypeId) (h : Tryd.prog.typeName? 3 u = some "*errors.errorString") : u = 94 :=
  typeName_ptr_named (nm := "errors.errorString") (by rw [star]; kernel_rfl) (by kernel_rfl) (by decide) u (by rw [star]; exact h)

/-- What a row's condition gives the walks. -/
theorem lw_of_laid {W : World} (h : laidMetH Tryd.prog laid5 W) : LW W := by
  rw [MakeChecks.laidMetH_plain _ _ _ (by kernel_rfl)] at h
  have h3 := h.tail.tail
  have ht : Lib.TabIs Tryd.prog W "internal/strconv.uint64pow10" .u64 Lib.pow10Tab :=
    Lib.tabIs_of_head gTab gTabTy Tryd.underlying80 Tryd.underlying68 cellsU64 cellsTab h3
  obtain ⟨a, s, hv, _⟩ := laid_sentinel h3.tail gRng gRngTy Tryd.underlying52 rowES Tryd.underlying94 Tryd.underlying96 rfl rfl Tryd.underlying9 cellsES cellsStr
  refine ⟨ht, ⟨_, _, hv⟩, ?_⟩
  have hc := World.var?_cell gRng hv 0
  have := World.block_lt_of_cell? W _ (show W.cell? ⟨2, 0, none⟩ = some (.iface 94 (.pointer (some a))) by simpa using hc)
  exact this

/-- What a row asks behind the call, one parameter. -/
theorem lift_post1 {H : Type} {enc : TypeId × Value → H} {s : ChangeSpec} {f : Func} {T : TypeId} {W W' : World} {v0 : Value} {d0 : DataW H} {p : List MemPlace}
    (hp : f.params.toList = [T]) (hr : f.resultTypes = #[4]) (hv : s.vars = []) (hfn : s.fn H ([d0] ++ []) = { results := [.lit (.bool true)], args := [d0] })
    (hread : Tryd.prog.readableRec T = true) (hrow : T < Tryd.prog.types.size)
    (hW : DataW.Whole enc Tryd.prog f.params.toList s.vars false W [v0] [d0] [] p) (h0 : DataW.Trod enc Tryd.prog W 0 (fun _ => true) true T v0 d0 p) (hb : Below W.heap.size W W') :
    s.post enc Tryd.prog f false true false false W #[v0] (.bool true) W' := by
  have hlt : ∀ x ∈ p, x.block < W.heap.size := fun x hx => hW.lt x hx
  refine ⟨[d0], [], p, [], p, [], hW, ?_, ?_, ?_, hb.frame _, fun h => by cases h⟩
  · rw [hfn, hr]
    exact trodAll_mk1 (shut_bool Tryd.underlying4 _)
  · rw [hfn, hp]
    exact trodAll_mk1 (Below.trod laidOut hread hrow h0 hb hlt)
  · rw [hfn, hv]
    rfl
end Go.Proofs.YtaenmaokieomgaaDoor
