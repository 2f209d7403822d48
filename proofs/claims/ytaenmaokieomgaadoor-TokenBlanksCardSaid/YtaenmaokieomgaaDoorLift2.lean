/-
  From the walk of a law (it returns true and leaves memory below its own blocks as it was) to its row: what a row's condition on the library's variables gives, and what a row asks behind the call. No conditions of its own.
-/
import Derived.Test.YtaenmaokieomgaaDoorLift
import Derived.ProofKit
import Derived.LaidMore
import Derived.OpenShut
import Derived.ShutString
import Derived.Stop.Joined
import Derived.Stop.LaidErr
import Derived.Lib.LaidTab
import Derived.LaidSub
namespace Go.Proofs.YtaenmaokieomgaaDoor
open Go.ChangeShapes Go.WideShapes Go.ChangeAt Go.WideMaps Go.WideElems Go.RowKit

/-- .. two parameters. -/
theorem lift_post2 {H : Type} {enc : TypeId × Value → H} {s : ChangeSpec} {f : Func} {T T1 : TypeId} {W W' : World} {v0 v1 : Value} {d0 d1 : DataW H} {p p0 p1 : List MemPlace} (he : p = p0 ++ p1)
    (hp : f.params.toList = [T, T1]) (hr : f.resultTypes = #[4]) (hv : s.vars = []) (hfn : s.fn H ([d0, d1] ++ []) = { results := [.lit (.bool true)], args := [d0, d1] })
    (hread : Tryd.prog.readableRec T = true) (hrow : T < Tryd.prog.types.size) (hread1 : Tryd.prog.readableRec T1 = true) (hrow1 : T1 < Tryd.prog.types.size)
    (hW : DataW.Whole enc Tryd.prog f.params.toList s.vars false W [v0, v1] [d0, d1] [] p) (h0 : DataW.Trod enc Tryd.prog W 0 (fun _ => true) true T v0 d0 p0) (h1 : DataW.Trod enc Tryd.prog W 0 (fun _ => true) true T1 v1 d1 p1) (hb : Below W.heap.size W W') :
    s.post enc Tryd.prog f false true false false W #[v0, v1] (.bool true) W' := by
  subst he
  have hlt : ∀ x ∈ p0 ++ p1, x.block < W.heap.size := fun x hx => hW.lt x hx
  refine ⟨[d0, d1], [], p0 ++ p1, [], p0 ++ p1, [], hW, ?_, ?_, ?_, hb.frame _, fun h => by cases h⟩
  · rw [hfn, hr]
    exact trodAll_mk1 (shut_bool Tryd.underlying4 _)
  · rw [hfn, hp]
    exact trodAll_mk2 (Below.trod laidOut hread hrow h0 hb (fun x hx => hlt x (List.mem_append_left _ hx))) (Below.trod laidOut hread1 hrow1 h1 hb (fun x hx => hlt x (List.mem_append_right _ hx)))
  · rw [hfn, hv]
    rfl
end Go.Proofs.YtaenmaokieomgaaDoor
