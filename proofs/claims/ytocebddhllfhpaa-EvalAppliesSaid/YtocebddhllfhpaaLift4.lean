/-
  From the walk of a law (it returns true and leaves memory below its own blocks as it was) to its row: what a row asks behind the call, for any number of parameters. No conditions of its own.
-/
import Derived.Test.YtocebddhllfhpaaEvQ
import Derived.Test.YtocebddhllfhpaaRows
import Derived.ProofKit
import Derived.OpenShut
import Derived.Stop.Joined
namespace Go.Proofs.Ytocebddhllfhpaa
open Go.ChangeShapes Go.WideShapes Go.ChangeAt Go.RowKit

theorem own : ownKnob Try.prog.godebug = none := by kernel_rfl
theorem laidOut : laidOutB Try.prog = true := by kernel_rfl

theorem trodAll_below {P : Program} (hlo : laidOutB P = true) {H : Type} {enc : TypeId × Value → H} {W W' : World} (hb : Below W.heap.size W W') (Ts : List TypeId) : ∀ (vs : List Value) (ds : List (DataW H)) (p : List MemPlace),
    (∀ T ∈ Ts, P.readableRec T = true ∧ T < P.types.size) → DataW.TrodAll enc P W 0 (fun _ => true) true Ts vs ds p → (∀ x ∈ p, x.block < W.heap.size) → DataW.TrodAll enc P W' 0 (fun b => decide (b < W.heap.size)) true Ts vs ds p := by
  induction Ts with
  | nil =>
    intro vs ds p _ h _
    obtain ⟨rfl, rfl, rfl⟩ := trodAll_nil h
    exact trodAll_mk0
  | cons T Ts ih =>
    intro vs ds p hr h hlt
    obtain ⟨v0, vs0, d0, ds0, p0, q0, rfl, rfl, rfl, h0, r0⟩ := trodAll_cons h
    have hT := hr T (List.mem_cons_self ..)
    exact trodAll_cons_mk (Below.trod hlo hT.1 hT.2 h0 hb (fun x hx => hlt x (List.mem_append_left _ hx))) (ih vs0 ds0 q0 (fun T h => hr T (List.mem_cons_of_mem _ h)) r0 (fun x hx => hlt x (List.mem_append_right _ hx)))

set_option maxRecDepth 100000 in
/-- What a row asks behind the call. -/
theorem lift_post {H : Type} {enc : TypeId × Value → H} {s : ChangeSpec} {f : Func} {W W' : World} {vs : List Value} {ds : List (DataW H)} {p : List MemPlace}
    (hr : f.resultTypes = #[4]) (hv : s.vars = []) (hfn : s.fn H (ds ++ []) = { results := [.lit (.bool true)], args := ds })
    (hread : (f.params.toList.all fun T => Try.prog.readableRec T && decide (T < Try.prog.types.size)) = true)
    (hW : DataW.Whole enc Try.prog f.params.toList s.vars false W vs ds [] p) (hA : DataW.TrodAll enc Try.prog W 0 (fun _ => true) true f.params.toList vs ds p) (hb : Below W.heap.size W W') :
    s.post enc Try.prog f false true false false W vs.toArray (.bool true) W' := by
  have hlt : ∀ x ∈ p, x.block < W.heap.size := fun x hx => hW.lt x hx
  refine ⟨ds, [], p, [], p, [], by simpa using hW, ?_, ?_, ?_, hb.frame _, fun h => by cases h⟩
  · rw [hfn, hr]
    exact trodAll_mk1 (shut_bool Try.underlying4 _)
  · rw [hfn]
    show DataW.TrodAll enc Try.prog W' 0 (fun b => decide (b < W.heap.size)) true f.params.toList vs ds p
    exact trodAll_below laidOut hb _ _ _ _ (fun T hT => by have h := List.all_eq_true.1 hread T hT; rw [Bool.and_eq_true, decide_eq_true_iff] at h; exact h) hA hlt
  · rw [hfn, hv]
    rfl
end Go.Proofs.Ytocebddhllfhpaa
