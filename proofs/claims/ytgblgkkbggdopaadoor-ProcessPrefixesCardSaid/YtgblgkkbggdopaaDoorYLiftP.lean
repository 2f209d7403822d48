/-
  For the laws of chapter 6: from a row's condition on the tables of names and of operators to what the walks ask of them, and what a row asks behind the call. No conditions of its own.
-/
import Derived.Test.YtgblgkkbggdopaaDoorZac
import Derived.Test.YtgblgkkbggdopaaDoorRows
import Derived.ProofKit
import Derived.OpenShut
import Derived.Stop.Joined
import Derived.LaidMore
import Derived.ShutString
import Derived.Lib.LaidTab
import Derived.LaidSub
import Derived.Stop.LaidErr
namespace Go.Proofs.YtgblgkkbggdopaaDoor
open Go.ChangeShapes Go.WideShapes Go.ChangeAt Go.RowKit

theorem own : ownKnob Tryd.prog.godebug = none := by kernel_rfl
theorem laidOut : laidOutB Tryd.prog = true := by kernel_rfl

theorem trodAll_below {P : Program} (hlo : laidOutB P = true) {H : Type} {enc : TypeId × Value → H} {W W' : World} (hb : Below W.heap.size W W') (Ts : List TypeId) : ∀ (vs : List Value) (ds : List (DataW H)) (p : List MemPlace),
    (∀ T ∈ Ts, P.readableRec T = true ∧ T < P.types.size) → DataW.TrodAll enc P W 0 (fun _ => true) true Ts vs ds p → (∀ x ∈ p, x.block < W.heap.size) → DataW.TrodAll enc P W' 0 (fun b => decide (b < W.heap.size)) true Ts vs ds p := by
  induction Ts with
  | nil =>
    intro vs ds p _ h _
    obtain ⟨rfl, rfl, rfl⟩ := trodAll_nil h
    exact trodAll_mk0
  | cons T Ts ih =>
    intro vs ds p hr h hlt
    obtain ⟨v0, vs0, d0, ds0, p0, q0, rfl, rfl, rfl, h0, r0⟩ := trodAll_cons h
    have hT := hr T (List.mem_cons_self ..)
    exact trodAll_cons_mk (Below.trod hlo hT.1 hT.2 h0 hb (fun x hx => hlt x (List.mem_append_left _ hx))) (ih vs0 ds0 q0 (fun T h => hr T (List.mem_cons_of_mem _ h)) r0 (fun x hx => hlt x (List.mem_append_right _ hx)))

set_option maxRecDepth 100000 in
/-- What a row asks behind the call. -/
theorem lift_post {H : Type} {enc : TypeId × Value → H} {s : ChangeSpec} {f : Func} {W W' : World} {vs : List Value} {ds : List (DataW H)} {p : List MemPlace}
    (hr : f.resultTypes = #[4]) (hv : s.vars = []) (hfn : s.fn H (ds ++ []) = { results := [.lit (.bool true)], args := ds })
    (hread : (f.params.toList.all fun T => Tryd.prog.readableRec T && decide (T < Tryd.prog.types.size)) = true)
    (hW : DataW.Whole enc Tryd.prog f.params.toList s.vars false W vs ds [] p) (hA : DataW.TrodAll enc Tryd.prog W 0 (fun _ => true) true f.params.toList vs ds p) (hb : Below W.heap.size W W') :
    s.post enc Tryd.prog f false true false false W vs.toArray (.bool true) W' := by
  have hlt : ∀ x ∈ p, x.block < W.heap.size := fun x hx => hW.lt x hx
  refine ⟨ds, [], p, [], p, [], by simpa using hW, ?_, ?_, ?_, hb.frame _, fun h => by cases h⟩
  · rw [hfn, hr]
    exact trodAll_mk1 (shut_bool Tryd.underlying4 _)
  · rw [hfn]
    show DataW.TrodAll enc Tryd.prog W' 0 (fun b => decide (b < W.heap.size)) true f.params.toList vs ds p
    exact trodAll_below laidOut hb _ _ _ _ (fun T hT => by have h := List.all_eq_true.1 hread T hT; rw [Bool.and_eq_true, decide_eq_true_iff] at h; exact h) hA hlt
  · rw [hfn, hv]
    rfl

theorem of_wf64 {a : Int} (h : (Lit.int .i64 a).wf = true) : -9223372036854775808 ≤ a ∧ a ≤ 9223372036854775807 := by
  simp only [Lit.wf, IntKind.min, IntKind.max, IntKind.signed, IntKind.bits, Bool.and_eq_true, decide_eq_true_eq, if_true] at h
  omega
theorem of_wf8 {a : Int} (h : (Lit.int .u8 a).wf = true) : 0 ≤ a ∧ a ≤ 255 := by
  simp [Lit.wf, IntKind.min, IntKind.max, IntKind.signed, IntKind.bits] at h
  omega

/-- The variables that the rows list. -/
def laidC : List (String × DataW Unit) := Rows.processNumbersRow.laid

/-- The heap that start-up leaves meets the condition. -/
theorem door_met (os : Os) (args : Array Value) : laidMetH Tryd.prog laidC ((World.doorLaid Tryd.prog 600 os).forCall (fun _ _ => 0) ⟨#[], args, []⟩).memory :=
  laidMetH_of_parts3 (fuel := 8) (laidMet_of_run' 8 (by kernel_rfl) (by kernel_rfl)) (by kernel_rfl) (by kernel_rfl)

theorem cellsS : Tryd.prog.cellsOf 9 = 1 := by kernel_rfl
theorem cells3S : Tryd.prog.cellsOf 119 = 3 := by kernel_rfl
theorem cells2S : Tryd.prog.cellsOf 121 = 2 := by kernel_rfl
theorem gSc : Tryd.prog.globalNamed "rollbacknet/rollbacknetmake.scalars" = some 0 := by kernel_rfl
theorem gScTy : (Tryd.prog.globals[0]?).map (·.type) = some 119 := by kernel_rfl
theorem gAr : Tryd.prog.globalNamed "rollbacknet/rollbacknetmake.arrays" = some 1 := by kernel_rfl
theorem gArTy : (Tryd.prog.globals[1]?).map (·.type) = some 121 := by kernel_rfl

def strD {H : Type} (s : List UInt8) : DataW H := .lit (.string s)
theorem rows1 : ∀ (tab : List (List UInt8)) (cs : List Value), cs.length = tab.length → (∀ i x, tab[i]? = some x → (cs.drop i).take 1 = [.string (strB x)]) → cs = tab.map fun x => .string (strB x)
  | [], cs, hl, _ => by simpa using List.eq_nil_of_length_eq_zero (by simpa using hl)
  | x :: r, [], hl, _ => by simp at hl
  | x :: r, c :: cs, hl, h => by
    have h0 := h 0 x rfl
    have hr := rows1 r cs (by simpa using hl) (fun i y hy => by simpa using h (i + 1) y (by simpa using hy))
    rw [List.map_cons, ← hr]
    simpa using h0

/-- An array of strings, from its reading. -/
theorem strs_of_laid {nm : String} {g : Nat} {t : TypeId} {tab : List (List UInt8)} (hg : Tryd.prog.globalNamed nm = some g) (ht : (Tryd.prog.globals[g]?).map (·.type) = some t) (hu : Tryd.prog.underlying t = some (.array tab.length 9)) (hn : Tryd.prog.cellsOf t = tab.length)
    {W : World} {rest : List (String × DataW Unit)} (h : laidMet Tryd.prog ((nm, .agg (tab.map strD)) :: rest) W) : ∃ T fr, W.heap[g]? = some (.cells (tab.map fun x => Value.string (strB x)).toArray T fr) := by
  obtain ⟨ps, ⟨g', t', cs, fuel, p, q, hg', ht', hvar, hd, _, _⟩, _⟩ := h
  obtain rfl := Option.some.inj (hg.symm.trans hg')
  obtain rfl := Option.some.inj (ht.symm.trans ht')
  obtain ⟨xs, m, _, hx, hl, hxl, hi⟩ := DataW.trod_array hu hd
  rw [hn] at hl
  have hx1 : xs.map (·.1) = tab.map strD := by
    have := congrArg Prod.fst hx
    simp only [DataW.agg.injEq] at this
    exact this.symm
  have hcs : cs.toList = tab.map fun x => Value.string (strB x) := rows1 tab cs.toList hl (fun i x hix => by
    have hin : i < tab.length := (List.getElem?_eq_some_iff.1 hix).1
    have hk := hi i hin
    rw [cellsS] at hk
    have hxi : xs[i]? = some (xs[i]'(by omega)) := List.getElem?_eq_getElem (by omega)
    rw [hxi] at hk
    obtain ⟨s, hs, d0, _⟩ := DataW.trod_string Tryd.underlying9 hk
    have h1 := congrArg (·[i]?) hx1
    simp only [List.getElem?_map, hix, hxi, Option.map_some, Option.some.injEq] at h1
    rw [d0] at h1
    simp only [strD, DataW.lit.injEq, Lit.string.injEq] at h1
    rw [Nat.mul_one] at hs
    rw [hs, ← h1]
    simp [strB])
  unfold World.var? at hvar
  rw [hg] at hvar
  simp only [Option.bind_some] at hvar
  split at hvar
  · rename_i cs' T fr hh
    injection hvar with e
    subst e
    refine ⟨T, fr, ?_⟩
    rw [hh, ← hcs]
  · cases hvar

/-- What a row's condition gives the walks. -/
theorem gl_of_laid {W : World} (h : laidMetH Tryd.prog laidC W) : GlAt W ∧ glTop ≤ W.heap.size := by
  rw [MakeChecks.laidMetH_plain _ _ _ (by kernel_rfl)] at h
  have h1 := strs_of_laid (tab := [[120], [121], [122]]) gSc gScTy Tryd.underlying119 cells3S h
  have h2 := strs_of_laid (tab := [[97], [98]]) gAr gArTy Tryd.underlying121 cells2S h.tail
  refine ⟨⟨h1, h2⟩, ?_⟩
  obtain ⟨_, _, h1⟩ := h1
  obtain ⟨_, _, h2⟩ := h2
  have := lt_of_block h1
  have := lt_of_block h2
  unfold glTop
  omega
end Go.Proofs.YtgblgkkbggdopaaDoor
