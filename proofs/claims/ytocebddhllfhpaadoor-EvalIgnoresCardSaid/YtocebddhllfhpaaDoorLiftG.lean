/-
  From a row's condition on the tables of names to what the walks ask of them; what a row asks behind the call, where the row lists variables; and how arguments open. No conditions of its own.
-/
import Derived.Test.YtocebddhllfhpaaDoorLift4
import Derived.Test.YtocebddhllfhpaaDoorWalkMx
import Derived.LaidMore
import Derived.ShutString
import Derived.Lib.LaidTab
import Derived.LaidSub
import Derived.Stop.LaidErr
namespace Go.Proofs.YtocebddhllfhpaaDoor
open Go.ChangeShapes Go.WideShapes Go.ChangeAt Go.RowKit

/-- The variables that the rows list. -/
def laidE : List (String × DataW Unit) := Rows.evalTreeRow.laid

/-- The heap that start-up leaves meets the condition. -/
theorem door_met (os : Os) (args : Array Value) : laidMetH Tryd.prog laidE ((World.doorLaid Tryd.prog 600 os).forCall (fun _ _ => 0) ⟨#[], args, []⟩).memory :=
  laidMetH_of_parts3 (fuel := 8) (laidMet_of_run' 8 (by kernel_rfl) (by kernel_rfl)) (by kernel_rfl) (by kernel_rfl)

theorem cellsS : Tryd.prog.cellsOf 9 = 1 := by kernel_rfl
theorem cells3S : Tryd.prog.cellsOf 46 = 3 := by kernel_rfl
theorem cells2S : Tryd.prog.cellsOf 47 = 2 := by kernel_rfl
theorem gSc : Tryd.prog.globalNamed "rollbacknet/rollbacknetmake.scalars" = some 0 := by kernel_rfl
theorem gScTy : (Tryd.prog.globals[0]?).map (·.type) = some 46 := by kernel_rfl
theorem gAr : Tryd.prog.globalNamed "rollbacknet/rollbacknetmake.arrays" = some 1 := by kernel_rfl
theorem gArTy : (Tryd.prog.globals[1]?).map (·.type) = some 47 := by kernel_rfl

def strD {H : Type} (s : List UInt8) : DataW H := .lit (.string s)
theorem rows1 : ∀ (tab : List (List UInt8)) (cs : List Value), cs.length = tab.length → (∀ i x, tab[i]? = some x → (cs.drop i).take 1 = [.string (strB x)]) → cs = tab.map fun x => .string (strB x)
  | [], cs, hl, _ => by simpa using List.eq_nil_of_length_eq_zero (by simpa using hl)
  | x :: r, [], hl, _ => by simp at hl
  | x :: r, c :: cs, hl, h => by
    have h0 := h 0 x rfl
    have hr := rows1 r cs (by simpa using hl) (fun i y hy => by simpa using h (i + 1) y (by simpa using hy))
    rw [List.map_cons, ← hr]
    simpa using h0

/-- An array of strings, from its reading. -/
theorem strs_of_laid {nm : String} {g : Nat} {t : TypeId} {tab : List (List UInt8)} (hg : Tryd.prog.globalNamed nm = some g) (ht : (Tryd.prog.globals[g]?).map (·.type) = some t) (hu : Tryd.prog.underlying t = some (.array tab.length 9)) (hn : Tryd.prog.cellsOf t = tab.length)
    {W : World} {rest : List (String × DataW Unit)} (h : laidMet Tryd.prog ((nm, .agg (tab.map strD)) :: rest) W) : ∃ T fr, W.heap[g]? = some (.cells (tab.map fun x => Value.string (strB x)).toArray T fr) := by
  obtain ⟨ps, ⟨g', t', cs, fuel, p, q, hg', ht', hvar, hd, _, _⟩, _⟩ := h
  obtain rfl := Option.some.inj (hg.symm.trans hg')
  obtain rfl := Option.some.inj (ht.symm.trans ht')
  obtain ⟨xs, m, _, hx, hl, hxl, hi⟩ := DataW.trod_array hu hd
  rw [hn] at hl
  have hx1 : xs.map (·.1) = tab.map strD := by
    have := congrArg Prod.fst hx
    simp only [DataW.agg.injEq] at this
    exact this.symm
  have hcs : cs.toList = tab.map fun x => Value.string (strB x) := rows1 tab cs.toList hl (fun i x hix => by
    have hin : i < tab.length := (List.getElem?_eq_some_iff.1 hix).1
    have hk := hi i hin
    rw [cellsS] at hk
    have hxi : xs[i]? = some (xs[i]'(by omega)) := List.getElem?_eq_getElem (by omega)
    rw [hxi] at hk
    obtain ⟨s, hs, d0, _⟩ := DataW.trod_string Tryd.underlying9 hk
    have h1 := congrArg (·[i]?) hx1
    simp only [List.getElem?_map, hix, hxi, Option.map_some, Option.some.injEq] at h1
    rw [d0] at h1
    simp only [strD, DataW.lit.injEq, Lit.string.injEq] at h1
    rw [Nat.mul_one] at hs
    rw [hs, ← h1]
    simp [strB])
  unfold World.var? at hvar
  rw [hg] at hvar
  simp only [Option.bind_some] at hvar
  split at hvar
  · rename_i cs' T fr hh
    injection hvar with e
    subst e
    refine ⟨T, fr, ?_⟩
    rw [hh, ← hcs]
  · cases hvar

/-- What a row's condition gives the walks. -/
theorem gl_of_laid {W : World} (h : laidMetH Tryd.prog laidE W) : GlAt W ∧ glTop ≤ W.heap.size := by
  rw [MakeChecks.laidMetH_plain _ _ _ (by kernel_rfl)] at h
  have h1 := strs_of_laid (tab := [[120], [121], [122]]) gSc gScTy Tryd.underlying46 cells3S h
  have h2 := strs_of_laid (tab := [[97], [98]]) gAr gArTy Tryd.underlying47 cells2S h.tail
  refine ⟨⟨h1, h2⟩, ?_⟩
  obtain ⟨_, _, h1⟩ := h1
  obtain ⟨_, _, h2⟩ := h2
  have := lt_of_block h1
  have := lt_of_block h2
  unfold glTop
  omega
end Go.Proofs.YtocebddhllfhpaaDoor
