/-
  From the walk of a law (it returns true and leaves memory below its own blocks as it was) to its row: what a row's condition on the variables of the library and on the table of symbols gives, and what a row asks behind the call. No conditions of its own.
-/
import Derived.Test.YtdlnpfocmgclmaaDoorWalkAw
import Derived.Test.YtdlnpfocmgclmaaDoorRows
import Derived.ProofKit
import Derived.LaidMore
import Derived.OpenShut
import Derived.ShutString
import Derived.Stop.Joined
import Derived.Stop.LaidErr
import Derived.Lib.LaidTab
import Derived.LaidSub
namespace Go.Proofs.YtdlnpfocmgclmaaDoor
open Go.ChangeShapes Go.WideShapes Go.ChangeAt Go.WideMaps Go.WideElems Go.RowKit

theorem own : ownKnob Tryd.prog.godebug = none := by kernel_rfl
theorem laidOut : laidOutB Tryd.prog = true := by kernel_rfl

/-- The variables that the rows list. -/
def laid6 : List (String × DataW Unit) := Rows.syntaxDeepRow.laid

/-- The heap that start-up leaves meets the condition. -/
theorem door_met (os : Os) (args : Array Value) : laidMetH Tryd.prog laid6 ((World.doorLaid Tryd.prog 600 os).forCall (fun _ _ => 0) ⟨#[], args, []⟩).memory :=
  laidMetH_of_parts3 (fuel := 8) (laidMet_of_run' 8 (by kernel_rfl) (by kernel_rfl)) (by kernel_rfl) (by kernel_rfl)

theorem gTabTy : (Tryd.prog.globals[3]?).map (·.type) = some 117 := by kernel_rfl
theorem gRngTy : (Tryd.prog.globals[1]?).map (·.type) = some 70 := by kernel_rfl
theorem gSym : Tryd.prog.globalNamed "rollbacknet/syntax.symbols" = some 2 := by kernel_rfl
theorem gSymTy : (Tryd.prog.globals[2]?).map (·.type) = some 110 := by kernel_rfl
theorem cellsU64 : Tryd.prog.cellsOf 91 = 1 := by kernel_rfl
theorem cellsTab : Tryd.prog.cellsOf 117 = 20 := by kernel_rfl
theorem cellsES : Tryd.prog.cellsOf 105 = 1 := by kernel_rfl
theorem cellsStr : Tryd.prog.cellsOf 9 = 1 := by kernel_rfl
theorem cellsInt : Tryd.prog.cellsOf 3 = 1 := by kernel_rfl
theorem cellsSym : Tryd.prog.cellsOf 109 = 3 := by kernel_rfl
theorem cellsSyms : Tryd.prog.cellsOf 110 = 57 := by kernel_rfl
theorem star : "*" ++ "errors.errorString" = "*errors.errorString" := by decide
theorem rowES (u : TypeId) (h : Tryd.prog.typeName? 3 u = some "*errors.errorString") : u = 103 :=
  typeName_ptr_named (nm := "errors.errorString") (by rw [star]; kernel_rfl) (by kernel_rfl) (by decide) u (by rw [star]; exact h)

theorem rows_eq {α : Type} (f : α → List Value) (hf : ∀ x, (f x).length = 3) : ∀ (tab : List α) (cs : List Value), cs.length = 3 * tab.length → (∀ i x, tab[i]? = some x → (cs.drop (i * 3)).take 3 = f x) → cs = tab.flatMap f
  | [], cs, hl, _ => by simpa using List.eq_nil_of_length_eq_zero (by simpa using hl)
  | x :: r, cs, hl, h => by
    have h0 := h 0 x rfl
    have hr := rows_eq f hf r (cs.drop 3) (by simp at hl ⊢; omega) (fun i y hy => by
      rw [List.drop_drop]
      have := h (i + 1) y (by simpa using hy)
      rwa [show (i + 1) * 3 = 3 + i * 3 by omega] at this)
    rw [List.flatMap_cons, ← hr, ← h0]
    simp

def symD {H : Type} (x : List UInt8 × Int × Int) : DataW H := .agg [.lit (.string x.1), .lit (.int .i64 x.2.1), .lit (.int .i64 x.2.2)]
def symC (x : List UInt8 × Int × Int) : List Value := [.string (strB x.1), .int .i64 x.2.1, .int .i64 x.2.2]

set_option maxRecDepth 100000 in
theorem sym_row {H : Type} {enc : TypeId × Value → H} {w : World} {base : Nat} {sp : Nat → Bool} {held : Bool} {fuel : Nat} {cs : List Value} {y : DataW H × List MemPlace} {x : List UInt8 × Int × Int}
    (h : DataW.trod enc Tryd.prog w base sp held fuel 109 cs = some y) (hy : y.1 = symD x) : cs = symC x := by
  obtain ⟨xs, n, _, rfl, hl, hxl, hi⟩ := DataW.trod_struct Tryd.underlying109 h
  rw [cellsSym] at hl
  match cs, hl with
  | [c0, c1, c2], _ =>
    match xs, hxl with
    | [y0, y1, y2], _ =>
      have k0 := hi 0 _ rfl
      have k1 := hi 1 _ rfl
      have k2 := hi 2 _ rfl
      obtain ⟨s, hs, d0, _⟩ := DataW.trod_string Tryd.underlying9 (show _ = some y0 from k0)
      obtain ⟨a, ha, d1, _⟩ := DataW.trod_int Tryd.underlying3 (show _ = some y1 from k1)
      obtain ⟨b, hb, d2, _⟩ := DataW.trod_int Tryd.underlying3 (show _ = some y2 from k2)
      subst d0 d1 d2
      simp only [symD, List.map_cons, List.map_nil, DataW.agg.injEq, List.cons.injEq, DataW.lit.injEq, Lit.string.injEq, Lit.int.injEq, true_and, and_true] at hy
      obtain ⟨e0, e1, e2⟩ := hy
      have hs1 : ([c0, c1, c2].drop 0).take (Tryd.prog.cellsOf 9) = [.string s] := hs
      have ha1 : ([c0, c1, c2].drop 1).take (Tryd.prog.cellsOf 3) = [.int .i64 a] := ha
      have hb1 : ([c0, c1, c2].drop 2).take (Tryd.prog.cellsOf 3) = [.int .i64 b] := hb
      rw [cellsStr] at hs1
      rw [cellsInt] at ha1 hb1
      have hs' : c0 = .string s := by simpa using hs1
      have ha' : c1 = .int .i64 a := by simpa using ha1
      have hb' : c2 = .int .i64 b := by simpa using hb1
      subst hs' ha' hb' e1 e2
      unfold symC
      rw [← e0]
      simp [strB]

set_option maxRecDepth 100000 in
/-- The table of symbols, from its reading. -/
theorem sym_of_laid {W : World} (h : laidMet Tryd.prog [("rollbacknet/syntax.symbols", .agg (symTab.map symD))] W) : SymAt W := by
  obtain ⟨ps, ⟨g', t', cs, fuel, p, q, hg', ht', hvar, hd, _, _⟩, _⟩ := h
  obtain rfl := Option.some.inj (gSym.symm.trans hg')
  obtain rfl := Option.some.inj (gSymTy.symm.trans ht')
  obtain ⟨xs, m, _, hx, hl, hxl, hi⟩ := DataW.trod_array Tryd.underlying110 hd
  rw [cellsSyms] at hl
  have hx1 : xs.map (·.1) = symTab.map symD := by
    have := congrArg Prod.fst hx
    simp only [DataW.agg.injEq] at this
    exact this.symm
  have hcs : cs.toList = symTab.flatMap symC := rows_eq symC (fun _ => rfl) symTab cs.toList (by rw [hl]; rfl) (fun i x hix => by
    have hi19 : i < 19 := (List.getElem?_eq_some_iff.1 hix).1
    have hk := hi i hi19
    rw [cellsSym] at hk
    have hxi : xs[i]? = some (xs[i]'(by omega)) := List.getElem?_eq_getElem (by omega)
    rw [hxi] at hk
    refine sym_row hk ?_
    have h1 := congrArg (·[i]?) hx1
    simp only [List.getElem?_map, hix, hxi, Option.map_some, Option.some.injEq] at h1
    exact h1)
  unfold World.var? at hvar
  rw [gSym] at hvar
  simp only [Option.bind_some] at hvar
  split at hvar
  · rename_i cs' T fr hh
    injection hvar with e
    subst e
    refine ⟨T, fr, ?_⟩
    rw [hh]
    have : cs' = symArr := by
      apply Array.ext'
      rw [hcs]
      rfl
    rw [this]
  · cases hvar

/-- What a row's condition gives the walks. -/
theorem lw_of_laid {W : World} (h : laidMetH Tryd.prog laid6 W) : LW W ∧ SymAt W := by
  rw [MakeChecks.laidMetH_plain _ _ _ (by kernel_rfl)] at h
  have h3 := h.tail.tail
  have ht : Lib.TabIs Tryd.prog W "internal/strconv.uint64pow10" .u64 Lib.pow10Tab :=
    Lib.tabIs_of_head gTab gTabTy Tryd.underlying117 Tryd.underlying91 cellsU64 cellsTab h3
  obtain ⟨a, s, hv, _⟩ := laid_sentinel h3.tail gRng gRngTy Tryd.underlying70 rowES Tryd.underlying103 Tryd.underlying105 rfl rfl Tryd.underlying9 cellsES cellsStr
  refine ⟨⟨ht, ⟨_, _, hv⟩, ?_⟩, sym_of_laid h3.tail.tail.tail⟩
  have hc := World.var?_cell gRng hv 0
  have h1 := World.block_lt_of_cell? W _ (show W.cell? ⟨1, 0, none⟩ = some (.iface 103 (.pointer (some a))) by simpa using hc)
  have h2 := World.block_lt_of_cell? W _ (ht.cell gTab 0 (by decide))
  simp only at h1 h2
  omega

/-- What a row asks behind the call, two parameters. -/
theorem lift_post2 {H : Type} {enc : TypeId × Value → H} {s : ChangeSpec} {f : Func} {T T1 : TypeId} {W W' : World} {v0 v1 : Value} {d0 d1 : DataW H} {p p0 p1 : List MemPlace} (he : p = p0 ++ p1)
    (hp : f.params.toList = [T, T1]) (hr : f.resultTypes = #[4]) (hv : s.vars = []) (hfn : s.fn H ([d0, d1] ++ []) = { results := [.lit (.bool true)], args := [d0, d1] })
    (hread : Tryd.prog.readableRec T = true) (hrow : T < Tryd.prog.types.size) (hread1 : Tryd.prog.readableRec T1 = true) (hrow1 : T1 < Tryd.prog.types.size)
    (hW : DataW.Whole enc Tryd.prog f.params.toList s.vars false W [v0, v1] [d0, d1] [] p) (h0 : DataW.Trod enc Tryd.prog W 0 (fun _ => true) true T v0 d0 p0) (h1 : DataW.Trod enc Tryd.prog W 0 (fun _ => true) true T1 v1 d1 p1) (hb : Below W.heap.size W W') :
    s.post enc Tryd.prog f false true false false W #[v0, v1] (.bool true) W' := by
  subst he
  have hlt : ∀ x ∈ p0 ++ p1, x.block < W.heap.size := fun x hx => hW.lt x hx
  refine ⟨[d0, d1], [], p0 ++ p1, [], p0 ++ p1, [], hW, ?_, ?_, ?_, hb.frame _, fun h => by cases h⟩
  · rw [hfn, hr]
    exact trodAll_mk1 (shut_bool Tryd.underlying4 _)
  · rw [hfn, hp]
    exact trodAll_mk2 (Below.trod laidOut hread hrow h0 hb (fun x hx => hlt x (List.mem_append_left _ hx))) (Below.trod laidOut hread1 hrow1 h1 hb (fun x hx => hlt x (List.mem_append_right _ hx)))
  · rw [hfn, hv]
    rfl
end Go.Proofs.YtdlnpfocmgclmaaDoor
