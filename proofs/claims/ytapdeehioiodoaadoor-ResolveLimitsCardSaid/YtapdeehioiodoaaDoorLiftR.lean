/-
  From the walk of a law of chapter 3 (it returns true and leaves memory below its own blocks as it was) to its row: what a list of declarations that came in reads as, and what a row asks behind the call. No conditions of its own.
-/
import Derived.Test.YtapdeehioiodoaaDoorWalkA3
import Derived.Test.YtapdeehioiodoaaDoorRows
import Derived.ProofKit
import Derived.LaidMore
import Derived.OpenShut
import Derived.ShutString
import Derived.Stop.Joined
import Derived.LaidSub
import Derived.Deep.Slices
import Derived.Deep.Strs
namespace Go.Proofs.YtapdeehioiodoaaDoor
open Go.ChangeShapes Go.WideShapes Go.ChangeAt Go.WideMaps Go.WideElems Go.RowKit

theorem own : ownKnob Tryd.prog.godebug = none := by kernel_rfl
theorem laidOut : laidOutB Tryd.prog = true := by kernel_rfl

/-- The variable that the rows list. -/
def laidR : List (String × DataW Unit) := Rows.resolveLooksRow.laid

/-- The heap that start-up leaves meets the condition. -/
theorem door_met (os : Os) (args : Array Value) : laidMetH Tryd.prog laidR ((World.doorLaid Tryd.prog 600 os).forCall (fun _ _ => 0) ⟨#[], args, []⟩).memory :=
  laidMetH_of_parts3 (fuel := 8) (laidMet_of_run' 8 (by kernel_rfl) (by kernel_rfl)) (by kernel_rfl) (by kernel_rfl)

section
variable {H : Type} {enc : TypeId × Value → H}
theorem cellsVr : Tryd.prog.cellsOf 42 = 3 := by kernel_rfl
theorem cellsStr : Tryd.prog.cellsOf 9 = 1 := by kernel_rfl
theorem cellsInt : Tryd.prog.cellsOf 3 = 1 := by kernel_rfl

theorem cells_of_rows {w : World} {b : Nat} : ∀ (l : List Vr) (o : Nat), (∀ i v, l[i]? = some v → CellsAt w b (o + i * 3) (vrCells v)) → CellsAt w b o (l.flatMap vrCells)
  | [], _, _ => fun j u hj => by simp at hj
  | v :: r, o, h => fun j u hj => by
    rw [List.flatMap_cons] at hj
    by_cases h3 : j < 3
    · rw [List.getElem?_append_left (by simpa [vrCells] using h3)] at hj
      simpa using h 0 v rfl j u hj
    · rw [List.getElem?_append_right (by simp [vrCells]; omega)] at hj
      have := cells_of_rows r (o + 3) (fun i x hx => by
        have := h (i + 1) x hx
        rwa [show o + (i + 1) * 3 = o + 3 + i * 3 by omega] at this) (j - 3) u (by simpa [vrCells] using hj)
      rwa [show o + 3 + (j - 3) = o + j by omega] at this

instance : Inhabited Vr := ⟨⟨[], 0, 0⟩⟩

set_option maxRecDepth 100000 in
/-- What a list of declarations that came in gives. -/
theorem open_vars {W : World} {A : Option Addr} {n c : Nat} {d : DataW H} {p : List MemPlace} (h : DataW.Trod enc Tryd.prog W 0 (fun _ => true) true 26 (.slice A n c) d p) : ∃ l, VrSlice (fun _ => True) W l (.slice A n c) := by
  obtain ⟨fuel, hf⟩ := h
  rcases Go.Deep.open_slice Tryd.underlying26 hf with ⟨hcs, _⟩ | ⟨a, len, cap, m, nn, D, Pl, hcs, _, hl, _, hmm, _, hi⟩
  · simp [Value.cells] at hcs
    obtain ⟨rfl, rfl, rfl⟩ := hcs
    exact ⟨[], none, 0, rfl, Nat.le_refl _, fun h => absurd rfl h⟩
  · simp [Value.cells] at hcs
    obtain ⟨rfl, e2, e3⟩ := hcs
    subst e2 e3
    simp only [if_true] at hmm
    subst hmm
    have hx : ∀ i, i < n → ∃ x : Vr, ∀ j u, (vrCells x)[j]? = some u → W.cell? (a.add (i * 3 + j)) = some u := fun i hil => by
      obtain ⟨cs', hc, ht⟩ := hi i (by omega)
      rw [cellsVr] at hc
      obtain ⟨_, hcl, hat⟩ := World.cells?_some hc
      obtain ⟨y0, y1, y2, k, _, _, h0, h1, h2⟩ := Go.Deep.trod_struct3 Tryd.underlying42 ht
      match cs', hcl with
      | [c0, c1, c2], _ =>
        obtain ⟨s, hs, _, _⟩ := DataW.trod_string Tryd.underlying9 (show _ = some y0 from h0)
        obtain ⟨z1, hz1, _, _⟩ := DataW.trod_int Tryd.underlying3 (show _ = some y1 from h1)
        obtain ⟨z2, hz2, _, _⟩ := DataW.trod_int Tryd.underlying3 (show _ = some y2 from h2)
        have hs1 : ([c0, c1, c2].drop 0).take (Tryd.prog.cellsOf 9) = [.string s] := hs
        have ha1 : ([c0, c1, c2].drop 1).take (Tryd.prog.cellsOf 3) = [.int .i64 z1] := hz1
        have hb1 : ([c0, c1, c2].drop 2).take (Tryd.prog.cellsOf 3) = [.int .i64 z2] := hz2
        rw [cellsStr] at hs1
        rw [cellsInt] at ha1 hb1
        have hs' : c0 = .string s := by simpa using hs1
        have ha' : c1 = .int .i64 z1 := by simpa using ha1
        have hb' : c2 = .int .i64 z2 := by simpa using hb1
        subst hs' ha' hb'
        refine ⟨⟨s.data.toList, z1, z2⟩, fun j u hj => ?_⟩
        have hadd : ∀ x y : Nat, (a.add x).add y = a.add (x + y) := fun x y => by
          unfold Addr.add
          (repeat' split) <;> simp_all <;> omega
        have hj3 : j < 3 := by have := (List.getElem?_eq_some_iff.1 hj).1; simpa [vrCells] using this
        rw [← hadd, hat j hj3]
        match j, hj3 with
        | 0, _ => simpa [vrCells, strB] using hj
        | 1, _ => simpa [vrCells] using hj
        | 2, _ => simpa [vrCells] using hj
    obtain ⟨V, hV⟩ := Go.Deep.choose_lt (p := fun i (x : Vr) => ∀ j u, (vrCells x)[j]? = some u → W.cell? (a.add (i * 3 + j)) = some u) hx
    refine ⟨(List.range n).map V, some a, m, by simp, by simpa using hl, fun hne => ?_⟩
    have h0 : 0 < n := by
      cases n with
      | zero => exact absurd rfl hne
      | succ k => omega
    obtain ⟨ab, ao, spot⟩ := a
    have hspot : spot = none := by
      have := World.cell?_spot (hV 0 h0 0 _ rfl)
      simpa [Addr.add] using this
    subst hspot
    refine ⟨ab, ao, rfl, trivial, cells_of_rows _ _ fun i v hv j u hj => ?_⟩
    have hil : i < n := by have := (List.getElem?_eq_some_iff.1 hv).1; simpa using this
    have hv' : V i = v := by
      rw [List.getElem?_map, List.getElem?_range hil] at hv
      simpa using hv
    subst hv'
    have := hV i hil j u hj
    rwa [Addr.add_lit, ← Nat.add_assoc] at this
end

/-- What a row asks behind the call, two parameters. -/
theorem lift_post2 {H : Type} {enc : TypeId × Value → H} {s : ChangeSpec} {f : Func} {T T1 : TypeId} {W W' : World} {v0 v1 : Value} {d0 d1 : DataW H} {p p0 p1 : List MemPlace} (he : p = p0 ++ p1)
    (hp : f.params.toList = [T, T1]) (hr : f.resultTypes = #[4]) (hv : s.vars = []) (hfn : s.fn H ([d0, d1] ++ []) = { results := [.lit (.bool true)], args := [d0, d1] })
    (hread : Tryd.prog.readableRec T = true) (hrow : T < Tryd.prog.types.size) (hread1 : Tryd.prog.readableRec T1 = true) (hrow1 : T1 < Tryd.prog.types.size)
    (hW : DataW.Whole enc Tryd.prog f.params.toList s.vars false W [v0, v1] [d0, d1] [] p) (h0 : DataW.Trod enc Tryd.prog W 0 (fun _ => true) true T v0 d0 p0) (h1 : DataW.Trod enc Tryd.prog W 0 (fun _ => true) true T1 v1 d1 p1) (hb : Below W.heap.size W W') :
    s.post enc Tryd.prog f false true false false W #[v0, v1] (.bool true) W' := by
  subst he
  have hlt : ∀ x ∈ p0 ++ p1, x.block < W.heap.size := fun x hx => hW.lt x hx
  refine ⟨[d0, d1], [], p0 ++ p1, [], p0 ++ p1, [], hW, ?_, ?_, ?_, hb.frame _, fun h => by cases h⟩
  · rw [hfn, hr]
    exact trodAll_mk1 (shut_bool Tryd.underlying4 _)
  · rw [hfn, hp]
    exact trodAll_mk2 (Below.trod laidOut hread hrow h0 hb (fun x hx => hlt x (List.mem_append_left _ hx))) (Below.trod laidOut hread1 hrow1 h1 hb (fun x hx => hlt x (List.mem_append_right _ hx)))
  · rw [hfn, hv]
    rfl

/-- What a row asks behind the call, three parameters. -/
theorem lift_post3 {H : Type} {enc : TypeId × Value → H} {s : ChangeSpec} {f : Func} {T T1 T2 : TypeId} {W W' : World} {v0 v1 v2 : Value} {d0 d1 d2 : DataW H} {p p0 p1 p2 : List MemPlace} (he : p = p0 ++ (p1 ++ p2))
    (hp : f.params.toList = [T, T1, T2]) (hr : f.resultTypes = #[4]) (hv : s.vars = []) (hfn : s.fn H ([d0, d1, d2] ++ []) = { results := [.lit (.bool true)], args := [d0, d1, d2] })
    (hread : Tryd.prog.readableRec T = true) (hrow : T < Tryd.prog.types.size) (hread1 : Tryd.prog.readableRec T1 = true) (hrow1 : T1 < Tryd.prog.types.size) (hread2 : Tryd.prog.readableRec T2 = true) (hrow2 : T2 < Tryd.prog.types.size)
    (hW : DataW.Whole enc Tryd.prog f.params.toList s.vars false W [v0, v1, v2] [d0, d1, d2] [] p) (h0 : DataW.Trod enc Tryd.prog W 0 (fun _ => true) true T v0 d0 p0) (h1 : DataW.Trod enc Tryd.prog W 0 (fun _ => true) true T1 v1 d1 p1) (h2 : DataW.Trod enc Tryd.prog W 0 (fun _ => true) true T2 v2 d2 p2) (hb : Below W.heap.size W W') :
    s.post enc Tryd.prog f false true false false W #[v0, v1, v2] (.bool true) W' := by
  subst he
  have hlt : ∀ x ∈ p0 ++ (p1 ++ p2), x.block < W.heap.size := fun x hx => hW.lt x hx
  refine ⟨[d0, d1, d2], [], p0 ++ (p1 ++ p2), [], p0 ++ (p1 ++ p2), [], hW, ?_, ?_, ?_, hb.frame _, fun h => by cases h⟩
  · rw [hfn, hr]
    exact trodAll_mk1 (shut_bool Tryd.underlying4 _)
  · rw [hfn, hp]
    exact trodAll_mk3 (Below.trod laidOut hread hrow h0 hb (fun x hx => hlt x (List.mem_append_left _ hx))) (Below.trod laidOut hread1 hrow1 h1 hb (fun x hx => hlt x (List.mem_append_right _ (List.mem_append_left _ hx)))) (Below.trod laidOut hread2 hrow2 h2 hb (fun x hx => hlt x (List.mem_append_right _ (List.mem_append_right _ hx))))
  · rw [hfn, hv]
    rfl
end Go.Proofs.YtapdeehioiodoaaDoor
