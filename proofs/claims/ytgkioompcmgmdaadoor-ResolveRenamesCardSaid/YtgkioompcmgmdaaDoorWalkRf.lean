/-
  What find and expr of package resolve's resolver do where all names are declared and stand for what they are declared as. Conditions: the resolver lies at block R; names have at most 4096 bytes.
-/
import Derived.Test.YtgkioompcmgmdaaDoorWalkDc
import Derived.Test.YtgkioompcmgmdaaDoorWalkDp
import Derived.Test.YtgkioompcmgmdaaDoorWalkZs
namespace Go.Proofs.YtgkioompcmgmdaaDoor
open Go.RowKit

/-- The resolver at block R: what names stand for is f. -/
structure RSt (R : Nat) (w : World) (f : Pl) : Prop where
  at' : ∃ b n D, w.heap[R]? = some (.cells #[.map (some b), .bool false, .bool false] 65 (0, 0)) ∧ w.ownsMap Tryd.prog 9 RvP b n D ∧ PlIs D f
theorem RSt.below {R : Nat} {w w' : World} {f : Pl} (h : RSt R w f) (hb : Below w.heap.size w w') : RSt R w' f := by
  obtain ⟨b, n, D, h1, h2, h3⟩ := h
  exact ⟨b, n, D, below_blk hb h1, map_below h2 hb, h3⟩
theorem RSt.lt {R : Nat} {w : World} {f : Pl} (h : RSt R w f) : R < w.heap.size := by
  obtain ⟨b, n, D, h1, _⟩ := h
  exact lt_of_block h1

set_option maxHeartbeats 1000000 in
set_option maxRecDepth 100000 in
theorem find_good (R : Nat) (f : Pl) (nm : List UInt8) (arr : Bool) (x : Int × Int) (w : World) (h : RSt R w f) (hnm : nm.length ≤ 4096) (hf : f nm = some x) (ha : arr = decide (0 < x.2)) :
    Calls Tryd.prog 36 #[.pointer (some ⟨R, 0, none⟩), .string (strB nm), .bool arr] w fun e w' => e = .returned (plV x) ∧ Below w.heap.size w w' := by
  obtain ⟨b, n, D, h1, h2, h3⟩ := h
  have hlk := look_pl (map_below h2 ((Below.refl w.heap.size w).alloc (Nat.le_refl _) (.cells #[.int .i64 0, .int .i64 0] 83))) h3 nm hnm
  rw [hf] at hlk
  obtain ⟨x1, x2⟩ := x
  simp only [Option.getD_some, Option.isSome_some, plV] at hlk ⊢
  simp only at ha
  have hR := lt_of_block h1
  have d0 : w.cell? ⟨R, 0, none⟩ = some (.map (some b)) := by rw [Lib.cell_of_heap h1]; rfl
  clear h1 h2 h3 hf
  by_cases hp : 0 < x2
  · have : arr = true := by rw [ha]; simpa using hp
    subst this
    clear ha
    go_enter Tryd.func36, Tryd.ntmps36
    go_wp2_with fail
    refine bodyPost_ret (v := .agg #[.int .i64 x1, .int .i64 x2]) ?_ rfl ?_
    · simp [results, Tryd.results36, go_sem]
    · refine ⟨rfl, ?_⟩
      exact ((Below.refl _ _).alloc (Nat.le_refl _) _).alloc (by rw [new_size]; omega) _
  · have : arr = false := by rw [ha]; simpa using hp
    subst this
    have hp' : x2 ≤ 0 := by omega
    clear ha hp
    go_enter Tryd.func36, Tryd.ntmps36
    go_wp2_with fail
    refine bodyPost_ret (v := .agg #[.int .i64 x1, .int .i64 x2]) ?_ rfl ?_
    · simp [results, Tryd.results36, go_sem]
    · refine ⟨rfl, ?_⟩
      exact ((Below.refl _ _).alloc (Nat.le_refl _) _).alloc (by rw [new_size]; omega) _

/-- Expressions and their cells. -/
def ExAll (S : Nat → Prop) (w : World) : List Ex → List (List Value) → Prop
  | [], [] => True
  | s :: r, c :: cs => ExL S w s c ∧ ExAll S w r cs
  | _, _ => False

theorem ExAll.still {S S' : Nat → Prop} {w w' : World} (hs : Still S S' w w') : ∀ (l : List Ex) (css : List (List Value)), ExAll S w l css → ExAll S' w' l css
  | [], [], _ => trivial
  | _ :: _, [], h => h.elim
  | [], _ :: _, h => h.elim
  | s :: r, c :: cs, h => ⟨ExL.still hs s c h.1, ExAll.still hs r cs h.2⟩
theorem ExAll.snoc {S : Nat → Prop} {w : World} {s : Ex} {c : List Value} (hs : ExL S w s c) : ∀ (l : List Ex) (css : List (List Value)), ExAll S w l css → ExAll S w (l ++ [s]) (css ++ [c])
  | [], [], _ => ⟨hs, trivial⟩
  | _ :: _, [], h => h.elim
  | [], _ :: _, h => h.elim
  | _ :: r, _ :: cs, h => ⟨h.1, ExAll.snoc hs r cs h.2⟩
theorem ExAll.row {S : Nat → Prop} {w : World} {g : Nat} : ∀ (l : List Ex) (css : List (List Value)) (o : Nat), ExAll S w l css → CellsAt w g o css.flatten → ExRow S w l g o
  | [], [], o, _, _ => by simp only [ExRow]
  | _ :: _, [], _, h, _ => h.elim
  | [], _ :: _, _, h, _ => h.elim
  | s :: r, c :: cs, o, h, hc => by
    have hl := h.1.shape.1
    simp only [ExRow]
    refine ⟨⟨c, fun j u hj => hc j u ?_, h.1⟩, ExAll.row r cs (o + 6) h.2 fun j u hj => ?_⟩
    · rw [List.flatten_cons, List.getElem?_append_left (List.getElem?_eq_some_iff.1 hj).1]; exact hj
    · have := hc (6 + j) u (by rw [List.flatten_cons, List.getElem?_append_right (by omega), hl]; simpa using hj)
      rw [← Nat.add_assoc] at this; exact this

/-- A slice of the call's own, all of whose expressions are known, reads as their list. -/
theorem own_exs {w : World} {n0 : Nat} {v : Value} {acc : List Ex} {css : List (List Value)} (h : w.ownsRow n0 55 6 v acc.length css.flatten) (ha : ExAll (Sv n0 v) w acc css) :
    ∃ A c, v = .slice A acc.length c ∧ acc.length ≤ c ∧ (acc ≠ [] → ∃ b o, A = some ⟨b, o, none⟩ ∧ n0 ≤ b ∧ ExRow (From n0) w acc b o) := by
  rcases h.2 with ⟨rfl, h0⟩ | ⟨g, cap, cur, rfl, hb, hg, hle, hcap, hsz, htk⟩
  · rw [List.length_eq_zero_iff.1 h0]; exact ⟨none, 0, rfl, Nat.le_refl _, fun h => absurd rfl h⟩
  · refine ⟨_, cap, rfl, hle, fun _ => ⟨g, 0, rfl, hb, ?_⟩⟩
    have hc := h.cells (g := g) rfl
    have ha' : ExAll (From n0) w acc css := ExAll.still (fun b hb' _ => ⟨hb'.1, rfl⟩) acc css ha
    exact ExAll.row acc css 0 ha' fun j u hj => by
      have := hc j u hj
      rwa [show (⟨g, 0, none⟩ : Addr).add j = ⟨g, 0 + j, none⟩ from by unfold Addr.add; split <;> simp_all] at this

theorem infoEx3 : (Tryd.prog.info? 55).map (fun i => (i.zero, i.size, i.bytes)) = some (some (.agg #[.int .i64 0, .int .i64 0, .string ⟨#[]⟩, .int .i64 0, .int .i64 0, .slice none 0 0]), 6, 72) := by kernel_rfl

mutual
/-- An expression with the places of its names. -/
def Ex.res (f : Pl) : Ex → Ex
  | .mk op v nm sl sz args => if op = 2 ∨ op = 3 then .mk op v nm ((f nm).getD (0, 0)).1 ((f nm).getD (0, 0)).2 (Ex.resL f args) else .mk op v nm sl sz (Ex.resL f args)
def Ex.resL (f : Pl) : List Ex → List Ex
  | [] => []
  | e :: r => e.res f :: Ex.resL f r
end
mutual
/-- All names are declared and stand for what they are declared as. -/
def Ex.rok (f : Pl) : Ex → Prop
  | .mk op _ nm _ _ args => (op = 2 → ∃ x, f nm = some x ∧ ¬ 0 < x.2) ∧ (op = 3 → ∃ x, f nm = some x ∧ 0 < x.2) ∧ nm.length ≤ 4096 ∧ Ex.rokL f args
def Ex.rokL (f : Pl) : List Ex → Prop
  | [] => True
  | e :: r => e.rok f ∧ Ex.rokL f r
end
theorem rokL_at (f : Pl) : ∀ (l : List Ex) (k : Nat) (e : Ex), Ex.rokL f l → l[k]? = some e → e.rok f
  | [], _, _, _, h => by simp at h
  | x :: r, 0, e, hs, h => by
    simp only [List.getElem?_cons_zero, Option.some.injEq] at h
    subst h
    simp only [Ex.rokL] at hs
    exact hs.1
  | x :: r, k + 1, e, hs, h => by
    simp only [List.getElem?_cons_succ] at h
    simp only [Ex.rokL] at hs
    exact rokL_at f r k e hs.2 h
theorem resL_take (f : Pl) : ∀ (l : List Ex) (k : Nat) (e : Ex), l[k]? = some e → Ex.resL f (l.take (k + 1)) = Ex.resL f (l.take k) ++ [e.res f]
  | [], _, _, h => by simp at h
  | x :: r, 0, e, h => by
    simp only [List.getElem?_cons_zero, Option.some.injEq] at h
    subst h
    simp [Ex.resL]
  | x :: r, k + 1, e, h => by
    simp only [List.getElem?_cons_succ] at h
    simp [Ex.resL, resL_take f r k e h]
theorem resL_len (f : Pl) : ∀ (l : List Ex), (Ex.resL f l).length = l.length
  | [] => rfl
  | x :: r => by simp [Ex.resL, resL_len f r]

end Go.Proofs.YtgkioompcmgmdaaDoor
