/-
  Events whose labels were changed: the rows, and that the states behind them are the same but for their events. No conditions.
-/
import Derived.Test.YtgblgkkbggdopaaDoorZax
import Derived.Test.YtgblgkkbggdopaaDoorYWalkSm
namespace Go.Proofs.YtgblgkkbggdopaaDoor
open Go.RowKit

/-- Event number i with other labels. -/
def labR (a b : Int) (i : Nat) (r : List Int) : List Int := [evA r 0, a, evA r 2, b, i, b, evA r 6]
/-- The first k events with other labels. -/
def mixL (a b : Int) (k : Nat) (l : List (List Int)) : List (List Int) := l.mapIdx fun i r => if i < k then labR a b i r else r
theorem mixL_at (a b : Int) (k : Nat) (l : List (List Int)) (i : Nat) : (mixL a b k l)[i]? = l[i]?.map fun r => if i < k then labR a b i r else r := by
  simp [mixL]
theorem mixL_len (a b : Int) (k : Nat) (l : List (List Int)) : (mixL a b k l).length = l.length := by simp [mixL]
theorem mixL_zero (a b : Int) (l : List (List Int)) : mixL a b 0 l = l := by
  apply List.ext_getElem?
  intro i
  rw [mixL_at]
  cases l[i]? <;> simp
theorem mixL_rows (a b : Int) (k : Nat) (l : List (List Int)) (h : ∀ r ∈ l, r.length = 7) : ∀ r ∈ mixL a b k l, r.length = 7 := by
  intro r hr
  obtain ⟨i, hi⟩ := List.mem_iff_getElem?.1 hr
  rw [mixL_at] at hi
  cases e : l[i]? with
  | none => simp [e] at hi
  | some x =>
    simp only [e, Option.map_some, Option.some.injEq] at hi
    subst hi
    split
    · rfl
    · exact h x (List.mem_of_getElem? e)
theorem mixL_here (a b : Int) (k : Nat) (l : List (List Int)) (r : List Int) (h : l[k]? = some r) : (mixL a b k l)[k]? = some r := by
  rw [mixL_at, h]; simp
theorem mixL_step (a b : Int) (k : Nat) (l : List (List Int)) (r : List Int) (h : l[k]? = some r) : (mixL a b k l).set k (labR a b k r) = mixL a b (k + 1) l := by
  apply List.ext_getElem?
  intro i
  rw [List.getElem?_set, mixL_at, mixL_at, mixL_len]
  by_cases hki : k = i
  · subst hki
    obtain ⟨hk, he⟩ := List.getElem?_eq_some_iff.1 h
    simp [hk, he]
  · rw [if_neg hki]
    cases l[i]? with
    | none => rfl
    | some x =>
      simp only [Option.map_some]
      congr 1
      by_cases h1 : i < k
      · rw [if_pos h1, if_pos (by omega)]
      · rw [if_neg h1, if_neg (by omega)]

theorem rowC_set (k : Nat) : ∀ (rows : List (List Int)) (i j : Nat) (r : List Int) (x : Int), (∀ r ∈ rows, r.length = k) → rows[i]? = some r → j < k → (rowC rows).set (i * k + j) (.int .i64 x) = rowC (rows.set i (r.set j x))
  | [], i, j, r, x, _, hi, _ => by simp at hi
  | q :: rows, 0, j, r, x, hk, hi, hj => by
    obtain rfl : q = r := by simpa using hi
    have hl : q.length = k := hk q (by simp)
    rw [List.set_cons_zero, rowC_cons, rowC_cons, Nat.zero_mul, Nat.zero_add, List.set_append, if_pos (by simp; omega), List.map_set]
  | q :: rows, i + 1, j, r, x, hk, hi, hj => by
    have hl : q.length = k := hk q (by simp)
    have ih := rowC_set k rows i j r x (fun r hr => hk r (by simp [hr])) (by simpa using hi) hj
    have e : (i + 1) * k + j = k + (i * k + j) := by rw [Nat.add_mul]; omega
    rw [List.set_cons_succ, rowC_cons, rowC_cons, e, List.set_append, if_neg (by simp; omega), List.length_map, hl, Nat.add_sub_cancel_left, ih]

/-- Two states that are the same but for what their events are. -/
structure PAlike (s t : PS) : Prop where
  cells : s.cells = t.cells
  sent : s.sent = t.sent
  outs : s.outs = t.outs
  evs : s.evs.length = t.evs.length
theorem exeP_alike {v : En} {b : List St} {s t : PS} (h : PAlike s t) : PAlike (exeP v b s) (exeP v b t) := by
  obtain ⟨h1, h2, h3, h4⟩ := h
  unfold exeP
  exact ⟨by simp only [h1], by simp only [h1, h2, h3, h4], by simp only [h1, h2, h3, h4], h4⟩
theorem nextP_alike {c : Cd} {self procs : Int} {s t : PS} {a b : Int} {i : Nat} {r : List Int} (h : PAlike s t) : PAlike (nextP c self procs s (labR a b i r)) (nextP c self procs t r) := by
  unfold nextP
  have e : bodyP c (labR a b i r) = bodyP c r := rfl
  rw [e]
  exact exeP_alike ⟨h.cells, h.sent, h.outs, by simp [h.evs]⟩
theorem replayP_alike (c : Cd) (self procs : Int) (a b : Int) (l : List (List Int)) : ∀ (k : Nat), k ≤ l.length → PAlike (replayP c self procs ((mixL a b l.length l).take k)) (replayP c self procs (l.take k))
  | 0, _ => by rw [List.take_zero, List.take_zero]; exact ⟨rfl, rfl, rfl, rfl⟩
  | k + 1, hk => by
    obtain ⟨r, hr⟩ : ∃ r, l[k]? = some r := ⟨_, List.getElem?_eq_getElem (by omega)⟩
    have hm : (mixL a b l.length l)[k]? = some (labR a b k r) := by rw [mixL_at, hr]; simp; intro h; omega
    rw [List.take_add_one, List.take_add_one, hr, hm, Option.toList_some, Option.toList_some, replayP_snoc, replayP_snoc]
    exact nextP_alike (replayP_alike c self procs a b l k (by omega))
theorem replayP_lab (c : Cd) (self procs : Int) (a b : Int) (l : List (List Int)) : PAlike (replayP c self procs (mixL a b l.length l)) (replayP c self procs l) := by
  have := replayP_alike c self procs a b l l.length (Nat.le_refl _)
  rwa [List.take_of_length_le (by rw [mixL_len]; exact Nat.le_refl _), List.take_length] at this
end Go.Proofs.YtgblgkkbggdopaaDoor
