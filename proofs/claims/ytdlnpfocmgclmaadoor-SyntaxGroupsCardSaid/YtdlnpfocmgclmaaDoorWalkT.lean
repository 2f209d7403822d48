/-
  Slices of tokens: what token.Scan returns, read as a list. Conditions: as for token.Scan.
-/
import Derived.Test.YtdlnpfocmgclmaaDoorWalkS
import Derived.Test.YtdlnpfocmgclmaaDoorWalkK
namespace Go.Proofs.YtdlnpfocmgclmaaDoor
open Go.RowKit

theorem flat_get : ∀ (ts : List Tok) (i : Nat) (t : Tok) (j : Nat), ts[i]? = some t → j < 4 → (ts.flatMap Tok.cells)[i * 4 + j]? = t.cells[j]?
  | [], i, t, j, h, _ => by simp at h
  | x :: r, 0, t, j, h, hj => by
    simp only [List.getElem?_cons_zero, Option.some.injEq] at h
    subst h
    rw [List.flatMap_cons, List.getElem?_append_left (by simp [Tok.cells]; omega)]
    congr 1; omega
  | x :: r, i + 1, t, j, h, hj => by
    rw [List.getElem?_cons_succ] at h
    rw [List.flatMap_cons, List.getElem?_append_right (by simp [Tok.cells]; omega), ← flat_get r i t j h hj]
    congr 1
    simp [Tok.cells]; omega

theorem tokSlice_of_own {w : World} {base : Nat} {v : Value} {ts : List Tok} (h : w.ownsRow base 54 4 v ts.length (ts.flatMap Tok.cells)) : TokSlice w v ts := by
  rcases h.2 with ⟨rfl, h0⟩ | ⟨g, cap, cur, rfl, hb, hg, hle, hcap, hsz, htk⟩
  · exact ⟨none, 0, by rw [h0], by omega, fun hne => absurd (List.length_eq_zero_iff.1 h0) hne⟩
  · refine ⟨_, cap, rfl, hle, fun _ => ⟨g, 0, rfl, fun i t hi => ?_⟩⟩
    have hc := h.cells (g := g) rfl
    have hadd : ∀ j, (⟨g, 0, none⟩ : Addr).add j = ⟨g, j, none⟩ := fun j => by unfold Addr.add; split <;> simp_all
    have e : ∀ j (hj : j < 4) u, t.cells[j]? = some u → w.cell? ⟨g, 0 + i * 4 + j, none⟩ = some u := fun j hj u hu => by
      have := hc (i * 4 + j) u (by rw [flat_get ts i t j hi hj]; exact hu)
      rw [hadd] at this
      rw [Nat.zero_add]; exact this
    exact ⟨e 0 (by omega) _ rfl, e 1 (by omega) _ rfl, e 2 (by omega) _ rfl, e 3 (by omega) _ rfl⟩

theorem scan_len {s : ByteArray} {R : ScanR} (h : scanS s.data.toList = R) : R.toks.length ≤ 100000 := by
  have := (scanS_len s.data.toList).1
  rw [h] at this
  omega

theorem scan_at (s : ByteArray) (w : World) (hL : LW w) (R : ScanR) (h : scanS s.data.toList = R) : Calls Tryd.prog 9 #[.string s] w fun e w' =>
    ∃ v, e = .returned (.tuple #[v, .int .i64 R.off, .int .i64 R.err]) ∧ TokSlice w' v R.toks ∧ Below w.heap.size w w' := by
  subst h
  exact (scan_any s w hL).mono fun e w' ⟨v, he, ho, hb⟩ => ⟨v, he, tokSlice_of_own ho, hb⟩
end Go.Proofs.YtdlnpfocmgclmaaDoor
