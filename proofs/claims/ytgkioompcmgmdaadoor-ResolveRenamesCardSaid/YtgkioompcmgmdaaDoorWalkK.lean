/-
  How tokens lie in memory. No conditions.
-/
import Derived.Test.YtgkioompcmgmdaaDoorWalkA
import Derived.Test.YtgkioompcmgmdaaDoorMathS
import Derived.Lib.IndexBytes
import Derived.Lib.SmallJoins
namespace Go.Proofs.YtgkioompcmgmdaaDoor
open Go.RowKit

abbrev tokV (kind : Int) (text : ByteArray) (value off : Int) : Value := .agg #[.int .i64 kind, .string text, .int .i64 value, .int .i64 off]
def strB (l : List UInt8) : ByteArray := ⟨l.toArray⟩
theorem strB_take (s : ByteArray) (n : Nat) : s.extract 0 n = strB (s.data.toList.take n) := by rw [Lib.extract_eq]; rfl
theorem strB_drop (s : ByteArray) (a b : Nat) : s.extract a b = strB ((s.data.toList.drop a).take (b - a)) := Lib.extract_eq s a b
/-- The four cells of a token. -/
def TokAt (w : World) (b o : Nat) (t : Tok) : Prop :=
  w.cell? ⟨b, o, none⟩ = some (.int .i64 t.kind) ∧ w.cell? ⟨b, o + 1, none⟩ = some (.string (strB t.text)) ∧ w.cell? ⟨b, o + 2, none⟩ = some (.int .i64 t.value) ∧ w.cell? ⟨b, o + 3, none⟩ = some (.int .i64 t.off)

/-- A slice of tokens reads as a list. -/
def TokSlice (w : World) (v : Value) (ts : List Tok) : Prop :=
  ∃ A c, v = .slice A ts.length c ∧ ts.length ≤ c ∧ (ts ≠ [] → ∃ b o, A = some ⟨b, o, none⟩ ∧ ∀ (i : Nat) (t : Tok), ts[i]? = some t → TokAt w b (o + i * 4) t)

theorem TokSlice.below {w w' : World} {v : Value} {ts : List Tok} (h : TokSlice w v ts) (hb : Below w.heap.size w w') : TokSlice w' v ts := by
  obtain ⟨A, c, hv, hc, h1⟩ := h
  refine ⟨A, c, hv, hc, fun hne => ?_⟩
  obtain ⟨b, o, hA, h2⟩ := h1 hne
  refine ⟨b, o, hA, fun i t hi => ?_⟩
  obtain ⟨e0, e1, e2, e3⟩ := h2 i t hi
  have hlt : b < w.heap.size := World.block_lt_of_cell? w _ e0
  exact ⟨(hb.cell (p := ⟨b, _, none⟩) hlt).trans e0, (hb.cell (p := ⟨b, _, none⟩) hlt).trans e1, (hb.cell (p := ⟨b, _, none⟩) hlt).trans e2, (hb.cell (p := ⟨b, _, none⟩) hlt).trans e3⟩

end Go.Proofs.YtgkioompcmgmdaaDoor
