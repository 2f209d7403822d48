/-
  How a parser of package syntax and the expressions and statements that it makes lie in memory, and what stays of them. No conditions.
-/
import Derived.Test.YtgkioompcmgmdaaDoorWalkK
import Derived.Test.YtgkioompcmgmdaaDoorMathP
import Derived.Deep.LoopGhost
import Derived.Deep.QuietTactic
import Derived.BigQuiet
namespace Go.Proofs.YtgkioompcmgmdaaDoor
open Go.RowKit

/-- Below the heap's end nothing but block R may have been written. -/
structure Keep (R : Nat) (w w' : World) : Prop where
  os : w'.os = w.os
  tape : w'.tape = w.tape
  output : w'.output = w.output
  size : w.heap.size ≤ w'.heap.size
  block : ∀ k, k < w.heap.size → k ≠ R → w'.heap[k]? = w.heap[k]?

theorem Keep.refl (R : Nat) (w : World) : Keep R w w := ⟨rfl, rfl, rfl, Nat.le_refl _, fun _ _ _ => rfl⟩
theorem Keep.trans {R : Nat} {a b c : World} (h : Keep R a b) (k : Keep R b c) : Keep R a c :=
  ⟨k.os.trans h.os, k.tape.trans h.tape, k.output.trans h.output, Nat.le_trans h.size k.size, fun i hi hne => (k.block i (Nat.lt_of_lt_of_le hi h.size) hne).trans (h.block i hi hne)⟩
theorem Keep.of_below {R : Nat} {w w' : World} (h : Below w.heap.size w w') : Keep R w w' := ⟨h.os, h.tape, h.output, h.size, fun k hk _ => h.block k hk⟩
theorem Keep.below {R B : Nat} {w w' : World} (h : Keep R w w') (hB : B ≤ w.heap.size) (hR : B ≤ R) : Below B w w' :=
  ⟨h.os, h.tape, h.output, h.size, fun k hk => h.block k (by omega) (by omega)⟩
theorem Keep.alloc {R : Nat} {a w : World} (h : Keep R a w) (o : Obj) : Keep R a (w.alloc o) := h.trans (Keep.of_below ((Below.refl _ _).alloc (Nat.le_refl _) _))
theorem Keep.drew {R : Nat} {a w : World} (h : Keep R a w) : Keep R a w.drew := h.trans (Keep.of_below (Below.refl _ _).drew)
theorem Keep.drewN {R : Nat} {a w : World} (h : Keep R a w) (n : Nat) : Keep R a (w.drewN n) := h.trans (Keep.of_below (below_drewN (Below.refl _ _) n))
theorem Keep.setNew {R : Nat} {a w : World} (h : Keep R a w) {p : Addr} (hp : a.heap.size ≤ p.block) (u : Value) : Keep R a (w.setCell p u) :=
  ⟨h.os, h.tape, h.output, Nat.le_trans h.size (by simp [World.setCell]), fun k hk hne => (Below.heap_setCell _ _ _ _ (by omega)).trans (h.block k hk hne)⟩
theorem Keep.setR {R : Nat} {a w : World} (h : Keep R a w) {p : Addr} (hp : p.block = R) (u : Value) : Keep R a (w.setCell p u) :=
  ⟨h.os, h.tape, h.output, Nat.le_trans h.size (by simp [World.setCell]), fun k hk hne => (Below.heap_setCell _ _ _ _ (by omega)).trans (h.block k hk hne)⟩
theorem Keep.cell {R : Nat} {w w' : World} (h : Keep R w w') {b o : Nat} {v : Value} (hc : w.cell? ⟨b, o, none⟩ = some v) (hne : b ≠ R) : w'.cell? ⟨b, o, none⟩ = some v :=
  (World.cell?_of_block (w := w) (a := ⟨b, o, none⟩) (h.block b (World.block_lt_of_cell? w _ hc) hne)).trans hc
theorem Keep.frozen {R : Nat} {w w' : World} (h : Keep R w w') {b o : Nat} {q : Bool} (hc : w.frozen? ⟨b, o, none⟩ = q) (hb : b < w.heap.size) (hne : b ≠ R) : w'.frozen? ⟨b, o, none⟩ = q :=
  (World.frozen?_of_block (w := w) (a := ⟨b, o, none⟩) (h.block b hb hne)).trans hc

/-- Cells that lie one behind the other. -/
def CellsAt (w : World) (b o : Nat) (cs : List Value) : Prop := ∀ j u, cs[j]? = some u → w.cell? ⟨b, o + j, none⟩ = some u

theorem CellsAt.lt {w : World} {b o : Nat} {v : Value} {cs : List Value} (h : CellsAt w b o (v :: cs)) : b < w.heap.size :=
  World.block_lt_of_cell? w _ (h 0 v rfl)
theorem CellsAt.of_block {w w' : World} {b o : Nat} {cs : List Value} (h : CellsAt w b o cs) (hb : w'.heap[b]? = w.heap[b]?) : CellsAt w' b o cs :=
  fun j u hj => (World.cell?_of_block (w := w) (a := ⟨b, o + j, none⟩) hb).trans (h j u hj)

/-- The six cells of an expression. -/
def exCells (op value : Int) (name : List UInt8) (slot size : Int) (args : Value) : List Value :=
  [.int .i64 op, .int .i64 value, .string (strB name), .int .i64 slot, .int .i64 size, args]
/-- The eighteen cells of a statement. -/
def stCells (kind : Int) (name : List UInt8) (slot size : Int) (place value : List Value) (body els : Value) : List Value :=
  [.int .i64 kind, .string (strB name), .int .i64 slot, .int .i64 size] ++ (place ++ (value ++ [body, els]))

mutual
/-- Cells read as an expression, whose lists lie in blocks that meet S. -/
def ExL (S : Nat → Prop) (w : World) : Ex → List Value → Prop
  | .mk op value name slot size args, cs => ∃ A c, cs = exCells op value name slot size (.slice A args.length c) ∧ args.length ≤ c ∧ (args ≠ [] → ∃ b o, A = some ⟨b, o, none⟩ ∧ S b ∧ ExRow S w args b o)
def ExRow (S : Nat → Prop) (w : World) : List Ex → Nat → Nat → Prop
  | [], _, _ => True
  | e :: r, b, o => (∃ cs, CellsAt w b o cs ∧ ExL S w e cs) ∧ ExRow S w r b (o + 6)
end
mutual
/-- Cells read as a statement. -/
def StL (S : Nat → Prop) (w : World) : St → List Value → Prop
  | .mk kind name slot size place value body els, cs => ∃ cp cv A c A' c', cs = stCells kind name slot size cp cv (.slice A body.length c) (.slice A' els.length c') ∧ ExL S w place cp ∧ ExL S w value cv ∧
      body.length ≤ c ∧ els.length ≤ c' ∧ (body ≠ [] → ∃ b o, A = some ⟨b, o, none⟩ ∧ S b ∧ StRow S w body b o) ∧ (els ≠ [] → ∃ b o, A' = some ⟨b, o, none⟩ ∧ S b ∧ StRow S w els b o)
def StRow (S : Nat → Prop) (w : World) : List St → Nat → Nat → Prop
  | [], _, _ => True
  | s :: r, b, o => (∃ cs, CellsAt w b o cs ∧ StL S w s cs) ∧ StRow S w r b (o + 18)
end

/-- What meets S and was there lies as it did, and meets S'. -/
def Still (S S' : Nat → Prop) (w w' : World) : Prop := ∀ b, S b → b < w.heap.size → S' b ∧ w'.heap[b]? = w.heap[b]?

theorem ExL.cons {S : Nat → Prop} {w : World} {e : Ex} {cs : List Value} (h : ExL S w e cs) : ∃ v r, cs = v :: r := by
  cases e
  simp only [ExL] at h
  obtain ⟨A, c, rfl, _⟩ := h
  exact ⟨_, _, rfl⟩
theorem StL.cons {S : Nat → Prop} {w : World} {e : St} {cs : List Value} (h : StL S w e cs) : ∃ v r, cs = v :: r := by
  cases e
  simp only [StL] at h
  obtain ⟨_, _, _, _, _, _, rfl, _⟩ := h
  exact ⟨_, _, rfl⟩

mutual
theorem ExL.still {S S' : Nat → Prop} {w w' : World} (hs : Still S S' w w') : ∀ (e : Ex) (cs : List Value), ExL S w e cs → ExL S' w' e cs
  | .mk op value name slot size args, cs => by
    intro h
    simp only [ExL] at h ⊢
    obtain ⟨A, c, h1, h2, h3⟩ := h
    refine ⟨A, c, h1, h2, fun hne => ?_⟩
    obtain ⟨b, o, hA, hS, hr⟩ := h3 hne
    have hb : b < w.heap.size := by
      cases args with
      | nil => exact absurd rfl hne
      | cons e r =>
        simp only [ExRow] at hr
        obtain ⟨⟨cs', hc, hl⟩, _⟩ := hr
        obtain ⟨v, r', rfl⟩ := hl.cons
        exact hc.lt
    exact ⟨b, o, hA, (hs b hS hb).1, ExRow.still hs args b o hS hr⟩
theorem ExRow.still {S S' : Nat → Prop} {w w' : World} (hs : Still S S' w w') : ∀ (l : List Ex) (b o : Nat), S b → ExRow S w l b o → ExRow S' w' l b o
  | [], _, _ => by intro _ _; simp only [ExRow]
  | e :: r, b, o => by
    intro hS h
    simp only [ExRow] at h ⊢
    obtain ⟨⟨cs, hc, hl⟩, hr⟩ := h
    have hb : b < w.heap.size := by
      obtain ⟨v, r', rfl⟩ := hl.cons
      exact hc.lt
    exact ⟨⟨cs, hc.of_block (hs b hS hb).2, ExL.still hs e cs hl⟩, ExRow.still hs r b (o + 6) hS hr⟩
end
mutual
theorem StL.still {S S' : Nat → Prop} {w w' : World} (hs : Still S S' w w') : ∀ (e : St) (cs : List Value), StL S w e cs → StL S' w' e cs
  | .mk kind name slot size place value body els, cs => by
    intro h
    simp only [StL] at h ⊢
    obtain ⟨cp, cv, A, c, A', c', h1, h2, h3, h4, h5, h6, h7⟩ := h
    refine ⟨cp, cv, A, c, A', c', h1, ExL.still hs place cp h2, ExL.still hs value cv h3, h4, h5, fun hne => ?_, fun hne => ?_⟩
    · obtain ⟨b, o, hA, hS, hr⟩ := h6 hne
      have hb : b < w.heap.size := by
        cases body with
        | nil => exact absurd rfl hne
        | cons e r =>
          simp only [StRow] at hr
          obtain ⟨⟨cs', hc, hl⟩, _⟩ := hr
          obtain ⟨v, r', rfl⟩ := hl.cons
          exact hc.lt
      exact ⟨b, o, hA, (hs b hS hb).1, StRow.still hs body b o hS hr⟩
    · obtain ⟨b, o, hA, hS, hr⟩ := h7 hne
      have hb : b < w.heap.size := by
        cases els with
        | nil => exact absurd rfl hne
        | cons e r =>
          simp only [StRow] at hr
          obtain ⟨⟨cs', hc, hl⟩, _⟩ := hr
          obtain ⟨v, r', rfl⟩ := hl.cons
          exact hc.lt
      exact ⟨b, o, hA, (hs b hS hb).1, StRow.still hs els b o hS hr⟩
theorem StRow.still {S S' : Nat → Prop} {w w' : World} (hs : Still S S' w w') : ∀ (l : List St) (b o : Nat), S b → StRow S w l b o → StRow S' w' l b o
  | [], _, _ => by intro _ _; simp only [StRow]
  | e :: r, b, o => by
    intro hS h
    simp only [StRow] at h ⊢
    obtain ⟨⟨cs, hc, hl⟩, hr⟩ := h
    have hb : b < w.heap.size := by
      obtain ⟨v, r', rfl⟩ := hl.cons
      exact hc.lt
    exact ⟨⟨cs, hc.of_block (hs b hS hb).2, StL.still hs e cs hl⟩, StRow.still hs r b (o + 18) hS hr⟩
end

/-- From n on. -/
def From (n : Nat) : Nat → Prop := fun b => n ≤ b

theorem Still.keep {R n : Nat} {w w' : World} (h : Keep R w w') (hR : R < n) : Still (From n) (From n) w w' :=
  fun b hS hb => ⟨hS, h.block b hb (by have : n ≤ b := hS; omega)⟩
theorem Still.low {n m : Nat} {w : World} (h : m ≤ n) : Still (From n) (From m) w w := fun _ hS _ => ⟨Nat.le_trans h hS, rfl⟩

/-- A list of statements that a slice reads as. -/
def StSlice (S : Nat → Prop) (w : World) (l : List St) (v : Value) : Prop :=
  ∃ A c, v = .slice A l.length c ∧ l.length ≤ c ∧ (l ≠ [] → ∃ b o, A = some ⟨b, o, none⟩ ∧ S b ∧ StRow S w l b o)
/-- The three cells of a declaration. -/
def vrCells (v : Vr) : List Value := [.string (strB v.name), .int .i64 v.size, .int .i64 v.init]
/-- A list of declarations that a slice reads as. -/
def VrSlice (S : Nat → Prop) (w : World) (l : List Vr) (v : Value) : Prop :=
  ∃ A c, v = .slice A l.length c ∧ l.length ≤ c ∧ (l ≠ [] → ∃ b o, A = some ⟨b, o, none⟩ ∧ S b ∧ CellsAt w b o (l.flatMap vrCells))

/-- The cells of the table of symbols. -/
def symArr : Array Value := (symTab.flatMap fun x => [.string (strB x.1), .int .i64 x.2.1, .int .i64 x.2.2]).toArray

/-- The parser at block R: what is left of its tokens is ts. -/
structure PSt (R : Nat) (toks : List Tok) (en : Nat) (w : World) (ts : List Tok) : Prop where
  at' : ∃ k : Nat, k + ts.length = toks.length ∧ toks.drop k = ts ∧ w.cell? ⟨R, 1, none⟩ = some (.int .i64 k)
  sl : ∃ A c, w.cell? ⟨R, 0, none⟩ = some (.slice A toks.length c) ∧ (toks ≠ [] → ∃ b o, A = some ⟨b, o, none⟩ ∧ b < R ∧ ∀ (i : Nat) (t : Tok), toks[i]? = some t → TokAt w b (o + i * 4) t)
  en : w.cell? ⟨R, 2, none⟩ = some (.int .i64 en)
  fz : w.frozen? ⟨R, 1, none⟩ = false
  len : toks.length ≤ 100000
  sym : ∃ T fr, w.heap[2]? = some (.cells symArr T fr)
  out : 2 < R
  ok : ∀ t ∈ toks, TokOK t

theorem PSt.lt {R en : Nat} {toks ts : List Tok} {w : World} (h : PSt R toks en w ts) : R < w.heap.size := World.block_lt_of_cell? w _ h.en

theorem PSt.below {R en : Nat} {toks ts : List Tok} {w w' : World} (h : PSt R toks en w ts) (hb : Below w.heap.size w w') : PSt R toks en w' ts := by
  have hlt := h.lt
  obtain ⟨⟨k, h1, h2, h3⟩, ⟨A, c, h4, h5⟩, h6, h7, h8, ⟨T, fr, h9⟩, h10, h11⟩ := h
  refine ⟨⟨k, h1, h2, (hb.cell (p := ⟨R, _, none⟩) hlt).trans h3⟩, ⟨A, c, (hb.cell (p := ⟨R, _, none⟩) hlt).trans h4, fun hne => ?_⟩, (hb.cell (p := ⟨R, _, none⟩) hlt).trans h6, (hb.frozen (p := ⟨R, _, none⟩) hlt).trans h7, h8, ⟨T, fr, (hb.block _ (by omega)).trans h9⟩, h10, h11⟩
  obtain ⟨b, o, hA, hR, hi⟩ := h5 hne
  refine ⟨b, o, hA, hR, fun i t ht => ?_⟩
  obtain ⟨e0, e1, e2, e3⟩ := hi i t ht
  have hl : b < w.heap.size := World.block_lt_of_cell? w _ e0
  exact ⟨(hb.cell (p := ⟨b, _, none⟩) hl).trans e0, (hb.cell (p := ⟨b, _, none⟩) hl).trans e1, (hb.cell (p := ⟨b, _, none⟩) hl).trans e2, (hb.cell (p := ⟨b, _, none⟩) hl).trans e3⟩

theorem PSt.tok {R en : Nat} {toks ts : List Tok} {w : World} (h : PSt R toks en w ts) : ∀ t ∈ ts, TokOK t := fun t ht => by
  obtain ⟨k, _, h2, _⟩ := h.at'
  exact h.ok t (by rw [← h2] at ht; exact List.mem_of_mem_drop ht)
theorem PSt.txt {R en : Nat} {toks ts : List Tok} {w : World} (h : PSt R toks en w ts) : (txt ts).length ≤ 4096 := by
  cases ts with
  | nil => simp [Go.Proofs.YtgkioompcmgmdaaDoor.txt]
  | cons t r => exact (h.tok t (by simp)).1
theorem PSt.vlu {R en : Nat} {toks ts : List Tok} {w : World} (h : PSt R toks en w ts) : 0 ≤ vlu ts ∧ vlu ts < 9223372036854775808 := by
  cases ts with
  | nil => simp [Go.Proofs.YtgkioompcmgmdaaDoor.vlu]
  | cons t r => exact ⟨(h.tok t (by simp)).2.1, (h.tok t (by simp)).2.2.1⟩

theorem PSt.up {R en : Nat} {toks ts : List Tok} {w w' : World} (h : PSt R toks en w ts) (hb : ∀ k, k ≤ R → w'.heap[k]? = w.heap[k]?) : PSt R toks en w' ts := by
  obtain ⟨⟨k, h1, h2, h3⟩, ⟨A, c, h4, h5⟩, h6, h7, h8, ⟨T, fr, h9⟩, h10, h11⟩ := h
  have hc : ∀ b o, b ≤ R → w'.cell? ⟨b, o, none⟩ = w.cell? ⟨b, o, none⟩ := fun b o hb' => World.cell?_of_block (w := w) (a := ⟨b, o, none⟩) (hb b hb')
  refine ⟨⟨k, h1, h2, (hc _ _ (Nat.le_refl _)).trans h3⟩, ⟨A, c, (hc _ _ (Nat.le_refl _)).trans h4, fun hne => ?_⟩, (hc _ _ (Nat.le_refl _)).trans h6, (World.frozen?_of_block (w := w) (a := ⟨R, 1, none⟩) (hb R (Nat.le_refl _))).trans h7, h8, ⟨T, fr, (hb _ (by omega)).trans h9⟩, h10, h11⟩
  obtain ⟨b, o, hA, hR, hi⟩ := h5 hne
  refine ⟨b, o, hA, hR, fun i t ht => ?_⟩
  obtain ⟨e0, e1, e2, e3⟩ := hi i t ht
  exact ⟨(hc _ _ (by omega)).trans e0, (hc _ _ (by omega)).trans e1, (hc _ _ (by omega)).trans e2, (hc _ _ (by omega)).trans e3⟩

/-- The next token has been taken. -/
theorem PSt.take {R en k : Nat} {toks ts : List Tok} {w : World} (h : PSt R toks en w ts) (hne : ts ≠ []) (hk : w.cell? ⟨R, 1, none⟩ = some (.int .i64 k)) : PSt R toks en (w.setCell ⟨R, 1, none⟩ (.int .i64 ((k : Int) + 1))) ts.tail := by
  obtain ⟨⟨k', h1, h2, h3⟩, ⟨A, c, h4, h5⟩, h6, h7, h8, ⟨T, fr, h9⟩, h10, h11⟩ := h
  have hkk : k' = k := by rw [hk] at h3; simp at h3; omega
  subst hkk
  cases ts with
  | nil => exact absurd rfl hne
  | cons t r =>
    refine ⟨⟨k' + 1, by simp at h1 ⊢; omega, ?_, ?_⟩, ⟨A, c, ?_, fun hne' => ?_⟩, ?_, ?_, h8, ⟨T, fr, (Below.heap_setCell _ _ _ _ (by show _ ≠ R; omega)).trans h9⟩, h10, h11⟩
    · rw [← List.drop_drop, h2]; rfl
    · rw [World.cell?_setCell_same _ _ _ hk, Int.natCast_add]; rfl
    · rw [World.cell?_setCell_other _ _ _ _ (by intro e; injection e with _ e _; omega)]; exact h4
    · obtain ⟨b, o, hA, hR, hi⟩ := h5 hne'
      refine ⟨b, o, hA, hR, fun i t ht => ?_⟩
      obtain ⟨e0, e1, e2, e3⟩ := hi i t ht
      have ho : ∀ j, (⟨R, 1, none⟩ : Addr) ≠ ⟨b, j, none⟩ := fun j e => by injection e with e _ _; omega
      exact ⟨by rw [World.cell?_setCell_other _ _ _ _ (ho _)]; exact e0, by rw [World.cell?_setCell_other _ _ _ _ (ho _)]; exact e1, by rw [World.cell?_setCell_other _ _ _ _ (ho _)]; exact e2, by rw [World.cell?_setCell_other _ _ _ _ (ho _)]; exact e3⟩
    · rw [World.cell?_setCell_other _ _ _ _ (by intro e; injection e with _ e _; omega)]; exact h6
    · rw [World.frozen?_setCell]; exact h7

/-- What an expression that was made from block n on reads as. -/
def VEx (n : Nat) (w : World) (e : Ex) (v : Value) : Prop :=
  ∃ (a b : Int) (s : ByteArray) (c d : Int) (A : Option Addr) (l q : Nat), v = .agg #[.int .i64 a, .int .i64 b, .string s, .int .i64 c, .int .i64 d, .slice A l q] ∧ ExL (From n) w e [.int .i64 a, .int .i64 b, .string s, .int .i64 c, .int .i64 d, .slice A l q]
def VSt (n : Nat) (w : World) (s : St) (v : Value) : Prop := ∃ cs, v = .agg cs.toArray ∧ StL (From n) w s cs
def VSts (n : Nat) (w : World) (l : List St) (v : Value) : Prop := StSlice (From n) w l v
def VVr (_ : World) (d : Vr) (v : Value) : Prop := v = .agg (vrCells d).toArray
def VStr (_ : World) (s : List UInt8) (v : Value) : Prop := v = .string (strB s)
def VInt (_ : World) (n : Int) (v : Value) : Prop := v = .int .i64 n
def VUnit (_ : World) (_ : Unit) (v : Value) : Prop := v = .tuple #[]

end Go.Proofs.YtgkioompcmgmdaaDoor
