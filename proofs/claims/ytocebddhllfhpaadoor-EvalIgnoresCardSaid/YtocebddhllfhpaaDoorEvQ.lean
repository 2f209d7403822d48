/-
  Expressions, how they lie in memory, and what stays of them: frames that many walks share. No conditions.
-/
import Derived.Test.YtocebddhllfhpaaDoorRows
import Derived.WalkKit
import Derived.WalkSpells
import Derived.WalkLawsBesides
import Derived.Deep.LoopGhost
import Derived.Deep.QuietTactic
import Derived.BigQuiet
import Derived.RegionTactic
import Derived.StillTailTactics
import Derived.Laws.Rows
import Derived.Laws.Tables
import Derived.MapKept
import Derived.Lib.Builder
import Derived.OneCell
import Derived.Deep.RegionHeld3
import Derived.Deep.RegionHeld2
import Derived.Deep.DeepCutAuto
import Derived.Maps.AppendAt
import Derived.Maps.Views
import Derived.Laws.Pointers
import Derived.Tactics2
import Derived.OwnWalk
import Derived.Lib.SmallJoins
import Derived.Lib.Hide
namespace Go.Proofs.YtocebddhllfhpaaDoor
open Go.RowKit

theorem ret_bool {a b : Bool} (h : a = b) : Ending.returned (.bool a) = .returned (.bool b) := by rw [h]
theorem hid_false {b : Bool} (h : ¬ b = true) : Hid (b = false) := Bool.eq_false_iff.2 h
theorem ret_int {k : IntKind} {a b : Int} (h : a = b) : Ending.returned (.int k a) = .returned (.int k b) := by rw [h]
def strB (l : List UInt8) : ByteArray := ⟨l.toArray⟩

/-- An expression. -/
inductive Ex where
  | mk (op value : Int) (name : List UInt8) (slot size : Int) (args : List Ex)
def ex0 : Ex := .mk 0 0 [] 0 0 []
mutual
def Ex.big : Ex → Nat
  | .mk _ _ _ _ _ args => Ex.bigL args + 1
def Ex.bigL : List Ex → Nat
  | [] => 0
  | e :: r => e.big + Ex.bigL r
end
theorem Ex.big_pos (e : Ex) : 0 < e.big := by cases e; simp only [Ex.big]; omega
theorem Ex.len_big : ∀ l : List Ex, l.length ≤ Ex.bigL l
  | [] => by simp
  | e :: r => by simp only [List.length_cons, Ex.bigL]; have := Ex.big_pos e; have := Ex.len_big r; omega
theorem Ex.big_at : ∀ (l : List Ex) (k : Nat) (e : Ex), l[k]? = some e → e.big ≤ Ex.bigL l
  | [], _, _, h => by simp at h
  | x :: r, 0, e, h => by
    simp only [List.getElem?_cons_zero, Option.some.injEq] at h
    subst h
    simp only [Ex.bigL]; omega
  | x :: r, k + 1, e, h => by
    simp only [List.getElem?_cons_succ] at h
    have := Ex.big_at r k e h
    simp only [Ex.bigL]; omega
/-- Below the heap's end nothing but block R may have been written. -/
structure Keep (R : Nat) (w w' : World) : Prop where
  os : w'.os = w.os
  tape : w'.tape = w.tape
  output : w'.output = w.output
  size : w.heap.size ≤ w'.heap.size
  block : ∀ k, k < w.heap.size → k ≠ R → w'.heap[k]? = w.heap[k]?

theorem Keep.refl (R : Nat) (w : World) : Keep R w w := ⟨rfl, rfl, rfl, Nat.le_refl _, fun _ _ _ => rfl⟩
theorem Keep.trans {R : Nat} {a b c : World} (h : Keep R a b) (k : Keep R b c) : Keep R a c :=
  ⟨k.os.trans h.os, k.tape.trans h.tape, k.output.trans h.output, Nat.le_trans h.size k.size, fun i hi hne => (k.block i (Nat.lt_of_lt_of_le hi h.size) hne).trans (h.block i hi hne)⟩
theorem Keep.of_below {R : Nat} {w w' : World} (h : Below w.heap.size w w') : Keep R w w' := ⟨h.os, h.tape, h.output, h.size, fun k hk _ => h.block k hk⟩
theorem Keep.below {R B : Nat} {w w' : World} (h : Keep R w w') (hB : B ≤ w.heap.size) (hR : B ≤ R) : Below B w w' :=
  ⟨h.os, h.tape, h.output, h.size, fun k hk => h.block k (by omega) (by omega)⟩
theorem Keep.alloc {R : Nat} {a w : World} (h : Keep R a w) (o : Obj) : Keep R a (w.alloc o) := h.trans (Keep.of_below ((Below.refl _ _).alloc (Nat.le_refl _) _))
theorem Keep.drew {R : Nat} {a w : World} (h : Keep R a w) : Keep R a w.drew := h.trans (Keep.of_below (Below.refl _ _).drew)
theorem Keep.drewN {R : Nat} {a w : World} (h : Keep R a w) (n : Nat) : Keep R a (w.drewN n) := h.trans (Keep.of_below (below_drewN (Below.refl _ _) n))
theorem Keep.setNew {R : Nat} {a w : World} (h : Keep R a w) {p : Addr} (hp : a.heap.size ≤ p.block) (u : Value) : Keep R a (w.setCell p u) :=
  ⟨h.os, h.tape, h.output, Nat.le_trans h.size (by simp [World.setCell]), fun k hk hne => (Below.heap_setCell _ _ _ _ (by omega)).trans (h.block k hk hne)⟩
theorem Keep.setR {R : Nat} {a w : World} (h : Keep R a w) {p : Addr} (hp : p.block = R) (u : Value) : Keep R a (w.setCell p u) :=
  ⟨h.os, h.tape, h.output, Nat.le_trans h.size (by simp [World.setCell]), fun k hk hne => (Below.heap_setCell _ _ _ _ (by omega)).trans (h.block k hk hne)⟩
theorem Keep.cell {R : Nat} {w w' : World} (h : Keep R w w') {b o : Nat} {v : Value} (hc : w.cell? ⟨b, o, none⟩ = some v) (hne : b ≠ R) : w'.cell? ⟨b, o, none⟩ = some v :=
  (World.cell?_of_block (w := w) (a := ⟨b, o, none⟩) (h.block b (World.block_lt_of_cell? w _ hc) hne)).trans hc
theorem Keep.frozen {R : Nat} {w w' : World} (h : Keep R w w') {b o : Nat} {q : Bool} (hc : w.frozen? ⟨b, o, none⟩ = q) (hb : b < w.heap.size) (hne : b ≠ R) : w'.frozen? ⟨b, o, none⟩ = q :=
  (World.frozen?_of_block (w := w) (a := ⟨b, o, none⟩) (h.block b hb hne)).trans hc

/-- Cells that lie one behind the other. -/
def CellsAt (w : World) (b o : Nat) (cs : List Value) : Prop := ∀ j u, cs[j]? = some u → w.cell? ⟨b, o + j, none⟩ = some u

theorem CellsAt.lt {w : World} {b o : Nat} {v : Value} {cs : List Value} (h : CellsAt w b o (v :: cs)) : b < w.heap.size :=
  World.block_lt_of_cell? w _ (h 0 v rfl)
theorem CellsAt.of_block {w w' : World} {b o : Nat} {cs : List Value} (h : CellsAt w b o cs) (hb : w'.heap[b]? = w.heap[b]?) : CellsAt w' b o cs :=
  fun j u hj => (World.cell?_of_block (w := w) (a := ⟨b, o + j, none⟩) hb).trans (h j u hj)

/-- The six cells of an expression. -/
def exCells (op value : Int) (name : List UInt8) (slot size : Int) (args : Value) : List Value :=
  [.int .i64 op, .int .i64 value, .string (strB name), .int .i64 slot, .int .i64 size, args]
mutual
/-- Cells read as an expression, whose lists lie in blocks that meet S. -/
def ExL (S : Nat → Prop) (w : World) : Ex → List Value → Prop
  | .mk op value name slot size args, cs => ∃ A c, cs = exCells op value name slot size (.slice A args.length c) ∧ args.length ≤ c ∧ (args ≠ [] → ∃ b o, A = some ⟨b, o, none⟩ ∧ S b ∧ ExRow S w args b o)
def ExRow (S : Nat → Prop) (w : World) : List Ex → Nat → Nat → Prop
  | [], _, _ => True
  | e :: r, b, o => (∃ cs, CellsAt w b o cs ∧ ExL S w e cs) ∧ ExRow S w r b (o + 6)
end
/-- What meets S and was there lies as it did, and meets S'. -/
def Still (S S' : Nat → Prop) (w w' : World) : Prop := ∀ b, S b → b < w.heap.size → S' b ∧ w'.heap[b]? = w.heap[b]?

theorem ExL.cons {S : Nat → Prop} {w : World} {e : Ex} {cs : List Value} (h : ExL S w e cs) : ∃ v r, cs = v :: r := by
  cases e
  simp only [ExL] at h
  obtain ⟨A, c, rfl, _⟩ := h
  exact ⟨_, _, rfl⟩
mutual
theorem ExL.still {S S' : Nat → Prop} {w w' : World} (hs : Still S S' w w') : ∀ (e : Ex) (cs : List Value), ExL S w e cs → ExL S' w' e cs
  | .mk op value name slot size args, cs => by
    intro h
    simp only [ExL] at h ⊢
    obtain ⟨A, c, h1, h2, h3⟩ := h
    refine ⟨A, c, h1, h2, fun hne => ?_⟩
    obtain ⟨b, o, hA, hS, hr⟩ := h3 hne
    have hb : b < w.heap.size := by
      cases args with
      | nil => exact absurd rfl hne
      | cons e r =>
        simp only [ExRow] at hr
        obtain ⟨⟨cs', hc, hl⟩, _⟩ := hr
        obtain ⟨v, r', rfl⟩ := hl.cons
        exact hc.lt
    exact ⟨b, o, hA, (hs b hS hb).1, ExRow.still hs args b o hS hr⟩
theorem ExRow.still {S S' : Nat → Prop} {w w' : World} (hs : Still S S' w w') : ∀ (l : List Ex) (b o : Nat), S b → ExRow S w l b o → ExRow S' w' l b o
  | [], _, _ => by intro _ _; simp only [ExRow]
  | e :: r, b, o => by
    intro hS h
    simp only [ExRow] at h ⊢
    obtain ⟨⟨cs, hc, hl⟩, hr⟩ := h
    have hb : b < w.heap.size := by
      obtain ⟨v, r', rfl⟩ := hl.cons
      exact hc.lt
    exact ⟨⟨cs, hc.of_block (hs b hS hb).2, ExL.still hs e cs hl⟩, ExRow.still hs r b (o + 6) hS hr⟩
end
/-- From n on. -/
def From (n : Nat) : Nat → Prop := fun b => n ≤ b

theorem Still.keep {R n : Nat} {w w' : World} (h : Keep R w w') (hR : R < n) : Still (From n) (From n) w w' :=
  fun b hS hb => ⟨hS, h.block b hb (by have : n ≤ b := hS; omega)⟩
theorem Still.low {n m : Nat} {w : World} (h : m ≤ n) : Still (From n) (From m) w w := fun _ hS _ => ⟨Nat.le_trans h hS, rfl⟩

/-- What an expression that was made from block n on reads as. -/
def VEx (n : Nat) (w : World) (e : Ex) (v : Value) : Prop :=
  ∃ (a b : Int) (s : ByteArray) (c d : Int) (A : Option Addr) (l q : Nat), v = .agg #[.int .i64 a, .int .i64 b, .string s, .int .i64 c, .int .i64 d, .slice A l q] ∧ ExL (From n) w e [.int .i64 a, .int .i64 b, .string s, .int .i64 c, .int .i64 d, .slice A l q]
theorem str_ne {l : List UInt8} {s : ByteArray} (h : l ≠ s.data.toList) : ((strB l).toList == s.toList) = false := by
  rw [Lib.toList_data, Lib.toList_data]; simpa [strB] using h
theorem str_eq {l : List UInt8} {s : ByteArray} (h : l = s.data.toList) : ((strB l).toList == s.toList) = true := by
  rw [Lib.toList_data, Lib.toList_data]; simpa [strB] using h
theorem str_size (l : List UInt8) : (strB l).size = l.length := by simp [strB, ByteArray.size]
theorem str_data (l : List UInt8) : (strB l).data.toList = l := by simp [strB]
theorem new_cell (w : World) (cs : Array Value) (T : TypeId) (j : Nat) (v : Value) (h : cs[j]? = some v) : (w.alloc (.cells cs T)).cell? ⟨w.heap.size, j, none⟩ = some v := by
  rw [Lib.cell_of_heap (Go.MapKept.heap_alloc w (.cells cs T)).1]; simpa using h
theorem Keep.blk {R b : Nat} {w w' : World} {o : Obj} (h : Keep R w w') (hb : w.heap[b]? = some o) (hne : b ≠ R) : w'.heap[b]? = some o := (h.block b (lt_of_block hb) hne).trans hb
theorem below_blk {b : Nat} {w w' : World} {o : Obj} (h : Below w.heap.size w w') (hb : w.heap[b]? = some o) : w'.heap[b]? = some o := (h.block b (lt_of_block hb)).trans hb
theorem new_blk (w : World) (o : Obj) : (w.alloc o).heap[w.heap.size]? = some o := (Go.MapKept.heap_alloc w o).1
theorem new_size (w : World) (o : Obj) : (w.alloc o).heap.size = w.heap.size + 1 := by simp
theorem alloc_blk (w : World) (o : Obj) {k : Nat} (h : k < w.heap.size) : (w.alloc o).heap[k]? = w.heap[k]? := Below.heap_alloc w o k h
theorem box6 {w : World} {n : Nat} {a0 a1 a2 a3 a4 a5 : Value} {T : TypeId} (h : w.heap[n]? = some (.cells #[a0, a1, a2, a3, a4, a5] T (0, 0))) :
    w.cell? ⟨n, 0, none⟩ = some a0 ∧ w.cell? ⟨n, 1, none⟩ = some a1 ∧ w.cell? ⟨n, 2, none⟩ = some a2 ∧ w.cell? ⟨n, 3, none⟩ = some a3 ∧ w.cell? ⟨n, 4, none⟩ = some a4 ∧ w.cell? ⟨n, 5, none⟩ = some a5 ∧
    w.frozen? ⟨n, 0, none⟩ = false ∧ w.frozen? ⟨n, 1, none⟩ = false ∧ w.frozen? ⟨n, 2, none⟩ = false ∧ w.frozen? ⟨n, 3, none⟩ = false ∧ w.frozen? ⟨n, 4, none⟩ = false ∧ w.frozen? ⟨n, 5, none⟩ = false ∧ n < w.heap.size :=
  ⟨by rw [Lib.cell_of_heap h]; rfl, by rw [Lib.cell_of_heap h]; rfl, by rw [Lib.cell_of_heap h]; rfl, by rw [Lib.cell_of_heap h]; rfl, by rw [Lib.cell_of_heap h]; rfl, by rw [Lib.cell_of_heap h]; rfl,
   Lib.frozen_of_heap h 0, Lib.frozen_of_heap h 1, Lib.frozen_of_heap h 2, Lib.frozen_of_heap h 3, Lib.frozen_of_heap h 4, Lib.frozen_of_heap h 5, lt_of_block h⟩
theorem set_size (w : World) (p : Addr) (v : Value) : (w.setCell p v).heap.size = w.heap.size := by simp [World.setCell]
/-- A cell of a block has been written. -/
theorem blk_set {w : World} {b : Nat} {cs : Array Value} {T : TypeId} {fr : Nat × Nat} (h : w.heap[b]? = some (.cells cs T fr)) (i : Nat) (v : Value) : (w.setCell ⟨b, i, none⟩ v).heap[b]? = some (.cells (cs.setIfInBounds i v) T fr) := by
  have hlt := lt_of_block h
  have h' : w.heap[b] = .cells cs T fr := by simpa [Array.getElem?_eq_getElem hlt] using h
  show (w.heap.modify b _)[b]? = _
  rw [Array.getElem?_eq_getElem (by simpa using hlt), Array.getElem_modify_self, h']
  rfl
/-- Six cells of a block have been written. -/
def set6 (w : World) (n : Nat) (a0 a1 a2 a3 a4 a5 : Value) : World :=
  (((((w.setCell ⟨n, 0, none⟩ a0).setCell ⟨n, 1, none⟩ a1).setCell ⟨n, 2, none⟩ a2).setCell ⟨n, 3, none⟩ a3).setCell ⟨n, 4, none⟩ a4).setCell ⟨n, 5, none⟩ a5
theorem set6_blk (w : World) (n : Nat) (a0 a1 a2 a3 a4 a5 : Value) {k : Nat} (h : k ≠ n) : (set6 w n a0 a1 a2 a3 a4 a5).heap[k]? = w.heap[k]? := by
  unfold set6
  iterate 6 rw [Below.heap_setCell _ _ _ _ h]
theorem set6_size (w : World) (n : Nat) (a0 a1 a2 a3 a4 a5 : Value) : (set6 w n a0 a1 a2 a3 a4 a5).heap.size = w.heap.size := by
  simp [set6, World.setCell]
theorem set6_alloc (w : World) (o : Obj) (n : Nat) (a0 a1 a2 a3 a4 a5 : Value) (h : n < w.heap.size) : set6 (w.alloc o) n a0 a1 a2 a3 a4 a5 = (set6 w n a0 a1 a2 a3 a4 a5).alloc o := by
  unfold set6
  rw [World.setCell_alloc_past _ _ _ _ h]
  iterate 5 rw [World.setCell_alloc_past _ _ _ _ (by simpa [World.setCell] using h)]
theorem Keep.set6 {R n : Nat} {a w : World} (h : Keep R a w) (hn : a.heap.size ≤ n) (a0 a1 a2 a3 a4 a5 : Value) : Keep R a (set6 w n a0 a1 a2 a3 a4 a5) :=
  (((((h.setNew (p := ⟨n, 0, none⟩) hn a0).setNew (p := ⟨n, 1, none⟩) hn a1).setNew (p := ⟨n, 2, none⟩) hn a2).setNew (p := ⟨n, 3, none⟩) hn a3).setNew (p := ⟨n, 4, none⟩) hn a4).setNew (p := ⟨n, 5, none⟩) hn a5
theorem ExL.set6 {n m : Nat} {w : World} {e : Ex} {cs : List Value} (h : ExL (From n) w e cs) (hm : m ≤ n) {k : Nat} (hk : k < n) (a0 a1 a2 a3 a4 a5 : Value) : ExL (From m) (set6 w k a0 a1 a2 a3 a4 a5) e cs :=
  ExL.still (fun b (hb : n ≤ b) _ => ⟨Nat.le_trans hm hb, set6_blk w k a0 a1 a2 a3 a4 a5 (by omega)⟩) e cs h
theorem ExL.alloc {n m : Nat} {w : World} {e : Ex} {cs : List Value} (h : ExL (From n) w e cs) (hm : m ≤ n) (o : Obj) : ExL (From m) (w.alloc o) e cs :=
  ExL.still (fun _ hb hlt => ⟨Nat.le_trans hm hb, alloc_blk w o hlt⟩) e cs h
theorem ExL.keep {R n m : Nat} {w w' : World} {e : Ex} {cs : List Value} (h : ExL (From n) w e cs) (hm : m ≤ n) (hk : Keep R w w') (hR : R < n) : ExL (From m) w' e cs :=
  ExL.still (fun b (hb : n ≤ b) hlt => ⟨Nat.le_trans hm hb, hk.block b hlt (by omega)⟩) e cs h
theorem ExL.setCell {n m : Nat} {w : World} {e : Ex} {cs : List Value} (h : ExL (From n) w e cs) (hm : m ≤ n) {p : Addr} (hp : p.block < n) (v : Value) : ExL (From m) (w.setCell p v) e cs :=
  ExL.still (fun b (hb : n ≤ b) _ => ⟨Nat.le_trans hm hb, Below.heap_setCell w p v b (by omega)⟩) e cs h
theorem new_cells (w : World) (cs : List Value) (T : TypeId) : CellsAt (w.alloc (.cells cs.toArray T)) w.heap.size 0 cs := fun j u hj => by
  rw [Nat.zero_add]; exact new_cell w cs.toArray T j u (by simpa using hj)
theorem row1 {n m : Nat} {w : World} {e : Ex} {cs : List Value} (h : ExL (From n) w e cs) (hm : m ≤ n) (T : TypeId) : ExRow (From m) (w.alloc (.cells cs.toArray T)) [e] w.heap.size 0 := by
  simp only [ExRow, and_true]
  exact ⟨cs, new_cells w cs T, h.alloc hm _⟩
theorem row2 {n m : Nat} {w : World} {e e' : Ex} {c0 c1 c2 c3 c4 c5 : Value} {cs' : List Value} (h : ExL (From n) w e [c0, c1, c2, c3, c4, c5]) (h' : ExL (From n) w e' cs') (hm : m ≤ n) (T : TypeId) : ExRow (From m) (w.alloc (.cells ([c0, c1, c2, c3, c4, c5] ++ cs').toArray T)) [e, e'] w.heap.size 0 := by
  simp only [ExRow, and_true]
  have hn := new_cells w ([c0, c1, c2, c3, c4, c5] ++ cs') T
  refine ⟨⟨_, fun j u hj => hn j u ?_, h.alloc hm _⟩, ⟨cs', fun j u hj => ?_, h'.alloc hm _⟩⟩
  · rw [List.getElem?_append_left (List.getElem?_eq_some_iff.1 hj).1]; exact hj
  · have := hn (6 + j) u (by rw [List.getElem?_append_right (by simp)]; simpa using hj)
    rw [Nat.zero_add] at this ⊢
    exact this
/-- The block of a result that has not been written yet. -/
abbrev exZ : Obj := .cells #[.int .i64 0, .int .i64 0, .string ⟨#[]⟩, .int .i64 0, .int .i64 0, .slice none 0 0] 31
theorem setRow_blk (w : World) (n : Nat) (cs : Array Value) {k : Nat} (h : k ≠ n) : (w.setRow n cs).heap[k]? = w.heap[k]? := by
  unfold World.setRow
  simp only [Array.getElem?_modify]
  rw [if_neg (fun e => h e.symm)]
theorem Keep.setRow {R n : Nat} {a w : World} (h : Keep R a w) (hn : a.heap.size ≤ n) (cs : Array Value) : Keep R a (w.setRow n cs) :=
  ⟨h.os, h.tape, h.output, Nat.le_trans h.size (by simp), fun k hk hne => (setRow_blk w n cs (by omega)).trans (h.block k hk hne)⟩
theorem ExL.shape {S : Nat → Prop} {w : World} {e : Ex} {cs : List Value} (h : ExL S w e cs) : cs.length = 6 ∧ ∀ v ∈ cs, v.oneCell' = true := by
  cases e
  simp only [ExL] at h
  obtain ⟨A, c, rfl, _⟩ := h
  exact ⟨rfl, by simp [exCells, Value.oneCell']⟩
theorem setRow_same {w : World} {n : Nat} {old cs : Array Value} {t : TypeId} {fr : Nat × Nat} (h : w.heap[n]? = some (.cells old t fr)) : (w.setRow n cs).heap[n]? = some (.cells cs t fr) := setRow_heap w n old cs t fr h
/-- The zero expression. -/
theorem ex0_at (S : Nat → Prop) (w : World) : ExL S w ex0 [.int .i64 0, .int .i64 0, .string ⟨#[]⟩, .int .i64 0, .int .i64 0, .slice none 0 0] := by
  simp only [ex0, ExL]
  exact ⟨none, 0, rfl, Nat.le_refl _, fun h => absurd rfl h⟩
/-- From n on, but not the block of v's own. -/
def Sv (n : Nat) (v : Value) : Nat → Prop := fun b => n ≤ b ∧ v.ownBlock ≠ some b
theorem own_keep {R : Nat} {w w' : World} {base : Nat} {e : TypeId} {size : Nat} {v : Value} {n : Nat} {xs : List Value} (h : w.ownsRow base e size v n xs) (hk : Keep R w w') (hR : R < base) : w'.ownsRow base e size v n xs := by
  obtain ⟨h1, h2⟩ := h
  refine ⟨h1, ?_⟩
  rcases h2 with h2 | ⟨g, cap, cur, hv, hg, hh, r⟩
  · exact .inl h2
  · exact .inr ⟨g, cap, cur, hv, hg, hk.blk hh (by omega), r⟩
/-- 'append' as one step of a region that draws. -/
theorem step_append_own_at {P : Program} {ops : Array Oper} {o : Oper} {a : Act} {w : World} {K : Act → World → Prop} {Q : Exit → Act → World → Prop} {E : Prop}
    (hg : o.guard = none) (s x : Operand) (t : TypeId) (hop : o.op = Op.call { callee := Callee.builtin Builtin.append, args := #[s, x], argTypes := #[t, t] })
    (base : Nat) (e : TypeId) (i : TypeInfo) (z : Value) (size bytes : Nat) (ht : P.underlying t = some (.slice e)) (hi : P.info? e = some i) (hz : i.zero = some z)
    (hsize : i.size = size) (hby : i.bytes = bytes) (hzs : z.cells.size = size) (hsz : 0 < size)
    (v : Value) (n : Nat) (xs : List Value) (hs : a.eval s = v) (hown : w.ownsRow base e size v n xs)
    (ad : Addr) (m c : Nat) (news : List Value) (hx : a.eval x = .slice (some ad) m c) (hl : news.length = m * size) (hnews : ∀ j u, news[j]? = some u → w.cell? (ad.add j) = some u) (h1 : ∀ u ∈ news, u.oneCell' = true)
    (h63 : n + m ≤ maxLen) (hbytes : (n + m) * bytes ≤ 140737488355328) (hbase : base ≤ w.heap.size)
    (hK : ∀ v' w', w'.ownsRow base e size v' (n + m) (xs ++ news) → w.grownBy w' v.ownBlock → (v'.ownBlock = v.ownBlock ∨ v'.ownBlock = some w.heap.size) → K (a.put o.dst v') w') :
    if Region.wanted o (yielded ops a.tmps) = true then Oper.wp P o a w K Q else E := by
  have hw : Region.wanted o (yielded ops a.tmps) = true := by simp [Region.wanted, hg]
  rw [if_pos hw]
  obtain ⟨v', w', hr, h2, h3, _, h5⟩ := run_append_own_at (P := P) w base t o.type e i z size bytes ht hi hz hsize hby hzs hsz v n xs hown ad m c news hl hnews h1 h63 hbytes hbase
  unfold Oper.wp execOp
  simp only [hop, resolve, invoke, builtin, Sem.run_bind, Sem.run_pure, Result.andThen_ok, List.map_toArray, List.map_cons, List.map_nil, hs, hx, hr]
  exact hK _ _ h2 h3 h5
theorem own_slice {w : World} {base : Nat} {e : TypeId} {size n : Nat} {v : Value} {xs : List Value} (h : w.ownsRow base e size v n xs) : ∃ A c, v = .slice A n c := by
  obtain ⟨_, ⟨rfl, rfl⟩ | ⟨g, cap, cur, rfl, _⟩⟩ := h
  · exact ⟨none, 0, rfl⟩
  · exact ⟨_, _, rfl⟩
theorem own_bel {w w' : World} {base : Nat} {e : TypeId} {size n : Nat} {v : Value} {xs : List Value} (h : w.ownsRow base e size v n xs) (hb : Below w.heap.size w w') : w'.ownsRow base e size v n xs := by
  refine h.kept (row := none) ⟨hb.os, hb.tape, hb.output, hb.size, fun k hk _ => hb.block k hk⟩ ?_
  cases hob : v.ownBlock with
  | none => exact .inl rfl
  | some j => exact .inr (fun e => by cases e)
theorem own_no {w : World} {base : Nat} {e : TypeId} {size n : Nat} {v : Value} {xs : List Value} (h : w.ownsRow (base + 1) e size v n xs) : some base ≠ v.ownBlock := fun e => by
  have := (h.lt base e.symm).1; omega
theorem own_no' {w : World} {base j : Nat} {e : TypeId} {size n : Nat} {v : Value} {xs : List Value} (h : w.ownsRow base e size v n xs) (hj : j < base) : some j ≠ v.ownBlock := fun e => by
  have := (h.lt j e.symm).1; omega
theorem ExRow.get {S : Nat → Prop} {w : World} : ∀ (l : List Ex) (b o k : Nat) (e : Ex), ExRow S w l b o → l[k]? = some e → ∃ cs, CellsAt w b (o + k * 6) cs ∧ ExL S w e cs
  | [], _, _, _, _, _, h => by simp at h
  | x :: r, b, o, 0, e, h, hk => by
    simp only [List.getElem?_cons_zero, Option.some.injEq] at hk
    subst hk
    simp only [ExRow] at h
    simpa using h.1
  | x :: r, b, o, k + 1, e, h, hk => by
    simp only [List.getElem?_cons_succ] at hk
    simp only [ExRow] at h
    obtain ⟨cs, h1, h2⟩ := ExRow.get r b (o + 6) k e h.2 hk
    exact ⟨cs, by rw [show o + (k + 1) * 6 = o + 6 + k * 6 by omega]; exact h1, h2⟩
theorem ExL.plain {S : Nat → Prop} {w : World} {e : Ex} {cs : List Value} (h : ExL S w e cs) : ∃ (a b : Int) (s : ByteArray) (c d : Int) (A : Option Addr) (l q : Nat), cs = [.int .i64 a, .int .i64 b, .string s, .int .i64 c, .int .i64 d, .slice A l q] := by
  cases e
  simp only [ExL] at h
  obtain ⟨A, c, rfl, _⟩ := h
  exact ⟨_, _, _, _, _, _, _, _, rfl⟩
/-- Expressions and their cells. -/
def ExAll (S : Nat → Prop) (w : World) : List Ex → List (List Value) → Prop
  | [], [] => True
  | s :: r, c :: cs => ExL S w s c ∧ ExAll S w r cs
  | _, _ => False
theorem ExAll.still {S S' : Nat → Prop} {w w' : World} (hs : Still S S' w w') : ∀ (l : List Ex) (css : List (List Value)), ExAll S w l css → ExAll S' w' l css
  | [], [], _ => trivial
  | _ :: _, [], h => h.elim
  | [], _ :: _, h => h.elim
  | s :: r, c :: cs, h => ⟨ExL.still hs s c h.1, ExAll.still hs r cs h.2⟩
theorem ExAll.snoc {S : Nat → Prop} {w : World} {s : Ex} {c : List Value} (hs : ExL S w s c) : ∀ (l : List Ex) (css : List (List Value)), ExAll S w l css → ExAll S w (l ++ [s]) (css ++ [c])
  | [], [], _ => ⟨hs, trivial⟩
  | _ :: _, [], h => h.elim
  | [], _ :: _, h => h.elim
  | _ :: r, _ :: cs, h => ⟨h.1, ExAll.snoc hs r cs h.2⟩
theorem ExAll.row {S : Nat → Prop} {w : World} {g : Nat} : ∀ (l : List Ex) (css : List (List Value)) (o : Nat), ExAll S w l css → CellsAt w g o css.flatten → ExRow S w l g o
  | [], [], o, _, _ => by simp only [ExRow]
  | _ :: _, [], _, h, _ => h.elim
  | [], _ :: _, _, h, _ => h.elim
  | s :: r, c :: cs, o, h, hc => by
    have hl := h.1.shape.1
    simp only [ExRow]
    refine ⟨⟨c, fun j u hj => hc j u ?_, h.1⟩, ExAll.row r cs (o + 6) h.2 fun j u hj => ?_⟩
    · rw [List.flatten_cons, List.getElem?_append_left (List.getElem?_eq_some_iff.1 hj).1]; exact hj
    · have := hc (6 + j) u (by rw [List.flatten_cons, List.getElem?_append_right (by omega), hl]; simpa using hj)
      rw [← Nat.add_assoc] at this; exact this
/-- A slice of the call's own, all of whose expressions are known, reads as their list. -/
theorem own_exs {w : World} {n0 : Nat} {v : Value} {acc : List Ex} {css : List (List Value)} (h : w.ownsRow n0 31 6 v acc.length css.flatten) (ha : ExAll (Sv n0 v) w acc css) :
    ∃ A c, v = .slice A acc.length c ∧ acc.length ≤ c ∧ (acc ≠ [] → ∃ b o, A = some ⟨b, o, none⟩ ∧ n0 ≤ b ∧ ExRow (From n0) w acc b o) := by
  rcases h.2 with ⟨rfl, h0⟩ | ⟨g, cap, cur, rfl, hb, hg, hle, hcap, hsz, htk⟩
  · rw [List.length_eq_zero_iff.1 h0]; exact ⟨none, 0, rfl, Nat.le_refl _, fun h => absurd rfl h⟩
  · refine ⟨_, cap, rfl, hle, fun _ => ⟨g, 0, rfl, hb, ?_⟩⟩
    have hc := h.cells (g := g) rfl
    have ha' : ExAll (From n0) w acc css := ExAll.still (fun b hb' _ => ⟨hb'.1, rfl⟩) acc css ha
    exact ExAll.row acc css 0 ha' fun j u hj => by
      have := hc j u hj
      rwa [show (⟨g, 0, none⟩ : Addr).add j = ⟨g, 0 + j, none⟩ from by unfold Addr.add; split <;> simp_all] at this
theorem infoEx3 : (Tryd.prog.info? 31).map (fun i => (i.zero, i.size, i.bytes)) = some (some (.agg #[.int .i64 0, .int .i64 0, .string ⟨#[]⟩, .int .i64 0, .int .i64 0, .slice none 0 0]), 6, 72) := by kernel_rfl
/-- The loop's head: k operands are copied. -/
theorem new_blk1 (w : World) (o o' : Obj) : ((w.alloc o).alloc o').heap[w.heap.size + 1]? = some o' := by have := new_blk (w.alloc o) o'; rwa [new_size] at this
theorem below_drew1 {B : Nat} (w : World) : Below B w w.drew := below_drewN (Below.refl _ _) 1
theorem rp_one1 (w : World) (a : Obj) : Below w.heap.size w (w.alloc a) := (Below.refl _ _).alloc (Nat.le_refl _) a
theorem ex_new (w : World) (cs : List Value) (T : TypeId) : ∀ j u, cs[j]? = some u → (w.alloc (.cells cs.toArray T)).cell? ((⟨w.heap.size, 0, none⟩ : Addr).add j) = some u := fun j u hj => by
  rw [Addr.add_lit]; exact new_cells w cs T j u hj
end Go.Proofs.YtocebddhllfhpaaDoor
