/-
  Frames of the parser's walks: blocks of six cells that a function has made for its result, and what becomes of all else when they are written. No conditions.
-/
import Derived.Test.YtdlnpfocmgclmaaDoorWalkY
import Derived.OneCell
namespace Go.Proofs.YtdlnpfocmgclmaaDoor
open Go.RowKit

theorem Keep.blk {R b : Nat} {w w' : World} {o : Obj} (h : Keep R w w') (hb : w.heap[b]? = some o) (hne : b ≠ R) : w'.heap[b]? = some o := (h.block b (lt_of_block hb) hne).trans hb
theorem below_blk {b : Nat} {w w' : World} {o : Obj} (h : Below w.heap.size w w') (hb : w.heap[b]? = some o) : w'.heap[b]? = some o := (h.block b (lt_of_block hb)).trans hb
theorem new_blk (w : World) (o : Obj) : (w.alloc o).heap[w.heap.size]? = some o := (Go.MapKept.heap_alloc w o).1
theorem new_size (w : World) (o : Obj) : (w.alloc o).heap.size = w.heap.size + 1 := by simp
theorem alloc_blk (w : World) (o : Obj) {k : Nat} (h : k < w.heap.size) : (w.alloc o).heap[k]? = w.heap[k]? := Below.heap_alloc w o k h

theorem box6 {w : World} {n : Nat} {a0 a1 a2 a3 a4 a5 : Value} {T : TypeId} (h : w.heap[n]? = some (.cells #[a0, a1, a2, a3, a4, a5] T (0, 0))) :
    w.cell? ⟨n, 0, none⟩ = some a0 ∧ w.cell? ⟨n, 1, none⟩ = some a1 ∧ w.cell? ⟨n, 2, none⟩ = some a2 ∧ w.cell? ⟨n, 3, none⟩ = some a3 ∧ w.cell? ⟨n, 4, none⟩ = some a4 ∧ w.cell? ⟨n, 5, none⟩ = some a5 ∧
    w.frozen? ⟨n, 0, none⟩ = false ∧ w.frozen? ⟨n, 1, none⟩ = false ∧ w.frozen? ⟨n, 2, none⟩ = false ∧ w.frozen? ⟨n, 3, none⟩ = false ∧ w.frozen? ⟨n, 4, none⟩ = false ∧ w.frozen? ⟨n, 5, none⟩ = false ∧ n < w.heap.size :=
  ⟨by rw [Lib.cell_of_heap h]; rfl, by rw [Lib.cell_of_heap h]; rfl, by rw [Lib.cell_of_heap h]; rfl, by rw [Lib.cell_of_heap h]; rfl, by rw [Lib.cell_of_heap h]; rfl, by rw [Lib.cell_of_heap h]; rfl,
   Lib.frozen_of_heap h 0, Lib.frozen_of_heap h 1, Lib.frozen_of_heap h 2, Lib.frozen_of_heap h 3, Lib.frozen_of_heap h 4, Lib.frozen_of_heap h 5, lt_of_block h⟩

theorem set_size (w : World) (p : Addr) (v : Value) : (w.setCell p v).heap.size = w.heap.size := by simp [World.setCell]
/-- A cell of a block has been written. -/
theorem blk_set {w : World} {b : Nat} {cs : Array Value} {T : TypeId} {fr : Nat × Nat} (h : w.heap[b]? = some (.cells cs T fr)) (i : Nat) (v : Value) : (w.setCell ⟨b, i, none⟩ v).heap[b]? = some (.cells (cs.setIfInBounds i v) T fr) := by
  have hlt := lt_of_block h
  have h' : w.heap[b] = .cells cs T fr := by simpa [Array.getElem?_eq_getElem hlt] using h
  show (w.heap.modify b _)[b]? = _
  rw [Array.getElem?_eq_getElem (by simpa using hlt), Array.getElem_modify_self, h']
  rfl

/-- Six cells of a block have been written. -/
def set6 (w : World) (n : Nat) (a0 a1 a2 a3 a4 a5 : Value) : World :=
  (((((w.setCell ⟨n, 0, none⟩ a0).setCell ⟨n, 1, none⟩ a1).setCell ⟨n, 2, none⟩ a2).setCell ⟨n, 3, none⟩ a3).setCell ⟨n, 4, none⟩ a4).setCell ⟨n, 5, none⟩ a5
theorem set6_blk (w : World) (n : Nat) (a0 a1 a2 a3 a4 a5 : Value) {k : Nat} (h : k ≠ n) : (set6 w n a0 a1 a2 a3 a4 a5).heap[k]? = w.heap[k]? := by
  unfold set6
  iterate 6 rw [Below.heap_setCell _ _ _ _ h]
theorem set6_size (w : World) (n : Nat) (a0 a1 a2 a3 a4 a5 : Value) : (set6 w n a0 a1 a2 a3 a4 a5).heap.size = w.heap.size := by
  simp [set6, World.setCell]
theorem set6_alloc (w : World) (o : Obj) (n : Nat) (a0 a1 a2 a3 a4 a5 : Value) (h : n < w.heap.size) : set6 (w.alloc o) n a0 a1 a2 a3 a4 a5 = (set6 w n a0 a1 a2 a3 a4 a5).alloc o := by
  unfold set6
  rw [World.setCell_alloc_past _ _ _ _ h]
  iterate 5 rw [World.setCell_alloc_past _ _ _ _ (by simpa [World.setCell] using h)]
theorem Keep.set6 {R n : Nat} {a w : World} (h : Keep R a w) (hn : a.heap.size ≤ n) (a0 a1 a2 a3 a4 a5 : Value) : Keep R a (set6 w n a0 a1 a2 a3 a4 a5) :=
  (((((h.setNew (p := ⟨n, 0, none⟩) hn a0).setNew (p := ⟨n, 1, none⟩) hn a1).setNew (p := ⟨n, 2, none⟩) hn a2).setNew (p := ⟨n, 3, none⟩) hn a3).setNew (p := ⟨n, 4, none⟩) hn a4).setNew (p := ⟨n, 5, none⟩) hn a5
theorem PSt.set6 {R en n : Nat} {toks ts : List Tok} {w : World} (h : PSt R toks en w ts) (hn : R < n) (a0 a1 a2 a3 a4 a5 : Value) : PSt R toks en (set6 w n a0 a1 a2 a3 a4 a5) ts :=
  h.up fun k hk => set6_blk w n a0 a1 a2 a3 a4 a5 (by omega)
theorem ExL.set6 {n m : Nat} {w : World} {e : Ex} {cs : List Value} (h : ExL (From n) w e cs) (hm : m ≤ n) {k : Nat} (hk : k < n) (a0 a1 a2 a3 a4 a5 : Value) : ExL (From m) (set6 w k a0 a1 a2 a3 a4 a5) e cs :=
  ExL.still (fun b (hb : n ≤ b) _ => ⟨Nat.le_trans hm hb, set6_blk w k a0 a1 a2 a3 a4 a5 (by omega)⟩) e cs h
theorem ExL.alloc {n m : Nat} {w : World} {e : Ex} {cs : List Value} (h : ExL (From n) w e cs) (hm : m ≤ n) (o : Obj) : ExL (From m) (w.alloc o) e cs :=
  ExL.still (fun _ hb hlt => ⟨Nat.le_trans hm hb, alloc_blk w o hlt⟩) e cs h
theorem ExL.keep {R n m : Nat} {w w' : World} {e : Ex} {cs : List Value} (h : ExL (From n) w e cs) (hm : m ≤ n) (hk : Keep R w w') (hR : R < n) : ExL (From m) w' e cs :=
  ExL.still (fun b (hb : n ≤ b) hlt => ⟨Nat.le_trans hm hb, hk.block b hlt (by omega)⟩) e cs h

theorem ExL.setCell {n m : Nat} {w : World} {e : Ex} {cs : List Value} (h : ExL (From n) w e cs) (hm : m ≤ n) {p : Addr} (hp : p.block < n) (v : Value) : ExL (From m) (w.setCell p v) e cs :=
  ExL.still (fun b (hb : n ≤ b) _ => ⟨Nat.le_trans hm hb, Below.heap_setCell w p v b (by omega)⟩) e cs h

/-- A function's result lies in its block: what it returns. -/
theorem fin6 {R en n m : Nat} {toks ts : List Tok} {w w' : World} {e : Ex} {a b c d : Int} {s : ByteArray} {A : Option Addr} {l q : Nat} (hk : Keep R w w') (hn : n = w.heap.size) (hR : R < n) (hp : PSt R toks en w' ts)
    (hl : ExL (From m) w' e [.int .i64 a, .int .i64 b, .string s, .int .i64 c, .int .i64 d, .slice A l q]) (hm : n < m) :
    PP R toks en (VEx w.heap.size) (.ok e ts) w (.returned (.agg #[.int .i64 a, .int .i64 b, .string s, .int .i64 c, .int .i64 d, .slice A l q])) (set6 w' n (.int .i64 a) (.int .i64 b) (.string s) (.int .i64 c) (.int .i64 d) (.slice A l q)) := by
  subst hn
  exact ⟨_, rfl, ⟨a, b, s, c, d, A, l, q, rfl, hl.set6 (by omega) hm _ _ _ _ _ _⟩, hp.set6 hR _ _ _ _ _ _, hk.set6 (Nat.le_refl _) _ _ _ _ _ _⟩

theorem fin7 {R en n m : Nat} {toks ts : List Tok} {w w' : World} {e : Ex} {a b c d : Int} {s : ByteArray} {A : Option Addr} {l q : Nat} (hk : Keep R w w') (hn : w.heap.size ≤ n) (hR : R < n) (hp : PSt R toks en w' ts)
    (hl : ExL (From m) w' e [.int .i64 a, .int .i64 b, .string s, .int .i64 c, .int .i64 d, .slice A l q]) (hm : n < m) :
    PP R toks en (VEx w.heap.size) (.ok e ts) w (.returned (.agg #[.int .i64 a, .int .i64 b, .string s, .int .i64 c, .int .i64 d, .slice A l q])) (set6 w' n (.int .i64 a) (.int .i64 b) (.string s) (.int .i64 c) (.int .i64 d) (.slice A l q)) :=
  ⟨_, rfl, ⟨a, b, s, c, d, A, l, q, rfl, hl.set6 (by omega) hm _ _ _ _ _ _⟩, hp.set6 hR _ _ _ _ _ _, hk.set6 hn _ _ _ _ _ _⟩

theorem new_cells (w : World) (cs : List Value) (T : TypeId) : CellsAt (w.alloc (.cells cs.toArray T)) w.heap.size 0 cs := fun j u hj => by
  rw [Nat.zero_add]; exact new_cell w cs.toArray T j u (by simpa using hj)
theorem row1 {n m : Nat} {w : World} {e : Ex} {cs : List Value} (h : ExL (From n) w e cs) (hm : m ≤ n) (T : TypeId) : ExRow (From m) (w.alloc (.cells cs.toArray T)) [e] w.heap.size 0 := by
  simp only [ExRow, and_true]
  exact ⟨cs, new_cells w cs T, h.alloc hm _⟩
theorem row2 {n m : Nat} {w : World} {e e' : Ex} {c0 c1 c2 c3 c4 c5 : Value} {cs' : List Value} (h : ExL (From n) w e [c0, c1, c2, c3, c4, c5]) (h' : ExL (From n) w e' cs') (hm : m ≤ n) (T : TypeId) : ExRow (From m) (w.alloc (.cells ([c0, c1, c2, c3, c4, c5] ++ cs').toArray T)) [e, e'] w.heap.size 0 := by
  simp only [ExRow, and_true]
  have hn := new_cells w ([c0, c1, c2, c3, c4, c5] ++ cs') T
  refine ⟨⟨_, fun j u hj => hn j u ?_, h.alloc hm _⟩, ⟨cs', fun j u hj => ?_, h'.alloc hm _⟩⟩
  · rw [List.getElem?_append_left (List.getElem?_eq_some_iff.1 hj).1]; exact hj
  · have := hn (6 + j) u (by rw [List.getElem?_append_right (by simp)]; simpa using hj)
    rw [Nat.zero_add] at this ⊢
    exact this
end Go.Proofs.YtdlnpfocmgclmaaDoor
