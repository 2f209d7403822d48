/-
  Frames that many walks share: blocks of one struct, what becomes of all else when they are written, and what a program reads as. No conditions.
-/
import Derived.Test.YtgkioompcmgmdaaDoorWalkQ
import Derived.Test.YtgkioompcmgmdaaDoorWalkV
import Derived.WalkLawsBesides
import Derived.RegionTactic
import Derived.StillTailTactics
import Derived.Laws.Rows
import Derived.Laws.Tables
import Derived.MapKept
import Derived.Lib.Builder
import Derived.OneCell
import Derived.Deep.RegionHeld3
import Derived.Deep.RegionHeld2
import Derived.Deep.DeepCutAuto
import Derived.Maps.AppendAt
import Derived.Maps.Views
import Derived.Laws.Pointers
import Derived.Tactics2
namespace Go.Proofs.YtgkioompcmgmdaaDoor
open Go.RowKit

theorem str_ne {l : List UInt8} {s : ByteArray} (h : l ≠ s.data.toList) : ((strB l).toList == s.toList) = false := by
  rw [Lib.toList_data, Lib.toList_data]; simpa [strB] using h
theorem str_eq {l : List UInt8} {s : ByteArray} (h : l = s.data.toList) : ((strB l).toList == s.toList) = true := by
  rw [Lib.toList_data, Lib.toList_data]; simpa [strB] using h

theorem str_size (l : List UInt8) : (strB l).size = l.length := by simp [strB, ByteArray.size]
theorem str_data (l : List UInt8) : (strB l).data.toList = l := by simp [strB]

theorem new_cell (w : World) (cs : Array Value) (T : TypeId) (j : Nat) (v : Value) (h : cs[j]? = some v) : (w.alloc (.cells cs T)).cell? ⟨w.heap.size, j, none⟩ = some v := by
  rw [Lib.cell_of_heap (Go.MapKept.heap_alloc w (.cells cs T)).1]; simpa using h

theorem Keep.blk {R b : Nat} {w w' : World} {o : Obj} (h : Keep R w w') (hb : w.heap[b]? = some o) (hne : b ≠ R) : w'.heap[b]? = some o := (h.block b (lt_of_block hb) hne).trans hb
theorem below_blk {b : Nat} {w w' : World} {o : Obj} (h : Below w.heap.size w w') (hb : w.heap[b]? = some o) : w'.heap[b]? = some o := (h.block b (lt_of_block hb)).trans hb
theorem new_blk (w : World) (o : Obj) : (w.alloc o).heap[w.heap.size]? = some o := (Go.MapKept.heap_alloc w o).1
theorem new_size (w : World) (o : Obj) : (w.alloc o).heap.size = w.heap.size + 1 := by simp
theorem alloc_blk (w : World) (o : Obj) {k : Nat} (h : k < w.heap.size) : (w.alloc o).heap[k]? = w.heap[k]? := Below.heap_alloc w o k h

theorem box6 {w : World} {n : Nat} {a0 a1 a2 a3 a4 a5 : Value} {T : TypeId} (h : w.heap[n]? = some (.cells #[a0, a1, a2, a3, a4, a5] T (0, 0))) :
    w.cell? ⟨n, 0, none⟩ = some a0 ∧ w.cell? ⟨n, 1, none⟩ = some a1 ∧ w.cell? ⟨n, 2, none⟩ = some a2 ∧ w.cell? ⟨n, 3, none⟩ = some a3 ∧ w.cell? ⟨n, 4, none⟩ = some a4 ∧ w.cell? ⟨n, 5, none⟩ = some a5 ∧
    w.frozen? ⟨n, 0, none⟩ = false ∧ w.frozen? ⟨n, 1, none⟩ = false ∧ w.frozen? ⟨n, 2, none⟩ = false ∧ w.frozen? ⟨n, 3, none⟩ = false ∧ w.frozen? ⟨n, 4, none⟩ = false ∧ w.frozen? ⟨n, 5, none⟩ = false ∧ n < w.heap.size :=
  ⟨by rw [Lib.cell_of_heap h]; rfl, by rw [Lib.cell_of_heap h]; rfl, by rw [Lib.cell_of_heap h]; rfl, by rw [Lib.cell_of_heap h]; rfl, by rw [Lib.cell_of_heap h]; rfl, by rw [Lib.cell_of_heap h]; rfl,
   Lib.frozen_of_heap h 0, Lib.frozen_of_heap h 1, Lib.frozen_of_heap h 2, Lib.frozen_of_heap h 3, Lib.frozen_of_heap h 4, Lib.frozen_of_heap h 5, lt_of_block h⟩

theorem set_size (w : World) (p : Addr) (v : Value) : (w.setCell p v).heap.size = w.heap.size := by simp [World.setCell]
/-- A cell of a block has been written. -/
theorem blk_set {w : World} {b : Nat} {cs : Array Value} {T : TypeId} {fr : Nat × Nat} (h : w.heap[b]? = some (.cells cs T fr)) (i : Nat) (v : Value) : (w.setCell ⟨b, i, none⟩ v).heap[b]? = some (.cells (cs.setIfInBounds i v) T fr) := by
  have hlt := lt_of_block h
  have h' : w.heap[b] = .cells cs T fr := by simpa [Array.getElem?_eq_getElem hlt] using h
  show (w.heap.modify b _)[b]? = _
  rw [Array.getElem?_eq_getElem (by simpa using hlt), Array.getElem_modify_self, h']
  rfl

/-- Six cells of a block have been written. -/
def set6 (w : World) (n : Nat) (a0 a1 a2 a3 a4 a5 : Value) : World :=
  (((((w.setCell ⟨n, 0, none⟩ a0).setCell ⟨n, 1, none⟩ a1).setCell ⟨n, 2, none⟩ a2).setCell ⟨n, 3, none⟩ a3).setCell ⟨n, 4, none⟩ a4).setCell ⟨n, 5, none⟩ a5
theorem set6_blk (w : World) (n : Nat) (a0 a1 a2 a3 a4 a5 : Value) {k : Nat} (h : k ≠ n) : (set6 w n a0 a1 a2 a3 a4 a5).heap[k]? = w.heap[k]? := by
  unfold set6
  iterate 6 rw [Below.heap_setCell _ _ _ _ h]
theorem set6_size (w : World) (n : Nat) (a0 a1 a2 a3 a4 a5 : Value) : (set6 w n a0 a1 a2 a3 a4 a5).heap.size = w.heap.size := by
  simp [set6, World.setCell]
theorem set6_alloc (w : World) (o : Obj) (n : Nat) (a0 a1 a2 a3 a4 a5 : Value) (h : n < w.heap.size) : set6 (w.alloc o) n a0 a1 a2 a3 a4 a5 = (set6 w n a0 a1 a2 a3 a4 a5).alloc o := by
  unfold set6
  rw [World.setCell_alloc_past _ _ _ _ h]
  iterate 5 rw [World.setCell_alloc_past _ _ _ _ (by simpa [World.setCell] using h)]
theorem Keep.set6 {R n : Nat} {a w : World} (h : Keep R a w) (hn : a.heap.size ≤ n) (a0 a1 a2 a3 a4 a5 : Value) : Keep R a (set6 w n a0 a1 a2 a3 a4 a5) :=
  (((((h.setNew (p := ⟨n, 0, none⟩) hn a0).setNew (p := ⟨n, 1, none⟩) hn a1).setNew (p := ⟨n, 2, none⟩) hn a2).setNew (p := ⟨n, 3, none⟩) hn a3).setNew (p := ⟨n, 4, none⟩) hn a4).setNew (p := ⟨n, 5, none⟩) hn a5
theorem ExL.set6 {n m : Nat} {w : World} {e : Ex} {cs : List Value} (h : ExL (From n) w e cs) (hm : m ≤ n) {k : Nat} (hk : k < n) (a0 a1 a2 a3 a4 a5 : Value) : ExL (From m) (set6 w k a0 a1 a2 a3 a4 a5) e cs :=
  ExL.still (fun b (hb : n ≤ b) _ => ⟨Nat.le_trans hm hb, set6_blk w k a0 a1 a2 a3 a4 a5 (by omega)⟩) e cs h
theorem ExL.alloc {n m : Nat} {w : World} {e : Ex} {cs : List Value} (h : ExL (From n) w e cs) (hm : m ≤ n) (o : Obj) : ExL (From m) (w.alloc o) e cs :=
  ExL.still (fun _ hb hlt => ⟨Nat.le_trans hm hb, alloc_blk w o hlt⟩) e cs h
theorem ExL.keep {R n m : Nat} {w w' : World} {e : Ex} {cs : List Value} (h : ExL (From n) w e cs) (hm : m ≤ n) (hk : Keep R w w') (hR : R < n) : ExL (From m) w' e cs :=
  ExL.still (fun b (hb : n ≤ b) hlt => ⟨Nat.le_trans hm hb, hk.block b hlt (by omega)⟩) e cs h

theorem ExL.setCell {n m : Nat} {w : World} {e : Ex} {cs : List Value} (h : ExL (From n) w e cs) (hm : m ≤ n) {p : Addr} (hp : p.block < n) (v : Value) : ExL (From m) (w.setCell p v) e cs :=
  ExL.still (fun b (hb : n ≤ b) _ => ⟨Nat.le_trans hm hb, Below.heap_setCell w p v b (by omega)⟩) e cs h

theorem new_cells (w : World) (cs : List Value) (T : TypeId) : CellsAt (w.alloc (.cells cs.toArray T)) w.heap.size 0 cs := fun j u hj => by
  rw [Nat.zero_add]; exact new_cell w cs.toArray T j u (by simpa using hj)
theorem row1 {n m : Nat} {w : World} {e : Ex} {cs : List Value} (h : ExL (From n) w e cs) (hm : m ≤ n) (T : TypeId) : ExRow (From m) (w.alloc (.cells cs.toArray T)) [e] w.heap.size 0 := by
  simp only [ExRow, and_true]
  exact ⟨cs, new_cells w cs T, h.alloc hm _⟩
theorem row2 {n m : Nat} {w : World} {e e' : Ex} {c0 c1 c2 c3 c4 c5 : Value} {cs' : List Value} (h : ExL (From n) w e [c0, c1, c2, c3, c4, c5]) (h' : ExL (From n) w e' cs') (hm : m ≤ n) (T : TypeId) : ExRow (From m) (w.alloc (.cells ([c0, c1, c2, c3, c4, c5] ++ cs').toArray T)) [e, e'] w.heap.size 0 := by
  simp only [ExRow, and_true]
  have hn := new_cells w ([c0, c1, c2, c3, c4, c5] ++ cs') T
  refine ⟨⟨_, fun j u hj => hn j u ?_, h.alloc hm _⟩, ⟨cs', fun j u hj => ?_, h'.alloc hm _⟩⟩
  · rw [List.getElem?_append_left (List.getElem?_eq_some_iff.1 hj).1]; exact hj
  · have := hn (6 + j) u (by rw [List.getElem?_append_right (by simp)]; simpa using hj)
    rw [Nat.zero_add] at this ⊢
    exact this

/-- The block of a result that has not been written yet. -/
abbrev exZ : Obj := .cells #[.int .i64 0, .int .i64 0, .string ⟨#[]⟩, .int .i64 0, .int .i64 0, .slice none 0 0] 55


theorem setRow_blk (w : World) (n : Nat) (cs : Array Value) {k : Nat} (h : k ≠ n) : (w.setRow n cs).heap[k]? = w.heap[k]? := by
  unfold World.setRow
  simp only [Array.getElem?_modify]
  rw [if_neg (fun e => h e.symm)]
theorem Keep.setRow {R n : Nat} {a w : World} (h : Keep R a w) (hn : a.heap.size ≤ n) (cs : Array Value) : Keep R a (w.setRow n cs) :=
  ⟨h.os, h.tape, h.output, Nat.le_trans h.size (by simp), fun k hk hne => (setRow_blk w n cs (by omega)).trans (h.block k hk hne)⟩
theorem StL.setRow {n m : Nat} {w : World} {s : St} {cs : List Value} (h : StL (From n) w s cs) (hm : m ≤ n) {k : Nat} (hk : k < n) (c : Array Value) : StL (From m) (w.setRow k c) s cs :=
  StL.still (fun b (hb : n ≤ b) _ => ⟨Nat.le_trans hm hb, setRow_blk w k c (by omega)⟩) s cs h

theorem ExL.shape {S : Nat → Prop} {w : World} {e : Ex} {cs : List Value} (h : ExL S w e cs) : cs.length = 6 ∧ ∀ v ∈ cs, v.oneCell' = true := by
  cases e
  simp only [ExL] at h
  obtain ⟨A, c, rfl, _⟩ := h
  exact ⟨rfl, by simp [exCells, Value.oneCell']⟩
theorem StL.shape {S : Nat → Prop} {w : World} {s : St} {cs : List Value} (h : StL S w s cs) : cs.length = 18 ∧ ∀ v ∈ cs, v.oneCell' = true := by
  cases s
  simp only [StL] at h
  obtain ⟨cp, cv, A, c, A', c', rfl, h1, h2, _⟩ := h
  have s1 := h1.shape
  have s2 := h2.shape
  refine ⟨by simp [stCells, s1.1, s2.1], fun v hv => ?_⟩
  simp only [stCells, List.mem_append, List.mem_cons, List.not_mem_nil, or_false] at hv
  rcases hv with (rfl | rfl | rfl | rfl) | hv | hv | rfl | rfl
  · rfl
  · rfl
  · rfl
  · rfl
  · exact s1.2 v hv
  · exact s2.2 v hv
  · rfl
  · rfl
theorem StL.one {S : Nat → Prop} {w : World} {s : St} {cs : List Value} (h : StL S w s cs) : cs.toArray.all (·.oneCell') = true := by
  have := h.shape.2
  simpa using this
theorem StL.size18 {S : Nat → Prop} {w : World} {s : St} {cs : List Value} (h : StL S w s cs) : 18 = cs.toArray.size := by simp [h.shape.1]
theorem infoSt : (Tryd.prog.info? 58).map (·.size) = some 18 := by kernel_rfl
theorem StL.info {S : Nat → Prop} {w : World} {s : St} {cs : List Value} (h : StL S w s cs) : (Tryd.prog.info? 58).map (·.size) = some cs.toArray.size := by
  rw [infoSt]; simp [h.shape.1]

/-- The block of a statement that has not been written yet. -/
abbrev stZ : Obj := .cells #[.int .i64 0, .string ⟨#[]⟩, .int .i64 0, .int .i64 0, .int .i64 0, .int .i64 0, .string ⟨#[]⟩, .int .i64 0, .int .i64 0, .slice none 0 0, .int .i64 0, .int .i64 0, .string ⟨#[]⟩, .int .i64 0, .int .i64 0, .slice none 0 0, .slice none 0 0, .slice none 0 0] 58

theorem setRow_same {w : World} {n : Nat} {old cs : Array Value} {t : TypeId} {fr : Nat × Nat} (h : w.heap[n]? = some (.cells old t fr)) : (w.setRow n cs).heap[n]? = some (.cells cs t fr) := setRow_heap w n old cs t fr h

/-- The zero expression. -/
theorem ex0_at (S : Nat → Prop) (w : World) : ExL S w ex0 [.int .i64 0, .int .i64 0, .string ⟨#[]⟩, .int .i64 0, .int .i64 0, .slice none 0 0] := by
  simp only [ex0, ExL]
  exact ⟨none, 0, rfl, Nat.le_refl _, fun h => absurd rfl h⟩
theorem StSlice.still {S S' : Nat → Prop} {w w' : World} {l : List St} {v : Value} (h : StSlice S w l v) (hs : Still S S' w w') : StSlice S' w' l v := by
  obtain ⟨A, c, rfl, hc, hr⟩ := h
  refine ⟨A, c, rfl, hc, fun hne => ?_⟩
  obtain ⟨b, o, hA, hS, hrow⟩ := hr hne
  have hb : b < w.heap.size := by
    cases l with
    | nil => exact absurd rfl hne
    | cons e r =>
      simp only [StRow] at hrow
      obtain ⟨⟨cs', hc', hl⟩, _⟩ := hrow
      obtain ⟨v, r', rfl⟩ := hl.cons
      exact hc'.lt
  exact ⟨b, o, hA, (hs b hS hb).1, StRow.still hs l b o hS hrow⟩
/-- A statement out of its parts. -/
theorem st_mk {S : Nat → Prop} {w : World} {kind : Int} {name : List UInt8} {place value : Ex} {body els : List St} {cp cv : List Value} {A A' : Option Addr} {n n' c c' : Nat} (hp : ExL S w place cp) (hv : ExL S w value cv) (hb : StSlice S w body (.slice A n c)) (he : StSlice S w els (.slice A' n' c')) :
    StL S w (.mk kind name 0 0 place value body els) (stCells kind name 0 0 cp cv (.slice A n c) (.slice A' n' c')) := by
  obtain ⟨_, _, e1, h1, h2⟩ := hb
  obtain ⟨_, _, e2, h3, h4⟩ := he
  injection e1 with e1 e1' e1''
  injection e2 with e2 e2' e2''
  subst e1 e1' e1'' e2 e2' e2''
  simp only [StL]
  exact ⟨cp, cv, A, c, A', c', rfl, hp, hv, h1, h3, h2, h4⟩
theorem sts_nil (S : Nat → Prop) (w : World) : StSlice S w [] (.slice none 0 0) := ⟨none, 0, rfl, Nat.le_refl _, fun h => absurd rfl h⟩


/-- What a program reads as, whose lists lie in blocks that meet S. -/
def PrAt (S : Nat → Prop) (w : World) (p : Pr) (c0 c1 c2 c3 c4 : Value) : Prop := VrSlice S w p.vars c0 ∧ StSlice S w p.start c1 ∧ StSlice S w p.message c2 ∧ StSlice S w p.tick c3 ∧ StSlice S w p.input c4
def VPr (n : Nat) (w : World) (p : Pr) (v : Value) : Prop :=
  ∃ (A0 A1 A2 A3 A4 : Option Addr) (l0 q0 l1 q1 l2 q2 l3 q3 l4 q4 : Nat), v = .agg #[.slice A0 l0 q0, .slice A1 l1 q1, .slice A2 l2 q2, .slice A3 l3 q3, .slice A4 l4 q4] ∧ PrAt (From n) w p (.slice A0 l0 q0) (.slice A1 l1 q1) (.slice A2 l2 q2) (.slice A3 l3 q3) (.slice A4 l4 q4)

theorem VrSlice.still {S S' : Nat → Prop} {w w' : World} {l : List Vr} {v : Value} (h : VrSlice S w l v) (hs : Still S S' w w') : VrSlice S' w' l v := by
  obtain ⟨A, c, rfl, hc, hr⟩ := h
  refine ⟨A, c, rfl, hc, fun hne => ?_⟩
  obtain ⟨b, o, hA, hS, hrow⟩ := hr hne
  have hb : b < w.heap.size := by
    cases l with
    | nil => exact absurd rfl hne
    | cons e r => exact CellsAt.lt (v := .string (strB e.name)) (cs := [.int .i64 e.size, .int .i64 e.init] ++ r.flatMap vrCells) hrow
  exact ⟨b, o, hA, (hs b hS hb).1, hrow.of_block (hs b hS hb).2⟩
theorem PrAt.still {S S' : Nat → Prop} {w w' : World} {p : Pr} {c0 c1 c2 c3 c4 : Value} (h : PrAt S w p c0 c1 c2 c3 c4) (hs : Still S S' w w') : PrAt S' w' p c0 c1 c2 c3 c4 :=
  ⟨h.1.still hs, h.2.1.still hs, h.2.2.1.still hs, h.2.2.2.1.still hs, h.2.2.2.2.still hs⟩

abbrev prZ : Obj := .cells #[.slice none 0 0, .slice none 0 0, .slice none 0 0, .slice none 0 0, .slice none 0 0] 29
theorem box5 {w : World} {n : Nat} {a0 a1 a2 a3 a4 : Value} {T : TypeId} (h : w.heap[n]? = some (.cells #[a0, a1, a2, a3, a4] T (0, 0))) :
    w.cell? ⟨n, 0, none⟩ = some a0 ∧ w.cell? ⟨n, 1, none⟩ = some a1 ∧ w.cell? ⟨n, 2, none⟩ = some a2 ∧ w.cell? ⟨n, 3, none⟩ = some a3 ∧ w.cell? ⟨n, 4, none⟩ = some a4 ∧
    w.frozen? ⟨n, 0, none⟩ = false ∧ w.frozen? ⟨n, 1, none⟩ = false ∧ w.frozen? ⟨n, 2, none⟩ = false ∧ w.frozen? ⟨n, 3, none⟩ = false ∧ w.frozen? ⟨n, 4, none⟩ = false ∧ n < w.heap.size :=
  ⟨by rw [Lib.cell_of_heap h]; rfl, by rw [Lib.cell_of_heap h]; rfl, by rw [Lib.cell_of_heap h]; rfl, by rw [Lib.cell_of_heap h]; rfl, by rw [Lib.cell_of_heap h]; rfl,
   Lib.frozen_of_heap h 0, Lib.frozen_of_heap h 1, Lib.frozen_of_heap h 2, Lib.frozen_of_heap h 3, Lib.frozen_of_heap h 4, lt_of_block h⟩
def set5 (w : World) (n : Nat) (a0 a1 a2 a3 a4 : Value) : World :=
  ((((w.setCell ⟨n, 0, none⟩ a0).setCell ⟨n, 1, none⟩ a1).setCell ⟨n, 2, none⟩ a2).setCell ⟨n, 3, none⟩ a3).setCell ⟨n, 4, none⟩ a4
theorem set5_blk (w : World) (n : Nat) (a0 a1 a2 a3 a4 : Value) {k : Nat} (h : k ≠ n) : (set5 w n a0 a1 a2 a3 a4).heap[k]? = w.heap[k]? := by
  unfold set5
  iterate 5 rw [Below.heap_setCell _ _ _ _ h]
theorem Keep.set5 {R n : Nat} {a w : World} (h : Keep R a w) (hn : a.heap.size ≤ n) (a0 a1 a2 a3 a4 : Value) : Keep R a (set5 w n a0 a1 a2 a3 a4) :=
  ((((h.setNew (p := ⟨n, 0, none⟩) hn a0).setNew (p := ⟨n, 1, none⟩) hn a1).setNew (p := ⟨n, 2, none⟩) hn a2).setNew (p := ⟨n, 3, none⟩) hn a3).setNew (p := ⟨n, 4, none⟩) hn a4


theorem set5_below {B n : Nat} {a w : World} (h : Below B a w) (hn : B ≤ n) (a0 a1 a2 a3 a4 : Value) : Below B a (set5 w n a0 a1 a2 a3 a4) :=
  ((((h.setCell (p := ⟨n, 0, none⟩) hn a0).setCell (p := ⟨n, 1, none⟩) hn a1).setCell (p := ⟨n, 2, none⟩) hn a2).setCell (p := ⟨n, 3, none⟩) hn a3).setCell (p := ⟨n, 4, none⟩) hn a4
theorem set5_size (w : World) (n : Nat) (a0 a1 a2 a3 a4 : Value) : (set5 w n a0 a1 a2 a3 a4).heap.size = w.heap.size := by simp [set5, World.setCell]

set_option maxHeartbeats 1000000 in
set_option maxRecDepth 100000 in
theorem handlers_any (A0 A1 A2 A3 A4 : Option Addr) (l0 l1 l2 l3 l4 c0 c1 c2 c3 c4 : Nat) (w : World) :
    Calls Tryd.prog 33 #[.agg #[.slice A0 l0 c0, .slice A1 l1 c1, .slice A2 l2 c2, .slice A3 l3 c3, .slice A4 l4 c4]] w fun e w' =>
      e = .returned (.agg #[.string ⟨#[115, 116, 97, 114, 116]⟩, .slice A1 l1 c1, .string ⟨#[109, 101, 115, 115, 97, 103, 101]⟩, .slice A2 l2 c2, .string ⟨#[116, 105, 99, 107]⟩, .slice A3 l3 c3, .string ⟨#[105, 110, 112, 117, 116]⟩, .slice A4 l4 c4]) ∧ Below w.heap.size w w' := by
  go_enter Tryd.func33, Tryd.ntmps33
  go_wp2
  refine bodyPost_ret (v := .agg #[.string ⟨#[115, 116, 97, 114, 116]⟩, .slice A1 l1 c1, .string ⟨#[109, 101, 115, 115, 97, 103, 101]⟩, .slice A2 l2 c2, .string ⟨#[116, 105, 99, 107]⟩, .slice A3 l3 c3, .string ⟨#[105, 110, 112, 117, 116]⟩, .slice A4 l4 c4]) ?_ rfl ?_
  · simp [results, Tryd.results33, go_sem]
  · exact ⟨rfl, ((Below.refl _ _).alloc (Nat.le_refl _) _).alloc (by simp) _⟩

def hWord : Nat → List UInt8
  | 0 => [115, 116, 97, 114, 116]
  | 1 => [109, 101, 115, 115, 97, 103, 101]
  | 2 => [116, 105, 99, 107]
  | _ => [105, 110, 112, 117, 116]
end Go.Proofs.YtgkioompcmgmdaaDoor
