/-
  What stays of blocks, cells, lists: frames that many walks share. No conditions.
-/
import Derived.Test.YtadikcioacaphaaRows
import Derived.WalkKit
import Derived.WalkSpells
import Derived.WalkLawsBesides
import Derived.Deep.LoopGhost
import Derived.Deep.QuietTactic
import Derived.BigQuiet
import Derived.RegionTactic
import Derived.StillTailTactics
import Derived.Laws.Rows
import Derived.Laws.Tables
import Derived.MapKept
import Derived.Lib.Builder
import Derived.OneCell
import Derived.Deep.RegionHeld3
import Derived.Deep.RegionHeld2
import Derived.Deep.DeepCutAuto
import Derived.Maps.AppendAt
import Derived.Maps.Views
import Derived.Laws.Pointers
import Derived.Tactics2
import Derived.OwnWalk
import Derived.Lib.SmallJoins
import Derived.Lib.Hide
namespace Go.Proofs.Ytadikcioacaphaa
open Go.RowKit

theorem ret_bool {a b : Bool} (h : a = b) : Ending.returned (.bool a) = .returned (.bool b) := by rw [h]
theorem hid_false {b : Bool} (h : ¬ b = true) : Hid (b = false) := Bool.eq_false_iff.2 h
theorem ret_int {k : IntKind} {a b : Int} (h : a = b) : Ending.returned (.int k a) = .returned (.int k b) := by rw [h]
def strB (l : List UInt8) : ByteArray := ⟨l.toArray⟩
/-- Below the heap's end nothing but block R may have been written. -/
structure Keep (R : Nat) (w w' : World) : Prop where
  os : w'.os = w.os
  tape : w'.tape = w.tape
  output : w'.output = w.output
  size : w.heap.size ≤ w'.heap.size
  block : ∀ k, k < w.heap.size → k ≠ R → w'.heap[k]? = w.heap[k]?
theorem Keep.refl (R : Nat) (w : World) : Keep R w w := ⟨rfl, rfl, rfl, Nat.le_refl _, fun _ _ _ => rfl⟩
theorem Keep.trans {R : Nat} {a b c : World} (h : Keep R a b) (k : Keep R b c) : Keep R a c :=
  ⟨k.os.trans h.os, k.tape.trans h.tape, k.output.trans h.output, Nat.le_trans h.size k.size, fun i hi hne => (k.block i (Nat.lt_of_lt_of_le hi h.size) hne).trans (h.block i hi hne)⟩
theorem Keep.of_below {R : Nat} {w w' : World} (h : Below w.heap.size w w') : Keep R w w' := ⟨h.os, h.tape, h.output, h.size, fun k hk _ => h.block k hk⟩
theorem Keep.below {R B : Nat} {w w' : World} (h : Keep R w w') (hB : B ≤ w.heap.size) (hR : B ≤ R) : Below B w w' :=
  ⟨h.os, h.tape, h.output, h.size, fun k hk => h.block k (by omega) (by omega)⟩
theorem Keep.alloc {R : Nat} {a w : World} (h : Keep R a w) (o : Obj) : Keep R a (w.alloc o) := h.trans (Keep.of_below ((Below.refl _ _).alloc (Nat.le_refl _) _))
theorem Keep.drew {R : Nat} {a w : World} (h : Keep R a w) : Keep R a w.drew := h.trans (Keep.of_below (Below.refl _ _).drew)
theorem Keep.drewN {R : Nat} {a w : World} (h : Keep R a w) (n : Nat) : Keep R a (w.drewN n) := h.trans (Keep.of_below (below_drewN (Below.refl _ _) n))
theorem Keep.setNew {R : Nat} {a w : World} (h : Keep R a w) {p : Addr} (hp : a.heap.size ≤ p.block) (u : Value) : Keep R a (w.setCell p u) :=
  ⟨h.os, h.tape, h.output, Nat.le_trans h.size (by simp [World.setCell]), fun k hk hne => (Below.heap_setCell _ _ _ _ (by omega)).trans (h.block k hk hne)⟩
theorem Keep.setR {R : Nat} {a w : World} (h : Keep R a w) {p : Addr} (hp : p.block = R) (u : Value) : Keep R a (w.setCell p u) :=
  ⟨h.os, h.tape, h.output, Nat.le_trans h.size (by simp [World.setCell]), fun k hk hne => (Below.heap_setCell _ _ _ _ (by omega)).trans (h.block k hk hne)⟩
theorem Keep.cell {R : Nat} {w w' : World} (h : Keep R w w') {b o : Nat} {v : Value} (hc : w.cell? ⟨b, o, none⟩ = some v) (hne : b ≠ R) : w'.cell? ⟨b, o, none⟩ = some v :=
  (World.cell?_of_block (w := w) (a := ⟨b, o, none⟩) (h.block b (World.block_lt_of_cell? w _ hc) hne)).trans hc
theorem Keep.frozen {R : Nat} {w w' : World} (h : Keep R w w') {b o : Nat} {q : Bool} (hc : w.frozen? ⟨b, o, none⟩ = q) (hb : b < w.heap.size) (hne : b ≠ R) : w'.frozen? ⟨b, o, none⟩ = q :=
  (World.frozen?_of_block (w := w) (a := ⟨b, o, none⟩) (h.block b hb hne)).trans hc
/-- Cells that lie one behind the other. -/
def CellsAt (w : World) (b o : Nat) (cs : List Value) : Prop := ∀ j u, cs[j]? = some u → w.cell? ⟨b, o + j, none⟩ = some u
theorem CellsAt.lt {w : World} {b o : Nat} {v : Value} {cs : List Value} (h : CellsAt w b o (v :: cs)) : b < w.heap.size :=
  World.block_lt_of_cell? w _ (h 0 v rfl)
theorem CellsAt.of_block {w w' : World} {b o : Nat} {cs : List Value} (h : CellsAt w b o cs) (hb : w'.heap[b]? = w.heap[b]?) : CellsAt w' b o cs :=
  fun j u hj => (World.cell?_of_block (w := w) (a := ⟨b, o + j, none⟩) hb).trans (h j u hj)
/-- What meets S and was there lies as it did, and meets S'. -/
def Still (S S' : Nat → Prop) (w w' : World) : Prop := ∀ b, S b → b < w.heap.size → S' b ∧ w'.heap[b]? = w.heap[b]?
/-- From n on. -/
def From (n : Nat) : Nat → Prop := fun b => n ≤ b
theorem Still.keep {R n : Nat} {w w' : World} (h : Keep R w w') (hR : R < n) : Still (From n) (From n) w w' :=
  fun b hS hb => ⟨hS, h.block b hb (by have : n ≤ b := hS; omega)⟩
theorem Still.low {n m : Nat} {w : World} (h : m ≤ n) : Still (From n) (From m) w w := fun _ hS _ => ⟨Nat.le_trans h hS, rfl⟩
theorem str_ne {l : List UInt8} {s : ByteArray} (h : l ≠ s.data.toList) : ((strB l).toList == s.toList) = false := by
  rw [Lib.toList_data, Lib.toList_data]; simpa [strB] using h
theorem str_eq {l : List UInt8} {s : ByteArray} (h : l = s.data.toList) : ((strB l).toList == s.toList) = true := by
  rw [Lib.toList_data, Lib.toList_data]; simpa [strB] using h
theorem str_size (l : List UInt8) : (strB l).size = l.length := by simp [strB, ByteArray.size]
theorem str_data (l : List UInt8) : (strB l).data.toList = l := by simp [strB]
theorem new_cell (w : World) (cs : Array Value) (T : TypeId) (j : Nat) (v : Value) (h : cs[j]? = some v) : (w.alloc (.cells cs T)).cell? ⟨w.heap.size, j, none⟩ = some v := by
  rw [Lib.cell_of_heap (Go.MapKept.heap_alloc w (.cells cs T)).1]; simpa using h
theorem Keep.blk {R b : Nat} {w w' : World} {o : Obj} (h : Keep R w w') (hb : w.heap[b]? = some o) (hne : b ≠ R) : w'.heap[b]? = some o := (h.block b (lt_of_block hb) hne).trans hb
theorem below_blk {b : Nat} {w w' : World} {o : Obj} (h : Below w.heap.size w w') (hb : w.heap[b]? = some o) : w'.heap[b]? = some o := (h.block b (lt_of_block hb)).trans hb
theorem new_blk (w : World) (o : Obj) : (w.alloc o).heap[w.heap.size]? = some o := (Go.MapKept.heap_alloc w o).1
theorem new_size (w : World) (o : Obj) : (w.alloc o).heap.size = w.heap.size + 1 := by simp
theorem alloc_blk (w : World) (o : Obj) {k : Nat} (h : k < w.heap.size) : (w.alloc o).heap[k]? = w.heap[k]? := Below.heap_alloc w o k h
theorem set_size (w : World) (p : Addr) (v : Value) : (w.setCell p v).heap.size = w.heap.size := by simp [World.setCell]
/-- A cell of a block has been written. -/
theorem blk_set {w : World} {b : Nat} {cs : Array Value} {T : TypeId} {fr : Nat × Nat} (h : w.heap[b]? = some (.cells cs T fr)) (i : Nat) (v : Value) : (w.setCell ⟨b, i, none⟩ v).heap[b]? = some (.cells (cs.setIfInBounds i v) T fr) := by
  have hlt := lt_of_block h
  have h' : w.heap[b] = .cells cs T fr := by simpa [Array.getElem?_eq_getElem hlt] using h
  show (w.heap.modify b _)[b]? = _
  rw [Array.getElem?_eq_getElem (by simpa using hlt), Array.getElem_modify_self, h']
  rfl
theorem new_cells (w : World) (cs : List Value) (T : TypeId) : CellsAt (w.alloc (.cells cs.toArray T)) w.heap.size 0 cs := fun j u hj => by
  rw [Nat.zero_add]; exact new_cell w cs.toArray T j u (by simpa using hj)
theorem setRow_blk (w : World) (n : Nat) (cs : Array Value) {k : Nat} (h : k ≠ n) : (w.setRow n cs).heap[k]? = w.heap[k]? := by
  unfold World.setRow
  simp only [Array.getElem?_modify]
  rw [if_neg (fun e => h e.symm)]
theorem Keep.setRow {R n : Nat} {a w : World} (h : Keep R a w) (hn : a.heap.size ≤ n) (cs : Array Value) : Keep R a (w.setRow n cs) :=
  ⟨h.os, h.tape, h.output, Nat.le_trans h.size (by simp), fun k hk hne => (setRow_blk w n cs (by omega)).trans (h.block k hk hne)⟩
theorem setRow_same {w : World} {n : Nat} {old cs : Array Value} {t : TypeId} {fr : Nat × Nat} (h : w.heap[n]? = some (.cells old t fr)) : (w.setRow n cs).heap[n]? = some (.cells cs t fr) := setRow_heap w n old cs t fr h
/-- From n on, but not the block of v's own. -/
def Sv (n : Nat) (v : Value) : Nat → Prop := fun b => n ≤ b ∧ v.ownBlock ≠ some b
theorem own_keep {R : Nat} {w w' : World} {base : Nat} {e : TypeId} {size : Nat} {v : Value} {n : Nat} {xs : List Value} (h : w.ownsRow base e size v n xs) (hk : Keep R w w') (hR : R < base) : w'.ownsRow base e size v n xs := by
  obtain ⟨h1, h2⟩ := h
  refine ⟨h1, ?_⟩
  rcases h2 with h2 | ⟨g, cap, cur, hv, hg, hh, r⟩
  · exact .inl h2
  · exact .inr ⟨g, cap, cur, hv, hg, hk.blk hh (by omega), r⟩
/-- 'append' as one step of a region that draws. -/
theorem step_append_own_at {P : Program} {ops : Array Oper} {o : Oper} {a : Act} {w : World} {K : Act → World → Prop} {Q : Exit → Act → World → Prop} {E : Prop}
    (hg : o.guard = none) (s x : Operand) (t : TypeId) (hop : o.op = Op.call { callee := Callee.builtin Builtin.append, args := #[s, x], argTypes := #[t, t] })
    (base : Nat) (e : TypeId) (i : TypeInfo) (z : Value) (size bytes : Nat) (ht : P.underlying t = some (.slice e)) (hi : P.info? e = some i) (hz : i.zero = some z)
    (hsize : i.size = size) (hby : i.bytes = bytes) (hzs : z.cells.size = size) (hsz : 0 < size)
    (v : Value) (n : Nat) (xs : List Value) (hs : a.eval s = v) (hown : w.ownsRow base e size v n xs)
    (ad : Addr) (m c : Nat) (news : List Value) (hx : a.eval x = .slice (some ad) m c) (hl : news.length = m * size) (hnews : ∀ j u, news[j]? = some u → w.cell? (ad.add j) = some u) (h1 : ∀ u ∈ news, u.oneCell' = true)
    (h63 : n + m ≤ maxLen) (hbytes : (n + m) * bytes ≤ 140737488355328) (hbase : base ≤ w.heap.size)
    (hK : ∀ v' w', w'.ownsRow base e size v' (n + m) (xs ++ news) → w.grownBy w' v.ownBlock → (v'.ownBlock = v.ownBlock ∨ v'.ownBlock = some w.heap.size) → K (a.put o.dst v') w') :
    if Region.wanted o (yielded ops a.tmps) = true then Oper.wp P o a w K Q else E := by
  have hw : Region.wanted o (yielded ops a.tmps) = true := by simp [Region.wanted, hg]
  rw [if_pos hw]
  obtain ⟨v', w', hr, h2, h3, _, h5⟩ := run_append_own_at (P := P) w base t o.type e i z size bytes ht hi hz hsize hby hzs hsz v n xs hown ad m c news hl hnews h1 h63 hbytes hbase
  unfold Oper.wp execOp
  simp only [hop, resolve, invoke, builtin, Sem.run_bind, Sem.run_pure, Result.andThen_ok, List.map_toArray, List.map_cons, List.map_nil, hs, hx, hr]
  exact hK _ _ h2 h3 h5
theorem own_slice {w : World} {base : Nat} {e : TypeId} {size n : Nat} {v : Value} {xs : List Value} (h : w.ownsRow base e size v n xs) : ∃ A c, v = .slice A n c := by
  obtain ⟨_, ⟨rfl, rfl⟩ | ⟨g, cap, cur, rfl, _⟩⟩ := h
  · exact ⟨none, 0, rfl⟩
  · exact ⟨_, _, rfl⟩
theorem own_bel {w w' : World} {base : Nat} {e : TypeId} {size n : Nat} {v : Value} {xs : List Value} (h : w.ownsRow base e size v n xs) (hb : Below w.heap.size w w') : w'.ownsRow base e size v n xs := by
  refine h.kept (row := none) ⟨hb.os, hb.tape, hb.output, hb.size, fun k hk _ => hb.block k hk⟩ ?_
  cases hob : v.ownBlock with
  | none => exact .inl rfl
  | some j => exact .inr (fun e => by cases e)
theorem own_no {w : World} {base : Nat} {e : TypeId} {size n : Nat} {v : Value} {xs : List Value} (h : w.ownsRow (base + 1) e size v n xs) : some base ≠ v.ownBlock := fun e => by
  have := (h.lt base e.symm).1; omega
theorem own_no' {w : World} {base j : Nat} {e : TypeId} {size n : Nat} {v : Value} {xs : List Value} (h : w.ownsRow base e size v n xs) (hj : j < base) : some j ≠ v.ownBlock := fun e => by
  have := (h.lt j e.symm).1; omega
/-- The loop's head: k operands are copied. -/
theorem new_blk1 (w : World) (o o' : Obj) : ((w.alloc o).alloc o').heap[w.heap.size + 1]? = some o' := by have := new_blk (w.alloc o) o'; rwa [new_size] at this
theorem below_drew1 {B : Nat} (w : World) : Below B w w.drew := below_drewN (Below.refl _ _) 1
theorem rp_one1 (w : World) (a : Obj) : Below w.heap.size w (w.alloc a) := (Below.refl _ _).alloc (Nat.le_refl _) a
end Go.Proofs.Ytadikcioacaphaa
