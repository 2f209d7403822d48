/-
  What a slice of elements of some cells each reads as; lists of bytes that grow by append. Conditions: the bytes number at most 2^47.
-/
import Derived.Test.YtadikcioacaphaaImQ
import Derived.Test.YtadikcioacaphaaMathCd
import Derived.Laws.AppendOwnNone
namespace Go.Proofs.Ytadikcioacaphaa
open Go.RowKit

/-- A slice of elements of k cells reads as cs. -/
def RwAt (w : World) (k : Nat) (cs : List Value) (A : Option Addr) (n : Nat) : Prop := cs.length = n * k ∧ (0 < n → ∃ b o, A = some ⟨b, o, none⟩ ∧ CellsAt w b o cs)
theorem RwAt.below {w w' : World} {k n : Nat} {cs : List Value} {A : Option Addr} (hk : 0 < k) (h : RwAt w k cs A n) (hb : Below w.heap.size w w') : RwAt w' k cs A n := by
  refine ⟨h.1, fun h0 => ?_⟩
  obtain ⟨b, o, hA, hc⟩ := h.2 h0
  have hl : 0 < cs.length := by rw [h.1]; exact Nat.mul_pos h0 hk
  obtain ⟨v, r, e⟩ := List.exists_cons_of_length_pos hl
  have : b < w.heap.size := by rw [e] at hc; exact hc.lt
  exact ⟨b, o, hA, hc.of_block (hb.block b this)⟩
/-- The same with blocks below B alone. -/
theorem RwAt.own {w : World} {base k n c : Nat} {T : TypeId} {A : Option Addr} {cs : List Value} (h : w.ownsRow base T k (.slice A n c) n cs) : RwAt w k cs A n := by
  refine ⟨h.1, fun h0 => ?_⟩
  rcases h.2 with ⟨_, e⟩ | ⟨g, cap, cur, e, _⟩
  · omega
  · injection e with e1 _ e3
    subst e1 e3
    refine ⟨g, 0, rfl, fun j u hj => ?_⟩
    have := h.cells (g := g) rfl j u hj
    rwa [Addr.add_lit] at this
/-- The cells of rows of ints. -/
def rowC (rows : List (List Int)) : List Value := rows.flatMap fun r => r.map (Value.int .i64)
theorem rowC_one (rows : List (List Int)) : ∀ u ∈ rowC rows, u.oneCell' = true := by
  intro u hu
  obtain ⟨r, _, hu⟩ := List.mem_flatMap.1 hu
  obtain ⟨x, _, rfl⟩ := List.mem_map.1 hu
  rfl
theorem rowC_snoc (rows : List (List Int)) (r : List Int) : rowC (rows ++ [r]) = rowC rows ++ r.map (Value.int .i64) := by simp [rowC]
theorem rowC_cons (rows : List (List Int)) (r : List Int) : rowC (r :: rows) = r.map (Value.int .i64) ++ rowC rows := by simp [rowC]
theorem rowC_len (k : Nat) : ∀ (rows : List (List Int)), (∀ r ∈ rows, r.length = k) → (rowC rows).length = rows.length * k
  | [], _ => by simp [rowC]
  | r :: l, h => by
    rw [rowC_cons, List.length_append, List.length_map, h r (List.mem_cons_self ..), rowC_len k l (fun x hx => h x (List.mem_cons_of_mem _ hx)), List.length_cons, Nat.add_mul]
    omega
theorem ints_one (xs : List Int) : ∀ u ∈ xs.map (Value.int .i64), u.oneCell' = true := by
  intro u hu
  obtain ⟨x, _, rfl⟩ := List.mem_map.1 hu
  rfl
/-- Row i of rows of k ints. -/
theorem rowC_at (k : Nat) : ∀ (rows : List (List Int)) (i j : Nat) (r : List Int) (x : Int), (∀ r ∈ rows, r.length = k) → rows[i]? = some r → r[j]? = some x → (rowC rows)[i * k + j]? = some (.int .i64 x)
  | [], _, _, _, _, _, h, _ => by simp at h
  | a :: l, 0, j, r, x, hk, h, hx => by
    simp only [List.getElem?_cons_zero, Option.some.injEq] at h
    subst h
    rw [rowC_cons, Nat.zero_mul, Nat.zero_add, List.getElem?_append_left (by rw [List.length_map]; exact (List.getElem?_eq_some_iff.1 hx).1), List.getElem?_map, hx]
    rfl
  | a :: l, i + 1, j, r, x, hk, h, hx => by
    simp only [List.getElem?_cons_succ] at h
    have ha := hk a (List.mem_cons_self ..)
    rw [rowC_cons, List.getElem?_append_right (by rw [List.length_map, ha, Nat.add_mul]; omega), List.length_map, ha, show (i + 1) * k + j - k = i * k + j by rw [Nat.add_mul]; omega]
    exact rowC_at k l i j r x (fun y hy => hk y (List.mem_cons_of_mem _ hy)) h hx
/-- A row of a slice of rows. -/
theorem RwAt.row {w : World} {k : Nat} {rows : List (List Int)} {A : Option Addr} {n : Nat} (h : RwAt w k (rowC rows) A n) (hk : ∀ r ∈ rows, r.length = k) (hn : n = rows.length) {b o i : Nat} (hA : A = some ⟨b, o, none⟩) {r : List Int} (hi : rows[i]? = some r) : ∀ j x, r[j]? = some x → w.cell? ⟨b, o + i * k + j, none⟩ = some (.int .i64 x) := by
  intro j x hx
  have hlt := (List.getElem?_eq_some_iff.1 hi).1
  obtain ⟨b', o', hA', hc⟩ := h.2 (by omega)
  rw [hA] at hA'
  injection hA' with e
  injection e with e1 e2
  subst e1 e2
  have := hc _ _ (rowC_at k rows i j r x hk hi hx)
  rwa [← Nat.add_assoc] at this

theorem info_ints : (Try.prog.info? 3).map (fun i => (i.zero, i.size, i.bytes)) = some (some (.int .i64 0), 1, 8) := by kernel_rfl
theorem RwAt.at' {w w' : World} {k n : Nat} {cs : List Value} {A : Option Addr} (h : RwAt w k cs A n) (hk : ∀ b o, A = some ⟨b, o, none⟩ → w'.heap[b]? = w.heap[b]?) : RwAt w' k cs A n := by
  refine ⟨h.1, fun h0 => ?_⟩
  obtain ⟨b, o, hA, hc⟩ := h.2 h0
  exact ⟨b, o, hA, hc.of_block (hk b o hA)⟩

/-- Bytes as cells. -/
def bC (bs : List Nat) : List Value := bs.map fun b => .int .u8 (b : Nat)
theorem bC_len (bs : List Nat) : (bC bs).length = bs.length := by simp [bC]
theorem bC_snoc (bs : List Nat) (b : Nat) : bC (bs ++ [b]) = bC bs ++ [.int .u8 (b : Nat)] := by simp [bC]
theorem bC_one (bs : List Nat) : ∀ u ∈ bC bs, u.oneCell' = true := by
  intro u hu
  obtain ⟨x, _, rfl⟩ := List.mem_map.1 hu
  rfl
theorem infoB : (Try.prog.info? 5).map (fun i => (i.zero, i.size, i.bytes)) = some (some (.int .u8 0), 1, 1) := by kernel_rfl
/-- What is below base, and what is not v's own block, lies as it did. -/
structure Grew (base : Nat) (v : Value) (w w' : World) : Prop where
  os : w'.os = w.os
  tape : w'.tape = w.tape
  output : w'.output = w.output
  size : w.heap.size ≤ w'.heap.size
  block : ∀ k, k < w.heap.size → (k < base ∨ v.ownBlock ≠ some k) → w'.heap[k]? = w.heap[k]?
/-- v' lies where v lay, or in new memory. -/
def Moved (v v' : Value) (w : World) : Prop := v'.ownBlock = v.ownBlock ∨ ∃ k, w.heap.size ≤ k ∧ v'.ownBlock = some k
theorem Grew.refl (base : Nat) (v : Value) (w : World) : Grew base v w w := ⟨rfl, rfl, rfl, Nat.le_refl _, fun _ _ _ => rfl⟩
theorem Grew.of_below {base : Nat} {v : Value} {w w' : World} (h : Below w.heap.size w w') : Grew base v w w' := ⟨h.os, h.tape, h.output, h.size, fun k hk _ => h.block k hk⟩
theorem Grew.trans {base : Nat} {v v1 : Value} {a b c : World} (h : Grew base v a b) (hm : Moved v v1 a) (k : Grew base v1 b c) : Grew base v a c :=
  ⟨k.os.trans h.os, k.tape.trans h.tape, k.output.trans h.output, Nat.le_trans h.size k.size, fun i hi hne => by
    refine (k.block i (Nat.lt_of_lt_of_le hi h.size) ?_).trans (h.block i hi hne)
    rcases hne with hne | hne
    · exact .inl hne
    · right
      rcases hm with e | ⟨j, hj, e⟩
      · rw [e]; exact hne
      · rw [e]; intro e2; injection e2 with e2; omega⟩
theorem Moved.refl (v : Value) (w : World) : Moved v v w := .inl rfl
theorem Moved.trans {v v1 v2 : Value} {a b : World} (h : Moved v v1 a) (hs : a.heap.size ≤ b.heap.size) (k : Moved v1 v2 b) : Moved v v2 a := by
  rcases k with e | ⟨j, hj, e⟩
  · rcases h with e1 | ⟨i, hi, e1⟩
    · exact .inl (e.trans e1)
    · exact .inr ⟨i, hi, e.trans e1⟩
  · exact .inr ⟨j, Nat.le_trans hs hj, e⟩
theorem Grew.below {base : Nat} {v : Value} {w w' : World} (h : Grew base v w w') (hs : base ≤ w.heap.size) : Below base w w' :=
  ⟨h.os, h.tape, h.output, h.size, fun k hk => h.block k (by omega) (.inl hk)⟩
/-- A list of bytes that may be appended to: one of the call's own, or one without room. -/
def Buf (base : Nat) (w : World) (v : Value) (bs : List Nat) : Prop :=
  w.ownsRow base 5 1 v bs.length (bC bs) ∨ ∃ b o, v = .slice (some ⟨b, o, none⟩) bs.length bs.length ∧ RwAt w 1 (bC bs) (some ⟨b, o, none⟩) bs.length ∧ b < base
theorem Buf.below {base : Nat} {w w' : World} {v : Value} {bs : List Nat} (h : Buf base w v bs) (hb : Below w.heap.size w w') : Buf base w' v bs := by
  rcases h with h | ⟨b, o, rfl, hr, hlt⟩
  · exact .inl (own_bel h hb)
  · exact .inr ⟨b, o, rfl, hr.below (by decide) hb, hlt⟩
/-- What a call gives that appends bytes. -/
def BufPost (base : Nat) (v : Value) (bs : List Nat) (w : World) (e : Ending) (w' : World) : Prop :=
  ∃ v', e = .returned v' ∧ Buf base w' v' bs ∧ Grew base v w w' ∧ Moved v v' w
theorem run_append_buf {base : Nat} {w : World} {v : Value} {bs : List Nat} (ty : TypeId) (h : Buf base w v bs) (hbase : base ≤ w.heap.size) (hl : bs.length + 1 ≤ 140737488355328) (ad : Addr) (c x : Nat) (hx : w.cell? ad = some (.int .u8 (x : Nat))) (hsp : ad.add 0 = ad) :
    ∃ v' w', (Builtin.append_ #[22, 22] ty #[v, .slice (some ad) 1 c]).run Try.prog w = .ok v' w' ∧ w'.ownsRow base 5 1 v' (bs ++ [x]).length (bC (bs ++ [x])) ∧ Grew base v w w' ∧ Moved v v' w := by
  obtain ⟨i0, hi, hz, h1, h2⟩ := info_parts infoB
  have hnews : ∀ (j : Nat) (u : Value), ([.int .u8 (x : Nat)] : List Value)[j]? = some u → w.cell? (ad.add j) = some u := fun j u hj => by
    match j, hj with
    | 0, hj => rw [hsp, hx]; simpa using hj
  rw [List.length_append, bC_snoc]
  rcases h with h | ⟨b, o, rfl, hr, hlt⟩
  · obtain ⟨v', w', hrun, ho, hg, _, hl'⟩ := run_append_own_at (P := Try.prog) w base 22 ty 5 _ _ 1 1 Try.underlying22 hi hz h1 h2 rfl (by decide) v bs.length (bC bs) h ad 1 c [.int .u8 (x : Nat)] rfl hnews (by intro u hu; simp at hu; subst hu; rfl) (by unfold maxLen; omega) (by omega) hbase
    refine ⟨v', w', hrun, ho, ⟨hg.os, hg.tape, hg.output, hg.size, fun k hk hne => hg.block k hk fun e => ?_⟩, ?_⟩
    · rcases hne with hne | hne
      · have := (h.lt k e.symm).1; omega
      · exact hne e.symm
    · rcases hl' with e | e
      · exact .inl e
      · exact .inr ⟨_, Nat.le_refl _, e⟩
  · have holds : ∀ j u, (bC bs)[j]? = some u → w.cell? ((⟨b, o, none⟩ : Addr).add j) = some u := fun j u hj => by
      have hjl := (List.getElem?_eq_some_iff.1 hj).1
      rw [bC_len] at hjl
      have hp : 0 < bs.length := by omega
      have hr2 := hr.2 hp
      clear hl hp hx
      obtain ⟨b', o', e, hc⟩ := hr2
      cases e
      rw [Addr.add_lit]
      exact hc j u hj
    have hrun := run_append_grow (P := Try.prog) w 22 ty 5 _ _ Try.underlying22 hi hz ⟨b, o, none⟩ bs.length bs.length (bC bs) (by rw [h1, bC_len, Nat.mul_one]) holds ad 1 c [.int .u8 (x : Nat)] (by rw [h1]; rfl) hnews (by omega) (by omega) (by rw [h2]; exact growslice_fits (by omega) (by omega))
    refine ⟨_, _, hrun, ⟨by simp [bC_len], .inr ⟨w.heap.size, _, _, rfl, hbase, heap_alloc_new w.drew _, grownCap_ge w _ _ _, grownCap_le_maxLen w _ _ _ (by unfold maxLen; omega), ?_, ?_⟩⟩, ⟨rfl, rfl, rfl, by simp, fun k hk _ => alloc_blk w.drew _ hk⟩, .inr ⟨w.heap.size, Nat.le_refl _, rfl⟩⟩
    · have := grownCap_ge w (bs.length + 1) bs.length 5
      rw [Array.size_append, Array.size_append, size_zeroCells, List.size_toArray, List.size_toArray, bC_len]
      show bs.length + 1 + (_ - (bs.length + 1)) * 1 = _ * 1
      omega
    · simp only [Array.toList_append, List.append_assoc]
      rw [← List.append_assoc]
      exact List.take_left' (by simp [bC_len])
/-- Where bytes have been appended on the way. -/
structure BufSt (base : Nat) (v0 : Value) (w0 w : World) (v : Value) (bs : List Nat) : Prop where
  buf : Buf base w v bs
  grew : Grew base v0 w0 w
  moved : Moved v0 v w0
  size : base ≤ w.heap.size
theorem BufSt.start {base : Nat} {v : Value} {w : World} {bs : List Nat} (h : Buf base w v bs) (hs : base ≤ w.heap.size) : BufSt base v w w v bs := ⟨h, Grew.refl _ _ _, Moved.refl _ _, hs⟩
theorem BufSt.next {base : Nat} {v0 v v' : Value} {w0 w w' : World} {bs bs' : List Nat} (h : BufSt base v0 w0 w v bs) (ho : Buf base w' v' bs') (hg : Grew base v w w') (hm : Moved v v' w) : BufSt base v0 w0 w' v' bs' :=
  ⟨ho, h.grew.trans h.moved hg, h.moved.trans h.grew.size hm, Nat.le_trans h.size hg.size⟩
theorem BufSt.step {base : Nat} {v0 v : Value} {w0 w w' : World} {bs bs' : List Nat} {e : Ending} (h : BufSt base v0 w0 w v bs) (hp : BufPost base v bs' w e w') : ∃ v', e = .returned v' ∧ BufSt base v0 w0 w' v' bs' := by
  obtain ⟨v', he, ho, hg, hm⟩ := hp
  exact ⟨v', he, h.next ho hg hm⟩
theorem BufSt.post {base : Nat} {v0 v : Value} {w0 w : World} {bs : List Nat} (h : BufSt base v0 w0 w v bs) : BufPost base v0 bs w0 (.returned v) w := ⟨v, rfl, h.buf, h.grew, h.moved⟩
theorem BufSt.alloc {base : Nat} {v0 v : Value} {w0 w : World} {bs : List Nat} (h : BufSt base v0 w0 w v bs) (o : Obj) : BufSt base v0 w0 (w.alloc o) v bs := by
  have hb : Below w.heap.size w (w.alloc o) := (Below.refl _ _).alloc (Nat.le_refl _) _
  exact ⟨h.buf.below hb, h.grew.trans h.moved (Grew.of_below hb), h.moved, Nat.le_trans h.size hb.size⟩
/-- A list that does not lie where v lies. -/
def Away (base : Nat) (v : Value) (A : Option Addr) : Prop := ∀ b o, A = some ⟨b, o, none⟩ → b < base ∨ v.ownBlock ≠ some b
theorem RwAt.grew {w w' : World} {base k n : Nat} {v : Value} {cs : List Value} {A : Option Addr} (hk : 0 < k) (h : RwAt w k cs A n) (hg : Grew base v w w') (ha : Away base v A) : RwAt w' k cs A n := by
  refine ⟨h.1, fun h0 => ?_⟩
  obtain ⟨b, o, hA, hc⟩ := h.2 h0
  have hl : 0 < cs.length := by rw [h.1]; exact Nat.mul_pos h0 hk
  obtain ⟨u, r, e⟩ := List.exists_cons_of_length_pos hl
  have : b < w.heap.size := by rw [e] at hc; exact hc.lt
  exact ⟨b, o, hA, hc.of_block (hg.block b this (ha b o hA))⟩
end Go.Proofs.Ytadikcioacaphaa
