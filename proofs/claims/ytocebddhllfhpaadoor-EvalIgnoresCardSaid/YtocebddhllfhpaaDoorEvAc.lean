/-
  A function that copies an expression and makes its list of operands anew, one after the other: the head of its loop, a round, and its result. No conditions.
-/
import Derived.Test.YtocebddhllfhpaaDoorEvQ
namespace Go.Proofs.YtocebddhllfhpaaDoor
open Go.RowKit

/-- Below the heap's end nothing but one block, or none, may have been written. -/
structure KeepO (R : Option Nat) (w w' : World) : Prop where
  os : w'.os = w.os
  tape : w'.tape = w.tape
  output : w'.output = w.output
  size : w.heap.size ≤ w'.heap.size
  block : ∀ k, k < w.heap.size → R ≠ some k → w'.heap[k]? = w.heap[k]?
theorem KeepO.refl (R : Option Nat) (w : World) : KeepO R w w := ⟨rfl, rfl, rfl, Nat.le_refl _, fun _ _ _ => rfl⟩
theorem KeepO.trans {R : Option Nat} {a b c : World} (h : KeepO R a b) (k : KeepO R b c) : KeepO R a c :=
  ⟨k.os.trans h.os, k.tape.trans h.tape, k.output.trans h.output, Nat.le_trans h.size k.size, fun i hi hne => (k.block i (Nat.lt_of_lt_of_le hi h.size) hne).trans (h.block i hi hne)⟩
theorem KeepO.of_below {R : Option Nat} {w w' : World} (h : Below w.heap.size w w') : KeepO R w w' := ⟨h.os, h.tape, h.output, h.size, fun k hk _ => h.block k hk⟩
theorem KeepO.of_keep {R : Nat} {w w' : World} (h : Keep R w w') : KeepO (some R) w w' := ⟨h.os, h.tape, h.output, h.size, fun k hk hne => h.block k hk (fun e => hne (by rw [e]))⟩
theorem KeepO.keep {R : Nat} {w w' : World} (h : KeepO (some R) w w') : Keep R w w' := ⟨h.os, h.tape, h.output, h.size, fun k hk hne => h.block k hk (fun e => hne (by injection e with e; exact e.symm))⟩
theorem KeepO.below {w w' : World} (h : KeepO none w w') : Below w.heap.size w w' := ⟨h.os, h.tape, h.output, h.size, fun k hk => h.block k hk (fun e => by cases e)⟩
theorem KeepO.alloc {R : Option Nat} {a w : World} (h : KeepO R a w) (o : Obj) : KeepO R a (w.alloc o) := h.trans (KeepO.of_below ((Below.refl _ _).alloc (Nat.le_refl _) _))
theorem KeepO.drew {R : Option Nat} {a w : World} (h : KeepO R a w) : KeepO R a w.drew := h.trans (KeepO.of_below (Below.refl _ _).drew)
theorem KeepO.setNew {R : Option Nat} {a w : World} (h : KeepO R a w) {p : Addr} (hp : a.heap.size ≤ p.block) (u : Value) : KeepO R a (w.setCell p u) :=
  ⟨h.os, h.tape, h.output, Nat.le_trans h.size (by simp [World.setCell]), fun k hk hne => (Below.heap_setCell _ _ _ _ (by omega)).trans (h.block k hk hne)⟩
theorem KeepO.set6 {R : Option Nat} {n : Nat} {a w : World} (h : KeepO R a w) (hn : a.heap.size ≤ n) (a0 a1 a2 a3 a4 a5 : Value) : KeepO R a (set6 w n a0 a1 a2 a3 a4 a5) :=
  (((((h.setNew (p := ⟨n, 0, none⟩) hn a0).setNew (p := ⟨n, 1, none⟩) hn a1).setNew (p := ⟨n, 2, none⟩) hn a2).setNew (p := ⟨n, 3, none⟩) hn a3).setNew (p := ⟨n, 4, none⟩) hn a4).setNew (p := ⟨n, 5, none⟩) hn a5

/-- The head of the loop: the operands acc are made, the box holds the copy, the result is not yet written. -/
structure AcHead (R : Option Nat) (n0 : Nat) (w0 : World) (box : List Value) (acc : List Ex) (v : Value) (wr : World) (css : List (List Value)) : Prop where
  k : KeepO R w0 wr
  x : wr.heap[w0.heap.size]? = some (.cells box.toArray 31 (0, 0))
  r : wr.heap[w0.heap.size + 1]? = some (.cells #[.int .i64 0, .int .i64 0, .string ⟨#[]⟩, .int .i64 0, .int .i64 0, .slice none 0 0] 31 (0, 0))
  o : wr.ownsRow n0 31 6 v acc.length css.flatten
  a : ExAll (Sv n0 v) wr acc css

/-- The world has changed elsewhere. -/
theorem AcHead.keep {R : Option Nat} {n0 : Nat} {w0 wr w2 : World} {box : List Value} {acc : List Ex} {v : Value} {css : List (List Value)} (h : AcHead R n0 w0 box acc v wr css)
    (hR : ∀ r, R = some r → r < w0.heap.size) (hn0 : n0 = w0.heap.size + 2) (hk : KeepO R wr w2) : AcHead R n0 w0 box acc v w2 css := by
  have hz := h.k.size
  have hx1 := lt_of_block h.x
  have hr1 := lt_of_block h.r
  have hne : ∀ k, w0.heap.size ≤ k → R ≠ some k := fun k hk e => by have := hR k e; omega
  refine ⟨h.k.trans hk, (hk.block _ hx1 (hne _ (Nat.le_refl _))).trans h.x, (hk.block _ hr1 (hne _ (by omega))).trans h.r, ?_, ?_⟩
  · obtain ⟨h1, h2⟩ := h.o
    refine ⟨h1, ?_⟩
    rcases h2 with h2 | ⟨g, cap, cur, hv, hg, hh, r⟩
    · exact .inl h2
    · exact .inr ⟨g, cap, cur, hv, hg, (hk.block _ (lt_of_block hh) (hne _ (by omega))).trans hh, r⟩
  · exact ExAll.still (fun b hb hlt => ⟨hb, hk.block b hlt (hne _ (by have := hb.1; omega))⟩) acc css h.a

/-- An operand more. -/
theorem AcHead.next {R : Option Nat} {n0 : Nat} {w0 wr w2 w3 : World} {box : List Value} {acc : List Ex} {v v' : Value} {css : List (List Value)} {e : Ex} {cs : List Value} {o : Obj} (h : AcHead R n0 w0 box acc v wr css)
    (hR : ∀ r, R = some r → r < w0.heap.size) (hn0 : n0 = w0.heap.size + 2) (hk : KeepO R wr w2) (hs : ExL (From wr.heap.size) w2 e cs)
    (hown : w3.ownsRow n0 31 6 v' (acc.length + 1) (css.flatten ++ cs)) (hg : (w2.alloc o).grownBy w3 v.ownBlock) (hob : v'.ownBlock = v.ownBlock ∨ v'.ownBlock = some (w2.heap.size + 1)) :
    AcHead R n0 w0 box (acc ++ [e]) v' w3 (css ++ [cs]) ∧ (∀ k, k < n0 → w3.heap[k]? = w2.heap[k]?) := by
  have hz := hk.size
  have hx1 := lt_of_block h.x
  have hr1 := lt_of_block h.r
  have hne : ∀ k, w0.heap.size ≤ k → R ≠ some k := fun k hk e => by have := hR k e; omega
  have hob2 : ∀ b, v.ownBlock = some b → n0 ≤ b ∧ b < wr.heap.size := fun b hb => by
    rcases h.o.2 with ⟨rfl, _⟩ | ⟨g, cap, cur, rfl, h2, h3, _⟩
    · cases hb
    · simp only [Value.ownBlock, Option.some.injEq] at hb; subst hb; exact ⟨h2, lt_of_block h3⟩
  have hblk : ∀ k, k < w2.heap.size → v.ownBlock ≠ some k → w3.heap[k]? = w2.heap[k]? := fun k hk1 hk2 =>
    (hg.block k (by rw [new_size]; omega) (fun e => hk2 e.symm)).trans (alloc_blk w2 o hk1)
  have hnot : ∀ k, k < w2.heap.size → v.ownBlock ≠ some k → v'.ownBlock ≠ some k := fun k hk1 hk2 h => by
    rcases hob with h' | h'
    · exact hk2 (h' ▸ h)
    · rw [h'] at h; injection h with h; omega
  have hlow : ∀ k, k < n0 → w3.heap[k]? = w2.heap[k]? := fun k h1 => hblk k (by omega) (fun h => by have := (hob2 k h).1; omega)
  refine ⟨⟨?_, ?_, ?_, ?_, ?_⟩, hlow⟩
  · have hk2 := h.k.trans hk
    exact ⟨hg.os.trans hk2.os, hg.tape.trans hk2.tape, hg.output.trans hk2.output, by have := hg.size; rw [new_size] at this; have := hk2.size; omega, fun k hk1 hne =>
      (hlow k (by omega)).trans (hk2.block k hk1 hne)⟩
  · exact (hlow _ (by omega)).trans ((hk.block _ hx1 (hne _ (Nat.le_refl _))).trans h.x)
  · exact (hlow _ (by omega)).trans ((hk.block _ hr1 (hne _ (by omega))).trans h.r)
  · rw [List.length_append, List.flatten_append]; simpa using hown
  · refine ExAll.snoc ?_ _ css ?_
    · exact ExL.still (fun k (hk1 : wr.heap.size ≤ k) hk2 => ⟨⟨by omega, hnot k hk2 (fun h => by have := (hob2 k h).2; omega)⟩, hblk k hk2 (fun h => by have := (hob2 k h).2; omega)⟩) e cs hs
    · exact ExAll.still (fun k hk1 hk2 => ⟨⟨hk1.1, hnot k (by omega) hk1.2⟩, (hblk k (by omega) hk1.2).trans (hk.block k hk2 (hne _ (by have := hk1.1; omega)))⟩) _ css h.a

/-- The slice of operands that the loop has made. -/
theorem AcHead.slice {R : Option Nat} {n0 : Nat} {w0 wr : World} {box : List Value} {acc : List Ex} {v : Value} {css : List (List Value)} (h : AcHead R n0 w0 box acc v wr css) :
    ∃ A c, v = .slice A acc.length c ∧ acc.length ≤ c ∧ (acc ≠ [] → ∃ b o, A = some ⟨b, o, none⟩ ∧ n0 ≤ b ∧ ExRow (From n0) wr acc b o) := own_exs h.o h.a

/-- The result, when it has been written. -/
theorem ac_ret {n0 : Nat} {w0 wr : World} {acc : List Ex} {A : Option Addr} {c : Nat} {op value slot size : Int} {name : List UInt8} (hn0 : n0 = w0.heap.size + 2) (hc : acc.length ≤ c)
    (hr : acc ≠ [] → ∃ b o, A = some ⟨b, o, none⟩ ∧ n0 ≤ b ∧ ExRow (From n0) wr acc b o) (u : Value) (b0 b1 b2 b3 b4 b5 : Value) :
    VEx w0.heap.size (set6 (wr.setCell ⟨w0.heap.size, 5, none⟩ u) (w0.heap.size + 1) b0 b1 b2 b3 b4 b5) (.mk op value name slot size acc) (.agg #[.int .i64 op, .int .i64 value, .string (strB name), .int .i64 slot, .int .i64 size, .slice A acc.length c]) := by
  refine ⟨_, _, _, _, _, _, _, _, rfl, ?_⟩
  simp only [ExL]
  refine ⟨A, c, rfl, hc, fun hne => ?_⟩
  obtain ⟨bb, o, hA, hbb, hrw⟩ := hr hne
  refine ⟨bb, o, hA, show w0.heap.size ≤ bb by omega, ExRow.still (S := From n0) (fun j (h1 : n0 ≤ j) _ => ⟨show w0.heap.size ≤ j by omega, ?_⟩) _ bb o hbb hrw⟩
  exact (set6_blk _ _ _ _ _ _ _ _ (by omega)).trans (Below.heap_setCell _ _ _ _ (by show j ≠ w0.heap.size; omega))
end Go.Proofs.YtocebddhllfhpaaDoor
