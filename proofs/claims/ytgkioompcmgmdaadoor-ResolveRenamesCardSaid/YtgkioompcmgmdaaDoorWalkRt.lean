/-
  Statements with the places of their names, and the head of the resolver's loop over statements. Conditions: all names are declared and stand for what they are declared as.
-/
import Derived.Test.YtgkioompcmgmdaaDoorWalkRe
namespace Go.Proofs.YtgkioompcmgmdaaDoor
open Go.RowKit

mutual
/-- A statement with the places of its names. -/
def St.res (f : Pl) : St → St
  | .mk kind nm sl sz p v b e => if kind = 1 ∨ kind = 2 then .mk kind nm ((f nm).getD (0, 0)).1 ((f nm).getD (0, 0)).2 (p.res f) (v.res f) (St.resL f b) (St.resL f e) else .mk kind nm sl sz (p.res f) (v.res f) (St.resL f b) (St.resL f e)
def St.resL (f : Pl) : List St → List St
  | [] => []
  | s :: r => s.res f :: St.resL f r
end
mutual
/-- All names are declared and stand for what they are declared as. -/
def St.rok (f : Pl) : St → Prop
  | .mk kind nm _ _ p v b e => (kind = 1 → ∃ x, f nm = some x ∧ ¬ 0 < x.2) ∧ (kind = 2 → ∃ x, f nm = some x ∧ 0 < x.2) ∧ nm.length ≤ 4096 ∧ p.rok f ∧ v.rok f ∧ St.rokL f b ∧ St.rokL f e
def St.rokL (f : Pl) : List St → Prop
  | [] => True
  | s :: r => s.rok f ∧ St.rokL f r
end
theorem srokL_at (f : Pl) : ∀ (l : List St) (k : Nat) (s : St), St.rokL f l → l[k]? = some s → s.rok f
  | [], _, _, _, h => by simp at h
  | x :: r, 0, s, hs, h => by
    simp only [List.getElem?_cons_zero, Option.some.injEq] at h
    subst h
    simp only [St.rokL] at hs
    exact hs.1
  | x :: r, k + 1, s, hs, h => by
    simp only [List.getElem?_cons_succ] at h
    simp only [St.rokL] at hs
    exact srokL_at f r k s hs.2 h
theorem sresL_take (f : Pl) : ∀ (l : List St) (k : Nat) (s : St), l[k]? = some s → St.resL f (l.take (k + 1)) = St.resL f (l.take k) ++ [s.res f]
  | [], _, _, h => by simp at h
  | x :: r, 0, s, h => by
    simp only [List.getElem?_cons_zero, Option.some.injEq] at h
    subst h
    simp [St.resL]
  | x :: r, k + 1, s, h => by
    simp only [List.getElem?_cons_succ] at h
    simp [St.resL, sresL_take f r k s h]
theorem sresL_len (f : Pl) : ∀ (l : List St), (St.resL f l).length = l.length
  | [] => rfl
  | x :: r => by simp [St.resL, sresL_len f r]
theorem ry_len {f : Pl} {l : List St} {k : Nat} (hk : k ≤ l.length) : (St.resL f (l.take k)).length = k := by
  rw [sresL_len, List.length_take]; omega

/-- The loop's head: k statements are copied. -/
structure RyHead (f : Pl) (w0 : World) (k : Nat) (l : List St) (v : Value) (wr : World) (css : List (List Value)) : Prop where
  b : Below w0.heap.size w0 wr
  o : wr.ownsRow w0.heap.size 58 18 v (St.resL f (l.take k)).length css.flatten
  a : StAll (Sv w0.heap.size v) wr (St.resL f (l.take k)) css

theorem RyHead.start (f : Pl) (w0 : World) (l : List St) : RyHead f w0 0 l (.slice none 0 0) w0 [] := ⟨Below.refl _ _, World.ownsRow_nil _ _ _ _, trivial⟩

/-- A statement more. -/
theorem RyHead.next {k : Nat} {f : Pl} {w0 wr w2 w3 : World} {l : List St} {v v' : Value} {css : List (List Value)} {s : St} {cs : List Value} {o : Obj} (h : RyHead f w0 k l v wr css)
    (hk : l[k]? = some s) (hb : Below wr.heap.size wr w2) (hs : StL (From wr.heap.size) w2 (s.res f) cs)
    (hown : w3.ownsRow w0.heap.size 58 18 v' ((St.resL f (l.take k)).length + 1) (css.flatten ++ cs)) (hg : (w2.alloc o).grownBy w3 v.ownBlock) (hob : v'.ownBlock = v.ownBlock ∨ v'.ownBlock = some (w2.heap.size + 1)) :
    RyHead f w0 (k + 1) l v' w3 (css ++ [cs]) := by
  have hz := hb.size
  have hob2 : ∀ b, v.ownBlock = some b → w0.heap.size ≤ b ∧ b < wr.heap.size := fun b hb => by
    rcases h.o.2 with ⟨rfl, _⟩ | ⟨g, cap, cur, rfl, h2, h3, _⟩
    · cases hb
    · simp only [Value.ownBlock, Option.some.injEq] at hb; subst hb; exact ⟨h2, lt_of_block h3⟩
  have hblk : ∀ k, k < w2.heap.size → v.ownBlock ≠ some k → w3.heap[k]? = w2.heap[k]? := fun k hk1 hk2 =>
    (hg.block k (by rw [new_size]; omega) (fun e => hk2 e.symm)).trans (alloc_blk w2 o hk1)
  have hnot : ∀ k, k < w2.heap.size → v.ownBlock ≠ some k → v'.ownBlock ≠ some k := fun k hk1 hk2 h => by
    rcases hob with h' | h'
    · exact hk2 (h' ▸ h)
    · rw [h'] at h; injection h with h; omega
  refine ⟨?_, ?_, ?_⟩
  · have hk2 := h.b.trans (hb.mono h.b.size)
    exact ⟨hg.os.trans hk2.os, hg.tape.trans hk2.tape, hg.output.trans hk2.output, by have := hg.size; rw [new_size] at this; have := hk2.size; omega, fun k hk1 =>
      (hblk k (by have := hk2.size; omega) (fun h => by have := (hob2 k h).1; omega)).trans (hk2.block k hk1)⟩
  · rw [sresL_take f l k s hk, List.length_append, List.flatten_append]; simpa using hown
  · rw [sresL_take f l k s hk]
    refine StAll.snoc ?_ _ css ?_
    · exact StL.still (fun k (hk1 : wr.heap.size ≤ k) hk2 => ⟨⟨by have := h.b.size; omega, hnot k hk2 (fun h => by have := (hob2 k h).2; omega)⟩, hblk k hk2 (fun h => by have := (hob2 k h).2; omega)⟩) (s.res f) cs hs
    · exact StAll.still (fun k hk1 hk2 => ⟨⟨hk1.1, hnot k (by omega) hk1.2⟩, (hblk k (by omega) hk1.2).trans (hb.block k hk2)⟩) _ css h.a

/-- At the loop's end. -/
theorem RyHead.done {f : Pl} {w0 wr : World} {l : List St} {v : Value} {css : List (List Value)} (h : RyHead f w0 l.length l v wr css) : VSts w0.heap.size wr (St.resL f l) v := by
  have h1 := own_sts h.o h.a
  rwa [List.take_length] at h1

end Go.Proofs.YtgkioompcmgmdaaDoor
