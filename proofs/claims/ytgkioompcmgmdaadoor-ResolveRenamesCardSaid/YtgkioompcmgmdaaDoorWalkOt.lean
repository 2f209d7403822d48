/-
  What other of package rollbacknetlaw03 does: a copy of an expression with other names. Condition: the expression has at most 100000 parts.
-/
import Derived.Test.YtgkioompcmgmdaaDoorWalkRe
import Derived.Test.YtgkioompcmgmdaaDoorWalkMx
import Derived.Test.YtgkioompcmgmdaaDoorWalkAr
namespace Go.Proofs.YtgkioompcmgmdaaDoor
open Go.RowKit

/-- Below the heap's end nothing but one block, or none, may have been written. -/
structure KeepO (R : Option Nat) (w w' : World) : Prop where
  os : w'.os = w.os
  tape : w'.tape = w.tape
  output : w'.output = w.output
  size : w.heap.size ≤ w'.heap.size
  block : ∀ k, k < w.heap.size → R ≠ some k → w'.heap[k]? = w.heap[k]?
theorem KeepO.refl (R : Option Nat) (w : World) : KeepO R w w := ⟨rfl, rfl, rfl, Nat.le_refl _, fun _ _ _ => rfl⟩
theorem KeepO.trans {R : Option Nat} {a b c : World} (h : KeepO R a b) (k : KeepO R b c) : KeepO R a c :=
  ⟨k.os.trans h.os, k.tape.trans h.tape, k.output.trans h.output, Nat.le_trans h.size k.size, fun i hi hne => (k.block i (Nat.lt_of_lt_of_le hi h.size) hne).trans (h.block i hi hne)⟩
theorem KeepO.of_below {R : Option Nat} {w w' : World} (h : Below w.heap.size w w') : KeepO R w w' := ⟨h.os, h.tape, h.output, h.size, fun k hk _ => h.block k hk⟩
theorem KeepO.of_keep {R : Nat} {w w' : World} (h : Keep R w w') : KeepO (some R) w w' := ⟨h.os, h.tape, h.output, h.size, fun k hk hne => h.block k hk (fun e => hne (by rw [e]))⟩
theorem KeepO.keep {R : Nat} {w w' : World} (h : KeepO (some R) w w') : Keep R w w' := ⟨h.os, h.tape, h.output, h.size, fun k hk hne => h.block k hk (fun e => hne (by injection e with e; exact e.symm))⟩
theorem KeepO.below {w w' : World} (h : KeepO none w w') : Below w.heap.size w w' := ⟨h.os, h.tape, h.output, h.size, fun k hk => h.block k hk (fun e => by cases e)⟩
theorem KeepO.alloc {R : Option Nat} {a w : World} (h : KeepO R a w) (o : Obj) : KeepO R a (w.alloc o) := h.trans (KeepO.of_below ((Below.refl _ _).alloc (Nat.le_refl _) _))
theorem KeepO.drew {R : Option Nat} {a w : World} (h : KeepO R a w) : KeepO R a w.drew := h.trans (KeepO.of_below (Below.refl _ _).drew)
theorem KeepO.setNew {R : Option Nat} {a w : World} (h : KeepO R a w) {p : Addr} (hp : a.heap.size ≤ p.block) (u : Value) : KeepO R a (w.setCell p u) :=
  ⟨h.os, h.tape, h.output, Nat.le_trans h.size (by simp [World.setCell]), fun k hk hne => (Below.heap_setCell _ _ _ _ (by omega)).trans (h.block k hk hne)⟩
theorem KeepO.set6 {R : Option Nat} {n : Nat} {a w : World} (h : KeepO R a w) (hn : a.heap.size ≤ n) (a0 a1 a2 a3 a4 a5 : Value) : KeepO R a (set6 w n a0 a1 a2 a3 a4 a5) :=
  (((((h.setNew (p := ⟨n, 0, none⟩) hn a0).setNew (p := ⟨n, 1, none⟩) hn a1).setNew (p := ⟨n, 2, none⟩) hn a2).setNew (p := ⟨n, 3, none⟩) hn a3).setNew (p := ⟨n, 4, none⟩) hn a4).setNew (p := ⟨n, 5, none⟩) hn a5

/-- The head of the loop: the operands acc are made, the box holds the copy, the result is not yet written. -/
structure AcHead (R : Option Nat) (n0 : Nat) (w0 : World) (box : List Value) (acc : List Ex) (v : Value) (wr : World) (css : List (List Value)) : Prop where
  k : KeepO R w0 wr
  x : wr.heap[w0.heap.size]? = some (.cells box.toArray 55 (0, 0))
  r : wr.heap[w0.heap.size + 1]? = some (.cells #[.int .i64 0, .int .i64 0, .string ⟨#[]⟩, .int .i64 0, .int .i64 0, .slice none 0 0] 55 (0, 0))
  o : wr.ownsRow n0 55 6 v acc.length css.flatten
  a : ExAll (Sv n0 v) wr acc css

/-- The world has changed elsewhere. -/
theorem AcHead.keep {R : Option Nat} {n0 : Nat} {w0 wr w2 : World} {box : List Value} {acc : List Ex} {v : Value} {css : List (List Value)} (h : AcHead R n0 w0 box acc v wr css)
    (hR : ∀ r, R = some r → r < w0.heap.size) (hn0 : n0 = w0.heap.size + 2) (hk : KeepO R wr w2) : AcHead R n0 w0 box acc v w2 css := by
  have hz := h.k.size
  have hx1 := lt_of_block h.x
  have hr1 := lt_of_block h.r
  have hne : ∀ k, w0.heap.size ≤ k → R ≠ some k := fun k hk e => by have := hR k e; omega
  refine ⟨h.k.trans hk, (hk.block _ hx1 (hne _ (Nat.le_refl _))).trans h.x, (hk.block _ hr1 (hne _ (by omega))).trans h.r, ?_, ?_⟩
  · obtain ⟨h1, h2⟩ := h.o
    refine ⟨h1, ?_⟩
    rcases h2 with h2 | ⟨g, cap, cur, hv, hg, hh, r⟩
    · exact .inl h2
    · exact .inr ⟨g, cap, cur, hv, hg, (hk.block _ (lt_of_block hh) (hne _ (by omega))).trans hh, r⟩
  · exact ExAll.still (fun b hb hlt => ⟨hb, hk.block b hlt (hne _ (by have := hb.1; omega))⟩) acc css h.a

/-- An operand more. -/
theorem AcHead.next {R : Option Nat} {n0 : Nat} {w0 wr w2 w3 : World} {box : List Value} {acc : List Ex} {v v' : Value} {css : List (List Value)} {e : Ex} {cs : List Value} {o : Obj} (h : AcHead R n0 w0 box acc v wr css)
    (hR : ∀ r, R = some r → r < w0.heap.size) (hn0 : n0 = w0.heap.size + 2) (hk : KeepO R wr w2) (hs : ExL (From wr.heap.size) w2 e cs)
    (hown : w3.ownsRow n0 55 6 v' (acc.length + 1) (css.flatten ++ cs)) (hg : (w2.alloc o).grownBy w3 v.ownBlock) (hob : v'.ownBlock = v.ownBlock ∨ v'.ownBlock = some (w2.heap.size + 1)) :
    AcHead R n0 w0 box (acc ++ [e]) v' w3 (css ++ [cs]) ∧ (∀ k, k < n0 → w3.heap[k]? = w2.heap[k]?) := by
  have hz := hk.size
  have hx1 := lt_of_block h.x
  have hr1 := lt_of_block h.r
  have hne : ∀ k, w0.heap.size ≤ k → R ≠ some k := fun k hk e => by have := hR k e; omega
  have hob2 : ∀ b, v.ownBlock = some b → n0 ≤ b ∧ b < wr.heap.size := fun b hb => by
    rcases h.o.2 with ⟨rfl, _⟩ | ⟨g, cap, cur, rfl, h2, h3, _⟩
    · cases hb
    · simp only [Value.ownBlock, Option.some.injEq] at hb; subst hb; exact ⟨h2, lt_of_block h3⟩
  have hblk : ∀ k, k < w2.heap.size → v.ownBlock ≠ some k → w3.heap[k]? = w2.heap[k]? := fun k hk1 hk2 =>
    (hg.block k (by rw [new_size]; omega) (fun e => hk2 e.symm)).trans (alloc_blk w2 o hk1)
  have hnot : ∀ k, k < w2.heap.size → v.ownBlock ≠ some k → v'.ownBlock ≠ some k := fun k hk1 hk2 h => by
    rcases hob with h' | h'
    · exact hk2 (h' ▸ h)
    · rw [h'] at h; injection h with h; omega
  have hlow : ∀ k, k < n0 → w3.heap[k]? = w2.heap[k]? := fun k h1 => hblk k (by omega) (fun h => by have := (hob2 k h).1; omega)
  refine ⟨⟨?_, ?_, ?_, ?_, ?_⟩, hlow⟩
  · have hk2 := h.k.trans hk
    exact ⟨hg.os.trans hk2.os, hg.tape.trans hk2.tape, hg.output.trans hk2.output, by have := hg.size; rw [new_size] at this; have := hk2.size; omega, fun k hk1 hne =>
      (hlow k (by omega)).trans (hk2.block k hk1 hne)⟩
  · exact (hlow _ (by omega)).trans ((hk.block _ hx1 (hne _ (Nat.le_refl _))).trans h.x)
  · exact (hlow _ (by omega)).trans ((hk.block _ hr1 (hne _ (by omega))).trans h.r)
  · rw [List.length_append, List.flatten_append]; simpa using hown
  · refine ExAll.snoc ?_ _ css ?_
    · exact ExL.still (fun k (hk1 : wr.heap.size ≤ k) hk2 => ⟨⟨by omega, hnot k hk2 (fun h => by have := (hob2 k h).2; omega)⟩, hblk k hk2 (fun h => by have := (hob2 k h).2; omega)⟩) e cs hs
    · exact ExAll.still (fun k hk1 hk2 => ⟨⟨hk1.1, hnot k (by omega) hk1.2⟩, (hblk k (by omega) hk1.2).trans (hk.block k hk2 (hne _ (by have := hk1.1; omega)))⟩) _ css h.a

/-- The slice of operands that the loop has made. -/
theorem AcHead.slice {R : Option Nat} {n0 : Nat} {w0 wr : World} {box : List Value} {acc : List Ex} {v : Value} {css : List (List Value)} (h : AcHead R n0 w0 box acc v wr css) :
    ∃ A c, v = .slice A acc.length c ∧ acc.length ≤ c ∧ (acc ≠ [] → ∃ b o, A = some ⟨b, o, none⟩ ∧ n0 ≤ b ∧ ExRow (From n0) wr acc b o) := own_exs h.o h.a

/-- The result, when it has been written. -/
theorem ac_ret {n0 : Nat} {w0 wr : World} {acc : List Ex} {A : Option Addr} {c : Nat} {op value slot size : Int} {name : List UInt8} (hn0 : n0 = w0.heap.size + 2) (hc : acc.length ≤ c)
    (hr : acc ≠ [] → ∃ b o, A = some ⟨b, o, none⟩ ∧ n0 ≤ b ∧ ExRow (From n0) wr acc b o) (u : Value) (b0 b1 b2 b3 b4 b5 : Value) :
    VEx w0.heap.size (set6 (wr.setCell ⟨w0.heap.size, 5, none⟩ u) (w0.heap.size + 1) b0 b1 b2 b3 b4 b5) (.mk op value name slot size acc) (.agg #[.int .i64 op, .int .i64 value, .string (strB name), .int .i64 slot, .int .i64 size, .slice A acc.length c]) := by
  refine ⟨_, _, _, _, _, _, _, _, rfl, ?_⟩
  simp only [ExL]
  refine ⟨A, c, rfl, hc, fun hne => ?_⟩
  obtain ⟨bb, o, hA, hbb, hrw⟩ := hr hne
  refine ⟨bb, o, hA, show w0.heap.size ≤ bb by omega, ExRow.still (S := From n0) (fun j (h1 : n0 ≤ j) _ => ⟨show w0.heap.size ≤ j by omega, ?_⟩) _ bb o hbb hrw⟩
  exact (set6_blk _ _ _ _ _ _ _ _ (by omega)).trans (Below.heap_setCell _ _ _ _ (by show j ≠ w0.heap.size; omega))
/-- The name that a name is given in its place. -/
def renN (nm : List UInt8) : List UInt8 := if nm = [] then [] else [110, 95] ++ nm
theorem renN_cat {nm : List UInt8} (h : nm ≠ []) : (⟨#[110, 95]⟩ : ByteArray) ++ strB nm = strB (renN nm) := by
  unfold renN
  rw [if_neg h]
  apply ByteArray.ext
  simp [strB]
theorem str_emp (nm : List UInt8) : (strB nm).toList.isEmpty = nm.isEmpty := by rw [Lib.toList_data, str_data]
mutual
/-- An expression with other names. -/
def Ex.ren : Ex → Ex
  | .mk op value name slot size args => .mk op value (renN name) slot size (Ex.renL args)
def Ex.renL : List Ex → List Ex
  | [] => []
  | e :: r => e.ren :: Ex.renL r
end
theorem renL_take : ∀ (l : List Ex) (k : Nat) (e : Ex), l[k]? = some e → Ex.renL (l.take (k + 1)) = Ex.renL (l.take k) ++ [e.ren]
  | [], _, _, h => by simp at h
  | x :: r, 0, e, h => by
    simp only [List.getElem?_cons_zero, Option.some.injEq] at h
    subst h
    simp [Ex.renL]
  | x :: r, k + 1, e, h => by
    simp only [List.getElem?_cons_succ] at h
    simp [Ex.renL, renL_take r k e h]
theorem renL_len : ∀ l : List Ex, (Ex.renL l).length = l.length
  | [] => rfl
  | x :: r => by simp [Ex.renL, renL_len r]

/-- The head of renamed's loop. -/
structure RnHead (w0 : World) (k : Nat) (args : List Ex) (box : List Value) (v : Value) (wr : World) (css : List (List Value)) : Prop where
  h : AcHead none (w0.heap.size + 2) w0 box (Ex.renL (args.take k)) v wr css
  n : (Ex.renL (args.take k)).length = k

theorem RnHead.next {k : Nat} {w0 wr w2 w3 : World} {args : List Ex} {box : List Value} {v v' : Value} {css : List (List Value)} {e : Ex} {cs : List Value} {o : Obj} (h : RnHead w0 k args box v wr css)
    (he : args[k]? = some e) (hb : Below wr.heap.size wr w2) (hs : ExL (From wr.heap.size) w2 e.ren cs)
    (hown : w3.ownsRow (w0.heap.size + 2) 55 6 v' (k + 1) (css.flatten ++ cs)) (hg : (w2.alloc o).grownBy w3 v.ownBlock) (hob : v'.ownBlock = v.ownBlock ∨ v'.ownBlock = some (w2.heap.size + 1)) :
    RnHead w0 (k + 1) args box v' w3 (css ++ [cs]) := by
  obtain ⟨h1, -⟩ := AcHead.next h.h (fun r hr => by cases hr) rfl (KeepO.of_below hb) hs (by rw [h.n]; exact hown) hg hob
  rw [← renL_take args k e he] at h1
  refine ⟨h1, ?_⟩
  rw [renL_len, List.length_take]
  have := (List.getElem?_eq_some_iff.1 he).1
  omega

def RnC (n : Nat) : Prop := ∀ (e : Ex), e.big ≤ n → e.short → ∀ (S : Nat → Prop) (w : World) (a b : Int) (s : ByteArray) (c d : Int) (A : Option Addr) (l q : Nat), ExL S w e [.int .i64 a, .int .i64 b, .string s, .int .i64 c, .int .i64 d, .slice A l q] →
    Calls Tryd.prog 27 #[.agg #[.int .i64 a, .int .i64 b, .string s, .int .i64 c, .int .i64 d, .slice A l q]] w fun e' w' => ∃ v, e' = .returned v ∧ VEx w.heap.size w' e.ren v ∧ Below w.heap.size w w'

set_option maxHeartbeats 4000000 in
set_option maxRecDepth 100000 in
theorem other_step (n : Nat) (hn : n ≤ 100000) (ih : RnC n) : RnC (n + 1) := by
  intro e h hsh S w a b s c d A l q hl
  cases e with
  | mk op value name slot size args =>
  simp only [Ex.big] at h
  simp only [Ex.short] at hsh
  obtain ⟨hnl, hshl⟩ := hsh
  have HSH := Lib.hid hshl
  have hlq : args.length ≤ 100000 := by have := Ex.len_big args; omega
  simp only [ExL] at hl
  obtain ⟨A', c', e1, hc, hrw⟩ := hl
  simp only [exCells, List.cons.injEq, Value.slice.injEq, and_true] at e1
  obtain ⟨e1, e2, e3, e4, e5, rfl, rfl, rfl⟩ := e1
  injection e1 with _ e1
  injection e2 with _ e2
  injection e3 with e3
  injection e4 with _ e4
  injection e5 with _ e5
  subst e1 e2 e3 e4 e5
  obtain ⟨i0, hi, hz0, hz1, hz2⟩ := info_parts infoEx3
  have HI := Lib.hid hi
  have HI0 := Lib.hid hz0
  have HI1 := Lib.hid hz1
  have HI2 := Lib.hid hz2
  clear hi hz0 hz1 hz2
  have HRW := Lib.hid hrw
  have IH := Lib.hid (fun e1 h1 h2 S w a b s c d A l q h4 => ih e1 h1 h2 S w a b s c d A l q h4)
  have HD := Lib.hid h
  obtain ⟨m, hm⟩ : ∃ x, args.length = x := ⟨_, rfl⟩
  have HM := Lib.hid hm
  rw [hm] at hlq hc ⊢
  simp only [Ex.ren]
  obtain ⟨Y, hY⟩ : ∃ Y, strB (renN name) = Y := ⟨_, rfl⟩
  have HYN := Lib.hid hY
  obtain ⟨X, hX⟩ : ∃ X, strB name = X := ⟨_, rfl⟩
  rw [hX]
  have hW0 := (alloc_blk (w.alloc (.cells #[.int .i64 a, .int .i64 b, .string X, .int .i64 c, .int .i64 d, .slice A m q] 55)) (.cells #[.int .i64 0, .int .i64 0, .string ⟨#[]⟩, .int .i64 0, .int .i64 0, .slice none 0 0] 55) (k := w.heap.size) (by rw [new_size]; omega)).trans (new_blk w _)
  have hW1 := new_blk1 w (.cells #[.int .i64 a, .int .i64 b, .string X, .int .i64 c, .int .i64 d, .slice A m q] 55) (.cells #[.int .i64 0, .int .i64 0, .string ⟨#[]⟩, .int .i64 0, .int .i64 0, .slice none 0 0] 55)
  have hWK : KeepO none w ((w.alloc (.cells #[.int .i64 a, .int .i64 b, .string X, .int .i64 c, .int .i64 d, .slice A m q] 55)).alloc (.cells #[.int .i64 0, .int .i64 0, .string ⟨#[]⟩, .int .i64 0, .int .i64 0, .slice none 0 0] 55)) := ((KeepO.refl none w).alloc _).alloc _
  obtain ⟨W, hW⟩ : ∃ W, (w.alloc (.cells #[.int .i64 a, .int .i64 b, .string X, .int .i64 c, .int .i64 d, .slice A m q] 55)).alloc (.cells #[.int .i64 0, .int .i64 0, .string ⟨#[]⟩, .int .i64 0, .int .i64 0, .slice none 0 0] 55) = W := ⟨_, rfl⟩
  rw [hW] at hW0 hW1 hWK
  have HXW := Lib.hid hW0
  have HYW := Lib.hid hW1
  have HKW := Lib.hid hWK
  obtain ⟨z0, z1, z2, z3, z4, z5, y0, y1, y2, y3, y4, y5, hlt1⟩ := box6 hW0
  clear ih hrw hm h hc hshl hW0 hW1 hWK
  go_enter Tryd.func27, Tryd.ntmps27
  by_cases hnm : name = []
  case' pos =>
    obtain rfl : X = Y := by rw [← hX, ← hY, hnm]; rfl
    have hq : X.toList.isEmpty = true := by rw [← hX, str_emp, hnm]; rfl
    clear hnm hX hY
    go_upto_region 3 with fail
    clear z0 z1 z2 z3 z4 z5 y0 y1 y2 y3 y4 y5
    obtain ⟨W2, hW2⟩ : ∃ W2, W = W2 := ⟨_, rfl⟩
    have HST : Hid (RnHead w 0 args [.int .i64 a, .int .i64 b, .string X, .int .i64 c, .int .i64 d, .slice A m q] (.slice none 0 0) W2 []) := by
      rw [← hW2]
      exact ⟨⟨HKW.out, HXW.out, HYW.out, World.ownsRow_nil _ _ _ _, trivial⟩, rfl⟩
    simp only [hW2]
  case' neg =>
    have hq : X.toList.isEmpty = false := by rw [← hX, str_emp]; simpa using hnm
    have hsz : ¬ 9223372036854775807 < 2 + X.size := by rw [← hX, str_size]; omega
    have hcat : (⟨#[110, 95]⟩ : ByteArray) ++ X = Y := by rw [← hX, renN_cat hnm, hY]
    clear hnm hX hY
    go_upto_region 3 with fail
    clear z0 z1 z2 z3 z4 z5 y0 y1 y2 y3 y4 y5 hsz hcat
    obtain ⟨W2, hW2⟩ : ∃ W2, W.setCell ⟨w.heap.size, 2, none⟩ (.string Y) = W2 := ⟨_, rfl⟩
    have HST : Hid (RnHead w 0 args [.int .i64 a, .int .i64 b, .string Y, .int .i64 c, .int .i64 d, .slice A m q] (.slice none 0 0) W2 []) := by
      rw [← hW2]
      exact ⟨⟨HKW.out.setNew (p := ⟨w.heap.size, 2, none⟩) (Nat.le_refl _) _, blk_set HXW.out 2 _, (Below.heap_setCell _ ⟨w.heap.size, 2, none⟩ _ _ (by show _ ≠ w.heap.size; omega)).trans HYW.out, World.ownsRow_nil _ _ _ _, trivial⟩, rfl⟩
    simp only [hW2]
  case pos =>
    clear hq hW
    obtain ⟨p0, p1, p2, p3, p4, p5, f0, f1, f2, f3, f4, f5, _⟩ := box6 (show W2.heap[w.heap.size]? = some (.cells #[.int .i64 a, .int .i64 b, .string X, .int .i64 c, .int .i64 d, .slice A m q] 55 (0, 0)) from HST.out.h.x)
    clear hW2
    go_wp2_with fail
    clear p0 p1 p2 p3 p4 p5 f0 f1 f2 f3 f4 f5
    go_loopg [3, 4, 15] m (fun g v _ i wr => ∃ (k : Nat) (css : List (List Value)), k + g = m ∧ i = .int .i64 k ∧ RnHead w k args [.int .i64 a, .int .i64 b, .string X, .int .i64 c, .int .i64 d, .slice A m q] v wr css)
    case atStart => exact ⟨0, [], by omega, rfl, HST.out⟩
    case round =>
      obtain ⟨k, css, hkg, rfl, hh⟩ := hrel
      have HH := Lib.hid hh
      have hz0 := hh.h.k.size
      have hzx := lt_of_block hh.h.x
      have hzr := lt_of_block hh.h.r
      have hln := hh.n
      have HLN := Lib.hid hln
      obtain ⟨p0, p1, p2, p3, p4, p5, f0, f1, f2, f3, f4, f5, _⟩ := box6 (show wr.heap[w.heap.size]? = some (.cells #[.int .i64 a, .int .i64 b, .string X, .int .i64 c, .int .i64 d, .slice A m q] 55 (0, 0)) from hh.h.x)
      clear hh
      cases gk with
      | zero =>
        have hkm : k = m := by omega
        subst hkm
        have HT : Hid (args.take k = args) := List.take_of_length_le (by have := HM.out; omega)
        obtain ⟨A9, c9, hv9, hc9, hrow⟩ := HH.out.h.slice
        rw [hln] at hv9 hc9
        rw [HT.out] at hrow
        have HRO := Lib.hid hrow
        have HLT : Hid ((Ex.renL args).length = k) := by show _ = _; rw [renL_len]; exact HM.out
        obtain ⟨r0, r1, r2, r3, r4, r5, g0, g1, g2, g3, g4, g5, _⟩ := box6 HH.out.h.r
        subst hv9
        have hnlt : ¬ k < k := by omega
        clear hkg hrow hln
        go_wp2_with fail
        refine bodyPost_ret (v := .agg #[.int .i64 a, .int .i64 b, .string X, .int .i64 c, .int .i64 d, .slice A9 k c9]) ?_ rfl ?_
        · simp [results, Tryd.results27, go_sem, World.cell?_setCell_same, World.cell?_setCell_other, r0, r1, r2, r3, r4, r5]
        · have hv := ac_ret (op := a) (value := b) (name := (renN name)) (slot := c) (size := d) (A := A9) (c := c9) rfl (by rw [HLT.out]; exact hc9) HRO.out (.slice A9 k c9) (.int .i64 a) (.int .i64 b) (.string X) (.int .i64 c) (.int .i64 d) (.slice A9 k c9)
          rw [HLT.out, HYN.out] at hv
          exact ⟨_, rfl, hv, ((HH.out.h.k.setNew (p := ⟨w.heap.size, 5, none⟩) (Nat.le_refl _) _).set6 (Nat.le_succ _) _ _ _ _ _ _).below⟩
      | succ g =>
        have hlt : k < m := by omega
        have HG := Lib.hid hkg
        clear hkg
        obtain ⟨e1, he1⟩ : ∃ e1, args[k]? = some e1 := ⟨_, List.getElem?_eq_getElem (by have := HM.out; omega)⟩
        have HE1 := Lib.hid he1
        have hbg := Ex.big_at args k e1 he1
        obtain ⟨bb, o, rfl, hS, hrow⟩ := HRW.out (fun e => by have := HM.out; rw [e] at this; simp at this; omega)
        obtain ⟨cs, hcs, hex⟩ := ExRow.get args bb o k e1 hrow he1
        obtain ⟨a1, b1, s1, c1, d1, A1, l1, q1, rfl⟩ := hex.plain
        have hbb : bb < w.heap.size := hcs.lt
        have hw : ∀ j u, w.cell? ⟨bb, j, none⟩ = some u → wr.cell? ⟨bb, j, none⟩ = some u := fun j u hu => (HH.out.h.k.below.cell (p := ⟨bb, j, none⟩) hbb).trans hu
        have y0 := hw _ _ (hcs 0 _ rfl)
        have y1 := hw _ _ (hcs 1 _ rfl)
        have y2 := hw _ _ (hcs 2 _ rfl)
        have y3 := hw _ _ (hcs 3 _ rfl)
        have y4 := hw _ _ (hcs 4 _ rfl)
        have y5 := hw _ _ (hcs 5 _ rfl)
        rw [Nat.add_zero] at y0
        have hd0 := HD.out
        have HEX := Lib.hid (IH.out e1 (by omega) (Ex.shortL_at args k e1 HSH.out he1) S wr a1 b1 s1 c1 d1 A1 l1 q1 (ExL.still (fun j hj1 hj2 => ⟨hj1, HH.out.h.k.below.block j hj2⟩) e1 _ hex))
        clear hw hcs hrow he1 hex hbg hd0
        go_wp2_with fail
        refine HEX.out.mono ?_
        rintro e' w2 ⟨v2, rfl, ⟨x0, x1, x2, x3, x4, xA, xl, xq, rfl, hl⟩, hb⟩
        have HL2 := Lib.hid hl
        have HB2 := Lib.hid hb
        have HA2 := Lib.hid (HH.out.h.keep (fun r hr => by cases hr) rfl (KeepO.of_below hb))
        have hz2 := hb.size
        clear hb hl y0 y1 y2 y3 y4 y5 p0 p1 p2 p3 p4 p5 f0 f1 f2 f3 f4 f5
        go_wp2_with (at_builtin; refine wpList_append_own_at _ rfl _ _ 53 rfl (w.heap.size + 2) 55 i0 _ 6 72 Tryd.underlying53 HI.out HI0.out HI1.out HI2.out rfl (by decide) _ _ _ rfl (HA2.out.o.alloc _) ⟨w2.heap.size, 0, none⟩ 1 1 [.int .i64 x0, .int .i64 x1, .string x2, .int .i64 x3, .int .i64 x4, .slice xA xl xq] rfl rfl (ex_new _ _ _) (by simp [Value.oneCell']) (by rw [HLN.out]; unfold maxLen; omega) (by rw [HLN.out]; omega) (by rw [new_size]; omega) ?_)
        intro v9 w9 hown hgrow _ hob
        have HN := Lib.hid (RnHead.next HH.out HE1.out HB2.out HL2.out hown hgrow hob)
        clear hown hgrow hob
        go_wp2_with fail
        go_roundg g
        case rel => exact ⟨k + 1, _, by have := HG.out; omega, by go_num, HN.out⟩
        case measure => omega
  case neg =>
    clear hq hW
    obtain ⟨p0, p1, p2, p3, p4, p5, f0, f1, f2, f3, f4, f5, _⟩ := box6 (show W2.heap[w.heap.size]? = some (.cells #[.int .i64 a, .int .i64 b, .string Y, .int .i64 c, .int .i64 d, .slice A m q] 55 (0, 0)) from HST.out.h.x)
    clear hW2
    go_wp2_with fail
    clear p0 p1 p2 p3 p4 p5 f0 f1 f2 f3 f4 f5
    go_loopg [3, 4, 15] m (fun g v _ i wr => ∃ (k : Nat) (css : List (List Value)), k + g = m ∧ i = .int .i64 k ∧ RnHead w k args [.int .i64 a, .int .i64 b, .string Y, .int .i64 c, .int .i64 d, .slice A m q] v wr css)
    case atStart => exact ⟨0, [], by omega, rfl, HST.out⟩
    case round =>
      obtain ⟨k, css, hkg, rfl, hh⟩ := hrel
      have HH := Lib.hid hh
      have hz0 := hh.h.k.size
      have hzx := lt_of_block hh.h.x
      have hzr := lt_of_block hh.h.r
      have hln := hh.n
      have HLN := Lib.hid hln
      obtain ⟨p0, p1, p2, p3, p4, p5, f0, f1, f2, f3, f4, f5, _⟩ := box6 (show wr.heap[w.heap.size]? = some (.cells #[.int .i64 a, .int .i64 b, .string Y, .int .i64 c, .int .i64 d, .slice A m q] 55 (0, 0)) from hh.h.x)
      clear hh
      cases gk with
      | zero =>
        have hkm : k = m := by omega
        subst hkm
        have HT : Hid (args.take k = args) := List.take_of_length_le (by have := HM.out; omega)
        obtain ⟨A9, c9, hv9, hc9, hrow⟩ := HH.out.h.slice
        rw [hln] at hv9 hc9
        rw [HT.out] at hrow
        have HRO := Lib.hid hrow
        have HLT : Hid ((Ex.renL args).length = k) := by show _ = _; rw [renL_len]; exact HM.out
        obtain ⟨r0, r1, r2, r3, r4, r5, g0, g1, g2, g3, g4, g5, _⟩ := box6 HH.out.h.r
        subst hv9
        have hnlt : ¬ k < k := by omega
        clear hkg hrow hln
        go_wp2_with fail
        refine bodyPost_ret (v := .agg #[.int .i64 a, .int .i64 b, .string Y, .int .i64 c, .int .i64 d, .slice A9 k c9]) ?_ rfl ?_
        · simp [results, Tryd.results27, go_sem, World.cell?_setCell_same, World.cell?_setCell_other, r0, r1, r2, r3, r4, r5]
        · have hv := ac_ret (op := a) (value := b) (name := (renN name)) (slot := c) (size := d) (A := A9) (c := c9) rfl (by rw [HLT.out]; exact hc9) HRO.out (.slice A9 k c9) (.int .i64 a) (.int .i64 b) (.string Y) (.int .i64 c) (.int .i64 d) (.slice A9 k c9)
          rw [HLT.out, HYN.out] at hv
          exact ⟨_, rfl, hv, ((HH.out.h.k.setNew (p := ⟨w.heap.size, 5, none⟩) (Nat.le_refl _) _).set6 (Nat.le_succ _) _ _ _ _ _ _).below⟩
      | succ g =>
        have hlt : k < m := by omega
        have HG := Lib.hid hkg
        clear hkg
        obtain ⟨e1, he1⟩ : ∃ e1, args[k]? = some e1 := ⟨_, List.getElem?_eq_getElem (by have := HM.out; omega)⟩
        have HE1 := Lib.hid he1
        have hbg := Ex.big_at args k e1 he1
        obtain ⟨bb, o, rfl, hS, hrow⟩ := HRW.out (fun e => by have := HM.out; rw [e] at this; simp at this; omega)
        obtain ⟨cs, hcs, hex⟩ := ExRow.get args bb o k e1 hrow he1
        obtain ⟨a1, b1, s1, c1, d1, A1, l1, q1, rfl⟩ := hex.plain
        have hbb : bb < w.heap.size := hcs.lt
        have hw : ∀ j u, w.cell? ⟨bb, j, none⟩ = some u → wr.cell? ⟨bb, j, none⟩ = some u := fun j u hu => (HH.out.h.k.below.cell (p := ⟨bb, j, none⟩) hbb).trans hu
        have y0 := hw _ _ (hcs 0 _ rfl)
        have y1 := hw _ _ (hcs 1 _ rfl)
        have y2 := hw _ _ (hcs 2 _ rfl)
        have y3 := hw _ _ (hcs 3 _ rfl)
        have y4 := hw _ _ (hcs 4 _ rfl)
        have y5 := hw _ _ (hcs 5 _ rfl)
        rw [Nat.add_zero] at y0
        have hd0 := HD.out
        have HEX := Lib.hid (IH.out e1 (by omega) (Ex.shortL_at args k e1 HSH.out he1) S wr a1 b1 s1 c1 d1 A1 l1 q1 (ExL.still (fun j hj1 hj2 => ⟨hj1, HH.out.h.k.below.block j hj2⟩) e1 _ hex))
        clear hw hcs hrow he1 hex hbg hd0
        go_wp2_with fail
        refine HEX.out.mono ?_
        rintro e' w2 ⟨v2, rfl, ⟨x0, x1, x2, x3, x4, xA, xl, xq, rfl, hl⟩, hb⟩
        have HL2 := Lib.hid hl
        have HB2 := Lib.hid hb
        have HA2 := Lib.hid (HH.out.h.keep (fun r hr => by cases hr) rfl (KeepO.of_below hb))
        have hz2 := hb.size
        clear hb hl y0 y1 y2 y3 y4 y5 p0 p1 p2 p3 p4 p5 f0 f1 f2 f3 f4 f5
        go_wp2_with (at_builtin; refine wpList_append_own_at _ rfl _ _ 53 rfl (w.heap.size + 2) 55 i0 _ 6 72 Tryd.underlying53 HI.out HI0.out HI1.out HI2.out rfl (by decide) _ _ _ rfl (HA2.out.o.alloc _) ⟨w2.heap.size, 0, none⟩ 1 1 [.int .i64 x0, .int .i64 x1, .string x2, .int .i64 x3, .int .i64 x4, .slice xA xl xq] rfl rfl (ex_new _ _ _) (by simp [Value.oneCell']) (by rw [HLN.out]; unfold maxLen; omega) (by rw [HLN.out]; omega) (by rw [new_size]; omega) ?_)
        intro v9 w9 hown hgrow _ hob
        have HN := Lib.hid (RnHead.next HH.out HE1.out HB2.out HL2.out hown hgrow hob)
        clear hown hgrow hob
        go_wp2_with fail
        go_roundg g
        case rel => exact ⟨k + 1, _, by have := HG.out; omega, by go_num, HN.out⟩
        case measure => omega

theorem other_all : ∀ n, n ≤ 100001 → RnC n
  | 0, _ => fun e h _ => by cases e; simp [Ex.big] at h
  | n + 1, h => other_step n (by omega) (other_all n (by omega))
end Go.Proofs.YtgkioompcmgmdaaDoor
