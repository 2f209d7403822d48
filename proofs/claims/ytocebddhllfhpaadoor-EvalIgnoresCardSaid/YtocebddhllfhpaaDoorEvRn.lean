/-
  What renamed of package rollbacknetlaw04 does: a copy of an expression with other names. Condition: the expression has at most 100000 parts.
-/
import Derived.Test.YtocebddhllfhpaaDoorEvSm
namespace Go.Proofs.YtocebddhllfhpaaDoor
open Go.RowKit

def othL : List UInt8 := [111, 116, 104, 101, 114]
mutual
/-- An expression with other names. -/
def Ex.ren : Ex → Ex
  | .mk op value _ slot size args => .mk op value othL slot size (Ex.renL args)
def Ex.renL : List Ex → List Ex
  | [] => []
  | e :: r => e.ren :: Ex.renL r
end
theorem renL_take : ∀ (l : List Ex) (k : Nat) (e : Ex), l[k]? = some e → Ex.renL (l.take (k + 1)) = Ex.renL (l.take k) ++ [e.ren]
  | [], _, _, h => by simp at h
  | x :: r, 0, e, h => by
    simp only [List.getElem?_cons_zero, Option.some.injEq] at h
    subst h
    simp [Ex.renL]
  | x :: r, k + 1, e, h => by
    simp only [List.getElem?_cons_succ] at h
    simp [Ex.renL, renL_take r k e h]
theorem renL_len : ∀ l : List Ex, (Ex.renL l).length = l.length
  | [] => rfl
  | x :: r => by simp [Ex.renL, renL_len r]

/-- The head of renamed's loop. -/
structure RnHead (w0 : World) (k : Nat) (args : List Ex) (box : List Value) (v : Value) (wr : World) (css : List (List Value)) : Prop where
  h : AcHead none (w0.heap.size + 2) w0 box (Ex.renL (args.take k)) v wr css
  n : (Ex.renL (args.take k)).length = k

theorem RnHead.next {k : Nat} {w0 wr w2 w3 : World} {args : List Ex} {box : List Value} {v v' : Value} {css : List (List Value)} {e : Ex} {cs : List Value} {o : Obj} (h : RnHead w0 k args box v wr css)
    (he : args[k]? = some e) (hb : Below wr.heap.size wr w2) (hs : ExL (From wr.heap.size) w2 e.ren cs)
    (hown : w3.ownsRow (w0.heap.size + 2) 31 6 v' (k + 1) (css.flatten ++ cs)) (hg : (w2.alloc o).grownBy w3 v.ownBlock) (hob : v'.ownBlock = v.ownBlock ∨ v'.ownBlock = some (w2.heap.size + 1)) :
    RnHead w0 (k + 1) args box v' w3 (css ++ [cs]) := by
  obtain ⟨h1, -⟩ := AcHead.next h.h (fun r hr => by cases hr) rfl (KeepO.of_below hb) hs (by rw [h.n]; exact hown) hg hob
  rw [← renL_take args k e he] at h1
  refine ⟨h1, ?_⟩
  rw [renL_len, List.length_take]
  have := (List.getElem?_eq_some_iff.1 he).1
  omega

def RnC (n : Nat) : Prop := ∀ (e : Ex), e.big ≤ n → ∀ (S : Nat → Prop) (w : World) (a b : Int) (s : ByteArray) (c d : Int) (A : Option Addr) (l q : Nat), ExL S w e [.int .i64 a, .int .i64 b, .string s, .int .i64 c, .int .i64 d, .slice A l q] →
    Calls Tryd.prog 13 #[.agg #[.int .i64 a, .int .i64 b, .string s, .int .i64 c, .int .i64 d, .slice A l q]] w fun e' w' => ∃ v, e' = .returned v ∧ VEx w.heap.size w' e.ren v ∧ Below w.heap.size w w'

set_option maxHeartbeats 4000000 in
set_option maxRecDepth 100000 in
theorem renamed_step (n : Nat) (hn : n ≤ 100000) (ih : RnC n) : RnC (n + 1) := by
  intro e h S w a b s c d A l q hl
  cases e with
  | mk op value name slot size args =>
  simp only [Ex.big] at h
  have hlq : args.length ≤ 100000 := by have := Ex.len_big args; omega
  simp only [ExL] at hl
  obtain ⟨A', c', e1, hc, hrw⟩ := hl
  simp only [exCells, List.cons.injEq, Value.slice.injEq, and_true] at e1
  obtain ⟨e1, e2, e3, e4, e5, rfl, rfl, rfl⟩ := e1
  injection e1 with _ e1
  injection e2 with _ e2
  injection e3 with e3
  injection e4 with _ e4
  injection e5 with _ e5
  subst e1 e2 e3 e4 e5
  obtain ⟨i0, hi, hz0, hz1, hz2⟩ := info_parts infoEx3
  have HI := Lib.hid hi
  have HI0 := Lib.hid hz0
  have HI1 := Lib.hid hz1
  have HI2 := Lib.hid hz2
  clear hi hz0 hz1 hz2
  have HRW := Lib.hid hrw
  have IH := Lib.hid (fun e1 h1 S w a b s c d A l q h4 => ih e1 h1 S w a b s c d A l q h4)
  have HD := Lib.hid h
  obtain ⟨m, hm⟩ : ∃ x, args.length = x := ⟨_, rfl⟩
  have HM := Lib.hid hm
  rw [hm] at hlq hc ⊢
  simp only [Ex.ren]
  have hW0 := (alloc_blk (w.alloc (.cells #[.int .i64 a, .int .i64 b, .string (strB name), .int .i64 c, .int .i64 d, .slice A m q] 31)) (.cells #[.int .i64 0, .int .i64 0, .string ⟨#[]⟩, .int .i64 0, .int .i64 0, .slice none 0 0] 31) (k := w.heap.size) (by rw [new_size]; omega)).trans (new_blk w _)
  have hW1 := new_blk1 w (.cells #[.int .i64 a, .int .i64 b, .string (strB name), .int .i64 c, .int .i64 d, .slice A m q] 31) (.cells #[.int .i64 0, .int .i64 0, .string ⟨#[]⟩, .int .i64 0, .int .i64 0, .slice none 0 0] 31)
  have hWK : KeepO none w ((w.alloc (.cells #[.int .i64 a, .int .i64 b, .string (strB name), .int .i64 c, .int .i64 d, .slice A m q] 31)).alloc (.cells #[.int .i64 0, .int .i64 0, .string ⟨#[]⟩, .int .i64 0, .int .i64 0, .slice none 0 0] 31)) := ((KeepO.refl none w).alloc _).alloc _
  obtain ⟨W, hW⟩ : ∃ W, (w.alloc (.cells #[.int .i64 a, .int .i64 b, .string (strB name), .int .i64 c, .int .i64 d, .slice A m q] 31)).alloc (.cells #[.int .i64 0, .int .i64 0, .string ⟨#[]⟩, .int .i64 0, .int .i64 0, .slice none 0 0] 31) = W := ⟨_, rfl⟩
  rw [hW] at hW0 hW1 hWK
  have HXW := Lib.hid hW0
  have HYW := Lib.hid hW1
  have HKW := Lib.hid hWK
  obtain ⟨z0, z1, z2, z3, z4, z5, y0, y1, y2, y3, y4, y5, hlt1⟩ := box6 hW0
  clear ih hrw hm h hc hW0 hW1 hWK
  go_enter Tryd.func13, Tryd.ntmps13
  go_upto_region 2 with fail
  clear hW z0 z1 z2 z3 z4 z5 y0 y1 y2 y3 y4 y5
  obtain ⟨W2, hW2⟩ : ∃ W2, W.setCell ⟨w.heap.size, 2, none⟩ (.string ⟨#[111, 116, 104, 101, 114]⟩) = W2 := ⟨_, rfl⟩
  have HST : Hid (RnHead w 0 args [.int .i64 a, .int .i64 b, .string ⟨#[111, 116, 104, 101, 114]⟩, .int .i64 c, .int .i64 d, .slice A m q] (.slice none 0 0) W2 []) := by
    rw [← hW2]
    exact ⟨⟨HKW.out.setNew (p := ⟨w.heap.size, 2, none⟩) (Nat.le_refl _) _, blk_set HXW.out 2 _, (Below.heap_setCell _ ⟨w.heap.size, 2, none⟩ _ _ (by show _ ≠ w.heap.size; omega)).trans HYW.out, World.ownsRow_nil _ _ _ _, trivial⟩, rfl⟩
  simp only [hW2]
  obtain ⟨p0, p1, p2, p3, p4, p5, f0, f1, f2, f3, f4, f5, _⟩ := box6 (show W2.heap[w.heap.size]? = some (.cells #[.int .i64 a, .int .i64 b, .string ⟨#[111, 116, 104, 101, 114]⟩, .int .i64 c, .int .i64 d, .slice A m q] 31 (0, 0)) from HST.out.h.x)
  clear hW2
  go_wp2_with fail
  clear p0 p1 p2 p3 p4 p5 f0 f1 f2 f3 f4 f5
  go_loopg [3, 4, 9] m (fun g v _ i wr => ∃ (k : Nat) (css : List (List Value)), k + g = m ∧ i = .int .i64 k ∧ RnHead w k args [.int .i64 a, .int .i64 b, .string ⟨#[111, 116, 104, 101, 114]⟩, .int .i64 c, .int .i64 d, .slice A m q] v wr css)
  case atStart => exact ⟨0, [], by omega, rfl, HST.out⟩
  case round =>
    obtain ⟨k, css, hkg, rfl, hh⟩ := hrel
    have HH := Lib.hid hh
    have hz0 := hh.h.k.size
    have hzx := lt_of_block hh.h.x
    have hzr := lt_of_block hh.h.r
    have hln := hh.n
    have HLN := Lib.hid hln
    obtain ⟨p0, p1, p2, p3, p4, p5, f0, f1, f2, f3, f4, f5, _⟩ := box6 (show wr.heap[w.heap.size]? = some (.cells #[.int .i64 a, .int .i64 b, .string ⟨#[111, 116, 104, 101, 114]⟩, .int .i64 c, .int .i64 d, .slice A m q] 31 (0, 0)) from hh.h.x)
    clear hh
    cases gk with
    | zero =>
      have hkm : k = m := by omega
      subst hkm
      have HT : Hid (args.take k = args) := List.take_of_length_le (by have := HM.out; omega)
      obtain ⟨A9, c9, hv9, hc9, hrow⟩ := HH.out.h.slice
      rw [hln] at hv9 hc9
      rw [HT.out] at hrow
      have HRO := Lib.hid hrow
      have HLT : Hid ((Ex.renL args).length = k) := by show _ = _; rw [renL_len]; exact HM.out
      obtain ⟨r0, r1, r2, r3, r4, r5, g0, g1, g2, g3, g4, g5, _⟩ := box6 HH.out.h.r
      subst hv9
      have hnlt : ¬ k < k := by omega
      clear hkg hrow hln
      go_wp2_with fail
      refine bodyPost_ret (v := .agg #[.int .i64 a, .int .i64 b, .string ⟨#[111, 116, 104, 101, 114]⟩, .int .i64 c, .int .i64 d, .slice A9 k c9]) ?_ rfl ?_
      · simp [results, Tryd.results13, go_sem, World.cell?_setCell_same, World.cell?_setCell_other, r0, r1, r2, r3, r4, r5]
      · have hv := ac_ret (op := a) (value := b) (name := othL) (slot := c) (size := d) (A := A9) (c := c9) rfl (by rw [HLT.out]; exact hc9) HRO.out (.slice A9 k c9) (.int .i64 a) (.int .i64 b) (.string ⟨#[111, 116, 104, 101, 114]⟩) (.int .i64 c) (.int .i64 d) (.slice A9 k c9)
        rw [HLT.out] at hv
        exact ⟨_, rfl, hv, ((HH.out.h.k.setNew (p := ⟨w.heap.size, 5, none⟩) (Nat.le_refl _) _).set6 (Nat.le_succ _) _ _ _ _ _ _).below⟩
    | succ g =>
      have hlt : k < m := by omega
      have HG := Lib.hid hkg
      clear hkg
      obtain ⟨e1, he1⟩ : ∃ e1, args[k]? = some e1 := ⟨_, List.getElem?_eq_getElem (by have := HM.out; omega)⟩
      have HE1 := Lib.hid he1
      have hbg := Ex.big_at args k e1 he1
      obtain ⟨bb, o, rfl, hS, hrow⟩ := HRW.out (fun e => by have := HM.out; rw [e] at this; simp at this; omega)
      obtain ⟨cs, hcs, hex⟩ := ExRow.get args bb o k e1 hrow he1
      obtain ⟨a1, b1, s1, c1, d1, A1, l1, q1, rfl⟩ := hex.plain
      have hbb : bb < w.heap.size := hcs.lt
      have hw : ∀ j u, w.cell? ⟨bb, j, none⟩ = some u → wr.cell? ⟨bb, j, none⟩ = some u := fun j u hu => (HH.out.h.k.below.cell (p := ⟨bb, j, none⟩) hbb).trans hu
      have y0 := hw _ _ (hcs 0 _ rfl)
      have y1 := hw _ _ (hcs 1 _ rfl)
      have y2 := hw _ _ (hcs 2 _ rfl)
      have y3 := hw _ _ (hcs 3 _ rfl)
      have y4 := hw _ _ (hcs 4 _ rfl)
      have y5 := hw _ _ (hcs 5 _ rfl)
      rw [Nat.add_zero] at y0
      have hd0 := HD.out
      have HEX := Lib.hid (IH.out e1 (by omega) S wr a1 b1 s1 c1 d1 A1 l1 q1 (ExL.still (fun j hj1 hj2 => ⟨hj1, HH.out.h.k.below.block j hj2⟩) e1 _ hex))
      clear hw hcs hrow he1 hex hbg hd0
      go_wp2_with fail
      refine HEX.out.mono ?_
      rintro e' w2 ⟨v2, rfl, ⟨x0, x1, x2, x3, x4, xA, xl, xq, rfl, hl⟩, hb⟩
      have HL2 := Lib.hid hl
      have HB2 := Lib.hid hb
      have HA2 := Lib.hid (HH.out.h.keep (fun r hr => by cases hr) rfl (KeepO.of_below hb))
      have hz2 := hb.size
      clear hb hl y0 y1 y2 y3 y4 y5 p0 p1 p2 p3 p4 p5 f0 f1 f2 f3 f4 f5
      go_wp2_with (at_builtin; refine wpList_append_own_at _ rfl _ _ 29 rfl (w.heap.size + 2) 31 i0 _ 6 72 Tryd.underlying29 HI.out HI0.out HI1.out HI2.out rfl (by decide) _ _ _ rfl (HA2.out.o.alloc _) ⟨w2.heap.size, 0, none⟩ 1 1 [.int .i64 x0, .int .i64 x1, .string x2, .int .i64 x3, .int .i64 x4, .slice xA xl xq] rfl rfl (ex_new _ _ _) (by simp [Value.oneCell']) (by rw [HLN.out]; unfold maxLen; omega) (by rw [HLN.out]; omega) (by rw [new_size]; omega) ?_)
      intro v9 w9 hown hgrow _ hob
      have HN := Lib.hid (RnHead.next HH.out HE1.out HB2.out HL2.out hown hgrow hob)
      clear hown hgrow hob
      go_wp2_with fail
      go_roundg g
      case rel => exact ⟨k + 1, _, by have := HG.out; omega, by go_num, HN.out⟩
      case measure => omega

theorem renamed_all : ∀ n, n ≤ 100001 → RnC n
  | 0, _ => fun e h => by cases e; simp [Ex.big] at h
  | n + 1, h => renamed_step n (by omega) (renamed_all n (by omega))
end Go.Proofs.YtocebddhllfhpaaDoor
