/-
  What small of package rollbacknetlaw04 does: a copy of an expression with small slots and sizes that are drawn by choices. Conditions: the list of choices is one that the call was given; the expression has at most 100000 parts and does not lie in the list of choices.
-/
import Derived.Test.YtocebddhllfhpaaDoorEvAc
import Derived.Test.YtocebddhllfhpaaDoorWalkMx
namespace Go.Proofs.YtocebddhllfhpaaDoor
open Go.RowKit

mutual
/-- Slots and sizes are small. -/
def smO : Ex → Prop
  | .mk op _ _ slot size args => ((op = 2 ∨ op = 3) → 0 ≤ slot ∧ slot < 6 ∧ 0 ≤ size ∧ size < 4) ∧ smOL args
def smOL : List Ex → Prop
  | [] => True
  | e :: r => smO e ∧ smOL r
end
theorem smOL_of : ∀ l : List Ex, (∀ x ∈ l, smO x) → smOL l
  | [], _ => by simp only [smOL]
  | e :: r, h => by
    simp only [smOL]
    exact ⟨h e (List.mem_cons_self ..), smOL_of r fun x hx => h x (List.mem_cons_of_mem _ hx)⟩
theorem sm_mk {op value : Int} {name : List UInt8} {slot size : Int} {acc : List Ex} (h : (op = 2 ∨ op = 3) → 0 ≤ slot ∧ slot < 6 ∧ 0 ≤ size ∧ size < 4) (ha : ∀ x ∈ acc, smO x) : smO (.mk op value name slot size acc) := by
  simp only [smO]
  exact ⟨h, smOL_of acc ha⟩
theorem bigL_app : ∀ l r : List Ex, Ex.bigL (l ++ r) = Ex.bigL l + Ex.bigL r
  | [], r => by simp [Ex.bigL]
  | e :: l, r => by rw [List.cons_append, Ex.bigL, Ex.bigL, bigL_app l r]; omega
theorem bigL_drop : ∀ (l : List Ex) (k : Nat) (e : Ex), l[k]? = some e → Ex.bigL (l.drop k) = e.big + Ex.bigL (l.drop (k + 1))
  | [], _, _, h => by simp at h
  | x :: r, 0, e, h => by
    simp only [List.getElem?_cons_zero, Option.some.injEq] at h
    subst h
    simp [Ex.bigL]
  | x :: r, k + 1, e, h => by
    simp only [List.getElem?_cons_succ] at h
    simpa using bigL_drop r k e h

/-- The head of small's loop. -/
structure SmHead (B cb : Nat) (w0 : World) (k : Nat) (args : List Ex) (box : List Value) (acc : List Ex) (v : Value) (wr : World) (css : List (List Value)) : Prop where
  h : AcHead (some cb) (w0.heap.size + 2) w0 box acc v wr css
  c : CodesIn B wr cb
  n : acc.length = k
  s : ∀ x ∈ acc, smO x
  g : Ex.bigL acc + Ex.bigL (args.drop k) ≤ Ex.bigL args

theorem SmHead.next {B cb k : Nat} {w0 wr w2 w3 : World} {args : List Ex} {box : List Value} {acc : List Ex} {v v' : Value} {css : List (List Value)} {e e1 : Ex} {cs : List Value} {o : Obj} (h : SmHead B cb w0 k args box acc v wr css)
    (hcb : cb < w0.heap.size) (he1 : args[k]? = some e1) (hk : Keep cb wr w2) (hc : CodesIn B w2 cb) (hsm : smO e) (hbg : e.big ≤ e1.big) (hs : ExL (From wr.heap.size) w2 e cs)
    (hown : w3.ownsRow (w0.heap.size + 2) 31 6 v' (k + 1) (css.flatten ++ cs)) (hg : (w2.alloc o).grownBy w3 v.ownBlock) (hob : v'.ownBlock = v.ownBlock ∨ v'.ownBlock = some (w2.heap.size + 1)) :
    SmHead B cb w0 (k + 1) args box (acc ++ [e]) v' w3 (css ++ [cs]) := by
  obtain ⟨h1, h2⟩ := AcHead.next h.h (fun r hr => by injection hr with hr; omega) rfl (KeepO.of_keep hk) hs (by rw [h.n]; exact hown) hg hob
  refine ⟨h1, hc.up fun j hj => h2 j (by omega), by rw [List.length_append, h.n]; rfl, fun x hx => ?_, ?_⟩
  · rcases List.mem_append.1 hx with hx | hx
    · exact h.s x hx
    · rw [List.mem_singleton.1 hx]; exact hsm
  · have hb := h.g
    rw [bigL_drop args k e1 he1] at hb
    rw [bigL_app]
    simp only [Ex.bigL]
    omega

def SmC (n : Nat) : Prop := ∀ (e : Ex), e.big ≤ n → ∀ (B cb : Nat) (S : Nat → Prop), (∀ b, S b → b ≠ cb) → ∀ (w : World) (a b : Int) (s : ByteArray) (c d : Int) (A : Option Addr) (l q : Nat), CodesIn B w cb → ExL S w e [.int .i64 a, .int .i64 b, .string s, .int .i64 c, .int .i64 d, .slice A l q] →
    Calls Tryd.prog 12 #[.pointer (some ⟨cb, 0, none⟩), .agg #[.int .i64 a, .int .i64 b, .string s, .int .i64 c, .int .i64 d, .slice A l q]] w fun e' w' => ∃ e1 v, e' = .returned v ∧ VEx w.heap.size w' e1 v ∧ smO e1 ∧ e1.big ≤ e.big ∧ CodesIn B w' cb ∧ Keep cb w w'

set_option maxHeartbeats 4000000 in
set_option maxRecDepth 100000 in
theorem small_step (n : Nat) (hn : n ≤ 100000) (ih : SmC n) : SmC (n + 1) := by
  intro e h B cb S hns w a b s c d A l q hcd hl
  cases e with
  | mk op value name slot size args =>
  simp only [Ex.big] at h
  have hlq : args.length ≤ 100000 := by have := Ex.len_big args; omega
  simp only [ExL] at hl
  obtain ⟨A', c', e1, hc, hrw⟩ := hl
  simp only [exCells, List.cons.injEq, Value.slice.injEq, and_true] at e1
  obtain ⟨e1, e2, e3, e4, e5, rfl, rfl, rfl⟩ := e1
  injection e1 with _ e1
  injection e2 with _ e2
  injection e3 with e3
  injection e4 with _ e4
  injection e5 with _ e5
  subst e1 e2 e3 e4 e5
  obtain ⟨i0, hi, hz0, hz1, hz2⟩ := info_parts infoEx3
  have HI := Lib.hid hi
  have HI0 := Lib.hid hz0
  have HI1 := Lib.hid hz1
  have HI2 := Lib.hid hz2
  clear hi hz0 hz1 hz2
  have HRW := Lib.hid hrw
  have HNS := Lib.hid hns
  have IH := Lib.hid (fun e1 h1 B cb S h2 w a b s c d A l q h3 h4 => ih e1 h1 B cb S h2 w a b s c d A l q h3 h4)
  have HD := Lib.hid h
  obtain ⟨m, hm⟩ : ∃ x, args.length = x := ⟨_, rfl⟩
  have HM := Lib.hid hm
  rw [hm] at hlq hc ⊢
  have hcb := hcd.lt
  have hW0 := (alloc_blk (w.alloc (.cells #[.int .i64 a, .int .i64 b, .string (strB name), .int .i64 c, .int .i64 d, .slice A m q] 31)) (.cells #[.int .i64 0, .int .i64 0, .string ⟨#[]⟩, .int .i64 0, .int .i64 0, .slice none 0 0] 31) (k := w.heap.size) (by rw [new_size]; omega)).trans (new_blk w _)
  have hW1 := new_blk1 w (.cells #[.int .i64 a, .int .i64 b, .string (strB name), .int .i64 c, .int .i64 d, .slice A m q] 31) (.cells #[.int .i64 0, .int .i64 0, .string ⟨#[]⟩, .int .i64 0, .int .i64 0, .slice none 0 0] 31)
  have hWK : Keep cb w ((w.alloc (.cells #[.int .i64 a, .int .i64 b, .string (strB name), .int .i64 c, .int .i64 d, .slice A m q] 31)).alloc (.cells #[.int .i64 0, .int .i64 0, .string ⟨#[]⟩, .int .i64 0, .int .i64 0, .slice none 0 0] 31)) := ((Keep.refl cb w).alloc _).alloc _
  have hWC := hcd.up (w' := (w.alloc (.cells #[.int .i64 a, .int .i64 b, .string (strB name), .int .i64 c, .int .i64 d, .slice A m q] 31)).alloc (.cells #[.int .i64 0, .int .i64 0, .string ⟨#[]⟩, .int .i64 0, .int .i64 0, .slice none 0 0] 31)) fun k hk => (alloc_blk _ _ (by rw [new_size]; omega)).trans (alloc_blk _ _ (by omega))
  have HXW := Lib.hid hW0
  have HYW := Lib.hid hW1
  have HKW := Lib.hid hWK
  have HCW := Lib.hid hWC
  clear ih hrw hm h hc hcd hns hW0 hW1 hWK hWC
  by_cases h23 : a = 2 ∨ a = 3
  · rcases h23 with rfl | rfl
    · go_enter Tryd.func12, Tryd.ntmps12
      go_wp2_with fail
      refine (next_keep B cb 6 _ HCW.out (by decide) (by decide)).mono ?_
      rintro e0 w1 ⟨j1, hj1, rfl, hc1, hk1⟩
      have HC1 := Lib.hid hc1
      have HK1 := Lib.hid (HKW.out.trans hk1)
      have HX1 := Lib.hid (hk1.blk HXW.out (by omega))
      have HY1 := Lib.hid (hk1.blk HYW.out (by omega))
      clear hc1 hk1
      go_wp2_with fail
      refine (next_keep B cb 4 _ HC1.out (by decide) (by decide)).mono ?_
      rintro e0 w2 ⟨j2, hj2, rfl, hc1, hk1⟩
      have HC2 := Lib.hid hc1
      have HK2 := Lib.hid (HK1.out.trans hk1)
      have HX2 := Lib.hid (hk1.blk HX1.out (by omega))
      have HY2 := Lib.hid (hk1.blk HY1.out (by omega))
      obtain ⟨z0, z1, z2, z3, z4, z5, y0, y1, y2, y3, y4, y5, hlt1⟩ := box6 HX2.out
      clear hc1 hk1
      go_wp2_with fail
      clear z0 z1 z2 z3 z4 z5 y0 y1 y2 y3 y4 y5
      go_loopg [5, 6, 24] m (fun g v _ i wr => ∃ (k : Nat) (acc : List Ex) (css : List (List Value)), k + g = m ∧ i = .int .i64 k ∧ SmHead B cb w k args [.int .i64 2, .int .i64 b, .string (strB name), .int .i64 (j1 : Int), .int .i64 (j2 : Int), .slice A m q] acc v wr css)
      case atStart => exact ⟨0, [], [], by omega, rfl, ⟨⟨(KeepO.of_keep HK2.out).setNew (p := ⟨w.heap.size, 3, none⟩) (Nat.le_refl _) _ |>.setNew (p := ⟨w.heap.size, 4, none⟩) (Nat.le_refl _) _, blk_set (blk_set HX2.out 3 _) 4 _, ((Below.heap_setCell _ ⟨w.heap.size, 4, none⟩ _ _ (by show _ ≠ w.heap.size; omega)).trans (Below.heap_setCell _ ⟨w.heap.size, 3, none⟩ _ _ (by show _ ≠ w.heap.size; omega))).trans HY2.out, World.ownsRow_nil _ _ _ _, trivial⟩, HC2.out.up fun k hk => (Below.heap_setCell _ ⟨w.heap.size, 4, none⟩ _ _ (by show _ ≠ w.heap.size; omega)).trans (Below.heap_setCell _ ⟨w.heap.size, 3, none⟩ _ _ (by show _ ≠ w.heap.size; omega)), rfl, fun x hx => (by simp at hx), by simp [Ex.bigL]⟩⟩
      case round =>
        obtain ⟨k, acc, css, hkg, rfl, hh⟩ := hrel
        have HH := Lib.hid hh
        have hz0 := hh.h.k.size
        have hzx := lt_of_block hh.h.x
        have hzr := lt_of_block hh.h.r
        have hln := hh.n
        have HLN := Lib.hid hln
        obtain ⟨p0, p1, p2, p3, p4, p5, f0, f1, f2, f3, f4, f5, _⟩ := box6 (show wr.heap[w.heap.size]? = some (.cells #[.int .i64 2, .int .i64 b, .string (strB name), .int .i64 (j1 : Int), .int .i64 (j2 : Int), .slice A m q] 31 (0, 0)) from hh.h.x)
        clear hh
        cases gk with
        | zero =>
          have hkm : k = m := by omega
          subst hkm
          obtain ⟨A9, c9, hv9, hc9, hrow⟩ := HH.out.h.slice
          rw [hln] at hv9 hc9
          have HRO := Lib.hid hrow
          obtain ⟨r0, r1, r2, r3, r4, r5, g0, g1, g2, g3, g4, g5, _⟩ := box6 HH.out.h.r
          subst hv9
          have hnlt : ¬ k < k := by omega
          clear hkg hrow hln
          go_wp2_with fail
          refine bodyPost_ret (v := .agg #[.int .i64 2, .int .i64 b, .string (strB name), .int .i64 (j1 : Int), .int .i64 (j2 : Int), .slice A9 k c9]) ?_ rfl ?_
          · simp [results, Tryd.results12, go_sem, World.cell?_setCell_same, World.cell?_setCell_other, r0, r1, r2, r3, r4, r5]
          · have hv := ac_ret (op := 2) (value := b) (name := name) (slot := (j1 : Int)) (size := (j2 : Int)) (A := A9) (c := c9) rfl (by rw [HLN.out]; exact hc9) HRO.out (.slice A9 k c9) (.int .i64 2) (.int .i64 b) (.string (strB name)) (.int .i64 (j1 : Int)) (.int .i64 (j2 : Int)) (.slice A9 k c9)
            rw [HLN.out] at hv
            refine ⟨_, _, rfl, hv, ?_, ?_, ?_, ?_⟩
            · refine sm_mk ?_ HH.out.s
              exact fun _ => ⟨by omega, by omega, by omega, by omega⟩
            · have hbg := HH.out.g
              simp only [Ex.big]
              omega
            · exact HH.out.c.up fun j hj => (set6_blk _ _ _ _ _ _ _ _ (by omega)).trans (Below.heap_setCell _ _ _ _ (by show j ≠ w.heap.size; omega))
            · exact ((HH.out.h.k.setNew (p := ⟨w.heap.size, 5, none⟩) (Nat.le_refl _) _).set6 (Nat.le_succ _) _ _ _ _ _ _).keep
        | succ g =>
          have hlt : k < m := by omega
          have HG := Lib.hid hkg
          clear hkg
          obtain ⟨e1, he1⟩ : ∃ e1, args[k]? = some e1 := ⟨_, List.getElem?_eq_getElem (by have := HM.out; omega)⟩
          have HE1 := Lib.hid he1
          have hbg := Ex.big_at args k e1 he1
          obtain ⟨bb, o, rfl, hS, hrow⟩ := HRW.out (fun e => by have := HM.out; rw [e] at this; simp at this; omega)
          obtain ⟨cs, hcs, hex⟩ := ExRow.get args bb o k e1 hrow he1
          obtain ⟨a1, b1, s1, c1, d1, A1, l1, q1, rfl⟩ := hex.plain
          have hbb : bb < w.heap.size := hcs.lt
          have hbc : bb ≠ cb := HNS.out bb hS
          have hw : ∀ j u, w.cell? ⟨bb, j, none⟩ = some u → wr.cell? ⟨bb, j, none⟩ = some u := fun j u hu => HH.out.h.k.keep.cell hu hbc
          have y0 := hw _ _ (hcs 0 _ rfl)
          have y1 := hw _ _ (hcs 1 _ rfl)
          have y2 := hw _ _ (hcs 2 _ rfl)
          have y3 := hw _ _ (hcs 3 _ rfl)
          have y4 := hw _ _ (hcs 4 _ rfl)
          have y5 := hw _ _ (hcs 5 _ rfl)
          rw [Nat.add_zero] at y0
          have hd0 := HD.out
          have HEX := Lib.hid (IH.out e1 (by omega) B cb S HNS.out wr a1 b1 s1 c1 d1 A1 l1 q1 HH.out.c (ExL.still (fun j hj1 hj2 => ⟨hj1, HH.out.h.k.keep.block j hj2 (HNS.out j hj1)⟩) e1 _ hex))
          clear hw hcs hrow he1 hex hbg hd0
          go_wp2_with fail
          refine HEX.out.mono ?_
          rintro e' w2 ⟨e2, v2, rfl, ⟨x0, x1, x2, x3, x4, xA, xl, xq, rfl, hl⟩, hsm, hbg, hc, hk⟩
          have HL2 := Lib.hid hl
          have HC2' := Lib.hid hc
          have HK2' := Lib.hid hk
          have HSM := Lib.hid hsm
          have HBG := Lib.hid hbg
          have HA2 := Lib.hid (HH.out.h.keep (fun r hr => by injection hr with hr; omega) rfl (KeepO.of_keep hk))
          have hz2 := hk.size
          clear hc hk hl hsm hbg y0 y1 y2 y3 y4 y5 p0 p1 p2 p3 p4 p5 f0 f1 f2 f3 f4 f5
          go_wp2_with (at_builtin; refine wpList_append_own_at _ rfl _ _ 29 rfl (w.heap.size + 2) 31 i0 _ 6 72 Tryd.underlying29 HI.out HI0.out HI1.out HI2.out rfl (by decide) _ _ _ rfl (HA2.out.o.alloc _) ⟨w2.heap.size, 0, none⟩ 1 1 [.int .i64 x0, .int .i64 x1, .string x2, .int .i64 x3, .int .i64 x4, .slice xA xl xq] rfl rfl (ex_new _ _ _) (by simp [Value.oneCell']) (by rw [HLN.out]; unfold maxLen; omega) (by rw [HLN.out]; omega) (by rw [new_size]; omega) ?_)
          intro v9 w9 hown hgrow _ hob
          have HN := Lib.hid (SmHead.next HH.out hcb HE1.out HK2'.out HC2'.out HSM.out HBG.out HL2.out hown hgrow hob)
          clear hown hgrow hob
          go_wp2_with fail
          go_roundg g
          case rel => exact ⟨k + 1, _, _, by have := HG.out; omega, by go_num, HN.out⟩
          case measure => omega
    · go_enter Tryd.func12, Tryd.ntmps12
      go_wp2_with fail
      refine (next_keep B cb 6 _ HCW.out (by decide) (by decide)).mono ?_
      rintro e0 w1 ⟨j1, hj1, rfl, hc1, hk1⟩
      have HC1 := Lib.hid hc1
      have HK1 := Lib.hid (HKW.out.trans hk1)
      have HX1 := Lib.hid (hk1.blk HXW.out (by omega))
      have HY1 := Lib.hid (hk1.blk HYW.out (by omega))
      clear hc1 hk1
      go_wp2_with fail
      refine (next_keep B cb 4 _ HC1.out (by decide) (by decide)).mono ?_
      rintro e0 w2 ⟨j2, hj2, rfl, hc1, hk1⟩
      have HC2 := Lib.hid hc1
      have HK2 := Lib.hid (HK1.out.trans hk1)
      have HX2 := Lib.hid (hk1.blk HX1.out (by omega))
      have HY2 := Lib.hid (hk1.blk HY1.out (by omega))
      obtain ⟨z0, z1, z2, z3, z4, z5, y0, y1, y2, y3, y4, y5, hlt1⟩ := box6 HX2.out
      clear hc1 hk1
      go_wp2_with fail
      clear z0 z1 z2 z3 z4 z5 y0 y1 y2 y3 y4 y5
      go_loopg [5, 6, 24] m (fun g v _ i wr => ∃ (k : Nat) (acc : List Ex) (css : List (List Value)), k + g = m ∧ i = .int .i64 k ∧ SmHead B cb w k args [.int .i64 3, .int .i64 b, .string (strB name), .int .i64 (j1 : Int), .int .i64 (j2 : Int), .slice A m q] acc v wr css)
      case atStart => exact ⟨0, [], [], by omega, rfl, ⟨⟨(KeepO.of_keep HK2.out).setNew (p := ⟨w.heap.size, 3, none⟩) (Nat.le_refl _) _ |>.setNew (p := ⟨w.heap.size, 4, none⟩) (Nat.le_refl _) _, blk_set (blk_set HX2.out 3 _) 4 _, ((Below.heap_setCell _ ⟨w.heap.size, 4, none⟩ _ _ (by show _ ≠ w.heap.size; omega)).trans (Below.heap_setCell _ ⟨w.heap.size, 3, none⟩ _ _ (by show _ ≠ w.heap.size; omega))).trans HY2.out, World.ownsRow_nil _ _ _ _, trivial⟩, HC2.out.up fun k hk => (Below.heap_setCell _ ⟨w.heap.size, 4, none⟩ _ _ (by show _ ≠ w.heap.size; omega)).trans (Below.heap_setCell _ ⟨w.heap.size, 3, none⟩ _ _ (by show _ ≠ w.heap.size; omega)), rfl, fun x hx => (by simp at hx), by simp [Ex.bigL]⟩⟩
      case round =>
        obtain ⟨k, acc, css, hkg, rfl, hh⟩ := hrel
        have HH := Lib.hid hh
        have hz0 := hh.h.k.size
        have hzx := lt_of_block hh.h.x
        have hzr := lt_of_block hh.h.r
        have hln := hh.n
        have HLN := Lib.hid hln
        obtain ⟨p0, p1, p2, p3, p4, p5, f0, f1, f2, f3, f4, f5, _⟩ := box6 (show wr.heap[w.heap.size]? = some (.cells #[.int .i64 3, .int .i64 b, .string (strB name), .int .i64 (j1 : Int), .int .i64 (j2 : Int), .slice A m q] 31 (0, 0)) from hh.h.x)
        clear hh
        cases gk with
        | zero =>
          have hkm : k = m := by omega
          subst hkm
          obtain ⟨A9, c9, hv9, hc9, hrow⟩ := HH.out.h.slice
          rw [hln] at hv9 hc9
          have HRO := Lib.hid hrow
          obtain ⟨r0, r1, r2, r3, r4, r5, g0, g1, g2, g3, g4, g5, _⟩ := box6 HH.out.h.r
          subst hv9
          have hnlt : ¬ k < k := by omega
          clear hkg hrow hln
          go_wp2_with fail
          refine bodyPost_ret (v := .agg #[.int .i64 3, .int .i64 b, .string (strB name), .int .i64 (j1 : Int), .int .i64 (j2 : Int), .slice A9 k c9]) ?_ rfl ?_
          · simp [results, Tryd.results12, go_sem, World.cell?_setCell_same, World.cell?_setCell_other, r0, r1, r2, r3, r4, r5]
          · have hv := ac_ret (op := 3) (value := b) (name := name) (slot := (j1 : Int)) (size := (j2 : Int)) (A := A9) (c := c9) rfl (by rw [HLN.out]; exact hc9) HRO.out (.slice A9 k c9) (.int .i64 3) (.int .i64 b) (.string (strB name)) (.int .i64 (j1 : Int)) (.int .i64 (j2 : Int)) (.slice A9 k c9)
            rw [HLN.out] at hv
            refine ⟨_, _, rfl, hv, ?_, ?_, ?_, ?_⟩
            · refine sm_mk ?_ HH.out.s
              exact fun _ => ⟨by omega, by omega, by omega, by omega⟩
            · have hbg := HH.out.g
              simp only [Ex.big]
              omega
            · exact HH.out.c.up fun j hj => (set6_blk _ _ _ _ _ _ _ _ (by omega)).trans (Below.heap_setCell _ _ _ _ (by show j ≠ w.heap.size; omega))
            · exact ((HH.out.h.k.setNew (p := ⟨w.heap.size, 5, none⟩) (Nat.le_refl _) _).set6 (Nat.le_succ _) _ _ _ _ _ _).keep
        | succ g =>
          have hlt : k < m := by omega
          have HG := Lib.hid hkg
          clear hkg
          obtain ⟨e1, he1⟩ : ∃ e1, args[k]? = some e1 := ⟨_, List.getElem?_eq_getElem (by have := HM.out; omega)⟩
          have HE1 := Lib.hid he1
          have hbg := Ex.big_at args k e1 he1
          obtain ⟨bb, o, rfl, hS, hrow⟩ := HRW.out (fun e => by have := HM.out; rw [e] at this; simp at this; omega)
          obtain ⟨cs, hcs, hex⟩ := ExRow.get args bb o k e1 hrow he1
          obtain ⟨a1, b1, s1, c1, d1, A1, l1, q1, rfl⟩ := hex.plain
          have hbb : bb < w.heap.size := hcs.lt
          have hbc : bb ≠ cb := HNS.out bb hS
          have hw : ∀ j u, w.cell? ⟨bb, j, none⟩ = some u → wr.cell? ⟨bb, j, none⟩ = some u := fun j u hu => HH.out.h.k.keep.cell hu hbc
          have y0 := hw _ _ (hcs 0 _ rfl)
          have y1 := hw _ _ (hcs 1 _ rfl)
          have y2 := hw _ _ (hcs 2 _ rfl)
          have y3 := hw _ _ (hcs 3 _ rfl)
          have y4 := hw _ _ (hcs 4 _ rfl)
          have y5 := hw _ _ (hcs 5 _ rfl)
          rw [Nat.add_zero] at y0
          have hd0 := HD.out
          have HEX := Lib.hid (IH.out e1 (by omega) B cb S HNS.out wr a1 b1 s1 c1 d1 A1 l1 q1 HH.out.c (ExL.still (fun j hj1 hj2 => ⟨hj1, HH.out.h.k.keep.block j hj2 (HNS.out j hj1)⟩) e1 _ hex))
          clear hw hcs hrow he1 hex hbg hd0
          go_wp2_with fail
          refine HEX.out.mono ?_
          rintro e' w2 ⟨e2, v2, rfl, ⟨x0, x1, x2, x3, x4, xA, xl, xq, rfl, hl⟩, hsm, hbg, hc, hk⟩
          have HL2 := Lib.hid hl
          have HC2' := Lib.hid hc
          have HK2' := Lib.hid hk
          have HSM := Lib.hid hsm
          have HBG := Lib.hid hbg
          have HA2 := Lib.hid (HH.out.h.keep (fun r hr => by injection hr with hr; omega) rfl (KeepO.of_keep hk))
          have hz2 := hk.size
          clear hc hk hl hsm hbg y0 y1 y2 y3 y4 y5 p0 p1 p2 p3 p4 p5 f0 f1 f2 f3 f4 f5
          go_wp2_with (at_builtin; refine wpList_append_own_at _ rfl _ _ 29 rfl (w.heap.size + 2) 31 i0 _ 6 72 Tryd.underlying29 HI.out HI0.out HI1.out HI2.out rfl (by decide) _ _ _ rfl (HA2.out.o.alloc _) ⟨w2.heap.size, 0, none⟩ 1 1 [.int .i64 x0, .int .i64 x1, .string x2, .int .i64 x3, .int .i64 x4, .slice xA xl xq] rfl rfl (ex_new _ _ _) (by simp [Value.oneCell']) (by rw [HLN.out]; unfold maxLen; omega) (by rw [HLN.out]; omega) (by rw [new_size]; omega) ?_)
          intro v9 w9 hown hgrow _ hob
          have HN := Lib.hid (SmHead.next HH.out hcb HE1.out HK2'.out HC2'.out HSM.out HBG.out HL2.out hown hgrow hob)
          clear hown hgrow hob
          go_wp2_with fail
          go_roundg g
          case rel => exact ⟨k + 1, _, _, by have := HG.out; omega, by go_num, HN.out⟩
          case measure => omega
  · have h2' : (a == 2) = false := by simp; omega
    have h3' : (a == 3) = false := by simp; omega
    have H23 := Lib.hid h23
    clear h23
    go_enter Tryd.func12, Tryd.ntmps12
    go_wp2_with fail
    go_loopg [5, 6, 24] m (fun g v _ i wr => ∃ (k : Nat) (acc : List Ex) (css : List (List Value)), k + g = m ∧ i = .int .i64 k ∧ SmHead B cb w k args [.int .i64 a, .int .i64 b, .string (strB name), .int .i64 c, .int .i64 d, .slice A m q] acc v wr css)
    case atStart => exact ⟨0, [], [], by omega, rfl, ⟨⟨KeepO.of_keep HKW.out, HXW.out, HYW.out, World.ownsRow_nil _ _ _ _, trivial⟩, HCW.out, rfl, fun x hx => (by simp at hx), by simp [Ex.bigL]⟩⟩
    case round =>
      obtain ⟨k, acc, css, hkg, rfl, hh⟩ := hrel
      have HH := Lib.hid hh
      have hz0 := hh.h.k.size
      have hzx := lt_of_block hh.h.x
      have hzr := lt_of_block hh.h.r
      have hln := hh.n
      have HLN := Lib.hid hln
      obtain ⟨p0, p1, p2, p3, p4, p5, f0, f1, f2, f3, f4, f5, _⟩ := box6 (show wr.heap[w.heap.size]? = some (.cells #[.int .i64 a, .int .i64 b, .string (strB name), .int .i64 c, .int .i64 d, .slice A m q] 31 (0, 0)) from hh.h.x)
      clear hh
      cases gk with
      | zero =>
        have hkm : k = m := by omega
        subst hkm
        obtain ⟨A9, c9, hv9, hc9, hrow⟩ := HH.out.h.slice
        rw [hln] at hv9 hc9
        have HRO := Lib.hid hrow
        obtain ⟨r0, r1, r2, r3, r4, r5, g0, g1, g2, g3, g4, g5, _⟩ := box6 HH.out.h.r
        subst hv9
        have hnlt : ¬ k < k := by omega
        clear hkg hrow hln
        go_wp2_with fail
        refine bodyPost_ret (v := .agg #[.int .i64 a, .int .i64 b, .string (strB name), .int .i64 c, .int .i64 d, .slice A9 k c9]) ?_ rfl ?_
        · simp [results, Tryd.results12, go_sem, World.cell?_setCell_same, World.cell?_setCell_other, r0, r1, r2, r3, r4, r5]
        · have hv := ac_ret (op := a) (value := b) (name := name) (slot := c) (size := d) (A := A9) (c := c9) rfl (by rw [HLN.out]; exact hc9) HRO.out (.slice A9 k c9) (.int .i64 a) (.int .i64 b) (.string (strB name)) (.int .i64 c) (.int .i64 d) (.slice A9 k c9)
          rw [HLN.out] at hv
          refine ⟨_, _, rfl, hv, ?_, ?_, ?_, ?_⟩
          · refine sm_mk ?_ HH.out.s
            exact fun h => absurd h H23.out
          · have hbg := HH.out.g
            simp only [Ex.big]
            omega
          · exact HH.out.c.up fun j hj => (set6_blk _ _ _ _ _ _ _ _ (by omega)).trans (Below.heap_setCell _ _ _ _ (by show j ≠ w.heap.size; omega))
          · exact ((HH.out.h.k.setNew (p := ⟨w.heap.size, 5, none⟩) (Nat.le_refl _) _).set6 (Nat.le_succ _) _ _ _ _ _ _).keep
      | succ g =>
        have hlt : k < m := by omega
        have HG := Lib.hid hkg
        clear hkg
        obtain ⟨e1, he1⟩ : ∃ e1, args[k]? = some e1 := ⟨_, List.getElem?_eq_getElem (by have := HM.out; omega)⟩
        have HE1 := Lib.hid he1
        have hbg := Ex.big_at args k e1 he1
        obtain ⟨bb, o, rfl, hS, hrow⟩ := HRW.out (fun e => by have := HM.out; rw [e] at this; simp at this; omega)
        obtain ⟨cs, hcs, hex⟩ := ExRow.get args bb o k e1 hrow he1
        obtain ⟨a1, b1, s1, c1, d1, A1, l1, q1, rfl⟩ := hex.plain
        have hbb : bb < w.heap.size := hcs.lt
        have hbc : bb ≠ cb := HNS.out bb hS
        have hw : ∀ j u, w.cell? ⟨bb, j, none⟩ = some u → wr.cell? ⟨bb, j, none⟩ = some u := fun j u hu => HH.out.h.k.keep.cell hu hbc
        have y0 := hw _ _ (hcs 0 _ rfl)
        have y1 := hw _ _ (hcs 1 _ rfl)
        have y2 := hw _ _ (hcs 2 _ rfl)
        have y3 := hw _ _ (hcs 3 _ rfl)
        have y4 := hw _ _ (hcs 4 _ rfl)
        have y5 := hw _ _ (hcs 5 _ rfl)
        rw [Nat.add_zero] at y0
        have hd0 := HD.out
        have HEX := Lib.hid (IH.out e1 (by omega) B cb S HNS.out wr a1 b1 s1 c1 d1 A1 l1 q1 HH.out.c (ExL.still (fun j hj1 hj2 => ⟨hj1, HH.out.h.k.keep.block j hj2 (HNS.out j hj1)⟩) e1 _ hex))
        clear hw hcs hrow he1 hex hbg hd0
        go_wp2_with fail
        refine HEX.out.mono ?_
        rintro e' w2 ⟨e2, v2, rfl, ⟨x0, x1, x2, x3, x4, xA, xl, xq, rfl, hl⟩, hsm, hbg, hc, hk⟩
        have HL2 := Lib.hid hl
        have HC2' := Lib.hid hc
        have HK2' := Lib.hid hk
        have HSM := Lib.hid hsm
        have HBG := Lib.hid hbg
        have HA2 := Lib.hid (HH.out.h.keep (fun r hr => by injection hr with hr; omega) rfl (KeepO.of_keep hk))
        have hz2 := hk.size
        clear hc hk hl hsm hbg y0 y1 y2 y3 y4 y5 p0 p1 p2 p3 p4 p5 f0 f1 f2 f3 f4 f5
        go_wp2_with (at_builtin; refine wpList_append_own_at _ rfl _ _ 29 rfl (w.heap.size + 2) 31 i0 _ 6 72 Tryd.underlying29 HI.out HI0.out HI1.out HI2.out rfl (by decide) _ _ _ rfl (HA2.out.o.alloc _) ⟨w2.heap.size, 0, none⟩ 1 1 [.int .i64 x0, .int .i64 x1, .string x2, .int .i64 x3, .int .i64 x4, .slice xA xl xq] rfl rfl (ex_new _ _ _) (by simp [Value.oneCell']) (by rw [HLN.out]; unfold maxLen; omega) (by rw [HLN.out]; omega) (by rw [new_size]; omega) ?_)
        intro v9 w9 hown hgrow _ hob
        have HN := Lib.hid (SmHead.next HH.out hcb HE1.out HK2'.out HC2'.out HSM.out HBG.out HL2.out hown hgrow hob)
        clear hown hgrow hob
        go_wp2_with fail
        go_roundg g
        case rel => exact ⟨k + 1, _, _, by have := HG.out; omega, by go_num, HN.out⟩
        case measure => omega

theorem small_all : ∀ n, n ≤ 100001 → SmC n
  | 0, _ => fun e h => by cases e; simp [Ex.big] at h
  | n + 1, h => small_step n (by omega) (small_all n (by omega))
end Go.Proofs.YtocebddhllfhpaaDoor
