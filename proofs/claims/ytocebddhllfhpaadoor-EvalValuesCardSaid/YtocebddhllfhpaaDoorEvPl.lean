/-
  What place of package rollbacknetlaw04 does: a copy of an expression with other slots, sizes and operands that are drawn by choices. Conditions: the list of choices is one that the call was given; all numbers of the expression are 64-bit ints; it has at most 100000 parts and does not lie in the list of choices.
-/
import Derived.Test.YtocebddhllfhpaaDoorEvSm
import Derived.Test.YtocebddhllfhpaaDoorEvIn
import Derived.Test.YtocebddhllfhpaaDoorEvRv
namespace Go.Proofs.YtocebddhllfhpaaDoor
open Go.RowKit

theorem exR_mk {op value : Int} {name : List UInt8} {slot size : Int} {acc : List Ex} (h1 : I64 value) (h2 : I64 slot) (h3 : I64 size) (ha : ∀ x ∈ acc, exR x) : exR (.mk op value name slot size acc) := by
  simp only [exR]
  exact ⟨h1, h2, h3, exRL_of acc ha⟩
theorem exrow_take {S : Nat → Prop} {w : World} : ∀ (l : List Ex) (t b o : Nat), ExRow S w l b o → ExRow S w (l.take t) b o
  | [], _, _, _, _ => by simp only [List.take_nil, ExRow]
  | x :: r, 0, _, _, _ => by simp only [List.take_zero, ExRow]
  | x :: r, t + 1, b, o, h => by
    simp only [ExRow] at h
    simp only [List.take_succ_cons, ExRow]
    exact ⟨h.1, exrow_take r t b (o + 6) h.2⟩

/-- The head of place's loop. -/
structure PlHead (B cb : Nat) (w0 : World) (k : Nat) (box : List Value) (acc : List Ex) (v : Value) (wr : World) (css : List (List Value)) : Prop where
  h : AcHead (some cb) (w0.heap.size + 2) w0 box acc v wr css
  c : CodesIn B wr cb
  n : acc.length = k
  s : ∀ x ∈ acc, exR x

theorem PlHead.keep {B cb k : Nat} {w0 wr w2 : World} {box : List Value} {acc : List Ex} {v : Value} {css : List (List Value)} (h : PlHead B cb w0 k box acc v wr css) (hcb : cb < w0.heap.size) (hk : Keep cb wr w2) (hc : CodesIn B w2 cb) : PlHead B cb w0 k box acc v w2 css :=
  ⟨h.h.keep (fun r hr => by injection hr with hr; omega) rfl (KeepO.of_keep hk), hc, h.n, h.s⟩
theorem PlHead.next {B cb k : Nat} {w0 wr w2 w3 : World} {box : List Value} {acc : List Ex} {v v' : Value} {css : List (List Value)} {e : Ex} {cs : List Value} {o : Obj} (h : PlHead B cb w0 k box acc v wr css)
    (hcb : cb < w0.heap.size) (hk : Keep cb wr w2) (hc : CodesIn B w2 cb) (hsm : exR e) (hs : ExL (From wr.heap.size) w2 e cs)
    (hown : w3.ownsRow (w0.heap.size + 2) 31 6 v' (k + 1) (css.flatten ++ cs)) (hg : (w2.alloc o).grownBy w3 v.ownBlock) (hob : v'.ownBlock = v.ownBlock ∨ v'.ownBlock = some (w2.heap.size + 1)) :
    PlHead B cb w0 (k + 1) box (acc ++ [e]) v' w3 (css ++ [cs]) := by
  obtain ⟨h1, h2⟩ := AcHead.next h.h (fun r hr => by injection hr with hr; omega) rfl (KeepO.of_keep hk) hs (by rw [h.n]; exact hown) hg hob
  refine ⟨h1, hc.up fun j hj => h2 j (by omega), by rw [List.length_append, h.n]; rfl, fun x hx => ?_⟩
  rcases List.mem_append.1 hx with hx | hx
  · exact h.s x hx
  · rw [List.mem_singleton.1 hx]; exact hsm

def PlC (n : Nat) : Prop := ∀ (e : Ex), e.big ≤ n → exR e → ∀ (B cb : Nat) (S : Nat → Prop), (∀ b, S b → b ≠ cb) → ∀ (w : World) (a b : Int) (s : ByteArray) (c d : Int) (A : Option Addr) (l q : Nat), CodesIn B w cb → ExL S w e [.int .i64 a, .int .i64 b, .string s, .int .i64 c, .int .i64 d, .slice A l q] →
    Calls Tryd.prog 8 #[.pointer (some ⟨cb, 0, none⟩), .agg #[.int .i64 a, .int .i64 b, .string s, .int .i64 c, .int .i64 d, .slice A l q]] w fun e' w' => ∃ e1 v, e' = .returned v ∧ VEx w.heap.size w' e1 v ∧ exR e1 ∧ CodesIn B w' cb ∧ Keep cb w w'

set_option maxHeartbeats 16000000 in
set_option maxRecDepth 100000 in
theorem place_step (n : Nat) (hn : n ≤ 99999) (ih : PlC n) : PlC (n + 1) := by
  intro e h hR B cb S hns w a b s c d A l q hcd hl
  cases e with
  | mk op value name slot size args =>
  simp only [Ex.big] at h
  simp only [exR] at hR
  have HRA := Lib.hid hR.2.2.2
  have HRB := Lib.hid hR.1
  have HRC := Lib.hid hR.2.1
  have HRD := Lib.hid hR.2.2.1
  have hlq : args.length ≤ 99999 := by have := Ex.len_big args; omega
  simp only [ExL] at hl
  obtain ⟨A', c', e1, hc, hrw⟩ := hl
  simp only [exCells, List.cons.injEq, Value.slice.injEq, and_true] at e1
  obtain ⟨e1, e2, e3, e4, e5, rfl, rfl, rfl⟩ := e1
  injection e1 with _ e1
  injection e2 with _ e2
  injection e3 with e3
  injection e4 with _ e4
  injection e5 with _ e5
  subst e1 e2 e3 e4 e5
  obtain ⟨i0, hi, hz0, hz1, hz2⟩ := info_parts infoEx3
  have HI := Lib.hid hi
  have HI0 := Lib.hid hz0
  have HI1 := Lib.hid hz1
  have HI2 := Lib.hid hz2
  clear hi hz0 hz1 hz2
  have HRW := Lib.hid hrw
  have HNS := Lib.hid hns
  have IH := Lib.hid (fun e1 h1 hr B cb S h2 w a b s c d A l q h3 h4 => ih e1 h1 hr B cb S h2 w a b s c d A l q h3 h4)
  have HD := Lib.hid h
  obtain ⟨m, hm⟩ : ∃ x, args.length = x := ⟨_, rfl⟩
  have HM := Lib.hid hm
  rw [hm] at hlq hc ⊢
  have hcb := hcd.lt
  have hW0 := (alloc_blk (w.alloc (.cells #[.int .i64 a, .int .i64 b, .string (strB name), .int .i64 c, .int .i64 d, .slice A m q] 31)) (.cells #[.int .i64 0, .int .i64 0, .string ⟨#[]⟩, .int .i64 0, .int .i64 0, .slice none 0 0] 31) (k := w.heap.size) (by rw [new_size]; omega)).trans (new_blk w _)
  have hW1 := new_blk1 w (.cells #[.int .i64 a, .int .i64 b, .string (strB name), .int .i64 c, .int .i64 d, .slice A m q] 31) (.cells #[.int .i64 0, .int .i64 0, .string ⟨#[]⟩, .int .i64 0, .int .i64 0, .slice none 0 0] 31)
  have hWK : Keep cb w ((w.alloc (.cells #[.int .i64 a, .int .i64 b, .string (strB name), .int .i64 c, .int .i64 d, .slice A m q] 31)).alloc (.cells #[.int .i64 0, .int .i64 0, .string ⟨#[]⟩, .int .i64 0, .int .i64 0, .slice none 0 0] 31)) := ((Keep.refl cb w).alloc _).alloc _
  have hWC := hcd.up (w' := (w.alloc (.cells #[.int .i64 a, .int .i64 b, .string (strB name), .int .i64 c, .int .i64 d, .slice A m q] 31)).alloc (.cells #[.int .i64 0, .int .i64 0, .string ⟨#[]⟩, .int .i64 0, .int .i64 0, .slice none 0 0] 31)) fun k hk => (alloc_blk _ _ (by rw [new_size]; omega)).trans (alloc_blk _ _ (by omega))
  have HXW := Lib.hid hW0
  have HYW := Lib.hid hW1
  have HKW := Lib.hid hWK
  have HCW := Lib.hid hWC
  clear ih hrw hm h hc hcd hR hns hW0 hW1 hWK hWC
  by_cases h23 : a = 2 ∨ a = 3
  · rcases h23 with rfl | rfl
    · skip
      go_enter Tryd.func8, Tryd.ntmps8
      go_wp2_with fail
      refine (next_keep B cb 8 _ HCW.out (by decide) (by decide)).mono ?_
      rintro e0 w1 ⟨j1, hj1, rfl, hc1, hk1⟩
      have hj1' : (j1 : Int) < 8 := by omega
      have HC1 := Lib.hid hc1
      have HK1 := Lib.hid (HKW.out.trans hk1)
      have HX1 := Lib.hid (hk1.blk HXW.out (by omega))
      have HY1 := Lib.hid (hk1.blk HYW.out (by omega))
      clear hc1 hk1
      go_wp2_with fail
      refine (next_keep B cb 6 _ HC1.out (by decide) (by decide)).mono ?_
      rintro e0 w2 ⟨j2, hj2, rfl, hc1, hk1⟩
      have HC2 := Lib.hid hc1
      have HK2 := Lib.hid (HK1.out.trans hk1)
      have HX2 := Lib.hid (hk1.blk HX1.out (by omega))
      have HY2 := Lib.hid (hk1.blk HY1.out (by omega))
      obtain ⟨z0, z1, z2, z3, z4, z5, y0, y1, y2, y3, y4, y5, hlt1⟩ := box6 HX2.out
      clear hc1 hk1
      go_upto_region 3 with fail
      clear z0 z1 z2 z3 z4 z5 y0 y1 y2 y3 y4 y5
      obtain ⟨W2, hW2⟩ : ∃ W2, (w2.setCell ⟨w.heap.size, 3, none⟩ (.int .i64 ((j1 : Int) - 1))).setCell ⟨w.heap.size, 4, none⟩ (.int .i64 j2) = W2 := ⟨_, rfl⟩
      have HKs := Lib.hid (show KeepO (some cb) w W2 by rw [← hW2]; exact (KeepO.of_keep HK2.out).setNew (p := ⟨w.heap.size, 3, none⟩) (Nat.le_refl _) _ |>.setNew (p := ⟨w.heap.size, 4, none⟩) (Nat.le_refl _) _)
      have HXs := Lib.hid (show W2.heap[w.heap.size]? = some (.cells #[.int .i64 2, .int .i64 b, .string (strB name), .int .i64 ((j1 : Int) - 1), .int .i64 j2, .slice A m q] 31 (0, 0)) by rw [← hW2]; exact blk_set (blk_set HX2.out 3 _) 4 _)
      have HYs := Lib.hid (show W2.heap[w.heap.size + 1]? = some (.cells #[.int .i64 0, .int .i64 0, .string ⟨#[]⟩, .int .i64 0, .int .i64 0, .slice none 0 0] 31 (0, 0)) by rw [← hW2]; exact ((Below.heap_setCell _ ⟨w.heap.size, 4, none⟩ _ _ (by show _ ≠ w.heap.size; omega)).trans (Below.heap_setCell _ ⟨w.heap.size, 3, none⟩ _ _ (by show _ ≠ w.heap.size; omega))).trans HY2.out)
      have HCs := Lib.hid (show CodesIn B W2 cb by rw [← hW2]; exact HC2.out.up fun k hk => (Below.heap_setCell _ ⟨w.heap.size, 4, none⟩ _ _ (by show _ ≠ w.heap.size; omega)).trans (Below.heap_setCell _ ⟨w.heap.size, 3, none⟩ _ _ (by show _ ≠ w.heap.size; omega)))
      simp only [hW2]
      clear hW2
      go_wp2_with fail
      refine (next_keep B cb 10 _ HCs.out (by decide) (by decide)).mono ?_
      rintro e0 w3 ⟨j3, hj3, rfl, hc1, hk1⟩
      have HC3 := Lib.hid hc1
      have HK3 := Lib.hid (HKs.out.keep.trans hk1)
      have HX3 := Lib.hid (hk1.blk HXs.out (by omega))
      have HY3 := Lib.hid (hk1.blk HYs.out (by omega))
      clear hc1 hk1 HKs HXs HYs HCs
      by_cases h9 : j3 = 9
      · subst h9
        go_wp2_with fail
        refine (int_any B cb _ HC3.out).mono ?_
        rintro e0 w4 ⟨z1, rfl, hz1, hc1, hk1⟩
        have HZ1 := Lib.hid hz1
        have HC4 := Lib.hid hc1
        have HK4 := Lib.hid (HK3.out.trans hk1)
        have HX4 := Lib.hid (hk1.blk HX3.out (by omega))
        have HY4 := Lib.hid (hk1.blk HY3.out (by omega))
        clear hc1 hk1 hz1
        go_wp2_with fail
        refine (int_any B cb _ HC4.out).mono ?_
        rintro e0 w5 ⟨z2, rfl, hz2, hc1, hk1⟩
        have HZ2 := Lib.hid hz2
        have HC5 := Lib.hid hc1
        have HK5 := Lib.hid (HK4.out.trans hk1)
        have HX5 := Lib.hid (hk1.blk HX4.out (by omega))
        have HY5 := Lib.hid (hk1.blk HY4.out (by omega))
        obtain ⟨z0', z1', z2', z3', z4', z5', y0, y1, y2, y3, y4, y5, hlt2⟩ := box6 HX5.out
        clear hc1 hk1 hz2
        go_wp2_with fail
        clear z0' z1' z2' z3' z4' z5' y0 y1 y2 y3 y4 y5
        have HST : Hid (PlHead B cb w 0 [.int .i64 2, .int .i64 b, .string (strB name), .int .i64 z1, .int .i64 z2, .slice A m q] [] (.slice none 0 0) _ []) := ⟨⟨(KeepO.of_keep HK5.out).setNew (p := ⟨w.heap.size, 3, none⟩) (Nat.le_refl _) _ |>.setNew (p := ⟨w.heap.size, 4, none⟩) (Nat.le_refl _) _, blk_set (blk_set HX5.out 3 _) 4 _, ((Below.heap_setCell _ ⟨w.heap.size, 4, none⟩ _ _ (by show _ ≠ w.heap.size; omega)).trans (Below.heap_setCell _ ⟨w.heap.size, 3, none⟩ _ _ (by show _ ≠ w.heap.size; omega))).trans HY5.out, World.ownsRow_nil _ _ _ _, trivial⟩, HC5.out.up fun k hk => (Below.heap_setCell _ ⟨w.heap.size, 4, none⟩ _ _ (by show _ ≠ w.heap.size; omega)).trans (Below.heap_setCell _ ⟨w.heap.size, 3, none⟩ _ _ (by show _ ≠ w.heap.size; omega)), rfl, fun x hx => (by simp at hx)⟩
        go_loopg [5, 6, 34] m (fun g v _ i wr => ∃ (k : Nat) (acc : List Ex) (css : List (List Value)), k + g = m ∧ i = .int .i64 k ∧ PlHead B cb w k [.int .i64 2, .int .i64 b, .string (strB name), .int .i64 z1, .int .i64 z2, .slice A m q] acc v wr css)
        case atStart => exact ⟨0, [], [], by omega, rfl, HST.out⟩
        case round =>
          obtain ⟨k, acc, css, hkg, rfl, hh⟩ := hrel
          have HH := Lib.hid hh
          have hz0 := hh.h.k.size
          have hzx := lt_of_block hh.h.x
          have hzr := lt_of_block hh.h.r
          have hln := hh.n
          have HLN := Lib.hid hln
          clear hh
          cases gk with
          | zero =>
            have hkm : k = m := by omega
            subst hkm
            obtain ⟨A9, c9, hv9, hc9, hrow⟩ := HH.out.h.slice
            have hown := HH.out.h.o
            rw [hln] at hv9 hc9
            rw [hln] at hown
            subst hv9
            have HRO := Lib.hid hrow
            have HOW := Lib.hid hown
            have hnlt : ¬ k < k := by omega
            clear hkg hrow hown
            go_wp2_with fail
            refine (next_keep B cb 12 _ HH.out.c (by decide) (by decide)).mono ?_
            rintro e0 w6 ⟨j, hj, rfl, hc1, hk1⟩
            have HH6 := Lib.hid (HH.out.keep hcb hk1 hc1)
            have hz6 := hk1.size
            by_cases hj10 : j = 10
            · subst hj10
              go_wp2_with fail
              have HNX := Lib.hid (next_keep B cb (k + 1) w6 HH6.out.c (by omega) (by omega))
              rw [Int.natCast_add, Int.natCast_one] at HNX
              refine HNX.out.mono ?_
              rintro e0 w7 ⟨t, ht, rfl, hc2, hk2⟩
              have HH7 := Lib.hid (HH6.out.keep hcb hk2 hc2)
              have hz7 := hk2.size
              have ht' : (t : Int) ≤ (k : Int) := by omega
              have hck : (k : Int) ≤ (c9 : Int) := by omega
              have HACC : Hid (∀ x ∈ acc.take t, exR x) := fun x hx => HH.out.s x (List.mem_of_mem_take hx)
              have HLT : Hid ((acc.take t).length = t) := by show _ = _; rw [List.length_take, hln]; omega
              obtain ⟨p0, p1, p2, p3, p4, p5, f0, f1, f2, f3, f4, f5, _⟩ := box6 (show w7.heap[w.heap.size]? = some (.cells #[.int .i64 2, .int .i64 b, .string (strB name), .int .i64 z1, .int .i64 z2, .slice A k q] 31 (0, 0)) from HH7.out.h.x)
              obtain ⟨r0, r1, r2, r3, r4, r5, g0, g1, g2, g3, g4, g5, _⟩ := box6 HH7.out.h.r
              obtain ⟨A8, c8, hv8, hc8, hrow8⟩ := HH7.out.h.slice
              injection hv8 with e81 e82 e83
              subst e81 e83
              clear e82
              have HRT : Hid (acc.take t ≠ [] → ∃ b o, A9 = some ⟨b, o, none⟩ ∧ w.heap.size + 2 ≤ b ∧ ExRow (From (w.heap.size + 2)) w7 (acc.take t) b o) := fun hne => by
                obtain ⟨b, o, h1, h2, h3⟩ := hrow8 (fun e => hne (by rw [e]; exact List.take_nil))
                exact ⟨b, o, h1, h2, exrow_take acc t b o h3⟩
              clear hc1 hk1 hc2 hk2 HNX hln hrow8 hc8
              rcases HOW.out.2 with ⟨hv, hk0⟩ | ⟨g, cap, cur, hv, _⟩
              · injection hv with e1 e2 e3
                subst e1 e3
                have hk00 : k = 0 := by omega
                subst hk00
                obtain rfl : t = 0 := by omega
                go_wp2_with fail
                refine bodyPost_ret (v := .agg #[.int .i64 2, .int .i64 b, .string (strB name), .int .i64 z1, .int .i64 z2, .slice none 0 0]) ?_ rfl ?_
                · simp [results, Tryd.results8, go_sem, World.cell?_setCell_same, World.cell?_setCell_other, r0, r1, r2, r3, r4, r5]
                · have hv := ac_ret (op := 2) (value := b) (name := name) (slot := z1) (size := z2) (A := none) (c := 0) (acc := acc.take 0) rfl (by rw [HLT.out]; exact (Nat.zero_le _)) HRT.out (.slice none 0 0) (.int .i64 2) (.int .i64 b) (.string (strB name)) (.int .i64 z1) (.int .i64 z2) (.slice none 0 0)
                  rw [HLT.out] at hv
                  refine ⟨_, _, rfl, hv, ?_, ?_, ?_⟩
                  · exact exR_mk HRB.out HZ1.out HZ2.out HACC.out
                  · exact HH7.out.c.up fun j hj => (set6_blk _ _ _ _ _ _ _ _ (by omega)).trans (Below.heap_setCell _ _ _ _ (by show j ≠ w.heap.size; omega))
                  · exact ((HH7.out.h.k.setNew (p := ⟨w.heap.size, 5, none⟩) (Nat.le_refl _) _).set6 (Nat.le_succ _) _ _ _ _ _ _).keep
              · injection hv with e1 e2 e3
                subst e1 e3
                have hct : t ≤ c9 := by omega
                go_wp2_with fail
                refine bodyPost_ret (v := .agg #[.int .i64 2, .int .i64 b, .string (strB name), .int .i64 z1, .int .i64 z2, .slice (some ⟨g, 0, none⟩) t c9]) ?_ rfl ?_
                · simp [results, Tryd.results8, go_sem, World.cell?_setCell_same, World.cell?_setCell_other, r0, r1, r2, r3, r4, r5]
                · have hv := ac_ret (op := 2) (value := b) (name := name) (slot := z1) (size := z2) (A := (some ⟨g, 0, none⟩)) (c := c9) (acc := acc.take t) rfl (by rw [HLT.out]; exact hct) HRT.out (.slice (some ⟨g, 0, none⟩) t c9) (.int .i64 2) (.int .i64 b) (.string (strB name)) (.int .i64 z1) (.int .i64 z2) (.slice (some ⟨g, 0, none⟩) t c9)
                  rw [HLT.out] at hv
                  refine ⟨_, _, rfl, hv, ?_, ?_, ?_⟩
                  · exact exR_mk HRB.out HZ1.out HZ2.out HACC.out
                  · exact HH7.out.c.up fun j hj => (set6_blk _ _ _ _ _ _ _ _ (by omega)).trans (Below.heap_setCell _ _ _ _ (by show j ≠ w.heap.size; omega))
                  · exact ((HH7.out.h.k.setNew (p := ⟨w.heap.size, 5, none⟩) (Nat.le_refl _) _).set6 (Nat.le_succ _) _ _ _ _ _ _).keep
            by_cases hj11 : j = 11
            · subst hj11
              clear hj10
              go_wp2_with fail
              refine (next_keep B cb 30 _ HH6.out.c (by decide) (by decide)).mono ?_
              rintro e0 w7 ⟨t, ht, rfl, hc2, hk2⟩
              have HH7 := Lib.hid (HH6.out.keep hcb hk2 hc2)
              have hz7 := hk2.size
              have HK7 := Lib.hid hk2
              have HC7 := Lib.hid hc2
              have HEX7 : Hid (ExL (From w6.heap.size) w7 (.mk (t : Int) 3 [] 0 0 []) [.int .i64 t, .int .i64 3, .string ⟨#[]⟩, .int .i64 0, .int .i64 0, .slice none 0 0]) := by
                show ExL _ _ _ _
                simp only [ExL]
                exact ⟨none, 0, rfl, Nat.le_refl _, fun h => absurd rfl h⟩
              have hlk := hln
              clear hc1 hk1 hc2 hk2
              go_wp2_with (at_builtin; refine wpList_append_own_at _ rfl _ _ 29 rfl (w.heap.size + 2) 31 i0 _ 6 72 Tryd.underlying29 HI.out HI0.out HI1.out HI2.out rfl (by decide) _ _ _ rfl (HH7.out.h.o.alloc _) ⟨w7.heap.size, 0, none⟩ 1 1 [.int .i64 t, .int .i64 3, .string ⟨#[]⟩, .int .i64 0, .int .i64 0, .slice none 0 0] rfl rfl (ex_new _ _ _) (by simp [Value.oneCell']) (by rw [HLN.out]; unfold maxLen; omega) (by rw [HLN.out]; omega) (by rw [new_size]; omega) ?_)
              intro v9 w9 hown hgrow _ hob
              have HN := Lib.hid (PlHead.next HH6.out hcb HK7.out HC7.out (exR_mk (op := (t : Int)) (name := []) (by constructor <;> decide) (by constructor <;> decide) (by constructor <;> decide) (fun x hx => by simp at hx)) HEX7.out hown hgrow hob)
              clear hown hgrow hob hln hlk
              obtain ⟨A8, c8, hv8, hc8, hrow8⟩ := HN.out.h.slice
              have hln9 := HN.out.n
              have HLN9 := Lib.hid hln9
              rw [hln9] at hv8 hc8
              have HR8 := Lib.hid hrow8
              have HACC := Lib.hid HN.out.s
              obtain ⟨p0, p1, p2, p3, p4, p5, f0, f1, f2, f3, f4, f5, _⟩ := box6 (show w9.heap[w.heap.size]? = some (.cells #[.int .i64 2, .int .i64 b, .string (strB name), .int .i64 z1, .int .i64 z2, .slice A k q] 31 (0, 0)) from HN.out.h.x)
              obtain ⟨r0, r1, r2, r3, r4, r5, g0, g1, g2, g3, g4, g5, _⟩ := box6 HN.out.h.r
              subst hv8
              clear hrow8 hln9
              go_wp2_with fail
              refine bodyPost_ret (v := .agg #[.int .i64 2, .int .i64 b, .string (strB name), .int .i64 z1, .int .i64 z2, .slice A8 (k + 1) c8]) ?_ rfl ?_
              · simp [results, Tryd.results8, go_sem, World.cell?_setCell_same, World.cell?_setCell_other, r0, r1, r2, r3, r4, r5]
              · have hv := ac_ret (op := 2) (value := b) (name := name) (slot := z1) (size := z2) (A := A8) (c := c8) (acc := acc ++ [.mk (t : Int) 3 [] 0 0 []]) rfl (by rw [HLN9.out]; exact hc8) HR8.out (.slice A8 (k + 1) c8) (.int .i64 2) (.int .i64 b) (.string (strB name)) (.int .i64 z1) (.int .i64 z2) (.slice A8 (k + 1) c8)
                rw [HLN9.out] at hv
                refine ⟨_, _, rfl, hv, ?_, ?_, ?_⟩
                · exact exR_mk HRB.out HZ1.out HZ2.out HACC.out
                · exact HN.out.c.up fun j hj => (set6_blk _ _ _ _ _ _ _ _ (by omega)).trans (Below.heap_setCell _ _ _ _ (by show j ≠ w.heap.size; omega))
                · exact ((HN.out.h.k.setNew (p := ⟨w.heap.size, 5, none⟩) (Nat.le_refl _) _).set6 (Nat.le_succ _) _ _ _ _ _ _).keep
            have hn10 : ((j : Int) == 10) = false := beq_eq_false_iff_ne.2 (by omega)
            have hn11 : ((j : Int) == 11) = false := beq_eq_false_iff_ne.2 (by omega)
            obtain ⟨A8, c8, hv8, hc8, hrow8⟩ := HH6.out.h.slice
            injection hv8 with e81 e82 e83
            subst e81 e83
            clear e82
            have HR8 := Lib.hid hrow8
            have HACC := Lib.hid HH6.out.s
            obtain ⟨p0, p1, p2, p3, p4, p5, f0, f1, f2, f3, f4, f5, _⟩ := box6 (show w6.heap[w.heap.size]? = some (.cells #[.int .i64 2, .int .i64 b, .string (strB name), .int .i64 z1, .int .i64 z2, .slice A k q] 31 (0, 0)) from HH6.out.h.x)
            obtain ⟨r0, r1, r2, r3, r4, r5, g0, g1, g2, g3, g4, g5, _⟩ := box6 HH6.out.h.r
            clear hrow8 hc1 hk1 hj10 hj11 hc8 hln
            go_wp2_with fail
            refine bodyPost_ret (v := .agg #[.int .i64 2, .int .i64 b, .string (strB name), .int .i64 z1, .int .i64 z2, .slice A9 k c9]) ?_ rfl ?_
            · simp [results, Tryd.results8, go_sem, World.cell?_setCell_same, World.cell?_setCell_other, r0, r1, r2, r3, r4, r5]
            · have hv := ac_ret (op := 2) (value := b) (name := name) (slot := z1) (size := z2) (A := A9) (c := c9) (acc := acc) rfl (by rw [HLN.out]; exact hc9) HR8.out (.slice A9 k c9) (.int .i64 2) (.int .i64 b) (.string (strB name)) (.int .i64 z1) (.int .i64 z2) (.slice A9 k c9)
              rw [HLN.out] at hv
              refine ⟨_, _, rfl, hv, ?_, ?_, ?_⟩
              · exact exR_mk HRB.out HZ1.out HZ2.out HACC.out
              · exact HH6.out.c.up fun j hj => (set6_blk _ _ _ _ _ _ _ _ (by omega)).trans (Below.heap_setCell _ _ _ _ (by show j ≠ w.heap.size; omega))
              · exact ((HH6.out.h.k.setNew (p := ⟨w.heap.size, 5, none⟩) (Nat.le_refl _) _).set6 (Nat.le_succ _) _ _ _ _ _ _).keep
          | succ g =>
            obtain ⟨p0, p1, p2, p3, p4, p5, f0, f1, f2, f3, f4, f5, _⟩ := box6 (show wr.heap[w.heap.size]? = some (.cells #[.int .i64 2, .int .i64 b, .string (strB name), .int .i64 z1, .int .i64 z2, .slice A m q] 31 (0, 0)) from HH.out.h.x)
            have hlt : k < m := by omega
            have HG := Lib.hid hkg
            clear hkg
            obtain ⟨e1, he1⟩ : ∃ e1, args[k]? = some e1 := ⟨_, List.getElem?_eq_getElem (by have := HM.out; omega)⟩
            have hbg := Ex.big_at args k e1 he1
            have hre := exRL_at args k e1 HRA.out he1
            obtain ⟨bb, o, rfl, hS, hrow⟩ := HRW.out (fun e => by have := HM.out; rw [e] at this; simp at this; omega)
            obtain ⟨cs, hcs, hex⟩ := ExRow.get args bb o k e1 hrow he1
            obtain ⟨a1, b1, s1, c1, d1, A1, l1, q1, rfl⟩ := hex.plain
            have hbb : bb < w.heap.size := hcs.lt
            have hbc : bb ≠ cb := HNS.out bb hS
            have hw : ∀ j u, w.cell? ⟨bb, j, none⟩ = some u → wr.cell? ⟨bb, j, none⟩ = some u := fun j u hu => HH.out.h.k.keep.cell hu hbc
            have y0 := hw _ _ (hcs 0 _ rfl)
            have y1 := hw _ _ (hcs 1 _ rfl)
            have y2 := hw _ _ (hcs 2 _ rfl)
            have y3 := hw _ _ (hcs 3 _ rfl)
            have y4 := hw _ _ (hcs 4 _ rfl)
            have y5 := hw _ _ (hcs 5 _ rfl)
            rw [Nat.add_zero] at y0
            have hd0 := HD.out
            have HEX := Lib.hid (IH.out e1 (by omega) hre B cb S HNS.out wr a1 b1 s1 c1 d1 A1 l1 q1 HH.out.c (ExL.still (fun j hj1 hj2 => ⟨hj1, HH.out.h.k.keep.block j hj2 (HNS.out j hj1)⟩) e1 _ hex))
            clear hw hcs hrow he1 hex hbg hd0 hre
            go_wp2_with fail
            refine HEX.out.mono ?_
            rintro e' w2 ⟨e2, v2, rfl, ⟨x0, x1, x2, x3, x4, xA, xl, xq, rfl, hl⟩, hsm, hc, hk⟩
            have HL2 := Lib.hid hl
            have HC2' := Lib.hid hc
            have HK2' := Lib.hid hk
            have HSM := Lib.hid hsm
            have HA2 := Lib.hid (HH.out.h.keep (fun r hr => by injection hr with hr; omega) rfl (KeepO.of_keep hk))
            have hz2 := hk.size
            clear hc hk hl hsm y0 y1 y2 y3 y4 y5 p0 p1 p2 p3 p4 p5 f0 f1 f2 f3 f4 f5
            go_wp2_with (at_builtin; refine wpList_append_own_at _ rfl _ _ 29 rfl (w.heap.size + 2) 31 i0 _ 6 72 Tryd.underlying29 HI.out HI0.out HI1.out HI2.out rfl (by decide) _ _ _ rfl (HA2.out.o.alloc _) ⟨w2.heap.size, 0, none⟩ 1 1 [.int .i64 x0, .int .i64 x1, .string x2, .int .i64 x3, .int .i64 x4, .slice xA xl xq] rfl rfl (ex_new _ _ _) (by simp [Value.oneCell']) (by rw [HLN.out]; unfold maxLen; omega) (by rw [HLN.out]; omega) (by rw [new_size]; omega) ?_)
            intro v9 w9 hown hgrow _ hob
            have HN := Lib.hid (PlHead.next HH.out hcb HK2'.out HC2'.out HSM.out HL2.out hown hgrow hob)
            clear hown hgrow hob
            go_wp2_with fail
            go_roundg g
            case rel => exact ⟨k + 1, _, _, by have := HG.out; omega, by go_num, HN.out⟩
            case measure => omega
      · have h9' : ((j3 : Int) == 9) = false := beq_eq_false_iff_ne.2 (by omega)
        clear h9
        obtain ⟨z0, z1, z2, z3, z4, z5, y0, y1, y2, y3, y4, y5, hlt2⟩ := box6 HX3.out
        go_wp2_with fail
        clear z0 z1 z2 z3 z4 z5 y0 y1 y2 y3 y4 y5
        have HST : Hid (PlHead B cb w 0 [.int .i64 2, .int .i64 b, .string (strB name), .int .i64 ((j1 : Int) - 1), .int .i64 (j2 : Int), .slice A m q] [] (.slice none 0 0) w3 []) := ⟨⟨KeepO.of_keep HK3.out, HX3.out, HY3.out, World.ownsRow_nil _ _ _ _, trivial⟩, HC3.out, rfl, fun x hx => (by simp at hx)⟩
        go_loopg [5, 6, 34] m (fun g v _ i wr => ∃ (k : Nat) (acc : List Ex) (css : List (List Value)), k + g = m ∧ i = .int .i64 k ∧ PlHead B cb w k [.int .i64 2, .int .i64 b, .string (strB name), .int .i64 ((j1 : Int) - 1), .int .i64 (j2 : Int), .slice A m q] acc v wr css)
        case atStart => exact ⟨0, [], [], by omega, rfl, HST.out⟩
        case round =>
          obtain ⟨k, acc, css, hkg, rfl, hh⟩ := hrel
          have HH := Lib.hid hh
          have hz0 := hh.h.k.size
          have hzx := lt_of_block hh.h.x
          have hzr := lt_of_block hh.h.r
          have hln := hh.n
          have HLN := Lib.hid hln
          clear hh
          cases gk with
          | zero =>
            have hkm : k = m := by omega
            subst hkm
            obtain ⟨A9, c9, hv9, hc9, hrow⟩ := HH.out.h.slice
            have hown := HH.out.h.o
            rw [hln] at hv9 hc9
            rw [hln] at hown
            subst hv9
            have HRO := Lib.hid hrow
            have HOW := Lib.hid hown
            have hnlt : ¬ k < k := by omega
            clear hkg hrow hown
            go_wp2_with fail
            refine (next_keep B cb 12 _ HH.out.c (by decide) (by decide)).mono ?_
            rintro e0 w6 ⟨j, hj, rfl, hc1, hk1⟩
            have HH6 := Lib.hid (HH.out.keep hcb hk1 hc1)
            have hz6 := hk1.size
            by_cases hj10 : j = 10
            · subst hj10
              go_wp2_with fail
              have HNX := Lib.hid (next_keep B cb (k + 1) w6 HH6.out.c (by omega) (by omega))
              rw [Int.natCast_add, Int.natCast_one] at HNX
              refine HNX.out.mono ?_
              rintro e0 w7 ⟨t, ht, rfl, hc2, hk2⟩
              have HH7 := Lib.hid (HH6.out.keep hcb hk2 hc2)
              have hz7 := hk2.size
              have ht' : (t : Int) ≤ (k : Int) := by omega
              have hck : (k : Int) ≤ (c9 : Int) := by omega
              have HACC : Hid (∀ x ∈ acc.take t, exR x) := fun x hx => HH.out.s x (List.mem_of_mem_take hx)
              have HLT : Hid ((acc.take t).length = t) := by show _ = _; rw [List.length_take, hln]; omega
              obtain ⟨p0, p1, p2, p3, p4, p5, f0, f1, f2, f3, f4, f5, _⟩ := box6 (show w7.heap[w.heap.size]? = some (.cells #[.int .i64 2, .int .i64 b, .string (strB name), .int .i64 ((j1 : Int) - 1), .int .i64 (j2 : Int), .slice A k q] 31 (0, 0)) from HH7.out.h.x)
              obtain ⟨r0, r1, r2, r3, r4, r5, g0, g1, g2, g3, g4, g5, _⟩ := box6 HH7.out.h.r
              obtain ⟨A8, c8, hv8, hc8, hrow8⟩ := HH7.out.h.slice
              injection hv8 with e81 e82 e83
              subst e81 e83
              clear e82
              have HRT : Hid (acc.take t ≠ [] → ∃ b o, A9 = some ⟨b, o, none⟩ ∧ w.heap.size + 2 ≤ b ∧ ExRow (From (w.heap.size + 2)) w7 (acc.take t) b o) := fun hne => by
                obtain ⟨b, o, h1, h2, h3⟩ := hrow8 (fun e => hne (by rw [e]; exact List.take_nil))
                exact ⟨b, o, h1, h2, exrow_take acc t b o h3⟩
              clear hc1 hk1 hc2 hk2 HNX hln hrow8 hc8
              rcases HOW.out.2 with ⟨hv, hk0⟩ | ⟨g, cap, cur, hv, _⟩
              · injection hv with e1 e2 e3
                subst e1 e3
                have hk00 : k = 0 := by omega
                subst hk00
                obtain rfl : t = 0 := by omega
                go_wp2_with fail
                refine bodyPost_ret (v := .agg #[.int .i64 2, .int .i64 b, .string (strB name), .int .i64 ((j1 : Int) - 1), .int .i64 (j2 : Int), .slice none 0 0]) ?_ rfl ?_
                · simp [results, Tryd.results8, go_sem, World.cell?_setCell_same, World.cell?_setCell_other, r0, r1, r2, r3, r4, r5]
                · have hv := ac_ret (op := 2) (value := b) (name := name) (slot := ((j1 : Int) - 1)) (size := (j2 : Int)) (A := none) (c := 0) (acc := acc.take 0) rfl (by rw [HLT.out]; exact (Nat.zero_le _)) HRT.out (.slice none 0 0) (.int .i64 2) (.int .i64 b) (.string (strB name)) (.int .i64 ((j1 : Int) - 1)) (.int .i64 (j2 : Int)) (.slice none 0 0)
                  rw [HLT.out] at hv
                  refine ⟨_, _, rfl, hv, ?_, ?_, ?_⟩
                  · exact exR_mk HRB.out (by constructor <;> omega) (by constructor <;> omega) HACC.out
                  · exact HH7.out.c.up fun j hj => (set6_blk _ _ _ _ _ _ _ _ (by omega)).trans (Below.heap_setCell _ _ _ _ (by show j ≠ w.heap.size; omega))
                  · exact ((HH7.out.h.k.setNew (p := ⟨w.heap.size, 5, none⟩) (Nat.le_refl _) _).set6 (Nat.le_succ _) _ _ _ _ _ _).keep
              · injection hv with e1 e2 e3
                subst e1 e3
                have hct : t ≤ c9 := by omega
                go_wp2_with fail
                refine bodyPost_ret (v := .agg #[.int .i64 2, .int .i64 b, .string (strB name), .int .i64 ((j1 : Int) - 1), .int .i64 (j2 : Int), .slice (some ⟨g, 0, none⟩) t c9]) ?_ rfl ?_
                · simp [results, Tryd.results8, go_sem, World.cell?_setCell_same, World.cell?_setCell_other, r0, r1, r2, r3, r4, r5]
                · have hv := ac_ret (op := 2) (value := b) (name := name) (slot := ((j1 : Int) - 1)) (size := (j2 : Int)) (A := (some ⟨g, 0, none⟩)) (c := c9) (acc := acc.take t) rfl (by rw [HLT.out]; exact hct) HRT.out (.slice (some ⟨g, 0, none⟩) t c9) (.int .i64 2) (.int .i64 b) (.string (strB name)) (.int .i64 ((j1 : Int) - 1)) (.int .i64 (j2 : Int)) (.slice (some ⟨g, 0, none⟩) t c9)
                  rw [HLT.out] at hv
                  refine ⟨_, _, rfl, hv, ?_, ?_, ?_⟩
                  · exact exR_mk HRB.out (by constructor <;> omega) (by constructor <;> omega) HACC.out
                  · exact HH7.out.c.up fun j hj => (set6_blk _ _ _ _ _ _ _ _ (by omega)).trans (Below.heap_setCell _ _ _ _ (by show j ≠ w.heap.size; omega))
                  · exact ((HH7.out.h.k.setNew (p := ⟨w.heap.size, 5, none⟩) (Nat.le_refl _) _).set6 (Nat.le_succ _) _ _ _ _ _ _).keep
            by_cases hj11 : j = 11
            · subst hj11
              clear hj10
              go_wp2_with fail
              refine (next_keep B cb 30 _ HH6.out.c (by decide) (by decide)).mono ?_
              rintro e0 w7 ⟨t, ht, rfl, hc2, hk2⟩
              have HH7 := Lib.hid (HH6.out.keep hcb hk2 hc2)
              have hz7 := hk2.size
              have HK7 := Lib.hid hk2
              have HC7 := Lib.hid hc2
              have HEX7 : Hid (ExL (From w6.heap.size) w7 (.mk (t : Int) 3 [] 0 0 []) [.int .i64 t, .int .i64 3, .string ⟨#[]⟩, .int .i64 0, .int .i64 0, .slice none 0 0]) := by
                show ExL _ _ _ _
                simp only [ExL]
                exact ⟨none, 0, rfl, Nat.le_refl _, fun h => absurd rfl h⟩
              have hlk := hln
              clear hc1 hk1 hc2 hk2
              go_wp2_with (at_builtin; refine wpList_append_own_at _ rfl _ _ 29 rfl (w.heap.size + 2) 31 i0 _ 6 72 Tryd.underlying29 HI.out HI0.out HI1.out HI2.out rfl (by decide) _ _ _ rfl (HH7.out.h.o.alloc _) ⟨w7.heap.size, 0, none⟩ 1 1 [.int .i64 t, .int .i64 3, .string ⟨#[]⟩, .int .i64 0, .int .i64 0, .slice none 0 0] rfl rfl (ex_new _ _ _) (by simp [Value.oneCell']) (by rw [HLN.out]; unfold maxLen; omega) (by rw [HLN.out]; omega) (by rw [new_size]; omega) ?_)
              intro v9 w9 hown hgrow _ hob
              have HN := Lib.hid (PlHead.next HH6.out hcb HK7.out HC7.out (exR_mk (op := (t : Int)) (name := []) (by constructor <;> decide) (by constructor <;> decide) (by constructor <;> decide) (fun x hx => by simp at hx)) HEX7.out hown hgrow hob)
              clear hown hgrow hob hln hlk
              obtain ⟨A8, c8, hv8, hc8, hrow8⟩ := HN.out.h.slice
              have hln9 := HN.out.n
              have HLN9 := Lib.hid hln9
              rw [hln9] at hv8 hc8
              have HR8 := Lib.hid hrow8
              have HACC := Lib.hid HN.out.s
              obtain ⟨p0, p1, p2, p3, p4, p5, f0, f1, f2, f3, f4, f5, _⟩ := box6 (show w9.heap[w.heap.size]? = some (.cells #[.int .i64 2, .int .i64 b, .string (strB name), .int .i64 ((j1 : Int) - 1), .int .i64 (j2 : Int), .slice A k q] 31 (0, 0)) from HN.out.h.x)
              obtain ⟨r0, r1, r2, r3, r4, r5, g0, g1, g2, g3, g4, g5, _⟩ := box6 HN.out.h.r
              subst hv8
              clear hrow8 hln9
              go_wp2_with fail
              refine bodyPost_ret (v := .agg #[.int .i64 2, .int .i64 b, .string (strB name), .int .i64 ((j1 : Int) - 1), .int .i64 (j2 : Int), .slice A8 (k + 1) c8]) ?_ rfl ?_
              · simp [results, Tryd.results8, go_sem, World.cell?_setCell_same, World.cell?_setCell_other, r0, r1, r2, r3, r4, r5]
              · have hv := ac_ret (op := 2) (value := b) (name := name) (slot := ((j1 : Int) - 1)) (size := (j2 : Int)) (A := A8) (c := c8) (acc := acc ++ [.mk (t : Int) 3 [] 0 0 []]) rfl (by rw [HLN9.out]; exact hc8) HR8.out (.slice A8 (k + 1) c8) (.int .i64 2) (.int .i64 b) (.string (strB name)) (.int .i64 ((j1 : Int) - 1)) (.int .i64 (j2 : Int)) (.slice A8 (k + 1) c8)
                rw [HLN9.out] at hv
                refine ⟨_, _, rfl, hv, ?_, ?_, ?_⟩
                · exact exR_mk HRB.out (by constructor <;> omega) (by constructor <;> omega) HACC.out
                · exact HN.out.c.up fun j hj => (set6_blk _ _ _ _ _ _ _ _ (by omega)).trans (Below.heap_setCell _ _ _ _ (by show j ≠ w.heap.size; omega))
                · exact ((HN.out.h.k.setNew (p := ⟨w.heap.size, 5, none⟩) (Nat.le_refl _) _).set6 (Nat.le_succ _) _ _ _ _ _ _).keep
            have hn10 : ((j : Int) == 10) = false := beq_eq_false_iff_ne.2 (by omega)
            have hn11 : ((j : Int) == 11) = false := beq_eq_false_iff_ne.2 (by omega)
            obtain ⟨A8, c8, hv8, hc8, hrow8⟩ := HH6.out.h.slice
            injection hv8 with e81 e82 e83
            subst e81 e83
            clear e82
            have HR8 := Lib.hid hrow8
            have HACC := Lib.hid HH6.out.s
            obtain ⟨p0, p1, p2, p3, p4, p5, f0, f1, f2, f3, f4, f5, _⟩ := box6 (show w6.heap[w.heap.size]? = some (.cells #[.int .i64 2, .int .i64 b, .string (strB name), .int .i64 ((j1 : Int) - 1), .int .i64 (j2 : Int), .slice A k q] 31 (0, 0)) from HH6.out.h.x)
            obtain ⟨r0, r1, r2, r3, r4, r5, g0, g1, g2, g3, g4, g5, _⟩ := box6 HH6.out.h.r
            clear hrow8 hc1 hk1 hj10 hj11 hc8 hln
            go_wp2_with fail
            refine bodyPost_ret (v := .agg #[.int .i64 2, .int .i64 b, .string (strB name), .int .i64 ((j1 : Int) - 1), .int .i64 (j2 : Int), .slice A9 k c9]) ?_ rfl ?_
            · simp [results, Tryd.results8, go_sem, World.cell?_setCell_same, World.cell?_setCell_other, r0, r1, r2, r3, r4, r5]
            · have hv := ac_ret (op := 2) (value := b) (name := name) (slot := ((j1 : Int) - 1)) (size := (j2 : Int)) (A := A9) (c := c9) (acc := acc) rfl (by rw [HLN.out]; exact hc9) HR8.out (.slice A9 k c9) (.int .i64 2) (.int .i64 b) (.string (strB name)) (.int .i64 ((j1 : Int) - 1)) (.int .i64 (j2 : Int)) (.slice A9 k c9)
              rw [HLN.out] at hv
              refine ⟨_, _, rfl, hv, ?_, ?_, ?_⟩
              · exact exR_mk HRB.out (by constructor <;> omega) (by constructor <;> omega) HACC.out
              · exact HH6.out.c.up fun j hj => (set6_blk _ _ _ _ _ _ _ _ (by omega)).trans (Below.heap_setCell _ _ _ _ (by show j ≠ w.heap.size; omega))
              · exact ((HH6.out.h.k.setNew (p := ⟨w.heap.size, 5, none⟩) (Nat.le_refl _) _).set6 (Nat.le_succ _) _ _ _ _ _ _).keep
          | succ g =>
            obtain ⟨p0, p1, p2, p3, p4, p5, f0, f1, f2, f3, f4, f5, _⟩ := box6 (show wr.heap[w.heap.size]? = some (.cells #[.int .i64 2, .int .i64 b, .string (strB name), .int .i64 ((j1 : Int) - 1), .int .i64 (j2 : Int), .slice A m q] 31 (0, 0)) from HH.out.h.x)
            have hlt : k < m := by omega
            have HG := Lib.hid hkg
            clear hkg
            obtain ⟨e1, he1⟩ : ∃ e1, args[k]? = some e1 := ⟨_, List.getElem?_eq_getElem (by have := HM.out; omega)⟩
            have hbg := Ex.big_at args k e1 he1
            have hre := exRL_at args k e1 HRA.out he1
            obtain ⟨bb, o, rfl, hS, hrow⟩ := HRW.out (fun e => by have := HM.out; rw [e] at this; simp at this; omega)
            obtain ⟨cs, hcs, hex⟩ := ExRow.get args bb o k e1 hrow he1
            obtain ⟨a1, b1, s1, c1, d1, A1, l1, q1, rfl⟩ := hex.plain
            have hbb : bb < w.heap.size := hcs.lt
            have hbc : bb ≠ cb := HNS.out bb hS
            have hw : ∀ j u, w.cell? ⟨bb, j, none⟩ = some u → wr.cell? ⟨bb, j, none⟩ = some u := fun j u hu => HH.out.h.k.keep.cell hu hbc
            have y0 := hw _ _ (hcs 0 _ rfl)
            have y1 := hw _ _ (hcs 1 _ rfl)
            have y2 := hw _ _ (hcs 2 _ rfl)
            have y3 := hw _ _ (hcs 3 _ rfl)
            have y4 := hw _ _ (hcs 4 _ rfl)
            have y5 := hw _ _ (hcs 5 _ rfl)
            rw [Nat.add_zero] at y0
            have hd0 := HD.out
            have HEX := Lib.hid (IH.out e1 (by omega) hre B cb S HNS.out wr a1 b1 s1 c1 d1 A1 l1 q1 HH.out.c (ExL.still (fun j hj1 hj2 => ⟨hj1, HH.out.h.k.keep.block j hj2 (HNS.out j hj1)⟩) e1 _ hex))
            clear hw hcs hrow he1 hex hbg hd0 hre
            go_wp2_with fail
            refine HEX.out.mono ?_
            rintro e' w2 ⟨e2, v2, rfl, ⟨x0, x1, x2, x3, x4, xA, xl, xq, rfl, hl⟩, hsm, hc, hk⟩
            have HL2 := Lib.hid hl
            have HC2' := Lib.hid hc
            have HK2' := Lib.hid hk
            have HSM := Lib.hid hsm
            have HA2 := Lib.hid (HH.out.h.keep (fun r hr => by injection hr with hr; omega) rfl (KeepO.of_keep hk))
            have hz2 := hk.size
            clear hc hk hl hsm y0 y1 y2 y3 y4 y5 p0 p1 p2 p3 p4 p5 f0 f1 f2 f3 f4 f5
            go_wp2_with (at_builtin; refine wpList_append_own_at _ rfl _ _ 29 rfl (w.heap.size + 2) 31 i0 _ 6 72 Tryd.underlying29 HI.out HI0.out HI1.out HI2.out rfl (by decide) _ _ _ rfl (HA2.out.o.alloc _) ⟨w2.heap.size, 0, none⟩ 1 1 [.int .i64 x0, .int .i64 x1, .string x2, .int .i64 x3, .int .i64 x4, .slice xA xl xq] rfl rfl (ex_new _ _ _) (by simp [Value.oneCell']) (by rw [HLN.out]; unfold maxLen; omega) (by rw [HLN.out]; omega) (by rw [new_size]; omega) ?_)
            intro v9 w9 hown hgrow _ hob
            have HN := Lib.hid (PlHead.next HH.out hcb HK2'.out HC2'.out HSM.out HL2.out hown hgrow hob)
            clear hown hgrow hob
            go_wp2_with fail
            go_roundg g
            case rel => exact ⟨k + 1, _, _, by have := HG.out; omega, by go_num, HN.out⟩
            case measure => omega
    · skip
      go_enter Tryd.func8, Tryd.ntmps8
      go_wp2_with fail
      refine (next_keep B cb 8 _ HCW.out (by decide) (by decide)).mono ?_
      rintro e0 w1 ⟨j1, hj1, rfl, hc1, hk1⟩
      have hj1' : (j1 : Int) < 8 := by omega
      have HC1 := Lib.hid hc1
      have HK1 := Lib.hid (HKW.out.trans hk1)
      have HX1 := Lib.hid (hk1.blk HXW.out (by omega))
      have HY1 := Lib.hid (hk1.blk HYW.out (by omega))
      clear hc1 hk1
      go_wp2_with fail
      refine (next_keep B cb 6 _ HC1.out (by decide) (by decide)).mono ?_
      rintro e0 w2 ⟨j2, hj2, rfl, hc1, hk1⟩
      have HC2 := Lib.hid hc1
      have HK2 := Lib.hid (HK1.out.trans hk1)
      have HX2 := Lib.hid (hk1.blk HX1.out (by omega))
      have HY2 := Lib.hid (hk1.blk HY1.out (by omega))
      obtain ⟨z0, z1, z2, z3, z4, z5, y0, y1, y2, y3, y4, y5, hlt1⟩ := box6 HX2.out
      clear hc1 hk1
      go_upto_region 3 with fail
      clear z0 z1 z2 z3 z4 z5 y0 y1 y2 y3 y4 y5
      obtain ⟨W2, hW2⟩ : ∃ W2, (w2.setCell ⟨w.heap.size, 3, none⟩ (.int .i64 ((j1 : Int) - 1))).setCell ⟨w.heap.size, 4, none⟩ (.int .i64 j2) = W2 := ⟨_, rfl⟩
      have HKs := Lib.hid (show KeepO (some cb) w W2 by rw [← hW2]; exact (KeepO.of_keep HK2.out).setNew (p := ⟨w.heap.size, 3, none⟩) (Nat.le_refl _) _ |>.setNew (p := ⟨w.heap.size, 4, none⟩) (Nat.le_refl _) _)
      have HXs := Lib.hid (show W2.heap[w.heap.size]? = some (.cells #[.int .i64 3, .int .i64 b, .string (strB name), .int .i64 ((j1 : Int) - 1), .int .i64 j2, .slice A m q] 31 (0, 0)) by rw [← hW2]; exact blk_set (blk_set HX2.out 3 _) 4 _)
      have HYs := Lib.hid (show W2.heap[w.heap.size + 1]? = some (.cells #[.int .i64 0, .int .i64 0, .string ⟨#[]⟩, .int .i64 0, .int .i64 0, .slice none 0 0] 31 (0, 0)) by rw [← hW2]; exact ((Below.heap_setCell _ ⟨w.heap.size, 4, none⟩ _ _ (by show _ ≠ w.heap.size; omega)).trans (Below.heap_setCell _ ⟨w.heap.size, 3, none⟩ _ _ (by show _ ≠ w.heap.size; omega))).trans HY2.out)
      have HCs := Lib.hid (show CodesIn B W2 cb by rw [← hW2]; exact HC2.out.up fun k hk => (Below.heap_setCell _ ⟨w.heap.size, 4, none⟩ _ _ (by show _ ≠ w.heap.size; omega)).trans (Below.heap_setCell _ ⟨w.heap.size, 3, none⟩ _ _ (by show _ ≠ w.heap.size; omega)))
      simp only [hW2]
      clear hW2
      go_wp2_with fail
      refine (next_keep B cb 10 _ HCs.out (by decide) (by decide)).mono ?_
      rintro e0 w3 ⟨j3, hj3, rfl, hc1, hk1⟩
      have HC3 := Lib.hid hc1
      have HK3 := Lib.hid (HKs.out.keep.trans hk1)
      have HX3 := Lib.hid (hk1.blk HXs.out (by omega))
      have HY3 := Lib.hid (hk1.blk HYs.out (by omega))
      clear hc1 hk1 HKs HXs HYs HCs
      by_cases h9 : j3 = 9
      · subst h9
        go_wp2_with fail
        refine (int_any B cb _ HC3.out).mono ?_
        rintro e0 w4 ⟨z1, rfl, hz1, hc1, hk1⟩
        have HZ1 := Lib.hid hz1
        have HC4 := Lib.hid hc1
        have HK4 := Lib.hid (HK3.out.trans hk1)
        have HX4 := Lib.hid (hk1.blk HX3.out (by omega))
        have HY4 := Lib.hid (hk1.blk HY3.out (by omega))
        clear hc1 hk1 hz1
        go_wp2_with fail
        refine (int_any B cb _ HC4.out).mono ?_
        rintro e0 w5 ⟨z2, rfl, hz2, hc1, hk1⟩
        have HZ2 := Lib.hid hz2
        have HC5 := Lib.hid hc1
        have HK5 := Lib.hid (HK4.out.trans hk1)
        have HX5 := Lib.hid (hk1.blk HX4.out (by omega))
        have HY5 := Lib.hid (hk1.blk HY4.out (by omega))
        obtain ⟨z0', z1', z2', z3', z4', z5', y0, y1, y2, y3, y4, y5, hlt2⟩ := box6 HX5.out
        clear hc1 hk1 hz2
        go_wp2_with fail
        clear z0' z1' z2' z3' z4' z5' y0 y1 y2 y3 y4 y5
        have HST : Hid (PlHead B cb w 0 [.int .i64 3, .int .i64 b, .string (strB name), .int .i64 z1, .int .i64 z2, .slice A m q] [] (.slice none 0 0) _ []) := ⟨⟨(KeepO.of_keep HK5.out).setNew (p := ⟨w.heap.size, 3, none⟩) (Nat.le_refl _) _ |>.setNew (p := ⟨w.heap.size, 4, none⟩) (Nat.le_refl _) _, blk_set (blk_set HX5.out 3 _) 4 _, ((Below.heap_setCell _ ⟨w.heap.size, 4, none⟩ _ _ (by show _ ≠ w.heap.size; omega)).trans (Below.heap_setCell _ ⟨w.heap.size, 3, none⟩ _ _ (by show _ ≠ w.heap.size; omega))).trans HY5.out, World.ownsRow_nil _ _ _ _, trivial⟩, HC5.out.up fun k hk => (Below.heap_setCell _ ⟨w.heap.size, 4, none⟩ _ _ (by show _ ≠ w.heap.size; omega)).trans (Below.heap_setCell _ ⟨w.heap.size, 3, none⟩ _ _ (by show _ ≠ w.heap.size; omega)), rfl, fun x hx => (by simp at hx)⟩
        go_loopg [5, 6, 34] m (fun g v _ i wr => ∃ (k : Nat) (acc : List Ex) (css : List (List Value)), k + g = m ∧ i = .int .i64 k ∧ PlHead B cb w k [.int .i64 3, .int .i64 b, .string (strB name), .int .i64 z1, .int .i64 z2, .slice A m q] acc v wr css)
        case atStart => exact ⟨0, [], [], by omega, rfl, HST.out⟩
        case round =>
          obtain ⟨k, acc, css, hkg, rfl, hh⟩ := hrel
          have HH := Lib.hid hh
          have hz0 := hh.h.k.size
          have hzx := lt_of_block hh.h.x
          have hzr := lt_of_block hh.h.r
          have hln := hh.n
          have HLN := Lib.hid hln
          clear hh
          cases gk with
          | zero =>
            have hkm : k = m := by omega
            subst hkm
            obtain ⟨A9, c9, hv9, hc9, hrow⟩ := HH.out.h.slice
            have hown := HH.out.h.o
            rw [hln] at hv9 hc9
            rw [hln] at hown
            subst hv9
            have HRO := Lib.hid hrow
            have HOW := Lib.hid hown
            have hnlt : ¬ k < k := by omega
            clear hkg hrow hown
            go_wp2_with fail
            refine (next_keep B cb 12 _ HH.out.c (by decide) (by decide)).mono ?_
            rintro e0 w6 ⟨j, hj, rfl, hc1, hk1⟩
            have HH6 := Lib.hid (HH.out.keep hcb hk1 hc1)
            have hz6 := hk1.size
            by_cases hj10 : j = 10
            · subst hj10
              go_wp2_with fail
              have HNX := Lib.hid (next_keep B cb (k + 1) w6 HH6.out.c (by omega) (by omega))
              rw [Int.natCast_add, Int.natCast_one] at HNX
              refine HNX.out.mono ?_
              rintro e0 w7 ⟨t, ht, rfl, hc2, hk2⟩
              have HH7 := Lib.hid (HH6.out.keep hcb hk2 hc2)
              have hz7 := hk2.size
              have ht' : (t : Int) ≤ (k : Int) := by omega
              have hck : (k : Int) ≤ (c9 : Int) := by omega
              have HACC : Hid (∀ x ∈ acc.take t, exR x) := fun x hx => HH.out.s x (List.mem_of_mem_take hx)
              have HLT : Hid ((acc.take t).length = t) := by show _ = _; rw [List.length_take, hln]; omega
              obtain ⟨p0, p1, p2, p3, p4, p5, f0, f1, f2, f3, f4, f5, _⟩ := box6 (show w7.heap[w.heap.size]? = some (.cells #[.int .i64 3, .int .i64 b, .string (strB name), .int .i64 z1, .int .i64 z2, .slice A k q] 31 (0, 0)) from HH7.out.h.x)
              obtain ⟨r0, r1, r2, r3, r4, r5, g0, g1, g2, g3, g4, g5, _⟩ := box6 HH7.out.h.r
              obtain ⟨A8, c8, hv8, hc8, hrow8⟩ := HH7.out.h.slice
              injection hv8 with e81 e82 e83
              subst e81 e83
              clear e82
              have HRT : Hid (acc.take t ≠ [] → ∃ b o, A9 = some ⟨b, o, none⟩ ∧ w.heap.size + 2 ≤ b ∧ ExRow (From (w.heap.size + 2)) w7 (acc.take t) b o) := fun hne => by
                obtain ⟨b, o, h1, h2, h3⟩ := hrow8 (fun e => hne (by rw [e]; exact List.take_nil))
                exact ⟨b, o, h1, h2, exrow_take acc t b o h3⟩
              clear hc1 hk1 hc2 hk2 HNX hln hrow8 hc8
              rcases HOW.out.2 with ⟨hv, hk0⟩ | ⟨g, cap, cur, hv, _⟩
              · injection hv with e1 e2 e3
                subst e1 e3
                have hk00 : k = 0 := by omega
                subst hk00
                obtain rfl : t = 0 := by omega
                go_wp2_with fail
                refine bodyPost_ret (v := .agg #[.int .i64 3, .int .i64 b, .string (strB name), .int .i64 z1, .int .i64 z2, .slice none 0 0]) ?_ rfl ?_
                · simp [results, Tryd.results8, go_sem, World.cell?_setCell_same, World.cell?_setCell_other, r0, r1, r2, r3, r4, r5]
                · have hv := ac_ret (op := 3) (value := b) (name := name) (slot := z1) (size := z2) (A := none) (c := 0) (acc := acc.take 0) rfl (by rw [HLT.out]; exact (Nat.zero_le _)) HRT.out (.slice none 0 0) (.int .i64 3) (.int .i64 b) (.string (strB name)) (.int .i64 z1) (.int .i64 z2) (.slice none 0 0)
                  rw [HLT.out] at hv
                  refine ⟨_, _, rfl, hv, ?_, ?_, ?_⟩
                  · exact exR_mk HRB.out HZ1.out HZ2.out HACC.out
                  · exact HH7.out.c.up fun j hj => (set6_blk _ _ _ _ _ _ _ _ (by omega)).trans (Below.heap_setCell _ _ _ _ (by show j ≠ w.heap.size; omega))
                  · exact ((HH7.out.h.k.setNew (p := ⟨w.heap.size, 5, none⟩) (Nat.le_refl _) _).set6 (Nat.le_succ _) _ _ _ _ _ _).keep
              · injection hv with e1 e2 e3
                subst e1 e3
                have hct : t ≤ c9 := by omega
                go_wp2_with fail
                refine bodyPost_ret (v := .agg #[.int .i64 3, .int .i64 b, .string (strB name), .int .i64 z1, .int .i64 z2, .slice (some ⟨g, 0, none⟩) t c9]) ?_ rfl ?_
                · simp [results, Tryd.results8, go_sem, World.cell?_setCell_same, World.cell?_setCell_other, r0, r1, r2, r3, r4, r5]
                · have hv := ac_ret (op := 3) (value := b) (name := name) (slot := z1) (size := z2) (A := (some ⟨g, 0, none⟩)) (c := c9) (acc := acc.take t) rfl (by rw [HLT.out]; exact hct) HRT.out (.slice (some ⟨g, 0, none⟩) t c9) (.int .i64 3) (.int .i64 b) (.string (strB name)) (.int .i64 z1) (.int .i64 z2) (.slice (some ⟨g, 0, none⟩) t c9)
                  rw [HLT.out] at hv
                  refine ⟨_, _, rfl, hv, ?_, ?_, ?_⟩
                  · exact exR_mk HRB.out HZ1.out HZ2.out HACC.out
                  · exact HH7.out.c.up fun j hj => (set6_blk _ _ _ _ _ _ _ _ (by omega)).trans (Below.heap_setCell _ _ _ _ (by show j ≠ w.heap.size; omega))
                  · exact ((HH7.out.h.k.setNew (p := ⟨w.heap.size, 5, none⟩) (Nat.le_refl _) _).set6 (Nat.le_succ _) _ _ _ _ _ _).keep
            by_cases hj11 : j = 11
            · subst hj11
              clear hj10
              go_wp2_with fail
              refine (next_keep B cb 30 _ HH6.out.c (by decide) (by decide)).mono ?_
              rintro e0 w7 ⟨t, ht, rfl, hc2, hk2⟩
              have HH7 := Lib.hid (HH6.out.keep hcb hk2 hc2)
              have hz7 := hk2.size
              have HK7 := Lib.hid hk2
              have HC7 := Lib.hid hc2
              have HEX7 : Hid (ExL (From w6.heap.size) w7 (.mk (t : Int) 3 [] 0 0 []) [.int .i64 t, .int .i64 3, .string ⟨#[]⟩, .int .i64 0, .int .i64 0, .slice none 0 0]) := by
                show ExL _ _ _ _
                simp only [ExL]
                exact ⟨none, 0, rfl, Nat.le_refl _, fun h => absurd rfl h⟩
              have hlk := hln
              clear hc1 hk1 hc2 hk2
              go_wp2_with (at_builtin; refine wpList_append_own_at _ rfl _ _ 29 rfl (w.heap.size + 2) 31 i0 _ 6 72 Tryd.underlying29 HI.out HI0.out HI1.out HI2.out rfl (by decide) _ _ _ rfl (HH7.out.h.o.alloc _) ⟨w7.heap.size, 0, none⟩ 1 1 [.int .i64 t, .int .i64 3, .string ⟨#[]⟩, .int .i64 0, .int .i64 0, .slice none 0 0] rfl rfl (ex_new _ _ _) (by simp [Value.oneCell']) (by rw [HLN.out]; unfold maxLen; omega) (by rw [HLN.out]; omega) (by rw [new_size]; omega) ?_)
              intro v9 w9 hown hgrow _ hob
              have HN := Lib.hid (PlHead.next HH6.out hcb HK7.out HC7.out (exR_mk (op := (t : Int)) (name := []) (by constructor <;> decide) (by constructor <;> decide) (by constructor <;> decide) (fun x hx => by simp at hx)) HEX7.out hown hgrow hob)
              clear hown hgrow hob hln hlk
              obtain ⟨A8, c8, hv8, hc8, hrow8⟩ := HN.out.h.slice
              have hln9 := HN.out.n
              have HLN9 := Lib.hid hln9
              rw [hln9] at hv8 hc8
              have HR8 := Lib.hid hrow8
              have HACC := Lib.hid HN.out.s
              obtain ⟨p0, p1, p2, p3, p4, p5, f0, f1, f2, f3, f4, f5, _⟩ := box6 (show w9.heap[w.heap.size]? = some (.cells #[.int .i64 3, .int .i64 b, .string (strB name), .int .i64 z1, .int .i64 z2, .slice A k q] 31 (0, 0)) from HN.out.h.x)
              obtain ⟨r0, r1, r2, r3, r4, r5, g0, g1, g2, g3, g4, g5, _⟩ := box6 HN.out.h.r
              subst hv8
              clear hrow8 hln9
              go_wp2_with fail
              refine bodyPost_ret (v := .agg #[.int .i64 3, .int .i64 b, .string (strB name), .int .i64 z1, .int .i64 z2, .slice A8 (k + 1) c8]) ?_ rfl ?_
              · simp [results, Tryd.results8, go_sem, World.cell?_setCell_same, World.cell?_setCell_other, r0, r1, r2, r3, r4, r5]
              · have hv := ac_ret (op := 3) (value := b) (name := name) (slot := z1) (size := z2) (A := A8) (c := c8) (acc := acc ++ [.mk (t : Int) 3 [] 0 0 []]) rfl (by rw [HLN9.out]; exact hc8) HR8.out (.slice A8 (k + 1) c8) (.int .i64 3) (.int .i64 b) (.string (strB name)) (.int .i64 z1) (.int .i64 z2) (.slice A8 (k + 1) c8)
                rw [HLN9.out] at hv
                refine ⟨_, _, rfl, hv, ?_, ?_, ?_⟩
                · exact exR_mk HRB.out HZ1.out HZ2.out HACC.out
                · exact HN.out.c.up fun j hj => (set6_blk _ _ _ _ _ _ _ _ (by omega)).trans (Below.heap_setCell _ _ _ _ (by show j ≠ w.heap.size; omega))
                · exact ((HN.out.h.k.setNew (p := ⟨w.heap.size, 5, none⟩) (Nat.le_refl _) _).set6 (Nat.le_succ _) _ _ _ _ _ _).keep
            have hn10 : ((j : Int) == 10) = false := beq_eq_false_iff_ne.2 (by omega)
            have hn11 : ((j : Int) == 11) = false := beq_eq_false_iff_ne.2 (by omega)
            obtain ⟨A8, c8, hv8, hc8, hrow8⟩ := HH6.out.h.slice
            injection hv8 with e81 e82 e83
            subst e81 e83
            clear e82
            have HR8 := Lib.hid hrow8
            have HACC := Lib.hid HH6.out.s
            obtain ⟨p0, p1, p2, p3, p4, p5, f0, f1, f2, f3, f4, f5, _⟩ := box6 (show w6.heap[w.heap.size]? = some (.cells #[.int .i64 3, .int .i64 b, .string (strB name), .int .i64 z1, .int .i64 z2, .slice A k q] 31 (0, 0)) from HH6.out.h.x)
            obtain ⟨r0, r1, r2, r3, r4, r5, g0, g1, g2, g3, g4, g5, _⟩ := box6 HH6.out.h.r
            clear hrow8 hc1 hk1 hj10 hj11 hc8 hln
            go_wp2_with fail
            refine bodyPost_ret (v := .agg #[.int .i64 3, .int .i64 b, .string (strB name), .int .i64 z1, .int .i64 z2, .slice A9 k c9]) ?_ rfl ?_
            · simp [results, Tryd.results8, go_sem, World.cell?_setCell_same, World.cell?_setCell_other, r0, r1, r2, r3, r4, r5]
            · have hv := ac_ret (op := 3) (value := b) (name := name) (slot := z1) (size := z2) (A := A9) (c := c9) (acc := acc) rfl (by rw [HLN.out]; exact hc9) HR8.out (.slice A9 k c9) (.int .i64 3) (.int .i64 b) (.string (strB name)) (.int .i64 z1) (.int .i64 z2) (.slice A9 k c9)
              rw [HLN.out] at hv
              refine ⟨_, _, rfl, hv, ?_, ?_, ?_⟩
              · exact exR_mk HRB.out HZ1.out HZ2.out HACC.out
              · exact HH6.out.c.up fun j hj => (set6_blk _ _ _ _ _ _ _ _ (by omega)).trans (Below.heap_setCell _ _ _ _ (by show j ≠ w.heap.size; omega))
              · exact ((HH6.out.h.k.setNew (p := ⟨w.heap.size, 5, none⟩) (Nat.le_refl _) _).set6 (Nat.le_succ _) _ _ _ _ _ _).keep
          | succ g =>
            obtain ⟨p0, p1, p2, p3, p4, p5, f0, f1, f2, f3, f4, f5, _⟩ := box6 (show wr.heap[w.heap.size]? = some (.cells #[.int .i64 3, .int .i64 b, .string (strB name), .int .i64 z1, .int .i64 z2, .slice A m q] 31 (0, 0)) from HH.out.h.x)
            have hlt : k < m := by omega
            have HG := Lib.hid hkg
            clear hkg
            obtain ⟨e1, he1⟩ : ∃ e1, args[k]? = some e1 := ⟨_, List.getElem?_eq_getElem (by have := HM.out; omega)⟩
            have hbg := Ex.big_at args k e1 he1
            have hre := exRL_at args k e1 HRA.out he1
            obtain ⟨bb, o, rfl, hS, hrow⟩ := HRW.out (fun e => by have := HM.out; rw [e] at this; simp at this; omega)
            obtain ⟨cs, hcs, hex⟩ := ExRow.get args bb o k e1 hrow he1
            obtain ⟨a1, b1, s1, c1, d1, A1, l1, q1, rfl⟩ := hex.plain
            have hbb : bb < w.heap.size := hcs.lt
            have hbc : bb ≠ cb := HNS.out bb hS
            have hw : ∀ j u, w.cell? ⟨bb, j, none⟩ = some u → wr.cell? ⟨bb, j, none⟩ = some u := fun j u hu => HH.out.h.k.keep.cell hu hbc
            have y0 := hw _ _ (hcs 0 _ rfl)
            have y1 := hw _ _ (hcs 1 _ rfl)
            have y2 := hw _ _ (hcs 2 _ rfl)
            have y3 := hw _ _ (hcs 3 _ rfl)
            have y4 := hw _ _ (hcs 4 _ rfl)
            have y5 := hw _ _ (hcs 5 _ rfl)
            rw [Nat.add_zero] at y0
            have hd0 := HD.out
            have HEX := Lib.hid (IH.out e1 (by omega) hre B cb S HNS.out wr a1 b1 s1 c1 d1 A1 l1 q1 HH.out.c (ExL.still (fun j hj1 hj2 => ⟨hj1, HH.out.h.k.keep.block j hj2 (HNS.out j hj1)⟩) e1 _ hex))
            clear hw hcs hrow he1 hex hbg hd0 hre
            go_wp2_with fail
            refine HEX.out.mono ?_
            rintro e' w2 ⟨e2, v2, rfl, ⟨x0, x1, x2, x3, x4, xA, xl, xq, rfl, hl⟩, hsm, hc, hk⟩
            have HL2 := Lib.hid hl
            have HC2' := Lib.hid hc
            have HK2' := Lib.hid hk
            have HSM := Lib.hid hsm
            have HA2 := Lib.hid (HH.out.h.keep (fun r hr => by injection hr with hr; omega) rfl (KeepO.of_keep hk))
            have hz2 := hk.size
            clear hc hk hl hsm y0 y1 y2 y3 y4 y5 p0 p1 p2 p3 p4 p5 f0 f1 f2 f3 f4 f5
            go_wp2_with (at_builtin; refine wpList_append_own_at _ rfl _ _ 29 rfl (w.heap.size + 2) 31 i0 _ 6 72 Tryd.underlying29 HI.out HI0.out HI1.out HI2.out rfl (by decide) _ _ _ rfl (HA2.out.o.alloc _) ⟨w2.heap.size, 0, none⟩ 1 1 [.int .i64 x0, .int .i64 x1, .string x2, .int .i64 x3, .int .i64 x4, .slice xA xl xq] rfl rfl (ex_new _ _ _) (by simp [Value.oneCell']) (by rw [HLN.out]; unfold maxLen; omega) (by rw [HLN.out]; omega) (by rw [new_size]; omega) ?_)
            intro v9 w9 hown hgrow _ hob
            have HN := Lib.hid (PlHead.next HH.out hcb HK2'.out HC2'.out HSM.out HL2.out hown hgrow hob)
            clear hown hgrow hob
            go_wp2_with fail
            go_roundg g
            case rel => exact ⟨k + 1, _, _, by have := HG.out; omega, by go_num, HN.out⟩
            case measure => omega
      · have h9' : ((j3 : Int) == 9) = false := beq_eq_false_iff_ne.2 (by omega)
        clear h9
        obtain ⟨z0, z1, z2, z3, z4, z5, y0, y1, y2, y3, y4, y5, hlt2⟩ := box6 HX3.out
        go_wp2_with fail
        clear z0 z1 z2 z3 z4 z5 y0 y1 y2 y3 y4 y5
        have HST : Hid (PlHead B cb w 0 [.int .i64 3, .int .i64 b, .string (strB name), .int .i64 ((j1 : Int) - 1), .int .i64 (j2 : Int), .slice A m q] [] (.slice none 0 0) w3 []) := ⟨⟨KeepO.of_keep HK3.out, HX3.out, HY3.out, World.ownsRow_nil _ _ _ _, trivial⟩, HC3.out, rfl, fun x hx => (by simp at hx)⟩
        go_loopg [5, 6, 34] m (fun g v _ i wr => ∃ (k : Nat) (acc : List Ex) (css : List (List Value)), k + g = m ∧ i = .int .i64 k ∧ PlHead B cb w k [.int .i64 3, .int .i64 b, .string (strB name), .int .i64 ((j1 : Int) - 1), .int .i64 (j2 : Int), .slice A m q] acc v wr css)
        case atStart => exact ⟨0, [], [], by omega, rfl, HST.out⟩
        case round =>
          obtain ⟨k, acc, css, hkg, rfl, hh⟩ := hrel
          have HH := Lib.hid hh
          have hz0 := hh.h.k.size
          have hzx := lt_of_block hh.h.x
          have hzr := lt_of_block hh.h.r
          have hln := hh.n
          have HLN := Lib.hid hln
          clear hh
          cases gk with
          | zero =>
            have hkm : k = m := by omega
            subst hkm
            obtain ⟨A9, c9, hv9, hc9, hrow⟩ := HH.out.h.slice
            have hown := HH.out.h.o
            rw [hln] at hv9 hc9
            rw [hln] at hown
            subst hv9
            have HRO := Lib.hid hrow
            have HOW := Lib.hid hown
            have hnlt : ¬ k < k := by omega
            clear hkg hrow hown
            go_wp2_with fail
            refine (next_keep B cb 12 _ HH.out.c (by decide) (by decide)).mono ?_
            rintro e0 w6 ⟨j, hj, rfl, hc1, hk1⟩
            have HH6 := Lib.hid (HH.out.keep hcb hk1 hc1)
            have hz6 := hk1.size
            by_cases hj10 : j = 10
            · subst hj10
              go_wp2_with fail
              have HNX := Lib.hid (next_keep B cb (k + 1) w6 HH6.out.c (by omega) (by omega))
              rw [Int.natCast_add, Int.natCast_one] at HNX
              refine HNX.out.mono ?_
              rintro e0 w7 ⟨t, ht, rfl, hc2, hk2⟩
              have HH7 := Lib.hid (HH6.out.keep hcb hk2 hc2)
              have hz7 := hk2.size
              have ht' : (t : Int) ≤ (k : Int) := by omega
              have hck : (k : Int) ≤ (c9 : Int) := by omega
              have HACC : Hid (∀ x ∈ acc.take t, exR x) := fun x hx => HH.out.s x (List.mem_of_mem_take hx)
              have HLT : Hid ((acc.take t).length = t) := by show _ = _; rw [List.length_take, hln]; omega
              obtain ⟨p0, p1, p2, p3, p4, p5, f0, f1, f2, f3, f4, f5, _⟩ := box6 (show w7.heap[w.heap.size]? = some (.cells #[.int .i64 3, .int .i64 b, .string (strB name), .int .i64 ((j1 : Int) - 1), .int .i64 (j2 : Int), .slice A k q] 31 (0, 0)) from HH7.out.h.x)
              obtain ⟨r0, r1, r2, r3, r4, r5, g0, g1, g2, g3, g4, g5, _⟩ := box6 HH7.out.h.r
              obtain ⟨A8, c8, hv8, hc8, hrow8⟩ := HH7.out.h.slice
              injection hv8 with e81 e82 e83
              subst e81 e83
              clear e82
              have HRT : Hid (acc.take t ≠ [] → ∃ b o, A9 = some ⟨b, o, none⟩ ∧ w.heap.size + 2 ≤ b ∧ ExRow (From (w.heap.size + 2)) w7 (acc.take t) b o) := fun hne => by
                obtain ⟨b, o, h1, h2, h3⟩ := hrow8 (fun e => hne (by rw [e]; exact List.take_nil))
                exact ⟨b, o, h1, h2, exrow_take acc t b o h3⟩
              clear hc1 hk1 hc2 hk2 HNX hln hrow8 hc8
              rcases HOW.out.2 with ⟨hv, hk0⟩ | ⟨g, cap, cur, hv, _⟩
              · injection hv with e1 e2 e3
                subst e1 e3
                have hk00 : k = 0 := by omega
                subst hk00
                obtain rfl : t = 0 := by omega
                go_wp2_with fail
                refine bodyPost_ret (v := .agg #[.int .i64 3, .int .i64 b, .string (strB name), .int .i64 ((j1 : Int) - 1), .int .i64 (j2 : Int), .slice none 0 0]) ?_ rfl ?_
                · simp [results, Tryd.results8, go_sem, World.cell?_setCell_same, World.cell?_setCell_other, r0, r1, r2, r3, r4, r5]
                · have hv := ac_ret (op := 3) (value := b) (name := name) (slot := ((j1 : Int) - 1)) (size := (j2 : Int)) (A := none) (c := 0) (acc := acc.take 0) rfl (by rw [HLT.out]; exact (Nat.zero_le _)) HRT.out (.slice none 0 0) (.int .i64 3) (.int .i64 b) (.string (strB name)) (.int .i64 ((j1 : Int) - 1)) (.int .i64 (j2 : Int)) (.slice none 0 0)
                  rw [HLT.out] at hv
                  refine ⟨_, _, rfl, hv, ?_, ?_, ?_⟩
                  · exact exR_mk HRB.out (by constructor <;> omega) (by constructor <;> omega) HACC.out
                  · exact HH7.out.c.up fun j hj => (set6_blk _ _ _ _ _ _ _ _ (by omega)).trans (Below.heap_setCell _ _ _ _ (by show j ≠ w.heap.size; omega))
                  · exact ((HH7.out.h.k.setNew (p := ⟨w.heap.size, 5, none⟩) (Nat.le_refl _) _).set6 (Nat.le_succ _) _ _ _ _ _ _).keep
              · injection hv with e1 e2 e3
                subst e1 e3
                have hct : t ≤ c9 := by omega
                go_wp2_with fail
                refine bodyPost_ret (v := .agg #[.int .i64 3, .int .i64 b, .string (strB name), .int .i64 ((j1 : Int) - 1), .int .i64 (j2 : Int), .slice (some ⟨g, 0, none⟩) t c9]) ?_ rfl ?_
                · simp [results, Tryd.results8, go_sem, World.cell?_setCell_same, World.cell?_setCell_other, r0, r1, r2, r3, r4, r5]
                · have hv := ac_ret (op := 3) (value := b) (name := name) (slot := ((j1 : Int) - 1)) (size := (j2 : Int)) (A := (some ⟨g, 0, none⟩)) (c := c9) (acc := acc.take t) rfl (by rw [HLT.out]; exact hct) HRT.out (.slice (some ⟨g, 0, none⟩) t c9) (.int .i64 3) (.int .i64 b) (.string (strB name)) (.int .i64 ((j1 : Int) - 1)) (.int .i64 (j2 : Int)) (.slice (some ⟨g, 0, none⟩) t c9)
                  rw [HLT.out] at hv
                  refine ⟨_, _, rfl, hv, ?_, ?_, ?_⟩
                  · exact exR_mk HRB.out (by constructor <;> omega) (by constructor <;> omega) HACC.out
                  · exact HH7.out.c.up fun j hj => (set6_blk _ _ _ _ _ _ _ _ (by omega)).trans (Below.heap_setCell _ _ _ _ (by show j ≠ w.heap.size; omega))
                  · exact ((HH7.out.h.k.setNew (p := ⟨w.heap.size, 5, none⟩) (Nat.le_refl _) _).set6 (Nat.le_succ _) _ _ _ _ _ _).keep
            by_cases hj11 : j = 11
            · subst hj11
              clear hj10
              go_wp2_with fail
              refine (next_keep B cb 30 _ HH6.out.c (by decide) (by decide)).mono ?_
              rintro e0 w7 ⟨t, ht, rfl, hc2, hk2⟩
              have HH7 := Lib.hid (HH6.out.keep hcb hk2 hc2)
              have hz7 := hk2.size
              have HK7 := Lib.hid hk2
              have HC7 := Lib.hid hc2
              have HEX7 : Hid (ExL (From w6.heap.size) w7 (.mk (t : Int) 3 [] 0 0 []) [.int .i64 t, .int .i64 3, .string ⟨#[]⟩, .int .i64 0, .int .i64 0, .slice none 0 0]) := by
                show ExL _ _ _ _
                simp only [ExL]
                exact ⟨none, 0, rfl, Nat.le_refl _, fun h => absurd rfl h⟩
              have hlk := hln
              clear hc1 hk1 hc2 hk2
              go_wp2_with (at_builtin; refine wpList_append_own_at _ rfl _ _ 29 rfl (w.heap.size + 2) 31 i0 _ 6 72 Tryd.underlying29 HI.out HI0.out HI1.out HI2.out rfl (by decide) _ _ _ rfl (HH7.out.h.o.alloc _) ⟨w7.heap.size, 0, none⟩ 1 1 [.int .i64 t, .int .i64 3, .string ⟨#[]⟩, .int .i64 0, .int .i64 0, .slice none 0 0] rfl rfl (ex_new _ _ _) (by simp [Value.oneCell']) (by rw [HLN.out]; unfold maxLen; omega) (by rw [HLN.out]; omega) (by rw [new_size]; omega) ?_)
              intro v9 w9 hown hgrow _ hob
              have HN := Lib.hid (PlHead.next HH6.out hcb HK7.out HC7.out (exR_mk (op := (t : Int)) (name := []) (by constructor <;> decide) (by constructor <;> decide) (by constructor <;> decide) (fun x hx => by simp at hx)) HEX7.out hown hgrow hob)
              clear hown hgrow hob hln hlk
              obtain ⟨A8, c8, hv8, hc8, hrow8⟩ := HN.out.h.slice
              have hln9 := HN.out.n
              have HLN9 := Lib.hid hln9
              rw [hln9] at hv8 hc8
              have HR8 := Lib.hid hrow8
              have HACC := Lib.hid HN.out.s
              obtain ⟨p0, p1, p2, p3, p4, p5, f0, f1, f2, f3, f4, f5, _⟩ := box6 (show w9.heap[w.heap.size]? = some (.cells #[.int .i64 3, .int .i64 b, .string (strB name), .int .i64 ((j1 : Int) - 1), .int .i64 (j2 : Int), .slice A k q] 31 (0, 0)) from HN.out.h.x)
              obtain ⟨r0, r1, r2, r3, r4, r5, g0, g1, g2, g3, g4, g5, _⟩ := box6 HN.out.h.r
              subst hv8
              clear hrow8 hln9
              go_wp2_with fail
              refine bodyPost_ret (v := .agg #[.int .i64 3, .int .i64 b, .string (strB name), .int .i64 ((j1 : Int) - 1), .int .i64 (j2 : Int), .slice A8 (k + 1) c8]) ?_ rfl ?_
              · simp [results, Tryd.results8, go_sem, World.cell?_setCell_same, World.cell?_setCell_other, r0, r1, r2, r3, r4, r5]
              · have hv := ac_ret (op := 3) (value := b) (name := name) (slot := ((j1 : Int) - 1)) (size := (j2 : Int)) (A := A8) (c := c8) (acc := acc ++ [.mk (t : Int) 3 [] 0 0 []]) rfl (by rw [HLN9.out]; exact hc8) HR8.out (.slice A8 (k + 1) c8) (.int .i64 3) (.int .i64 b) (.string (strB name)) (.int .i64 ((j1 : Int) - 1)) (.int .i64 (j2 : Int)) (.slice A8 (k + 1) c8)
                rw [HLN9.out] at hv
                refine ⟨_, _, rfl, hv, ?_, ?_, ?_⟩
                · exact exR_mk HRB.out (by constructor <;> omega) (by constructor <;> omega) HACC.out
                · exact HN.out.c.up fun j hj => (set6_blk _ _ _ _ _ _ _ _ (by omega)).trans (Below.heap_setCell _ _ _ _ (by show j ≠ w.heap.size; omega))
                · exact ((HN.out.h.k.setNew (p := ⟨w.heap.size, 5, none⟩) (Nat.le_refl _) _).set6 (Nat.le_succ _) _ _ _ _ _ _).keep
            have hn10 : ((j : Int) == 10) = false := beq_eq_false_iff_ne.2 (by omega)
            have hn11 : ((j : Int) == 11) = false := beq_eq_false_iff_ne.2 (by omega)
            obtain ⟨A8, c8, hv8, hc8, hrow8⟩ := HH6.out.h.slice
            injection hv8 with e81 e82 e83
            subst e81 e83
            clear e82
            have HR8 := Lib.hid hrow8
            have HACC := Lib.hid HH6.out.s
            obtain ⟨p0, p1, p2, p3, p4, p5, f0, f1, f2, f3, f4, f5, _⟩ := box6 (show w6.heap[w.heap.size]? = some (.cells #[.int .i64 3, .int .i64 b, .string (strB name), .int .i64 ((j1 : Int) - 1), .int .i64 (j2 : Int), .slice A k q] 31 (0, 0)) from HH6.out.h.x)
            obtain ⟨r0, r1, r2, r3, r4, r5, g0, g1, g2, g3, g4, g5, _⟩ := box6 HH6.out.h.r
            clear hrow8 hc1 hk1 hj10 hj11 hc8 hln
            go_wp2_with fail
            refine bodyPost_ret (v := .agg #[.int .i64 3, .int .i64 b, .string (strB name), .int .i64 ((j1 : Int) - 1), .int .i64 (j2 : Int), .slice A9 k c9]) ?_ rfl ?_
            · simp [results, Tryd.results8, go_sem, World.cell?_setCell_same, World.cell?_setCell_other, r0, r1, r2, r3, r4, r5]
            · have hv := ac_ret (op := 3) (value := b) (name := name) (slot := ((j1 : Int) - 1)) (size := (j2 : Int)) (A := A9) (c := c9) (acc := acc) rfl (by rw [HLN.out]; exact hc9) HR8.out (.slice A9 k c9) (.int .i64 3) (.int .i64 b) (.string (strB name)) (.int .i64 ((j1 : Int) - 1)) (.int .i64 (j2 : Int)) (.slice A9 k c9)
              rw [HLN.out] at hv
              refine ⟨_, _, rfl, hv, ?_, ?_, ?_⟩
              · exact exR_mk HRB.out (by constructor <;> omega) (by constructor <;> omega) HACC.out
              · exact HH6.out.c.up fun j hj => (set6_blk _ _ _ _ _ _ _ _ (by omega)).trans (Below.heap_setCell _ _ _ _ (by show j ≠ w.heap.size; omega))
              · exact ((HH6.out.h.k.setNew (p := ⟨w.heap.size, 5, none⟩) (Nat.le_refl _) _).set6 (Nat.le_succ _) _ _ _ _ _ _).keep
          | succ g =>
            obtain ⟨p0, p1, p2, p3, p4, p5, f0, f1, f2, f3, f4, f5, _⟩ := box6 (show wr.heap[w.heap.size]? = some (.cells #[.int .i64 3, .int .i64 b, .string (strB name), .int .i64 ((j1 : Int) - 1), .int .i64 (j2 : Int), .slice A m q] 31 (0, 0)) from HH.out.h.x)
            have hlt : k < m := by omega
            have HG := Lib.hid hkg
            clear hkg
            obtain ⟨e1, he1⟩ : ∃ e1, args[k]? = some e1 := ⟨_, List.getElem?_eq_getElem (by have := HM.out; omega)⟩
            have hbg := Ex.big_at args k e1 he1
            have hre := exRL_at args k e1 HRA.out he1
            obtain ⟨bb, o, rfl, hS, hrow⟩ := HRW.out (fun e => by have := HM.out; rw [e] at this; simp at this; omega)
            obtain ⟨cs, hcs, hex⟩ := ExRow.get args bb o k e1 hrow he1
            obtain ⟨a1, b1, s1, c1, d1, A1, l1, q1, rfl⟩ := hex.plain
            have hbb : bb < w.heap.size := hcs.lt
            have hbc : bb ≠ cb := HNS.out bb hS
            have hw : ∀ j u, w.cell? ⟨bb, j, none⟩ = some u → wr.cell? ⟨bb, j, none⟩ = some u := fun j u hu => HH.out.h.k.keep.cell hu hbc
            have y0 := hw _ _ (hcs 0 _ rfl)
            have y1 := hw _ _ (hcs 1 _ rfl)
            have y2 := hw _ _ (hcs 2 _ rfl)
            have y3 := hw _ _ (hcs 3 _ rfl)
            have y4 := hw _ _ (hcs 4 _ rfl)
            have y5 := hw _ _ (hcs 5 _ rfl)
            rw [Nat.add_zero] at y0
            have hd0 := HD.out
            have HEX := Lib.hid (IH.out e1 (by omega) hre B cb S HNS.out wr a1 b1 s1 c1 d1 A1 l1 q1 HH.out.c (ExL.still (fun j hj1 hj2 => ⟨hj1, HH.out.h.k.keep.block j hj2 (HNS.out j hj1)⟩) e1 _ hex))
            clear hw hcs hrow he1 hex hbg hd0 hre
            go_wp2_with fail
            refine HEX.out.mono ?_
            rintro e' w2 ⟨e2, v2, rfl, ⟨x0, x1, x2, x3, x4, xA, xl, xq, rfl, hl⟩, hsm, hc, hk⟩
            have HL2 := Lib.hid hl
            have HC2' := Lib.hid hc
            have HK2' := Lib.hid hk
            have HSM := Lib.hid hsm
            have HA2 := Lib.hid (HH.out.h.keep (fun r hr => by injection hr with hr; omega) rfl (KeepO.of_keep hk))
            have hz2 := hk.size
            clear hc hk hl hsm y0 y1 y2 y3 y4 y5 p0 p1 p2 p3 p4 p5 f0 f1 f2 f3 f4 f5
            go_wp2_with (at_builtin; refine wpList_append_own_at _ rfl _ _ 29 rfl (w.heap.size + 2) 31 i0 _ 6 72 Tryd.underlying29 HI.out HI0.out HI1.out HI2.out rfl (by decide) _ _ _ rfl (HA2.out.o.alloc _) ⟨w2.heap.size, 0, none⟩ 1 1 [.int .i64 x0, .int .i64 x1, .string x2, .int .i64 x3, .int .i64 x4, .slice xA xl xq] rfl rfl (ex_new _ _ _) (by simp [Value.oneCell']) (by rw [HLN.out]; unfold maxLen; omega) (by rw [HLN.out]; omega) (by rw [new_size]; omega) ?_)
            intro v9 w9 hown hgrow _ hob
            have HN := Lib.hid (PlHead.next HH.out hcb HK2'.out HC2'.out HSM.out HL2.out hown hgrow hob)
            clear hown hgrow hob
            go_wp2_with fail
            go_roundg g
            case rel => exact ⟨k + 1, _, _, by have := HG.out; omega, by go_num, HN.out⟩
            case measure => omega
  · have h2' : (a == 2) = false := by simp; omega
    have h3' : (a == 3) = false := by simp; omega
    clear h23
    go_enter Tryd.func8, Tryd.ntmps8
    go_wp2_with fail
    have HST : Hid (PlHead B cb w 0 [.int .i64 a, .int .i64 b, .string (strB name), .int .i64 c, .int .i64 d, .slice A m q] [] (.slice none 0 0) _ []) := ⟨⟨KeepO.of_keep HKW.out, HXW.out, HYW.out, World.ownsRow_nil _ _ _ _, trivial⟩, HCW.out, rfl, fun x hx => (by simp at hx)⟩
    go_loopg [5, 6, 34] m (fun g v _ i wr => ∃ (k : Nat) (acc : List Ex) (css : List (List Value)), k + g = m ∧ i = .int .i64 k ∧ PlHead B cb w k [.int .i64 a, .int .i64 b, .string (strB name), .int .i64 c, .int .i64 d, .slice A m q] acc v wr css)
    case atStart => exact ⟨0, [], [], by omega, rfl, HST.out⟩
    case round =>
      obtain ⟨k, acc, css, hkg, rfl, hh⟩ := hrel
      have HH := Lib.hid hh
      have hz0 := hh.h.k.size
      have hzx := lt_of_block hh.h.x
      have hzr := lt_of_block hh.h.r
      have hln := hh.n
      have HLN := Lib.hid hln
      clear hh
      cases gk with
      | zero =>
        have hkm : k = m := by omega
        subst hkm
        obtain ⟨A9, c9, hv9, hc9, hrow⟩ := HH.out.h.slice
        have hown := HH.out.h.o
        rw [hln] at hv9 hc9
        rw [hln] at hown
        subst hv9
        have HRO := Lib.hid hrow
        have HOW := Lib.hid hown
        have hnlt : ¬ k < k := by omega
        clear hkg hrow hown
        go_wp2_with fail
        refine (next_keep B cb 12 _ HH.out.c (by decide) (by decide)).mono ?_
        rintro e0 w6 ⟨j, hj, rfl, hc1, hk1⟩
        have HH6 := Lib.hid (HH.out.keep hcb hk1 hc1)
        have hz6 := hk1.size
        by_cases hj10 : j = 10
        · subst hj10
          go_wp2_with fail
          have HNX := Lib.hid (next_keep B cb (k + 1) w6 HH6.out.c (by omega) (by omega))
          rw [Int.natCast_add, Int.natCast_one] at HNX
          refine HNX.out.mono ?_
          rintro e0 w7 ⟨t, ht, rfl, hc2, hk2⟩
          have HH7 := Lib.hid (HH6.out.keep hcb hk2 hc2)
          have hz7 := hk2.size
          have ht' : (t : Int) ≤ (k : Int) := by omega
          have hck : (k : Int) ≤ (c9 : Int) := by omega
          have HACC : Hid (∀ x ∈ acc.take t, exR x) := fun x hx => HH.out.s x (List.mem_of_mem_take hx)
          have HLT : Hid ((acc.take t).length = t) := by show _ = _; rw [List.length_take, hln]; omega
          obtain ⟨p0, p1, p2, p3, p4, p5, f0, f1, f2, f3, f4, f5, _⟩ := box6 (show w7.heap[w.heap.size]? = some (.cells #[.int .i64 a, .int .i64 b, .string (strB name), .int .i64 c, .int .i64 d, .slice A k q] 31 (0, 0)) from HH7.out.h.x)
          obtain ⟨r0, r1, r2, r3, r4, r5, g0, g1, g2, g3, g4, g5, _⟩ := box6 HH7.out.h.r
          obtain ⟨A8, c8, hv8, hc8, hrow8⟩ := HH7.out.h.slice
          injection hv8 with e81 e82 e83
          subst e81 e83
          clear e82
          have HRT : Hid (acc.take t ≠ [] → ∃ b o, A9 = some ⟨b, o, none⟩ ∧ w.heap.size + 2 ≤ b ∧ ExRow (From (w.heap.size + 2)) w7 (acc.take t) b o) := fun hne => by
            obtain ⟨b, o, h1, h2, h3⟩ := hrow8 (fun e => hne (by rw [e]; exact List.take_nil))
            exact ⟨b, o, h1, h2, exrow_take acc t b o h3⟩
          clear hc1 hk1 hc2 hk2 HNX hln hrow8 hc8
          rcases HOW.out.2 with ⟨hv, hk0⟩ | ⟨g, cap, cur, hv, _⟩
          · injection hv with e1 e2 e3
            subst e1 e3
            have hk00 : k = 0 := by omega
            subst hk00
            obtain rfl : t = 0 := by omega
            go_wp2_with fail
            refine bodyPost_ret (v := .agg #[.int .i64 a, .int .i64 b, .string (strB name), .int .i64 c, .int .i64 d, .slice none 0 0]) ?_ rfl ?_
            · simp [results, Tryd.results8, go_sem, World.cell?_setCell_same, World.cell?_setCell_other, r0, r1, r2, r3, r4, r5]
            · have hv := ac_ret (op := a) (value := b) (name := name) (slot := c) (size := d) (A := none) (c := 0) (acc := acc.take 0) rfl (by rw [HLT.out]; exact (Nat.zero_le _)) HRT.out (.slice none 0 0) (.int .i64 a) (.int .i64 b) (.string (strB name)) (.int .i64 c) (.int .i64 d) (.slice none 0 0)
              rw [HLT.out] at hv
              refine ⟨_, _, rfl, hv, ?_, ?_, ?_⟩
              · exact exR_mk HRB.out HRC.out HRD.out HACC.out
              · exact HH7.out.c.up fun j hj => (set6_blk _ _ _ _ _ _ _ _ (by omega)).trans (Below.heap_setCell _ _ _ _ (by show j ≠ w.heap.size; omega))
              · exact ((HH7.out.h.k.setNew (p := ⟨w.heap.size, 5, none⟩) (Nat.le_refl _) _).set6 (Nat.le_succ _) _ _ _ _ _ _).keep
          · injection hv with e1 e2 e3
            subst e1 e3
            have hct : t ≤ c9 := by omega
            go_wp2_with fail
            refine bodyPost_ret (v := .agg #[.int .i64 a, .int .i64 b, .string (strB name), .int .i64 c, .int .i64 d, .slice (some ⟨g, 0, none⟩) t c9]) ?_ rfl ?_
            · simp [results, Tryd.results8, go_sem, World.cell?_setCell_same, World.cell?_setCell_other, r0, r1, r2, r3, r4, r5]
            · have hv := ac_ret (op := a) (value := b) (name := name) (slot := c) (size := d) (A := (some ⟨g, 0, none⟩)) (c := c9) (acc := acc.take t) rfl (by rw [HLT.out]; exact hct) HRT.out (.slice (some ⟨g, 0, none⟩) t c9) (.int .i64 a) (.int .i64 b) (.string (strB name)) (.int .i64 c) (.int .i64 d) (.slice (some ⟨g, 0, none⟩) t c9)
              rw [HLT.out] at hv
              refine ⟨_, _, rfl, hv, ?_, ?_, ?_⟩
              · exact exR_mk HRB.out HRC.out HRD.out HACC.out
              · exact HH7.out.c.up fun j hj => (set6_blk _ _ _ _ _ _ _ _ (by omega)).trans (Below.heap_setCell _ _ _ _ (by show j ≠ w.heap.size; omega))
              · exact ((HH7.out.h.k.setNew (p := ⟨w.heap.size, 5, none⟩) (Nat.le_refl _) _).set6 (Nat.le_succ _) _ _ _ _ _ _).keep
        by_cases hj11 : j = 11
        · subst hj11
          clear hj10
          go_wp2_with fail
          refine (next_keep B cb 30 _ HH6.out.c (by decide) (by decide)).mono ?_
          rintro e0 w7 ⟨t, ht, rfl, hc2, hk2⟩
          have HH7 := Lib.hid (HH6.out.keep hcb hk2 hc2)
          have hz7 := hk2.size
          have HK7 := Lib.hid hk2
          have HC7 := Lib.hid hc2
          have HEX7 : Hid (ExL (From w6.heap.size) w7 (.mk (t : Int) 3 [] 0 0 []) [.int .i64 t, .int .i64 3, .string ⟨#[]⟩, .int .i64 0, .int .i64 0, .slice none 0 0]) := by
            show ExL _ _ _ _
            simp only [ExL]
            exact ⟨none, 0, rfl, Nat.le_refl _, fun h => absurd rfl h⟩
          have hlk := hln
          clear hc1 hk1 hc2 hk2
          go_wp2_with (at_builtin; refine wpList_append_own_at _ rfl _ _ 29 rfl (w.heap.size + 2) 31 i0 _ 6 72 Tryd.underlying29 HI.out HI0.out HI1.out HI2.out rfl (by decide) _ _ _ rfl (HH7.out.h.o.alloc _) ⟨w7.heap.size, 0, none⟩ 1 1 [.int .i64 t, .int .i64 3, .string ⟨#[]⟩, .int .i64 0, .int .i64 0, .slice none 0 0] rfl rfl (ex_new _ _ _) (by simp [Value.oneCell']) (by rw [HLN.out]; unfold maxLen; omega) (by rw [HLN.out]; omega) (by rw [new_size]; omega) ?_)
          intro v9 w9 hown hgrow _ hob
          have HN := Lib.hid (PlHead.next HH6.out hcb HK7.out HC7.out (exR_mk (op := (t : Int)) (name := []) (by constructor <;> decide) (by constructor <;> decide) (by constructor <;> decide) (fun x hx => by simp at hx)) HEX7.out hown hgrow hob)
          clear hown hgrow hob hln hlk
          obtain ⟨A8, c8, hv8, hc8, hrow8⟩ := HN.out.h.slice
          have hln9 := HN.out.n
          have HLN9 := Lib.hid hln9
          rw [hln9] at hv8 hc8
          have HR8 := Lib.hid hrow8
          have HACC := Lib.hid HN.out.s
          obtain ⟨p0, p1, p2, p3, p4, p5, f0, f1, f2, f3, f4, f5, _⟩ := box6 (show w9.heap[w.heap.size]? = some (.cells #[.int .i64 a, .int .i64 b, .string (strB name), .int .i64 c, .int .i64 d, .slice A k q] 31 (0, 0)) from HN.out.h.x)
          obtain ⟨r0, r1, r2, r3, r4, r5, g0, g1, g2, g3, g4, g5, _⟩ := box6 HN.out.h.r
          subst hv8
          clear hrow8 hln9
          go_wp2_with fail
          refine bodyPost_ret (v := .agg #[.int .i64 a, .int .i64 b, .string (strB name), .int .i64 c, .int .i64 d, .slice A8 (k + 1) c8]) ?_ rfl ?_
          · simp [results, Tryd.results8, go_sem, World.cell?_setCell_same, World.cell?_setCell_other, r0, r1, r2, r3, r4, r5]
          · have hv := ac_ret (op := a) (value := b) (name := name) (slot := c) (size := d) (A := A8) (c := c8) (acc := acc ++ [.mk (t : Int) 3 [] 0 0 []]) rfl (by rw [HLN9.out]; exact hc8) HR8.out (.slice A8 (k + 1) c8) (.int .i64 a) (.int .i64 b) (.string (strB name)) (.int .i64 c) (.int .i64 d) (.slice A8 (k + 1) c8)
            rw [HLN9.out] at hv
            refine ⟨_, _, rfl, hv, ?_, ?_, ?_⟩
            · exact exR_mk HRB.out HRC.out HRD.out HACC.out
            · exact HN.out.c.up fun j hj => (set6_blk _ _ _ _ _ _ _ _ (by omega)).trans (Below.heap_setCell _ _ _ _ (by show j ≠ w.heap.size; omega))
            · exact ((HN.out.h.k.setNew (p := ⟨w.heap.size, 5, none⟩) (Nat.le_refl _) _).set6 (Nat.le_succ _) _ _ _ _ _ _).keep
        have hn10 : ((j : Int) == 10) = false := beq_eq_false_iff_ne.2 (by omega)
        have hn11 : ((j : Int) == 11) = false := beq_eq_false_iff_ne.2 (by omega)
        obtain ⟨A8, c8, hv8, hc8, hrow8⟩ := HH6.out.h.slice
        injection hv8 with e81 e82 e83
        subst e81 e83
        clear e82
        have HR8 := Lib.hid hrow8
        have HACC := Lib.hid HH6.out.s
        obtain ⟨p0, p1, p2, p3, p4, p5, f0, f1, f2, f3, f4, f5, _⟩ := box6 (show w6.heap[w.heap.size]? = some (.cells #[.int .i64 a, .int .i64 b, .string (strB name), .int .i64 c, .int .i64 d, .slice A k q] 31 (0, 0)) from HH6.out.h.x)
        obtain ⟨r0, r1, r2, r3, r4, r5, g0, g1, g2, g3, g4, g5, _⟩ := box6 HH6.out.h.r
        clear hrow8 hc1 hk1 hj10 hj11 hc8 hln
        go_wp2_with fail
        refine bodyPost_ret (v := .agg #[.int .i64 a, .int .i64 b, .string (strB name), .int .i64 c, .int .i64 d, .slice A9 k c9]) ?_ rfl ?_
        · simp [results, Tryd.results8, go_sem, World.cell?_setCell_same, World.cell?_setCell_other, r0, r1, r2, r3, r4, r5]
        · have hv := ac_ret (op := a) (value := b) (name := name) (slot := c) (size := d) (A := A9) (c := c9) (acc := acc) rfl (by rw [HLN.out]; exact hc9) HR8.out (.slice A9 k c9) (.int .i64 a) (.int .i64 b) (.string (strB name)) (.int .i64 c) (.int .i64 d) (.slice A9 k c9)
          rw [HLN.out] at hv
          refine ⟨_, _, rfl, hv, ?_, ?_, ?_⟩
          · exact exR_mk HRB.out HRC.out HRD.out HACC.out
          · exact HH6.out.c.up fun j hj => (set6_blk _ _ _ _ _ _ _ _ (by omega)).trans (Below.heap_setCell _ _ _ _ (by show j ≠ w.heap.size; omega))
          · exact ((HH6.out.h.k.setNew (p := ⟨w.heap.size, 5, none⟩) (Nat.le_refl _) _).set6 (Nat.le_succ _) _ _ _ _ _ _).keep
      | succ g =>
        obtain ⟨p0, p1, p2, p3, p4, p5, f0, f1, f2, f3, f4, f5, _⟩ := box6 (show wr.heap[w.heap.size]? = some (.cells #[.int .i64 a, .int .i64 b, .string (strB name), .int .i64 c, .int .i64 d, .slice A m q] 31 (0, 0)) from HH.out.h.x)
        have hlt : k < m := by omega
        have HG := Lib.hid hkg
        clear hkg
        obtain ⟨e1, he1⟩ : ∃ e1, args[k]? = some e1 := ⟨_, List.getElem?_eq_getElem (by have := HM.out; omega)⟩
        have hbg := Ex.big_at args k e1 he1
        have hre := exRL_at args k e1 HRA.out he1
        obtain ⟨bb, o, rfl, hS, hrow⟩ := HRW.out (fun e => by have := HM.out; rw [e] at this; simp at this; omega)
        obtain ⟨cs, hcs, hex⟩ := ExRow.get args bb o k e1 hrow he1
        obtain ⟨a1, b1, s1, c1, d1, A1, l1, q1, rfl⟩ := hex.plain
        have hbb : bb < w.heap.size := hcs.lt
        have hbc : bb ≠ cb := HNS.out bb hS
        have hw : ∀ j u, w.cell? ⟨bb, j, none⟩ = some u → wr.cell? ⟨bb, j, none⟩ = some u := fun j u hu => HH.out.h.k.keep.cell hu hbc
        have y0 := hw _ _ (hcs 0 _ rfl)
        have y1 := hw _ _ (hcs 1 _ rfl)
        have y2 := hw _ _ (hcs 2 _ rfl)
        have y3 := hw _ _ (hcs 3 _ rfl)
        have y4 := hw _ _ (hcs 4 _ rfl)
        have y5 := hw _ _ (hcs 5 _ rfl)
        rw [Nat.add_zero] at y0
        have hd0 := HD.out
        have HEX := Lib.hid (IH.out e1 (by omega) hre B cb S HNS.out wr a1 b1 s1 c1 d1 A1 l1 q1 HH.out.c (ExL.still (fun j hj1 hj2 => ⟨hj1, HH.out.h.k.keep.block j hj2 (HNS.out j hj1)⟩) e1 _ hex))
        clear hw hcs hrow he1 hex hbg hd0 hre
        go_wp2_with fail
        refine HEX.out.mono ?_
        rintro e' w2 ⟨e2, v2, rfl, ⟨x0, x1, x2, x3, x4, xA, xl, xq, rfl, hl⟩, hsm, hc, hk⟩
        have HL2 := Lib.hid hl
        have HC2' := Lib.hid hc
        have HK2' := Lib.hid hk
        have HSM := Lib.hid hsm
        have HA2 := Lib.hid (HH.out.h.keep (fun r hr => by injection hr with hr; omega) rfl (KeepO.of_keep hk))
        have hz2 := hk.size
        clear hc hk hl hsm y0 y1 y2 y3 y4 y5 p0 p1 p2 p3 p4 p5 f0 f1 f2 f3 f4 f5
        go_wp2_with (at_builtin; refine wpList_append_own_at _ rfl _ _ 29 rfl (w.heap.size + 2) 31 i0 _ 6 72 Tryd.underlying29 HI.out HI0.out HI1.out HI2.out rfl (by decide) _ _ _ rfl (HA2.out.o.alloc _) ⟨w2.heap.size, 0, none⟩ 1 1 [.int .i64 x0, .int .i64 x1, .string x2, .int .i64 x3, .int .i64 x4, .slice xA xl xq] rfl rfl (ex_new _ _ _) (by simp [Value.oneCell']) (by rw [HLN.out]; unfold maxLen; omega) (by rw [HLN.out]; omega) (by rw [new_size]; omega) ?_)
        intro v9 w9 hown hgrow _ hob
        have HN := Lib.hid (PlHead.next HH.out hcb HK2'.out HC2'.out HSM.out HL2.out hown hgrow hob)
        clear hown hgrow hob
        go_wp2_with fail
        go_roundg g
        case rel => exact ⟨k + 1, _, _, by have := HG.out; omega, by go_num, HN.out⟩
        case measure => omega

theorem place_all : ∀ n, n ≤ 100000 → PlC n
  | 0, _ => fun e h => by cases e; simp [Ex.big] at h
  | n + 1, h => place_step n (by omega) (place_all n (by omega))
end Go.Proofs.YtocebddhllfhpaaDoor
