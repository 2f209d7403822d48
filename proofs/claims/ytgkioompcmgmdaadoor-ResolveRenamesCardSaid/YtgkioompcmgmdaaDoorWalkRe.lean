/-
  What expr of package resolve's resolver does where all names are declared and stand for what they are declared as: a copy with all places filled in. Conditions: the resolver lies at block R; an expression has at most 100000 parts.
-/
import Derived.Test.YtgkioompcmgmdaaDoorWalkRf
namespace Go.Proofs.YtgkioompcmgmdaaDoor
open Go.RowKit

/-- The loop's head: k operands are copied. -/
theorem new_blk1 (w : World) (o o' : Obj) : ((w.alloc o).alloc o').heap[w.heap.size + 1]? = some o' := by have := new_blk (w.alloc o) o'; rwa [new_size] at this

theorem below_drew1 {B : Nat} (w : World) : Below B w w.drew := below_drewN (Below.refl _ _) 1

structure RxHead (R : Nat) (f : Pl) (n0 : Nat) (w0 : World) (k : Nat) (args : List Ex) (box : List Value) (v : Value) (wr : World) (css : List (List Value)) : Prop where
  b : Below w0.heap.size w0 wr
  x : wr.heap[w0.heap.size]? = some (.cells box.toArray 55 (0, 0))
  r : wr.heap[w0.heap.size + 1]? = some (.cells #[.int .i64 0, .int .i64 0, .string ⟨#[]⟩, .int .i64 0, .int .i64 0, .slice none 0 0] 55 (0, 0))
  o : wr.ownsRow n0 55 6 v (Ex.resL f (args.take k)).length css.flatten
  a : ExAll (Sv n0 v) wr (Ex.resL f (args.take k)) css

theorem rx_len {f : Pl} {args : List Ex} {k : Nat} (hk : k ≤ args.length) : (Ex.resL f (args.take k)).length = k := by
  rw [resL_len, List.length_take]; omega

/-- An operand more. -/
theorem RxHead.next {R n0 k : Nat} {f : Pl} {w0 wr w2 w3 : World} {args : List Ex} {box : List Value} {v v' : Value} {css : List (List Value)} {e : Ex} {cs : List Value} {o : Obj} (h : RxHead R f n0 w0 k args box v wr css)
    (hn0 : n0 = w0.heap.size + 2) (hk : args[k]? = some e) (hb : Below wr.heap.size wr w2) (hs : ExL (From wr.heap.size) w2 (e.res f) cs)
    (hown : w3.ownsRow n0 55 6 v' ((Ex.resL f (args.take k)).length + 1) (css.flatten ++ cs)) (hg : (w2.alloc o).grownBy w3 v.ownBlock) (hob : v'.ownBlock = v.ownBlock ∨ v'.ownBlock = some (w2.heap.size + 1)) :
    RxHead R f n0 w0 (k + 1) args box v' w3 (css ++ [cs]) := by
  have hz := hb.size
  have hx1 := lt_of_block h.x
  have hr1 := lt_of_block h.r
  have hob2 : ∀ b, v.ownBlock = some b → n0 ≤ b ∧ b < wr.heap.size := fun b hb => by
    rcases h.o.2 with ⟨rfl, _⟩ | ⟨g, cap, cur, rfl, h2, h3, _⟩
    · cases hb
    · simp only [Value.ownBlock, Option.some.injEq] at hb; subst hb; exact ⟨h2, lt_of_block h3⟩
  have hblk : ∀ k, k < w2.heap.size → v.ownBlock ≠ some k → w3.heap[k]? = w2.heap[k]? := fun k hk1 hk2 =>
    (hg.block k (by rw [new_size]; omega) (fun e => hk2 e.symm)).trans (alloc_blk w2 o hk1)
  have hnot : ∀ k, k < w2.heap.size → v.ownBlock ≠ some k → v'.ownBlock ≠ some k := fun k hk1 hk2 h => by
    rcases hob with h' | h'
    · exact hk2 (h' ▸ h)
    · rw [h'] at h; injection h with h; omega
  have hlow : ∀ k, k < w0.heap.size + 2 → k < wr.heap.size → w3.heap[k]? = wr.heap[k]? := fun k h1 h2 =>
    (hblk k (by omega) (fun h => by have := (hob2 k h).1; omega)).trans (hb.block k h2)
  refine ⟨?_, (hlow _ (by omega) hx1).trans h.x, (hlow _ (by omega) hr1).trans h.r, ?_, ?_⟩
  · have hk2 := h.b.trans (hb.mono h.b.size)
    exact ⟨hg.os.trans hk2.os, hg.tape.trans hk2.tape, hg.output.trans hk2.output, by have := hg.size; rw [new_size] at this; have := hk2.size; omega, fun k hk1 =>
      (hblk k (by have := hk2.size; omega) (fun h => by have := (hob2 k h).1; omega)).trans (hk2.block k hk1)⟩
  · rw [resL_take f args k e hk, List.length_append, List.flatten_append]; simpa using hown
  · rw [resL_take f args k e hk]
    refine ExAll.snoc ?_ _ css ?_
    · exact ExL.still (fun k (hk1 : wr.heap.size ≤ k) hk2 => ⟨⟨by have := h.b.size; omega, hnot k hk2 (fun h => by have := (hob2 k h).2; omega)⟩, hblk k hk2 (fun h => by have := (hob2 k h).2; omega)⟩) (e.res f) cs hs
    · exact ExAll.still (fun k hk1 hk2 => ⟨⟨hk1.1, hnot k (by omega) hk1.2⟩, (hblk k (by omega) hk1.2).trans (hb.block k hk2)⟩) _ css h.a

theorem rp_one1 (w : World) (a : Obj) : Below w.heap.size w (w.alloc a) := (Below.refl _ _).alloc (Nat.le_refl _) a
theorem ex_new (w : World) (cs : List Value) (T : TypeId) : ∀ j u, cs[j]? = some u → (w.alloc (.cells cs.toArray T)).cell? ((⟨w.heap.size, 0, none⟩ : Addr).add j) = some u := fun j u hj => by
  rw [Addr.add_lit]; exact new_cells w cs T j u hj

def RxC (f : Pl) (n : Nat) : Prop := ∀ (e : Ex), e.big ≤ n → n ≤ 100000 → e.rok f → ∀ (R : Nat) (S : Nat → Prop) (w : World) (a b : Int) (s : ByteArray) (c d : Int) (A : Option Addr) (l q : Nat), RSt R w f → ExL S w e [.int .i64 a, .int .i64 b, .string s, .int .i64 c, .int .i64 d, .slice A l q] →
    Calls Tryd.prog 37 #[.pointer (some ⟨R, 0, none⟩), .agg #[.int .i64 a, .int .i64 b, .string s, .int .i64 c, .int .i64 d, .slice A l q]] w fun e' w' => ∃ v, e' = .returned v ∧ VEx w.heap.size w' (e.res f) v ∧ Below w.heap.size w w'

set_option maxHeartbeats 4000000 in
set_option maxRecDepth 100000 in
theorem rexpr_step (f : Pl) (n : Nat) (ih : RxC f n) : RxC f (n + 1) := by
  intro e h hn hok R S w a b s c d A l q hr hl
  cases e with
  | mk op value name slot size args =>
  simp only [Ex.big] at h
  simp only [Ex.rok] at hok
  obtain ⟨hk2, hk3, hnm, hka⟩ := hok
  have hlq : args.length ≤ 100000 := by have := Ex.len_big args; omega
  simp only [ExL] at hl
  obtain ⟨A', c', e1, hc, hrw⟩ := hl
  simp only [exCells, List.cons.injEq, Value.slice.injEq, and_true] at e1
  obtain ⟨e1, e2, e3, e4, e5, rfl, rfl, rfl⟩ := e1
  injection e1 with _ e1
  injection e2 with _ e2
  injection e3 with e3
  injection e4 with _ e4
  injection e5 with _ e5
  subst e1 e2 e3 e4 e5
  obtain ⟨i0, hi, hz0, hz1, hz2⟩ := info_parts infoEx3
  have HI := Lib.hid hi
  have HI0 := Lib.hid hz0
  have HI1 := Lib.hid hz1
  have HI2 := Lib.hid hz2
  clear hi hz0 hz1 hz2
  have IH := Lib.hid (fun e h1 h2 => ih e h1 (by omega) h2)
  have HRW := Lib.hid hrw
  have HD := Lib.hid h
  have HKA := Lib.hid hka
  have HRS := Lib.hid hr
  obtain ⟨m, hm⟩ : ∃ x, args.length = x := ⟨_, rfl⟩
  have HM := Lib.hid hm
  rw [hm] at hlq ⊢
  by_cases h23 : a = 2 ∨ a = 3
  · rcases h23 with rfl | rfl
    · obtain ⟨⟨x1, x2⟩, hfx, hpx⟩ := hk2 rfl
      have hres : Ex.res f (.mk 2 b name c d args) = .mk 2 b name x1 x2 (Ex.resL f args) := by simp [Ex.res, hfx]
      have hf := find_good R f name false (x1, x2) ((w.alloc (.cells #[.int .i64 2, .int .i64 b, .string (strB name), .int .i64 c, .int .i64 d, .slice A m q] 55)).alloc (.cells #[.int .i64 0, .int .i64 0, .string ⟨#[]⟩, .int .i64 0, .int .i64 0, .slice none 0 0] 55)) (hr.below (((Below.refl _ _).alloc (Nat.le_refl _) _).alloc (by rw [new_size]; omega) _)) hnm hfx (by simp at hpx ⊢; omega)
      simp only [plV] at hf
      have hW0 := (alloc_blk (w.alloc (.cells #[.int .i64 2, .int .i64 b, .string (strB name), .int .i64 c, .int .i64 d, .slice A m q] 55)) (.cells #[.int .i64 0, .int .i64 0, .string ⟨#[]⟩, .int .i64 0, .int .i64 0, .slice none 0 0] 55) (k := w.heap.size) (by rw [new_size]; omega)).trans (new_blk w _)
      have hW1 := new_blk1 w (.cells #[.int .i64 2, .int .i64 b, .string (strB name), .int .i64 c, .int .i64 d, .slice A m q] 55) (.cells #[.int .i64 0, .int .i64 0, .string ⟨#[]⟩, .int .i64 0, .int .i64 0, .slice none 0 0] 55)
      have hWB : Below w.heap.size w ((w.alloc (.cells #[.int .i64 2, .int .i64 b, .string (strB name), .int .i64 c, .int .i64 d, .slice A m q] 55)).alloc (.cells #[.int .i64 0, .int .i64 0, .string ⟨#[]⟩, .int .i64 0, .int .i64 0, .slice none 0 0] 55)) := ((Below.refl _ _).alloc (Nat.le_refl _) _).alloc (by rw [new_size]; omega) _
      have hWz : ((w.alloc (.cells #[.int .i64 2, .int .i64 b, .string (strB name), .int .i64 c, .int .i64 d, .slice A m q] 55)).alloc (.cells #[.int .i64 0, .int .i64 0, .string ⟨#[]⟩, .int .i64 0, .int .i64 0, .slice none 0 0] 55)).heap.size = w.heap.size + 2 := by rw [new_size, new_size]
      have HW0 := Lib.hid hW0
      have HW1 := Lib.hid hW1
      have HWB := Lib.hid hWB
      have HWZ := Lib.hid hWz
      have HF := Lib.hid hf
      rw [hres]
      clear ih hrw hm h hc hka hk2 hk3 hr hres hf hW0 hW1 hWB hWz hfx hpx hnm
      go_enter Tryd.func37, Tryd.ntmps37
      go_wp2_with fail
      refine HF.out.mono ?_
      rintro e0 w1 ⟨rfl, hb1⟩
      rw [HWZ.out] at hb1
      have HX1 := Lib.hid ((hb1.block _ (by omega)).trans HW0.out)
      have HY1 := Lib.hid ((hb1.block _ (by omega)).trans HW1.out)
      have HB1 := Lib.hid (HWB.out.trans (hb1.mono (by omega)))
      have hz1 := hb1.size
      rw [HWZ.out] at hz1
      obtain ⟨z0, z1, z2, z3, z4, z5, y0, y1, y2, y3, y4, y5, hlt1⟩ := box6 HX1.out
      clear hb1
      go_wp2_with fail
      go_region
      go_wp2_with fail
      clear z0 z1 z2 z3 z4 z5 y0 y1 y2 y3 y4 y5
      go_loopg [6, 33] m (fun g v i wr => ∃ (k : Nat) (css : List (List Value)), k + g = m ∧ i = .int .i64 k ∧ RxHead R f (w.heap.size + 2) w k args [.int .i64 2, .int .i64 b, .string (strB name), .int .i64 x1, .int .i64 x2, .slice A m q] v wr css)
      case atStart => exact ⟨0, [], by omega, rfl, ⟨(((HB1.out.setCell (p := ⟨w.heap.size, 3, none⟩) (Nat.le_refl _) _).setCell (p := ⟨w.heap.size, 4, none⟩) (Nat.le_refl _) _).alloc (by rw [set_size, set_size]; omega) _).trans (below_drew1 _), (alloc_blk _ _ (by rw [set_size, set_size]; omega)).trans (blk_set (blk_set HX1.out 3 _) 4 _), (alloc_blk _ _ (by rw [set_size, set_size]; omega)).trans (((Below.heap_setCell _ ⟨w.heap.size, 4, none⟩ _ _ (by show _ ≠ w.heap.size; omega)).trans (Below.heap_setCell _ ⟨w.heap.size, 3, none⟩ _ _ (by show _ ≠ w.heap.size; omega))).trans HY1.out), World.ownsRow_nil _ _ _ _, trivial⟩⟩
      case round =>
        obtain ⟨k, css, hkg, rfl, hh⟩ := hrel
        have HH := Lib.hid hh
        have hz0 := hh.b.size
        have hzx := lt_of_block hh.x
        have hzr := lt_of_block hh.r
        clear hh
        cases gk with
        | zero =>
          have hkm : k = m := by omega
          subst hkm
          have HT : Hid (args.take k = args) := List.take_of_length_le (by have := HM.out; omega)
          obtain ⟨A9, c9, hv9, hc9, hrow⟩ := own_exs HH.out.o HH.out.a
          rw [HT.out] at hv9 hc9 hrow
          have hln : (Ex.resL f args).length = k := by rw [resL_len]; exact HM.out
          rw [hln] at hv9 hc9
          have HRO := Lib.hid hrow
          obtain ⟨c0, c1, c2, c3, c4, c5, f0, f1, f2, f3, f4, f5, _⟩ := box6 (show wr.heap[w.heap.size]? = some (.cells #[.int .i64 2, .int .i64 b, .string (strB name), .int .i64 x1, .int .i64 x2, .slice A k q] 55 (0, 0)) from HH.out.x)
          obtain ⟨r0, r1, r2, r3, r4, r5, g0, g1, g2, g3, g4, g5, _⟩ := box6 HH.out.r
          subst hv9
          have hnlt : ¬ k < k := by omega
          clear hkg hrow hln
          go_wp2_with fail
          refine bodyPost_ret (v := .agg #[.int .i64 2, .int .i64 b, .string (strB name), .int .i64 x1, .int .i64 x2, .slice A9 k c9]) ?_ rfl ?_
          · simp [results, Tryd.results37, go_sem, World.cell?_setCell_same, World.cell?_setCell_other, r0, r1, r2, r3, r4, r5]
          · refine ⟨_, rfl, ⟨_, _, _, _, _, _, _, _, rfl, ?_⟩, ?_⟩
            · simp only [ExL]
              refine ⟨A9, c9, by simp only [exCells]; rw [resL_len, HM.out], by rw [resL_len, HM.out]; exact hc9, fun hne => ?_⟩
              obtain ⟨bb, o, hA, hbb, hrw⟩ := HRO.out hne
              refine ⟨bb, o, hA, show w.heap.size ≤ bb by omega, ExRow.still (S := From (w.heap.size + 2)) (fun j (h1 : w.heap.size + 2 ≤ j) _ => ⟨show w.heap.size ≤ j by omega, ?_⟩) _ bb o hbb hrw⟩
              exact (set6_blk _ _ _ _ _ _ _ _ (by omega)).trans (Below.heap_setCell _ _ _ _ (by show j ≠ w.heap.size; omega))
            · have h1 : Below w.heap.size w (wr.setCell ⟨w.heap.size, 5, none⟩ (.slice A9 k c9)) := HH.out.b.setCell (p := ⟨w.heap.size, 5, none⟩) (Nat.le_refl _) _
              exact (((((h1.setCell (p := ⟨w.heap.size + 1, 0, none⟩) (Nat.le_succ _) _).setCell (p := ⟨w.heap.size + 1, 1, none⟩) (Nat.le_succ _) _).setCell (p := ⟨w.heap.size + 1, 2, none⟩) (Nat.le_succ _) _).setCell (p := ⟨w.heap.size + 1, 3, none⟩) (Nat.le_succ _) _).setCell (p := ⟨w.heap.size + 1, 4, none⟩) (Nat.le_succ _) _).setCell (p := ⟨w.heap.size + 1, 5, none⟩) (Nat.le_succ _) _
        | succ g =>
          have hlt : k < m := by omega
          have HG := Lib.hid hkg
          clear hkg
          obtain ⟨e1, he1⟩ : ∃ e1, args[k]? = some e1 := ⟨_, List.getElem?_eq_getElem (by have := HM.out; omega)⟩
          have HE1 := Lib.hid he1
          have hk1 := rokL_at f args k e1 HKA.out he1
          have hbg := Ex.big_at args k e1 he1
          have hln : (Ex.resL f (args.take k)).length = k := rx_len (by have := HM.out; omega)
          have HLN := Lib.hid hln
          obtain ⟨bb, o, rfl, hS, hrow⟩ := HRW.out (fun e => by have := HM.out; rw [e] at this; simp at this; omega)
          obtain ⟨cs, hcs, hex⟩ := ExRow.get args bb o k e1 hrow he1
          obtain ⟨a1, b1, s1, c1, d1, A1, l1, q1, rfl⟩ := hex.plain
          have hbb : bb < w.heap.size := hcs.lt
          have hw : ∀ j u, w.cell? ⟨bb, j, none⟩ = some u → wr.cell? ⟨bb, j, none⟩ = some u := fun j u hu => (HH.out.b.cell (p := ⟨bb, j, none⟩) hbb).trans hu
          have y0 := hw _ _ (hcs 0 _ rfl)
          have y1 := hw _ _ (hcs 1 _ rfl)
          have y2 := hw _ _ (hcs 2 _ rfl)
          have y3 := hw _ _ (hcs 3 _ rfl)
          have y4 := hw _ _ (hcs 4 _ rfl)
          have y5 := hw _ _ (hcs 5 _ rfl)
          rw [Nat.add_zero] at y0
          have hd0 := HD.out
          have HEX := Lib.hid (fun (W : World) (h : Below w.heap.size w W) (hs : RSt R W f) => IH.out e1 (by omega) hk1 R S W a1 b1 s1 c1 d1 A1 l1 q1 hs (ExL.still (fun k hk1 hk2 => ⟨hk1, h.block k hk2⟩) e1 _ hex))
          clear hw hcs hrow he1 hex hbg hd0 hk1 hln
          go_wp2_with fail
          refine (HEX.out _ (HH.out.b.alloc hz0 _) ((HRS.out.below (HH.out.b.mono (Nat.le_refl _))).below ((Below.refl _ _).alloc (Nat.le_refl _) _))).mono ?_
          rintro e' w2 ⟨v2, rfl, ⟨x0, x1, x2, x3, x4, xA, xl, xq, rfl, hl⟩, hb⟩
          have HB2 := Lib.hid ((rp_one1 wr (.cells #[.int .i64 a1, .int .i64 b1, .string s1, .int .i64 c1, .int .i64 d1, .slice A1 l1 q1] 55)).trans (hb.mono (by rw [new_size]; omega)))
          have HL2 := Lib.hid (ExL.still (S' := From wr.heap.size) (w' := w2) (fun k (h1 : _ ≤ k) _ => ⟨show wr.heap.size ≤ k by rw [new_size] at h1; omega, rfl⟩) _ _ hl)
          have hz2 := HB2.out.size
          clear hb hl y0 y1 y2 y3 y4 y5
          go_wp2_with (at_builtin; refine wpList_append_own_at _ rfl _ _ 53 rfl (w.heap.size + 2) 55 i0 _ 6 72 Tryd.underlying53 HI.out HI0.out HI1.out HI2.out rfl (by decide) _ _ _ rfl ((own_bel HH.out.o HB2.out).alloc _) ⟨w2.heap.size, 0, none⟩ 1 1 [.int .i64 x0, .int .i64 x1, .string x2, .int .i64 x3, .int .i64 x4, .slice xA xl xq] rfl rfl (ex_new _ _ _) (by simp [Value.oneCell']) (by rw [HLN.out]; unfold maxLen; omega) (by rw [HLN.out]; omega) (by rw [new_size]; omega) ?_)
          intro v9 w9 hown hgrow _ hob
          have HN := Lib.hid (RxHead.next HH.out rfl HE1.out HB2.out HL2.out hown hgrow hob)
          clear hown hgrow hob
          go_wp2_with fail
          go_roundg g
          case rel => exact ⟨k + 1, _, by have := HG.out; omega, by go_num, HN.out⟩
          case measure => omega
    · obtain ⟨⟨x1, x2⟩, hfx, hpx⟩ := hk3 rfl
      have hres : Ex.res f (.mk 3 b name c d args) = .mk 3 b name x1 x2 (Ex.resL f args) := by simp [Ex.res, hfx]
      have hf := find_good R f name true (x1, x2) ((w.alloc (.cells #[.int .i64 3, .int .i64 b, .string (strB name), .int .i64 c, .int .i64 d, .slice A m q] 55)).alloc (.cells #[.int .i64 0, .int .i64 0, .string ⟨#[]⟩, .int .i64 0, .int .i64 0, .slice none 0 0] 55)) (hr.below (((Below.refl _ _).alloc (Nat.le_refl _) _).alloc (by rw [new_size]; omega) _)) hnm hfx (by simp at hpx ⊢; omega)
      simp only [plV] at hf
      have hW0 := (alloc_blk (w.alloc (.cells #[.int .i64 3, .int .i64 b, .string (strB name), .int .i64 c, .int .i64 d, .slice A m q] 55)) (.cells #[.int .i64 0, .int .i64 0, .string ⟨#[]⟩, .int .i64 0, .int .i64 0, .slice none 0 0] 55) (k := w.heap.size) (by rw [new_size]; omega)).trans (new_blk w _)
      have hW1 := new_blk1 w (.cells #[.int .i64 3, .int .i64 b, .string (strB name), .int .i64 c, .int .i64 d, .slice A m q] 55) (.cells #[.int .i64 0, .int .i64 0, .string ⟨#[]⟩, .int .i64 0, .int .i64 0, .slice none 0 0] 55)
      have hWB : Below w.heap.size w ((w.alloc (.cells #[.int .i64 3, .int .i64 b, .string (strB name), .int .i64 c, .int .i64 d, .slice A m q] 55)).alloc (.cells #[.int .i64 0, .int .i64 0, .string ⟨#[]⟩, .int .i64 0, .int .i64 0, .slice none 0 0] 55)) := ((Below.refl _ _).alloc (Nat.le_refl _) _).alloc (by rw [new_size]; omega) _
      have hWz : ((w.alloc (.cells #[.int .i64 3, .int .i64 b, .string (strB name), .int .i64 c, .int .i64 d, .slice A m q] 55)).alloc (.cells #[.int .i64 0, .int .i64 0, .string ⟨#[]⟩, .int .i64 0, .int .i64 0, .slice none 0 0] 55)).heap.size = w.heap.size + 2 := by rw [new_size, new_size]
      have HW0 := Lib.hid hW0
      have HW1 := Lib.hid hW1
      have HWB := Lib.hid hWB
      have HWZ := Lib.hid hWz
      have HF := Lib.hid hf
      rw [hres]
      clear ih hrw hm h hc hka hk2 hk3 hr hres hf hW0 hW1 hWB hWz hfx hpx hnm
      go_enter Tryd.func37, Tryd.ntmps37
      go_wp2_with fail
      refine HF.out.mono ?_
      rintro e0 w1 ⟨rfl, hb1⟩
      rw [HWZ.out] at hb1
      have HX1 := Lib.hid ((hb1.block _ (by omega)).trans HW0.out)
      have HY1 := Lib.hid ((hb1.block _ (by omega)).trans HW1.out)
      have HB1 := Lib.hid (HWB.out.trans (hb1.mono (by omega)))
      have hz1 := hb1.size
      rw [HWZ.out] at hz1
      obtain ⟨z0, z1, z2, z3, z4, z5, y0, y1, y2, y3, y4, y5, hlt1⟩ := box6 HX1.out
      clear hb1
      go_wp2_with fail
      go_region
      go_wp2_with fail
      clear z0 z1 z2 z3 z4 z5 y0 y1 y2 y3 y4 y5
      go_loopg [6, 33] m (fun g v i wr => ∃ (k : Nat) (css : List (List Value)), k + g = m ∧ i = .int .i64 k ∧ RxHead R f (w.heap.size + 2) w k args [.int .i64 3, .int .i64 b, .string (strB name), .int .i64 x1, .int .i64 x2, .slice A m q] v wr css)
      case atStart => exact ⟨0, [], by omega, rfl, ⟨(((HB1.out.setCell (p := ⟨w.heap.size, 3, none⟩) (Nat.le_refl _) _).setCell (p := ⟨w.heap.size, 4, none⟩) (Nat.le_refl _) _).alloc (by rw [set_size, set_size]; omega) _).trans (below_drew1 _), (alloc_blk _ _ (by rw [set_size, set_size]; omega)).trans (blk_set (blk_set HX1.out 3 _) 4 _), (alloc_blk _ _ (by rw [set_size, set_size]; omega)).trans (((Below.heap_setCell _ ⟨w.heap.size, 4, none⟩ _ _ (by show _ ≠ w.heap.size; omega)).trans (Below.heap_setCell _ ⟨w.heap.size, 3, none⟩ _ _ (by show _ ≠ w.heap.size; omega))).trans HY1.out), World.ownsRow_nil _ _ _ _, trivial⟩⟩
      case round =>
        obtain ⟨k, css, hkg, rfl, hh⟩ := hrel
        have HH := Lib.hid hh
        have hz0 := hh.b.size
        have hzx := lt_of_block hh.x
        have hzr := lt_of_block hh.r
        clear hh
        cases gk with
        | zero =>
          have hkm : k = m := by omega
          subst hkm
          have HT : Hid (args.take k = args) := List.take_of_length_le (by have := HM.out; omega)
          obtain ⟨A9, c9, hv9, hc9, hrow⟩ := own_exs HH.out.o HH.out.a
          rw [HT.out] at hv9 hc9 hrow
          have hln : (Ex.resL f args).length = k := by rw [resL_len]; exact HM.out
          rw [hln] at hv9 hc9
          have HRO := Lib.hid hrow
          obtain ⟨c0, c1, c2, c3, c4, c5, f0, f1, f2, f3, f4, f5, _⟩ := box6 (show wr.heap[w.heap.size]? = some (.cells #[.int .i64 3, .int .i64 b, .string (strB name), .int .i64 x1, .int .i64 x2, .slice A k q] 55 (0, 0)) from HH.out.x)
          obtain ⟨r0, r1, r2, r3, r4, r5, g0, g1, g2, g3, g4, g5, _⟩ := box6 HH.out.r
          subst hv9
          have hnlt : ¬ k < k := by omega
          clear hkg hrow hln
          go_wp2_with fail
          refine bodyPost_ret (v := .agg #[.int .i64 3, .int .i64 b, .string (strB name), .int .i64 x1, .int .i64 x2, .slice A9 k c9]) ?_ rfl ?_
          · simp [results, Tryd.results37, go_sem, World.cell?_setCell_same, World.cell?_setCell_other, r0, r1, r2, r3, r4, r5]
          · refine ⟨_, rfl, ⟨_, _, _, _, _, _, _, _, rfl, ?_⟩, ?_⟩
            · simp only [ExL]
              refine ⟨A9, c9, by simp only [exCells]; rw [resL_len, HM.out], by rw [resL_len, HM.out]; exact hc9, fun hne => ?_⟩
              obtain ⟨bb, o, hA, hbb, hrw⟩ := HRO.out hne
              refine ⟨bb, o, hA, show w.heap.size ≤ bb by omega, ExRow.still (S := From (w.heap.size + 2)) (fun j (h1 : w.heap.size + 2 ≤ j) _ => ⟨show w.heap.size ≤ j by omega, ?_⟩) _ bb o hbb hrw⟩
              exact (set6_blk _ _ _ _ _ _ _ _ (by omega)).trans (Below.heap_setCell _ _ _ _ (by show j ≠ w.heap.size; omega))
            · have h1 : Below w.heap.size w (wr.setCell ⟨w.heap.size, 5, none⟩ (.slice A9 k c9)) := HH.out.b.setCell (p := ⟨w.heap.size, 5, none⟩) (Nat.le_refl _) _
              exact (((((h1.setCell (p := ⟨w.heap.size + 1, 0, none⟩) (Nat.le_succ _) _).setCell (p := ⟨w.heap.size + 1, 1, none⟩) (Nat.le_succ _) _).setCell (p := ⟨w.heap.size + 1, 2, none⟩) (Nat.le_succ _) _).setCell (p := ⟨w.heap.size + 1, 3, none⟩) (Nat.le_succ _) _).setCell (p := ⟨w.heap.size + 1, 4, none⟩) (Nat.le_succ _) _).setCell (p := ⟨w.heap.size + 1, 5, none⟩) (Nat.le_succ _) _
        | succ g =>
          have hlt : k < m := by omega
          have HG := Lib.hid hkg
          clear hkg
          obtain ⟨e1, he1⟩ : ∃ e1, args[k]? = some e1 := ⟨_, List.getElem?_eq_getElem (by have := HM.out; omega)⟩
          have HE1 := Lib.hid he1
          have hk1 := rokL_at f args k e1 HKA.out he1
          have hbg := Ex.big_at args k e1 he1
          have hln : (Ex.resL f (args.take k)).length = k := rx_len (by have := HM.out; omega)
          have HLN := Lib.hid hln
          obtain ⟨bb, o, rfl, hS, hrow⟩ := HRW.out (fun e => by have := HM.out; rw [e] at this; simp at this; omega)
          obtain ⟨cs, hcs, hex⟩ := ExRow.get args bb o k e1 hrow he1
          obtain ⟨a1, b1, s1, c1, d1, A1, l1, q1, rfl⟩ := hex.plain
          have hbb : bb < w.heap.size := hcs.lt
          have hw : ∀ j u, w.cell? ⟨bb, j, none⟩ = some u → wr.cell? ⟨bb, j, none⟩ = some u := fun j u hu => (HH.out.b.cell (p := ⟨bb, j, none⟩) hbb).trans hu
          have y0 := hw _ _ (hcs 0 _ rfl)
          have y1 := hw _ _ (hcs 1 _ rfl)
          have y2 := hw _ _ (hcs 2 _ rfl)
          have y3 := hw _ _ (hcs 3 _ rfl)
          have y4 := hw _ _ (hcs 4 _ rfl)
          have y5 := hw _ _ (hcs 5 _ rfl)
          rw [Nat.add_zero] at y0
          have hd0 := HD.out
          have HEX := Lib.hid (fun (W : World) (h : Below w.heap.size w W) (hs : RSt R W f) => IH.out e1 (by omega) hk1 R S W a1 b1 s1 c1 d1 A1 l1 q1 hs (ExL.still (fun k hk1 hk2 => ⟨hk1, h.block k hk2⟩) e1 _ hex))
          clear hw hcs hrow he1 hex hbg hd0 hk1 hln
          go_wp2_with fail
          refine (HEX.out _ (HH.out.b.alloc hz0 _) ((HRS.out.below (HH.out.b.mono (Nat.le_refl _))).below ((Below.refl _ _).alloc (Nat.le_refl _) _))).mono ?_
          rintro e' w2 ⟨v2, rfl, ⟨x0, x1, x2, x3, x4, xA, xl, xq, rfl, hl⟩, hb⟩
          have HB2 := Lib.hid ((rp_one1 wr (.cells #[.int .i64 a1, .int .i64 b1, .string s1, .int .i64 c1, .int .i64 d1, .slice A1 l1 q1] 55)).trans (hb.mono (by rw [new_size]; omega)))
          have HL2 := Lib.hid (ExL.still (S' := From wr.heap.size) (w' := w2) (fun k (h1 : _ ≤ k) _ => ⟨show wr.heap.size ≤ k by rw [new_size] at h1; omega, rfl⟩) _ _ hl)
          have hz2 := HB2.out.size
          clear hb hl y0 y1 y2 y3 y4 y5
          go_wp2_with (at_builtin; refine wpList_append_own_at _ rfl _ _ 53 rfl (w.heap.size + 2) 55 i0 _ 6 72 Tryd.underlying53 HI.out HI0.out HI1.out HI2.out rfl (by decide) _ _ _ rfl ((own_bel HH.out.o HB2.out).alloc _) ⟨w2.heap.size, 0, none⟩ 1 1 [.int .i64 x0, .int .i64 x1, .string x2, .int .i64 x3, .int .i64 x4, .slice xA xl xq] rfl rfl (ex_new _ _ _) (by simp [Value.oneCell']) (by rw [HLN.out]; unfold maxLen; omega) (by rw [HLN.out]; omega) (by rw [new_size]; omega) ?_)
          intro v9 w9 hown hgrow _ hob
          have HN := Lib.hid (RxHead.next HH.out rfl HE1.out HB2.out HL2.out hown hgrow hob)
          clear hown hgrow hob
          go_wp2_with fail
          go_roundg g
          case rel => exact ⟨k + 1, _, by have := HG.out; omega, by go_num, HN.out⟩
          case measure => omega
  · have hres : Ex.res f (.mk a b name c d args) = .mk a b name c d (Ex.resL f args) := by simp only [Ex.res]; rw [if_neg h23]
    have h2' : (a == 2) = false := by simp; omega
    have h3' : (a == 3) = false := by simp; omega
    rw [hres]
    clear ih hrw hm h hc hka hk2 hk3 hr hres h23
    go_enter Tryd.func37, Tryd.ntmps37
    go_wp2_with fail
    go_loopg [6, 33] m (fun g v i wr => ∃ (k : Nat) (css : List (List Value)), k + g = m ∧ i = .int .i64 k ∧ RxHead R f (w.heap.size + 2) w k args [.int .i64 a, .int .i64 b, .string (strB name), .int .i64 c, .int .i64 d, .slice A m q] v wr css)
    case atStart => exact ⟨0, [], by omega, rfl, ⟨((Below.refl _ _).alloc (Nat.le_refl _) _).alloc (by rw [new_size]; omega) _, (alloc_blk _ _ (by rw [new_size]; omega)).trans (new_blk w _), new_blk1 w _ _, World.ownsRow_nil _ _ _ _, trivial⟩⟩
    case round =>
      obtain ⟨k, css, hkg, rfl, hh⟩ := hrel
      have HH := Lib.hid hh
      have hz0 := hh.b.size
      have hzx := lt_of_block hh.x
      have hzr := lt_of_block hh.r
      clear hh
      cases gk with
      | zero =>
        have hkm : k = m := by omega
        subst hkm
        have HT : Hid (args.take k = args) := List.take_of_length_le (by have := HM.out; omega)
        obtain ⟨A9, c9, hv9, hc9, hrow⟩ := own_exs HH.out.o HH.out.a
        rw [HT.out] at hv9 hc9 hrow
        have hln : (Ex.resL f args).length = k := by rw [resL_len]; exact HM.out
        rw [hln] at hv9 hc9
        have HRO := Lib.hid hrow
        obtain ⟨c0, c1, c2, c3, c4, c5, f0, f1, f2, f3, f4, f5, _⟩ := box6 (show wr.heap[w.heap.size]? = some (.cells #[.int .i64 a, .int .i64 b, .string (strB name), .int .i64 c, .int .i64 d, .slice A k q] 55 (0, 0)) from HH.out.x)
        obtain ⟨r0, r1, r2, r3, r4, r5, g0, g1, g2, g3, g4, g5, _⟩ := box6 HH.out.r
        subst hv9
        have hnlt : ¬ k < k := by omega
        clear hkg hrow hln
        go_wp2_with fail
        refine bodyPost_ret (v := .agg #[.int .i64 a, .int .i64 b, .string (strB name), .int .i64 c, .int .i64 d, .slice A9 k c9]) ?_ rfl ?_
        · simp [results, Tryd.results37, go_sem, World.cell?_setCell_same, World.cell?_setCell_other, r0, r1, r2, r3, r4, r5]
        · refine ⟨_, rfl, ⟨_, _, _, _, _, _, _, _, rfl, ?_⟩, ?_⟩
          · simp only [ExL]
            refine ⟨A9, c9, by simp only [exCells]; rw [resL_len, HM.out], by rw [resL_len, HM.out]; exact hc9, fun hne => ?_⟩
            obtain ⟨bb, o, hA, hbb, hrw⟩ := HRO.out hne
            refine ⟨bb, o, hA, show w.heap.size ≤ bb by omega, ExRow.still (S := From (w.heap.size + 2)) (fun j (h1 : w.heap.size + 2 ≤ j) _ => ⟨show w.heap.size ≤ j by omega, ?_⟩) _ bb o hbb hrw⟩
            exact (set6_blk _ _ _ _ _ _ _ _ (by omega)).trans (Below.heap_setCell _ _ _ _ (by show j ≠ w.heap.size; omega))
          · have h1 : Below w.heap.size w (wr.setCell ⟨w.heap.size, 5, none⟩ (.slice A9 k c9)) := HH.out.b.setCell (p := ⟨w.heap.size, 5, none⟩) (Nat.le_refl _) _
            exact (((((h1.setCell (p := ⟨w.heap.size + 1, 0, none⟩) (Nat.le_succ _) _).setCell (p := ⟨w.heap.size + 1, 1, none⟩) (Nat.le_succ _) _).setCell (p := ⟨w.heap.size + 1, 2, none⟩) (Nat.le_succ _) _).setCell (p := ⟨w.heap.size + 1, 3, none⟩) (Nat.le_succ _) _).setCell (p := ⟨w.heap.size + 1, 4, none⟩) (Nat.le_succ _) _).setCell (p := ⟨w.heap.size + 1, 5, none⟩) (Nat.le_succ _) _
      | succ g =>
        have hlt : k < m := by omega
        have HG := Lib.hid hkg
        clear hkg
        obtain ⟨e1, he1⟩ : ∃ e1, args[k]? = some e1 := ⟨_, List.getElem?_eq_getElem (by have := HM.out; omega)⟩
        have HE1 := Lib.hid he1
        have hk1 := rokL_at f args k e1 HKA.out he1
        have hbg := Ex.big_at args k e1 he1
        have hln : (Ex.resL f (args.take k)).length = k := rx_len (by have := HM.out; omega)
        have HLN := Lib.hid hln
        obtain ⟨bb, o, rfl, hS, hrow⟩ := HRW.out (fun e => by have := HM.out; rw [e] at this; simp at this; omega)
        obtain ⟨cs, hcs, hex⟩ := ExRow.get args bb o k e1 hrow he1
        obtain ⟨a1, b1, s1, c1, d1, A1, l1, q1, rfl⟩ := hex.plain
        have hbb : bb < w.heap.size := hcs.lt
        have hw : ∀ j u, w.cell? ⟨bb, j, none⟩ = some u → wr.cell? ⟨bb, j, none⟩ = some u := fun j u hu => (HH.out.b.cell (p := ⟨bb, j, none⟩) hbb).trans hu
        have y0 := hw _ _ (hcs 0 _ rfl)
        have y1 := hw _ _ (hcs 1 _ rfl)
        have y2 := hw _ _ (hcs 2 _ rfl)
        have y3 := hw _ _ (hcs 3 _ rfl)
        have y4 := hw _ _ (hcs 4 _ rfl)
        have y5 := hw _ _ (hcs 5 _ rfl)
        rw [Nat.add_zero] at y0
        have hd0 := HD.out
        have HEX := Lib.hid (fun (W : World) (h : Below w.heap.size w W) (hs : RSt R W f) => IH.out e1 (by omega) hk1 R S W a1 b1 s1 c1 d1 A1 l1 q1 hs (ExL.still (fun k hk1 hk2 => ⟨hk1, h.block k hk2⟩) e1 _ hex))
        clear hw hcs hrow he1 hex hbg hd0 hk1 hln
        go_wp2_with fail
        refine (HEX.out _ (HH.out.b.alloc hz0 _) ((HRS.out.below (HH.out.b.mono (Nat.le_refl _))).below ((Below.refl _ _).alloc (Nat.le_refl _) _))).mono ?_
        rintro e' w2 ⟨v2, rfl, ⟨x0, x1, x2, x3, x4, xA, xl, xq, rfl, hl⟩, hb⟩
        have HB2 := Lib.hid ((rp_one1 wr (.cells #[.int .i64 a1, .int .i64 b1, .string s1, .int .i64 c1, .int .i64 d1, .slice A1 l1 q1] 55)).trans (hb.mono (by rw [new_size]; omega)))
        have HL2 := Lib.hid (ExL.still (S' := From wr.heap.size) (w' := w2) (fun k (h1 : _ ≤ k) _ => ⟨show wr.heap.size ≤ k by rw [new_size] at h1; omega, rfl⟩) _ _ hl)
        have hz2 := HB2.out.size
        clear hb hl y0 y1 y2 y3 y4 y5
        go_wp2_with (at_builtin; refine wpList_append_own_at _ rfl _ _ 53 rfl (w.heap.size + 2) 55 i0 _ 6 72 Tryd.underlying53 HI.out HI0.out HI1.out HI2.out rfl (by decide) _ _ _ rfl ((own_bel HH.out.o HB2.out).alloc _) ⟨w2.heap.size, 0, none⟩ 1 1 [.int .i64 x0, .int .i64 x1, .string x2, .int .i64 x3, .int .i64 x4, .slice xA xl xq] rfl rfl (ex_new _ _ _) (by simp [Value.oneCell']) (by rw [HLN.out]; unfold maxLen; omega) (by rw [HLN.out]; omega) (by rw [new_size]; omega) ?_)
        intro v9 w9 hown hgrow _ hob
        have HN := Lib.hid (RxHead.next HH.out rfl HE1.out HB2.out HL2.out hown hgrow hob)
        clear hown hgrow hob
        go_wp2_with fail
        go_roundg g
        case rel => exact ⟨k + 1, _, by have := HG.out; omega, by go_num, HN.out⟩
        case measure => omega

theorem rexpr_all (f : Pl) : ∀ n, RxC f n
  | 0 => fun e h => by cases e; simp [Ex.big] at h
  | n + 1 => rexpr_step f n (rexpr_all f n)

/-- expr with all names declared and standing for what they are declared as. -/
theorem rexpr_good (f : Pl) (e : Ex) (hb : e.big ≤ 100000) (hok : e.rok f) (R : Nat) (S : Nat → Prop) (w : World) (a b : Int) (s : ByteArray) (c d : Int) (A : Option Addr) (l q : Nat) (h : RSt R w f) (hl : ExL S w e [.int .i64 a, .int .i64 b, .string s, .int .i64 c, .int .i64 d, .slice A l q]) :
    Calls Tryd.prog 37 #[.pointer (some ⟨R, 0, none⟩), .agg #[.int .i64 a, .int .i64 b, .string s, .int .i64 c, .int .i64 d, .slice A l q]] w fun e' w' => ∃ v, e' = .returned v ∧ VEx w.heap.size w' (e.res f) v ∧ Below w.heap.size w w' :=
  rexpr_all f e.big e (Nat.le_refl _) hb hok R S w a b s c d A l q h hl

end Go.Proofs.YtgkioompcmgmdaaDoor
