/-
  What inside and within of package rollbacknetlaw03 return where all places lie within the cells: true. Conditions: at most 100000 parts; the number of cells is from 0 to 1000.
-/
import Derived.Test.YtbnlgpihongegaaDoorWalkRt
namespace Go.Proofs.YtbnlgpihongegaaDoor
open Go.RowKit

mutual
/-- All places of an expression lie within n cells. -/
def insO (n : Int) : Ex → Prop
  | .mk op _ _ slot size args => ((op = 2 ∨ op = 3) → 0 ≤ slot ∧ slot + max size 1 ≤ n) ∧ insL n args
def insL (n : Int) : List Ex → Prop
  | [] => True
  | e :: r => insO n e ∧ insL n r
end
theorem insL_at (n : Int) : ∀ (l : List Ex) (k : Nat) (e : Ex), insL n l → l[k]? = some e → insO n e
  | [], _, _, _, h => by simp at h
  | x :: r, 0, e, hs, h => by
    simp only [List.getElem?_cons_zero, Option.some.injEq] at h
    subst h
    simp only [insL] at hs
    exact hs.1
  | x :: r, k + 1, e, hs, h => by
    simp only [List.getElem?_cons_succ] at h
    simp only [insL] at hs
    exact insL_at n r k e hs.2 h
mutual
/-- All places of a statement lie within n cells. -/
def witO (n : Int) : St → Prop
  | .mk kind _ slot size p v b e => ((kind = 1 ∨ kind = 2) → 0 ≤ slot ∧ slot + max size 1 ≤ n) ∧ insO n p ∧ insO n v ∧ witL n b ∧ witL n e
def witL (n : Int) : List St → Prop
  | [] => True
  | s :: r => witO n s ∧ witL n r
end
theorem witL_at (n : Int) : ∀ (l : List St) (k : Nat) (e : St), witL n l → l[k]? = some e → witO n e
  | [], _, _, _, h => by simp at h
  | x :: r, 0, e, hs, h => by
    simp only [List.getElem?_cons_zero, Option.some.injEq] at h
    subst h
    simp only [witL] at hs
    exact hs.1
  | x :: r, k + 1, e, hs, h => by
    simp only [List.getElem?_cons_succ] at h
    simp only [witL] at hs
    exact witL_at n r k e hs.2 h

def InC (t : Int) (n : Nat) : Prop := ∀ (e : Ex), e.big ≤ n → insO t e → ∀ (S : Nat → Prop) (w : World) (a b : Int) (s : ByteArray) (c d : Int) (A : Option Addr) (l q : Nat), ExL S w e [.int .i64 a, .int .i64 b, .string s, .int .i64 c, .int .i64 d, .slice A l q] →
    Calls Tryd.prog 30 #[.agg #[.int .i64 a, .int .i64 b, .string s, .int .i64 c, .int .i64 d, .slice A l q], .int .i64 t] w fun e' w' => e' = .returned (.bool true) ∧ Below w.heap.size w w'

set_option maxHeartbeats 4000000 in
set_option maxRecDepth 100000 in
theorem inside_step (t : Int) (ht : t ≤ 1000) (n : Nat) (hn : n ≤ 100000) (ih : InC t n) : InC t (n + 1) := by
  intro e h hsm S w a b s c d A l q hl
  cases e with
  | mk op value name slot size args =>
  simp only [Ex.big] at h
  simp only [insO] at hsm
  have hlq : args.length ≤ 100000 := by have := Ex.len_big args; omega
  simp only [ExL] at hl
  obtain ⟨A', c', e1, hc, hrw⟩ := hl
  simp only [exCells, List.cons.injEq, Value.slice.injEq, and_true] at e1
  obtain ⟨e1, e2, e3, e4, e5, rfl, rfl, rfl⟩ := e1
  injection e1 with _ e1
  injection e2 with _ e2
  injection e3 with e3
  injection e4 with _ e4
  injection e5 with _ e5
  subst e1 e2 e3 e4 e5
  have HRW := Lib.hid hrw
  have IH := Lib.hid (fun e1 h1 h2 S w a b s c d A l q h4 => ih e1 h1 h2 S w a b s c d A l q h4)
  have HD := Lib.hid h
  have HSL := Lib.hid hsm.2
  have hsr := hsm.1
  obtain ⟨m, hm⟩ : ∃ x, args.length = x := ⟨_, rfl⟩
  have HM := Lib.hid hm
  rw [hm] at hlq ⊢
  have HBW := Lib.hid (rp_one1 w (.cells #[.int .i64 a, .int .i64 b, .string (strB name), .int .i64 c, .int .i64 d, .slice A m q] 56))
  have HXW := Lib.hid (new_blk w (.cells #[.int .i64 a, .int .i64 b, .string (strB name), .int .i64 c, .int .i64 d, .slice A m q] 56))
  clear ih hrw hm h hc hsm
  by_cases h2 : a = 2 ∨ a = 3
  · obtain ⟨s0, s1⟩ := hsr h2
    have hd1 : d < 1 ∨ 1 ≤ d := by omega
    rcases h2 with rfl | rfl <;> rcases hd1 with hd1 | hd1
    · have s2 : c + 1 ≤ t := by omega
      clear hsr s1
      go_enter Tryd.func30, Tryd.ntmps30
      go_wp2_with fail
      go_loopg [5, 32] m (fun g _ i wr => ∃ k : Nat, k + g = m ∧ i = .int .i64 k ∧ Hid (Below w.heap.size w wr) ∧ Hid (wr.heap[w.heap.size]? = some (.cells #[.int .i64 2, .int .i64 b, .string (strB name), .int .i64 c, .int .i64 d, .slice A m q] 56 (0, 0))))
      case atStart => exact ⟨0, by omega, rfl, HBW.out, HXW.out⟩
      case round =>
        obtain ⟨k, hkg, rfl, HB, HX⟩ := hrel
        have hz0 := HB.out.size
        obtain ⟨p0, p1, p2, p3, p4, p5, _⟩ := box6 HX.out
        cases gk with
        | zero =>
          have hkm : k = m := by omega
          subst hkm
          have hnlt : ¬ k < k := by omega
          clear hkg
          go_wp2_with fail
          go_ret
          exact ⟨rfl, HB.out⟩
        | succ g =>
          have hlt : k < m := by omega
          have HG := Lib.hid hkg
          clear hkg
          obtain ⟨e1, he1⟩ : ∃ e1, args[k]? = some e1 := ⟨_, List.getElem?_eq_getElem (by have := HM.out; omega)⟩
          have hbg := Ex.big_at args k e1 he1
          have hse := insL_at t args k e1 HSL.out he1
          obtain ⟨bb, o, rfl, hS, hrow⟩ := HRW.out (fun e => by have := HM.out; rw [e] at this; simp at this; omega)
          obtain ⟨cs, hcs, hex⟩ := ExRow.get args bb o k e1 hrow he1
          obtain ⟨a1, b1, s1, c1, d1, A1, l1, q1, rfl⟩ := hex.plain
          have hbb : bb < w.heap.size := hcs.lt
          have hw : ∀ j u, w.cell? ⟨bb, j, none⟩ = some u → wr.cell? ⟨bb, j, none⟩ = some u := fun j u hu => (HB.out.cell (p := ⟨bb, j, none⟩) hbb).trans hu
          have y0 := hw _ _ (hcs 0 _ rfl)
          have y1 := hw _ _ (hcs 1 _ rfl)
          have y2 := hw _ _ (hcs 2 _ rfl)
          have y3 := hw _ _ (hcs 3 _ rfl)
          have y4 := hw _ _ (hcs 4 _ rfl)
          have y5 := hw _ _ (hcs 5 _ rfl)
          rw [Nat.add_zero] at y0
          have hd0 := HD.out
          have HEX := Lib.hid (IH.out e1 (by omega) hse S wr a1 b1 s1 c1 d1 A1 l1 q1 (ExL.still (fun j hj1 hj2 => ⟨hj1, HB.out.block j hj2⟩) e1 _ hex))
          clear hw hcs hrow he1 hex hbg hd0 hse
          go_wp2_with fail
          refine HEX.out.mono ?_
          rintro e' w2 ⟨rfl, hb⟩
          have HB2 := Lib.hid (HB.out.trans (hb.mono hz0))
          have HX2 := Lib.hid (below_blk hb HX.out)
          clear hb y0 y1 y2 y3 y4 y5 p0 p1 p2 p3 p4 p5
          go_wp2_with fail
          go_roundg g
          case rel => exact ⟨k + 1, by have := HG.out; omega, by go_num, HB2.out, HX2.out⟩
          case measure => omega
    · have s2 : c + d ≤ t := by omega
      clear hsr s1
      go_enter Tryd.func30, Tryd.ntmps30
      go_wp2_with fail
      go_loopg [5, 32] m (fun g _ i wr => ∃ k : Nat, k + g = m ∧ i = .int .i64 k ∧ Hid (Below w.heap.size w wr) ∧ Hid (wr.heap[w.heap.size]? = some (.cells #[.int .i64 2, .int .i64 b, .string (strB name), .int .i64 c, .int .i64 d, .slice A m q] 56 (0, 0))))
      case atStart => exact ⟨0, by omega, rfl, HBW.out, HXW.out⟩
      case round =>
        obtain ⟨k, hkg, rfl, HB, HX⟩ := hrel
        have hz0 := HB.out.size
        obtain ⟨p0, p1, p2, p3, p4, p5, _⟩ := box6 HX.out
        cases gk with
        | zero =>
          have hkm : k = m := by omega
          subst hkm
          have hnlt : ¬ k < k := by omega
          clear hkg
          go_wp2_with fail
          go_ret
          exact ⟨rfl, HB.out⟩
        | succ g =>
          have hlt : k < m := by omega
          have HG := Lib.hid hkg
          clear hkg
          obtain ⟨e1, he1⟩ : ∃ e1, args[k]? = some e1 := ⟨_, List.getElem?_eq_getElem (by have := HM.out; omega)⟩
          have hbg := Ex.big_at args k e1 he1
          have hse := insL_at t args k e1 HSL.out he1
          obtain ⟨bb, o, rfl, hS, hrow⟩ := HRW.out (fun e => by have := HM.out; rw [e] at this; simp at this; omega)
          obtain ⟨cs, hcs, hex⟩ := ExRow.get args bb o k e1 hrow he1
          obtain ⟨a1, b1, s1, c1, d1, A1, l1, q1, rfl⟩ := hex.plain
          have hbb : bb < w.heap.size := hcs.lt
          have hw : ∀ j u, w.cell? ⟨bb, j, none⟩ = some u → wr.cell? ⟨bb, j, none⟩ = some u := fun j u hu => (HB.out.cell (p := ⟨bb, j, none⟩) hbb).trans hu
          have y0 := hw _ _ (hcs 0 _ rfl)
          have y1 := hw _ _ (hcs 1 _ rfl)
          have y2 := hw _ _ (hcs 2 _ rfl)
          have y3 := hw _ _ (hcs 3 _ rfl)
          have y4 := hw _ _ (hcs 4 _ rfl)
          have y5 := hw _ _ (hcs 5 _ rfl)
          rw [Nat.add_zero] at y0
          have hd0 := HD.out
          have HEX := Lib.hid (IH.out e1 (by omega) hse S wr a1 b1 s1 c1 d1 A1 l1 q1 (ExL.still (fun j hj1 hj2 => ⟨hj1, HB.out.block j hj2⟩) e1 _ hex))
          clear hw hcs hrow he1 hex hbg hd0 hse
          go_wp2_with fail
          refine HEX.out.mono ?_
          rintro e' w2 ⟨rfl, hb⟩
          have HB2 := Lib.hid (HB.out.trans (hb.mono hz0))
          have HX2 := Lib.hid (below_blk hb HX.out)
          clear hb y0 y1 y2 y3 y4 y5 p0 p1 p2 p3 p4 p5
          go_wp2_with fail
          go_roundg g
          case rel => exact ⟨k + 1, by have := HG.out; omega, by go_num, HB2.out, HX2.out⟩
          case measure => omega
    · have s2 : c + 1 ≤ t := by omega
      clear hsr s1
      go_enter Tryd.func30, Tryd.ntmps30
      go_wp2_with fail
      go_loopg [5, 32] m (fun g _ i wr => ∃ k : Nat, k + g = m ∧ i = .int .i64 k ∧ Hid (Below w.heap.size w wr) ∧ Hid (wr.heap[w.heap.size]? = some (.cells #[.int .i64 3, .int .i64 b, .string (strB name), .int .i64 c, .int .i64 d, .slice A m q] 56 (0, 0))))
      case atStart => exact ⟨0, by omega, rfl, HBW.out, HXW.out⟩
      case round =>
        obtain ⟨k, hkg, rfl, HB, HX⟩ := hrel
        have hz0 := HB.out.size
        obtain ⟨p0, p1, p2, p3, p4, p5, _⟩ := box6 HX.out
        cases gk with
        | zero =>
          have hkm : k = m := by omega
          subst hkm
          have hnlt : ¬ k < k := by omega
          clear hkg
          go_wp2_with fail
          go_ret
          exact ⟨rfl, HB.out⟩
        | succ g =>
          have hlt : k < m := by omega
          have HG := Lib.hid hkg
          clear hkg
          obtain ⟨e1, he1⟩ : ∃ e1, args[k]? = some e1 := ⟨_, List.getElem?_eq_getElem (by have := HM.out; omega)⟩
          have hbg := Ex.big_at args k e1 he1
          have hse := insL_at t args k e1 HSL.out he1
          obtain ⟨bb, o, rfl, hS, hrow⟩ := HRW.out (fun e => by have := HM.out; rw [e] at this; simp at this; omega)
          obtain ⟨cs, hcs, hex⟩ := ExRow.get args bb o k e1 hrow he1
          obtain ⟨a1, b1, s1, c1, d1, A1, l1, q1, rfl⟩ := hex.plain
          have hbb : bb < w.heap.size := hcs.lt
          have hw : ∀ j u, w.cell? ⟨bb, j, none⟩ = some u → wr.cell? ⟨bb, j, none⟩ = some u := fun j u hu => (HB.out.cell (p := ⟨bb, j, none⟩) hbb).trans hu
          have y0 := hw _ _ (hcs 0 _ rfl)
          have y1 := hw _ _ (hcs 1 _ rfl)
          have y2 := hw _ _ (hcs 2 _ rfl)
          have y3 := hw _ _ (hcs 3 _ rfl)
          have y4 := hw _ _ (hcs 4 _ rfl)
          have y5 := hw _ _ (hcs 5 _ rfl)
          rw [Nat.add_zero] at y0
          have hd0 := HD.out
          have HEX := Lib.hid (IH.out e1 (by omega) hse S wr a1 b1 s1 c1 d1 A1 l1 q1 (ExL.still (fun j hj1 hj2 => ⟨hj1, HB.out.block j hj2⟩) e1 _ hex))
          clear hw hcs hrow he1 hex hbg hd0 hse
          go_wp2_with fail
          refine HEX.out.mono ?_
          rintro e' w2 ⟨rfl, hb⟩
          have HB2 := Lib.hid (HB.out.trans (hb.mono hz0))
          have HX2 := Lib.hid (below_blk hb HX.out)
          clear hb y0 y1 y2 y3 y4 y5 p0 p1 p2 p3 p4 p5
          go_wp2_with fail
          go_roundg g
          case rel => exact ⟨k + 1, by have := HG.out; omega, by go_num, HB2.out, HX2.out⟩
          case measure => omega
    · have s2 : c + d ≤ t := by omega
      clear hsr s1
      go_enter Tryd.func30, Tryd.ntmps30
      go_wp2_with fail
      go_loopg [5, 32] m (fun g _ i wr => ∃ k : Nat, k + g = m ∧ i = .int .i64 k ∧ Hid (Below w.heap.size w wr) ∧ Hid (wr.heap[w.heap.size]? = some (.cells #[.int .i64 3, .int .i64 b, .string (strB name), .int .i64 c, .int .i64 d, .slice A m q] 56 (0, 0))))
      case atStart => exact ⟨0, by omega, rfl, HBW.out, HXW.out⟩
      case round =>
        obtain ⟨k, hkg, rfl, HB, HX⟩ := hrel
        have hz0 := HB.out.size
        obtain ⟨p0, p1, p2, p3, p4, p5, _⟩ := box6 HX.out
        cases gk with
        | zero =>
          have hkm : k = m := by omega
          subst hkm
          have hnlt : ¬ k < k := by omega
          clear hkg
          go_wp2_with fail
          go_ret
          exact ⟨rfl, HB.out⟩
        | succ g =>
          have hlt : k < m := by omega
          have HG := Lib.hid hkg
          clear hkg
          obtain ⟨e1, he1⟩ : ∃ e1, args[k]? = some e1 := ⟨_, List.getElem?_eq_getElem (by have := HM.out; omega)⟩
          have hbg := Ex.big_at args k e1 he1
          have hse := insL_at t args k e1 HSL.out he1
          obtain ⟨bb, o, rfl, hS, hrow⟩ := HRW.out (fun e => by have := HM.out; rw [e] at this; simp at this; omega)
          obtain ⟨cs, hcs, hex⟩ := ExRow.get args bb o k e1 hrow he1
          obtain ⟨a1, b1, s1, c1, d1, A1, l1, q1, rfl⟩ := hex.plain
          have hbb : bb < w.heap.size := hcs.lt
          have hw : ∀ j u, w.cell? ⟨bb, j, none⟩ = some u → wr.cell? ⟨bb, j, none⟩ = some u := fun j u hu => (HB.out.cell (p := ⟨bb, j, none⟩) hbb).trans hu
          have y0 := hw _ _ (hcs 0 _ rfl)
          have y1 := hw _ _ (hcs 1 _ rfl)
          have y2 := hw _ _ (hcs 2 _ rfl)
          have y3 := hw _ _ (hcs 3 _ rfl)
          have y4 := hw _ _ (hcs 4 _ rfl)
          have y5 := hw _ _ (hcs 5 _ rfl)
          rw [Nat.add_zero] at y0
          have hd0 := HD.out
          have HEX := Lib.hid (IH.out e1 (by omega) hse S wr a1 b1 s1 c1 d1 A1 l1 q1 (ExL.still (fun j hj1 hj2 => ⟨hj1, HB.out.block j hj2⟩) e1 _ hex))
          clear hw hcs hrow he1 hex hbg hd0 hse
          go_wp2_with fail
          refine HEX.out.mono ?_
          rintro e' w2 ⟨rfl, hb⟩
          have HB2 := Lib.hid (HB.out.trans (hb.mono hz0))
          have HX2 := Lib.hid (below_blk hb HX.out)
          clear hb y0 y1 y2 y3 y4 y5 p0 p1 p2 p3 p4 p5
          go_wp2_with fail
          go_roundg g
          case rel => exact ⟨k + 1, by have := HG.out; omega, by go_num, HB2.out, HX2.out⟩
          case measure => omega
  · have h2' : (a == 2) = false := by simp; omega
    have h3' : (a == 3) = false := by simp; omega
    clear hsr h2
    go_enter Tryd.func30, Tryd.ntmps30
    go_wp2_with fail
    go_loopg [5, 32] m (fun g _ i wr => ∃ k : Nat, k + g = m ∧ i = .int .i64 k ∧ Hid (Below w.heap.size w wr) ∧ Hid (wr.heap[w.heap.size]? = some (.cells #[.int .i64 a, .int .i64 b, .string (strB name), .int .i64 c, .int .i64 d, .slice A m q] 56 (0, 0))))
    case atStart => exact ⟨0, by omega, rfl, HBW.out, HXW.out⟩
    case round =>
      obtain ⟨k, hkg, rfl, HB, HX⟩ := hrel
      have hz0 := HB.out.size
      obtain ⟨p0, p1, p2, p3, p4, p5, _⟩ := box6 HX.out
      cases gk with
      | zero =>
        have hkm : k = m := by omega
        subst hkm
        have hnlt : ¬ k < k := by omega
        clear hkg
        go_wp2_with fail
        go_ret
        exact ⟨rfl, HB.out⟩
      | succ g =>
        have hlt : k < m := by omega
        have HG := Lib.hid hkg
        clear hkg
        obtain ⟨e1, he1⟩ : ∃ e1, args[k]? = some e1 := ⟨_, List.getElem?_eq_getElem (by have := HM.out; omega)⟩
        have hbg := Ex.big_at args k e1 he1
        have hse := insL_at t args k e1 HSL.out he1
        obtain ⟨bb, o, rfl, hS, hrow⟩ := HRW.out (fun e => by have := HM.out; rw [e] at this; simp at this; omega)
        obtain ⟨cs, hcs, hex⟩ := ExRow.get args bb o k e1 hrow he1
        obtain ⟨a1, b1, s1, c1, d1, A1, l1, q1, rfl⟩ := hex.plain
        have hbb : bb < w.heap.size := hcs.lt
        have hw : ∀ j u, w.cell? ⟨bb, j, none⟩ = some u → wr.cell? ⟨bb, j, none⟩ = some u := fun j u hu => (HB.out.cell (p := ⟨bb, j, none⟩) hbb).trans hu
        have y0 := hw _ _ (hcs 0 _ rfl)
        have y1 := hw _ _ (hcs 1 _ rfl)
        have y2 := hw _ _ (hcs 2 _ rfl)
        have y3 := hw _ _ (hcs 3 _ rfl)
        have y4 := hw _ _ (hcs 4 _ rfl)
        have y5 := hw _ _ (hcs 5 _ rfl)
        rw [Nat.add_zero] at y0
        have hd0 := HD.out
        have HEX := Lib.hid (IH.out e1 (by omega) hse S wr a1 b1 s1 c1 d1 A1 l1 q1 (ExL.still (fun j hj1 hj2 => ⟨hj1, HB.out.block j hj2⟩) e1 _ hex))
        clear hw hcs hrow he1 hex hbg hd0 hse
        go_wp2_with fail
        refine HEX.out.mono ?_
        rintro e' w2 ⟨rfl, hb⟩
        have HB2 := Lib.hid (HB.out.trans (hb.mono hz0))
        have HX2 := Lib.hid (below_blk hb HX.out)
        clear hb y0 y1 y2 y3 y4 y5 p0 p1 p2 p3 p4 p5
        go_wp2_with fail
        go_roundg g
        case rel => exact ⟨k + 1, by have := HG.out; omega, by go_num, HB2.out, HX2.out⟩
        case measure => omega

theorem inside_all (t : Int) (ht : t ≤ 1000) : ∀ n, n ≤ 100001 → InC t n
  | 0, _ => fun e h => by cases e; simp [Ex.big] at h
  | n + 1, h => inside_step t ht n (by omega) (inside_all t ht n (by omega))
end Go.Proofs.YtbnlgpihongegaaDoor
