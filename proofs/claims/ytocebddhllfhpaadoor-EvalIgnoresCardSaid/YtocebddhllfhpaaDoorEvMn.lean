/-
  What mentions of package rollbacknetlaw04 returns: whether an expression can read a cell. Condition: slots and sizes are small; the expression has at most 100000 parts. And: a value does not hang on names, nor on cells that are not mentioned.
-/
import Derived.Test.YtocebddhllfhpaaDoorEvRn
import Derived.Test.YtocebddhllfhpaaDoorEvVz
namespace Go.Proofs.YtocebddhllfhpaaDoor
open Go.RowKit

mutual
/-- Whether an expression can read the cell n. -/
def menS (n : Int) : Ex → Bool
  | .mk op _ _ slot size args => (decide (op = 2) && decide (slot = n)) || (decide (op = 3) && decide (slot ≤ n) && decide (n < slot + size)) || menSL n args
def menSL (n : Int) : List Ex → Bool
  | [] => false
  | e :: r => menS n e || menSL n r
end
theorem menSL_drop (n : Int) : ∀ (l : List Ex) (k : Nat) (e : Ex), l[k]? = some e → menSL n (l.drop k) = (menS n e || menSL n (l.drop (k + 1)))
  | [], _, _, h => by simp at h
  | x :: r, 0, e, h => by
    simp only [List.getElem?_cons_zero, Option.some.injEq] at h
    subst h
    simp [menSL]
  | x :: r, k + 1, e, h => by
    simp only [List.getElem?_cons_succ] at h
    simpa using menSL_drop n r k e h
theorem smOL_at : ∀ (l : List Ex) (k : Nat) (e : Ex), smOL l → l[k]? = some e → smO e
  | [], _, _, _, h => by simp at h
  | x :: r, 0, e, hs, h => by
    simp only [List.getElem?_cons_zero, Option.some.injEq] at h
    subst h
    simp only [smOL] at hs
    exact hs.1
  | x :: r, k + 1, e, hs, h => by
    simp only [List.getElem?_cons_succ] at h
    simp only [smOL] at hs
    exact smOL_at r k e hs.2 h

/-! ### Values -/
mutual
theorem val_ren (zs : List Int) (v : En) : ∀ e : Ex, valS zs v e.ren = valS zs v e
  | .mk op value nm slot size args => by simp only [Ex.ren, valS, arg_ren zs v args]
theorem arg_ren (zs : List Int) (v : En) : ∀ (l : List Ex) (i : Nat), argS zs v (Ex.renL l) i = argS zs v l i
  | [], _ => by simp only [Ex.renL]
  | e :: r, 0 => by simp only [Ex.renL, argS, val_ren zs v e]
  | e :: r, i + 1 => by simp only [Ex.renL, argS, arg_ren zs v r i]
end
theorem cel_set (zs : List Int) (k : Nat) (y n : Int) (h : n ≠ (k : Int)) : celS (zs.set k y) n = celS zs n := by
  unfold celS
  rw [List.length_set]
  split
  · rfl
  · rw [List.getD_eq_getElem?_getD, List.getD_eq_getElem?_getD, List.getElem?_set_ne (by omega)]
mutual
theorem val_set (zs : List Int) (k : Nat) (y : Int) (v : En) : ∀ e : Ex, smO e → menS (k : Int) e = false → valS (zs.set k y) v e = valS zs v e
  | .mk op value nm slot size args => by
    intro hs hm
    simp only [smO] at hs
    simp only [menS, Bool.or_eq_false_iff, Bool.and_eq_false_iff, decide_eq_false_iff_not] at hm
    obtain ⟨⟨h2, h3⟩, hl⟩ := hm
    simp only [valS]
    rw [arg_set zs k y v args hs.2 hl 0, arg_set zs k y v args hs.2 hl 1]
    by_cases e2 : op = 2
    · have hne : slot ≠ (k : Int) := by
        rcases h2 with h2 | h2
        · exact absurd e2 h2
        · exact h2
      rw [cel_set zs k y slot hne]
      by_cases e3 : op = 3
      · omega
      · simp only [if_neg e3]
    · by_cases e3 : op = 3
      · have hb := hs.1 (.inr e3)
        have : elmS (zs.set k y) slot size (argS zs v args 0) = elmS zs slot size (argS zs v args 0) := by
          unfold elmS
          split
          · rfl
          · rename_i hi
            have hw : wrap64 (slot + argS zs v args 0) = slot + argS zs v args 0 := IntWalk.wrap64_in _ (by omega)
            rw [hw, cel_set zs k y _ (by
              rcases h3 with h3 | h3
              · rcases h3 with h3 | h3
                · exact absurd e3 h3
                · omega
              · omega)]
        rw [this]
        simp only [if_neg e2]
      · simp only [if_neg e2, if_neg e3]
theorem arg_set (zs : List Int) (k : Nat) (y : Int) (v : En) : ∀ (l : List Ex), smOL l → menSL (k : Int) l = false → ∀ (i : Nat), argS (zs.set k y) v l i = argS zs v l i
  | [] => by intro _ _ i; simp only [argS]
  | e :: r => by
    intro hs hm i
    simp only [smOL] at hs
    simp only [menSL, Bool.or_eq_false_iff] at hm
    cases i with
    | zero => simp only [argS]; exact val_set zs k y v e hs.1 hm.1
    | succ i => simp only [argS]; exact arg_set zs k y v r hs.2 hm.2 i
end

/-! ### The walk -/
def MnC (t : Int) (n : Nat) : Prop := ∀ (e : Ex), e.big ≤ n → smO e → ∀ (S : Nat → Prop) (w : World) (a b : Int) (s : ByteArray) (c d : Int) (A : Option Addr) (l q : Nat), ExL S w e [.int .i64 a, .int .i64 b, .string s, .int .i64 c, .int .i64 d, .slice A l q] →
    Calls Tryd.prog 15 #[.agg #[.int .i64 a, .int .i64 b, .string s, .int .i64 c, .int .i64 d, .slice A l q], .int .i64 t] w fun e' w' => e' = .returned (.bool (menS t e)) ∧ Below w.heap.size w w'

set_option maxHeartbeats 4000000 in
set_option maxRecDepth 100000 in
theorem mentions_step (t : Int) (n : Nat) (hn : n ≤ 100000) (ih : MnC t n) : MnC t (n + 1) := by
  intro e h hsm S w a b s c d A l q hl
  cases e with
  | mk op value name slot size args =>
  simp only [Ex.big] at h
  simp only [smO] at hsm
  have hlq : args.length ≤ 100000 := by have := Ex.len_big args; omega
  simp only [ExL] at hl
  obtain ⟨A', c', e1, hc, hrw⟩ := hl
  simp only [exCells, List.cons.injEq, Value.slice.injEq, and_true] at e1
  obtain ⟨e1, e2, e3, e4, e5, rfl, rfl, rfl⟩ := e1
  injection e1 with _ e1
  injection e2 with _ e2
  injection e3 with e3
  injection e4 with _ e4
  injection e5 with _ e5
  subst e1 e2 e3 e4 e5
  have HRW := Lib.hid hrw
  have IH := Lib.hid (fun e1 h1 h2 S w a b s c d A l q h4 => ih e1 h1 h2 S w a b s c d A l q h4)
  have HD := Lib.hid h
  have HSL := Lib.hid hsm.2
  have hsr := hsm.1
  simp only [menS]
  obtain ⟨m, hm⟩ : ∃ x, args.length = x := ⟨_, rfl⟩
  have HM := Lib.hid hm
  rw [hm] at hlq ⊢
  have HBW := Lib.hid (rp_one1 w (.cells #[.int .i64 a, .int .i64 b, .string (strB name), .int .i64 c, .int .i64 d, .slice A m q] 31))
  have HXW := Lib.hid (new_blk w (.cells #[.int .i64 a, .int .i64 b, .string (strB name), .int .i64 c, .int .i64 d, .slice A m q] 31))
  clear ih hrw hm h hc hsm
  by_cases h2 : a = 2
  · subst h2
    clear hsr
    by_cases h3 : c = t
    · subst h3
      have HT : (decide ((2 : Int) = 2) && decide (c = c) || decide ((2 : Int) = 3) && decide (c ≤ c) && decide (c < c + d) || menSL c args) = true := by simp
      rw [HT]
      clear HT
      go_enter Tryd.func15, Tryd.ntmps15
      go_wp2_with fail
      go_ret
      exact ⟨rfl, HBW.out⟩
    · have h3' : (c == t) = false := beq_eq_false_iff_ne.2 h3
      obtain ⟨R, hR⟩ : ∃ R, menSL t args = R := ⟨_, rfl⟩
      have HML := Lib.hid hR
      have hv : (decide ((2 : Int) = 2) && decide (c = t) || decide ((2 : Int) = 3) && decide (c ≤ t) && decide (t < c + d) || menSL t args) = R := by rw [hR]; simp [h3]
      rw [hv]
      clear hR hv h3
      go_enter Tryd.func15, Tryd.ntmps15
      go_wp2_with fail
      go_loopg [5, 38] m (fun g _ i wr => ∃ k : Nat, k + g = m ∧ i = .int .i64 k ∧ Hid (menSL t (args.drop k) = R) ∧ Hid (Below w.heap.size w wr) ∧ Hid (wr.heap[w.heap.size]? = some (.cells #[.int .i64 2, .int .i64 b, .string (strB name), .int .i64 c, .int .i64 d, .slice A m q] 31 (0, 0))))
      case atStart => exact ⟨0, by omega, rfl, by show _ = _; rw [List.drop_zero]; exact HML.out, HBW.out, HXW.out⟩
      case round =>
        obtain ⟨k, hkg, rfl, HR, HB, HX⟩ := hrel
        have hz0 := HB.out.size
        obtain ⟨p0, p1, p2, p3, p4, p5, _⟩ := box6 HX.out
        cases gk with
        | zero =>
          have hkm : k = m := by omega
          subst hkm
          have HF : Hid (R = false) := by
            show _ = _
            rw [← HR.out, List.drop_eq_nil_of_le (by have := HM.out; omega)]
            simp only [menSL]
          have hnlt : ¬ k < k := by omega
          clear hkg
          go_wp2_with fail
          go_ret
          exact ⟨ret_bool HF.out.symm, HB.out⟩
        | succ g =>
          have hlt : k < m := by omega
          have HG := Lib.hid hkg
          clear hkg
          obtain ⟨e1, he1⟩ : ∃ e1, args[k]? = some e1 := ⟨_, List.getElem?_eq_getElem (by have := HM.out; omega)⟩
          have HST := Lib.hid (menSL_drop t args k e1 he1)
          have hbg := Ex.big_at args k e1 he1
          have hse := smOL_at args k e1 HSL.out he1
          obtain ⟨bb, o, rfl, hS, hrow⟩ := HRW.out (fun e => by have := HM.out; rw [e] at this; simp at this; omega)
          obtain ⟨cs, hcs, hex⟩ := ExRow.get args bb o k e1 hrow he1
          obtain ⟨a1, b1, s1, c1, d1, A1, l1, q1, rfl⟩ := hex.plain
          have hbb : bb < w.heap.size := hcs.lt
          have hw : ∀ j u, w.cell? ⟨bb, j, none⟩ = some u → wr.cell? ⟨bb, j, none⟩ = some u := fun j u hu => (HB.out.cell (p := ⟨bb, j, none⟩) hbb).trans hu
          have y0 := hw _ _ (hcs 0 _ rfl)
          have y1 := hw _ _ (hcs 1 _ rfl)
          have y2 := hw _ _ (hcs 2 _ rfl)
          have y3 := hw _ _ (hcs 3 _ rfl)
          have y4 := hw _ _ (hcs 4 _ rfl)
          have y5 := hw _ _ (hcs 5 _ rfl)
          rw [Nat.add_zero] at y0
          have hd0 := HD.out
          obtain ⟨Q, hQ⟩ : ∃ Q, menS t e1 = Q := ⟨_, rfl⟩
          have HEX := Lib.hid (IH.out e1 (by omega) hse S wr a1 b1 s1 c1 d1 A1 l1 q1 (ExL.still (fun j hj1 hj2 => ⟨hj1, HB.out.block j hj2⟩) e1 _ hex))
          rw [hQ] at HEX HST
          clear hw hcs hrow he1 hex hbg hd0 hse hQ
          go_wp2_with fail
          refine HEX.out.mono ?_
          rintro e' w2 ⟨rfl, hb⟩
          have HB2 := Lib.hid (HB.out.trans (hb.mono hz0))
          have HX2 := Lib.hid (below_blk hb HX.out)
          clear hb y0 y1 y2 y3 y4 y5 p0 p1 p2 p3 p4 p5
          cases Q with
          | true =>
            have HF : Hid (R = true) := by
              show _ = _
              rw [← HR.out, HST.out, Bool.true_or]
            go_wp2_with fail
            go_ret
            exact ⟨ret_bool HF.out.symm, HB2.out⟩
          | false =>
            have HF : Hid (menSL t (args.drop (k + 1)) = R) := by
              show _ = _
              rw [← HR.out, HST.out, Bool.false_or]
            go_wp2_with fail
            go_roundg g
            case rel => exact ⟨k + 1, by have := HG.out; omega, by go_num, HF.out, HB2.out, HX2.out⟩
            case measure => omega
  · by_cases h3 : a = 3
    · subst h3
      obtain ⟨s0, s1, t0, t1⟩ := hsr (.inr rfl)
      clear hsr h2
      by_cases h4 : c ≤ t
      · by_cases h5 : t < c + d
        · have HT : (decide ((3 : Int) = 2) && decide (c = t) || decide ((3 : Int) = 3) && decide (c ≤ t) && decide (t < c + d) || menSL t args) = true := by simp [h4, h5]
          rw [HT]
          clear HT
          go_enter Tryd.func15, Tryd.ntmps15
          go_wp2_with fail
          go_ret
          exact ⟨rfl, HBW.out⟩
        · obtain ⟨R, hR⟩ : ∃ R, menSL t args = R := ⟨_, rfl⟩
          have HML := Lib.hid hR
          have hv : (decide ((3 : Int) = 2) && decide (c = t) || decide ((3 : Int) = 3) && decide (c ≤ t) && decide (t < c + d) || menSL t args) = R := by rw [hR]; simp [h5]
          rw [hv]
          clear hR hv
          go_enter Tryd.func15, Tryd.ntmps15
          go_wp2_with fail
          go_loopg [5, 38] m (fun g _ i wr => ∃ k : Nat, k + g = m ∧ i = .int .i64 k ∧ Hid (menSL t (args.drop k) = R) ∧ Hid (Below w.heap.size w wr) ∧ Hid (wr.heap[w.heap.size]? = some (.cells #[.int .i64 3, .int .i64 b, .string (strB name), .int .i64 c, .int .i64 d, .slice A m q] 31 (0, 0))))
          case atStart => exact ⟨0, by omega, rfl, by show _ = _; rw [List.drop_zero]; exact HML.out, HBW.out, HXW.out⟩
          case round =>
            obtain ⟨k, hkg, rfl, HR, HB, HX⟩ := hrel
            have hz0 := HB.out.size
            obtain ⟨p0, p1, p2, p3, p4, p5, _⟩ := box6 HX.out
            cases gk with
            | zero =>
              have hkm : k = m := by omega
              subst hkm
              have HF : Hid (R = false) := by
                show _ = _
                rw [← HR.out, List.drop_eq_nil_of_le (by have := HM.out; omega)]
                simp only [menSL]
              have hnlt : ¬ k < k := by omega
              clear hkg
              go_wp2_with fail
              go_ret
              exact ⟨ret_bool HF.out.symm, HB.out⟩
            | succ g =>
              have hlt : k < m := by omega
              have HG := Lib.hid hkg
              clear hkg
              obtain ⟨e1, he1⟩ : ∃ e1, args[k]? = some e1 := ⟨_, List.getElem?_eq_getElem (by have := HM.out; omega)⟩
              have HST := Lib.hid (menSL_drop t args k e1 he1)
              have hbg := Ex.big_at args k e1 he1
              have hse := smOL_at args k e1 HSL.out he1
              obtain ⟨bb, o, rfl, hS, hrow⟩ := HRW.out (fun e => by have := HM.out; rw [e] at this; simp at this; omega)
              obtain ⟨cs, hcs, hex⟩ := ExRow.get args bb o k e1 hrow he1
              obtain ⟨a1, b1, s1, c1, d1, A1, l1, q1, rfl⟩ := hex.plain
              have hbb : bb < w.heap.size := hcs.lt
              have hw : ∀ j u, w.cell? ⟨bb, j, none⟩ = some u → wr.cell? ⟨bb, j, none⟩ = some u := fun j u hu => (HB.out.cell (p := ⟨bb, j, none⟩) hbb).trans hu
              have y0 := hw _ _ (hcs 0 _ rfl)
              have y1 := hw _ _ (hcs 1 _ rfl)
              have y2 := hw _ _ (hcs 2 _ rfl)
              have y3 := hw _ _ (hcs 3 _ rfl)
              have y4 := hw _ _ (hcs 4 _ rfl)
              have y5 := hw _ _ (hcs 5 _ rfl)
              rw [Nat.add_zero] at y0
              have hd0 := HD.out
              obtain ⟨Q, hQ⟩ : ∃ Q, menS t e1 = Q := ⟨_, rfl⟩
              have HEX := Lib.hid (IH.out e1 (by omega) hse S wr a1 b1 s1 c1 d1 A1 l1 q1 (ExL.still (fun j hj1 hj2 => ⟨hj1, HB.out.block j hj2⟩) e1 _ hex))
              rw [hQ] at HEX HST
              clear hw hcs hrow he1 hex hbg hd0 hse hQ
              go_wp2_with fail
              refine HEX.out.mono ?_
              rintro e' w2 ⟨rfl, hb⟩
              have HB2 := Lib.hid (HB.out.trans (hb.mono hz0))
              have HX2 := Lib.hid (below_blk hb HX.out)
              clear hb y0 y1 y2 y3 y4 y5 p0 p1 p2 p3 p4 p5
              cases Q with
              | true =>
                have HF : Hid (R = true) := by
                  show _ = _
                  rw [← HR.out, HST.out, Bool.true_or]
                go_wp2_with fail
                go_ret
                exact ⟨ret_bool HF.out.symm, HB2.out⟩
              | false =>
                have HF : Hid (menSL t (args.drop (k + 1)) = R) := by
                  show _ = _
                  rw [← HR.out, HST.out, Bool.false_or]
                go_wp2_with fail
                go_roundg g
                case rel => exact ⟨k + 1, by have := HG.out; omega, by go_num, HF.out, HB2.out, HX2.out⟩
                case measure => omega
      · obtain ⟨R, hR⟩ : ∃ R, menSL t args = R := ⟨_, rfl⟩
        have HML := Lib.hid hR
        have hv : (decide ((3 : Int) = 2) && decide (c = t) || decide ((3 : Int) = 3) && decide (c ≤ t) && decide (t < c + d) || menSL t args) = R := by rw [hR]; simp [h4]
        rw [hv]
        clear hR hv
        go_enter Tryd.func15, Tryd.ntmps15
        go_wp2_with fail
        go_loopg [5, 38] m (fun g _ i wr => ∃ k : Nat, k + g = m ∧ i = .int .i64 k ∧ Hid (menSL t (args.drop k) = R) ∧ Hid (Below w.heap.size w wr) ∧ Hid (wr.heap[w.heap.size]? = some (.cells #[.int .i64 3, .int .i64 b, .string (strB name), .int .i64 c, .int .i64 d, .slice A m q] 31 (0, 0))))
        case atStart => exact ⟨0, by omega, rfl, by show _ = _; rw [List.drop_zero]; exact HML.out, HBW.out, HXW.out⟩
        case round =>
          obtain ⟨k, hkg, rfl, HR, HB, HX⟩ := hrel
          have hz0 := HB.out.size
          obtain ⟨p0, p1, p2, p3, p4, p5, _⟩ := box6 HX.out
          cases gk with
          | zero =>
            have hkm : k = m := by omega
            subst hkm
            have HF : Hid (R = false) := by
              show _ = _
              rw [← HR.out, List.drop_eq_nil_of_le (by have := HM.out; omega)]
              simp only [menSL]
            have hnlt : ¬ k < k := by omega
            clear hkg
            go_wp2_with fail
            go_ret
            exact ⟨ret_bool HF.out.symm, HB.out⟩
          | succ g =>
            have hlt : k < m := by omega
            have HG := Lib.hid hkg
            clear hkg
            obtain ⟨e1, he1⟩ : ∃ e1, args[k]? = some e1 := ⟨_, List.getElem?_eq_getElem (by have := HM.out; omega)⟩
            have HST := Lib.hid (menSL_drop t args k e1 he1)
            have hbg := Ex.big_at args k e1 he1
            have hse := smOL_at args k e1 HSL.out he1
            obtain ⟨bb, o, rfl, hS, hrow⟩ := HRW.out (fun e => by have := HM.out; rw [e] at this; simp at this; omega)
            obtain ⟨cs, hcs, hex⟩ := ExRow.get args bb o k e1 hrow he1
            obtain ⟨a1, b1, s1, c1, d1, A1, l1, q1, rfl⟩ := hex.plain
            have hbb : bb < w.heap.size := hcs.lt
            have hw : ∀ j u, w.cell? ⟨bb, j, none⟩ = some u → wr.cell? ⟨bb, j, none⟩ = some u := fun j u hu => (HB.out.cell (p := ⟨bb, j, none⟩) hbb).trans hu
            have y0 := hw _ _ (hcs 0 _ rfl)
            have y1 := hw _ _ (hcs 1 _ rfl)
            have y2 := hw _ _ (hcs 2 _ rfl)
            have y3 := hw _ _ (hcs 3 _ rfl)
            have y4 := hw _ _ (hcs 4 _ rfl)
            have y5 := hw _ _ (hcs 5 _ rfl)
            rw [Nat.add_zero] at y0
            have hd0 := HD.out
            obtain ⟨Q, hQ⟩ : ∃ Q, menS t e1 = Q := ⟨_, rfl⟩
            have HEX := Lib.hid (IH.out e1 (by omega) hse S wr a1 b1 s1 c1 d1 A1 l1 q1 (ExL.still (fun j hj1 hj2 => ⟨hj1, HB.out.block j hj2⟩) e1 _ hex))
            rw [hQ] at HEX HST
            clear hw hcs hrow he1 hex hbg hd0 hse hQ
            go_wp2_with fail
            refine HEX.out.mono ?_
            rintro e' w2 ⟨rfl, hb⟩
            have HB2 := Lib.hid (HB.out.trans (hb.mono hz0))
            have HX2 := Lib.hid (below_blk hb HX.out)
            clear hb y0 y1 y2 y3 y4 y5 p0 p1 p2 p3 p4 p5
            cases Q with
            | true =>
              have HF : Hid (R = true) := by
                show _ = _
                rw [← HR.out, HST.out, Bool.true_or]
              go_wp2_with fail
              go_ret
              exact ⟨ret_bool HF.out.symm, HB2.out⟩
            | false =>
              have HF : Hid (menSL t (args.drop (k + 1)) = R) := by
                show _ = _
                rw [← HR.out, HST.out, Bool.false_or]
              go_wp2_with fail
              go_roundg g
              case rel => exact ⟨k + 1, by have := HG.out; omega, by go_num, HF.out, HB2.out, HX2.out⟩
              case measure => omega
    · obtain ⟨R, hR⟩ : ∃ R, menSL t args = R := ⟨_, rfl⟩
      have HML := Lib.hid hR
      have hv : (decide (a = 2) && decide (c = t) || decide (a = 3) && decide (c ≤ t) && decide (t < c + d) || menSL t args) = R := by rw [hR]; simp [h2, h3]
      rw [hv]
      have h2' : (a == 2) = false := beq_eq_false_iff_ne.2 h2
      have h3' : (a == 3) = false := beq_eq_false_iff_ne.2 h3
      clear hR hv h2 h3 hsr
      go_enter Tryd.func15, Tryd.ntmps15
      go_wp2_with fail
      go_loopg [5, 38] m (fun g _ i wr => ∃ k : Nat, k + g = m ∧ i = .int .i64 k ∧ Hid (menSL t (args.drop k) = R) ∧ Hid (Below w.heap.size w wr) ∧ Hid (wr.heap[w.heap.size]? = some (.cells #[.int .i64 a, .int .i64 b, .string (strB name), .int .i64 c, .int .i64 d, .slice A m q] 31 (0, 0))))
      case atStart => exact ⟨0, by omega, rfl, by show _ = _; rw [List.drop_zero]; exact HML.out, HBW.out, HXW.out⟩
      case round =>
        obtain ⟨k, hkg, rfl, HR, HB, HX⟩ := hrel
        have hz0 := HB.out.size
        obtain ⟨p0, p1, p2, p3, p4, p5, _⟩ := box6 HX.out
        cases gk with
        | zero =>
          have hkm : k = m := by omega
          subst hkm
          have HF : Hid (R = false) := by
            show _ = _
            rw [← HR.out, List.drop_eq_nil_of_le (by have := HM.out; omega)]
            simp only [menSL]
          have hnlt : ¬ k < k := by omega
          clear hkg
          go_wp2_with fail
          go_ret
          exact ⟨ret_bool HF.out.symm, HB.out⟩
        | succ g =>
          have hlt : k < m := by omega
          have HG := Lib.hid hkg
          clear hkg
          obtain ⟨e1, he1⟩ : ∃ e1, args[k]? = some e1 := ⟨_, List.getElem?_eq_getElem (by have := HM.out; omega)⟩
          have HST := Lib.hid (menSL_drop t args k e1 he1)
          have hbg := Ex.big_at args k e1 he1
          have hse := smOL_at args k e1 HSL.out he1
          obtain ⟨bb, o, rfl, hS, hrow⟩ := HRW.out (fun e => by have := HM.out; rw [e] at this; simp at this; omega)
          obtain ⟨cs, hcs, hex⟩ := ExRow.get args bb o k e1 hrow he1
          obtain ⟨a1, b1, s1, c1, d1, A1, l1, q1, rfl⟩ := hex.plain
          have hbb : bb < w.heap.size := hcs.lt
          have hw : ∀ j u, w.cell? ⟨bb, j, none⟩ = some u → wr.cell? ⟨bb, j, none⟩ = some u := fun j u hu => (HB.out.cell (p := ⟨bb, j, none⟩) hbb).trans hu
          have y0 := hw _ _ (hcs 0 _ rfl)
          have y1 := hw _ _ (hcs 1 _ rfl)
          have y2 := hw _ _ (hcs 2 _ rfl)
          have y3 := hw _ _ (hcs 3 _ rfl)
          have y4 := hw _ _ (hcs 4 _ rfl)
          have y5 := hw _ _ (hcs 5 _ rfl)
          rw [Nat.add_zero] at y0
          have hd0 := HD.out
          obtain ⟨Q, hQ⟩ : ∃ Q, menS t e1 = Q := ⟨_, rfl⟩
          have HEX := Lib.hid (IH.out e1 (by omega) hse S wr a1 b1 s1 c1 d1 A1 l1 q1 (ExL.still (fun j hj1 hj2 => ⟨hj1, HB.out.block j hj2⟩) e1 _ hex))
          rw [hQ] at HEX HST
          clear hw hcs hrow he1 hex hbg hd0 hse hQ
          go_wp2_with fail
          refine HEX.out.mono ?_
          rintro e' w2 ⟨rfl, hb⟩
          have HB2 := Lib.hid (HB.out.trans (hb.mono hz0))
          have HX2 := Lib.hid (below_blk hb HX.out)
          clear hb y0 y1 y2 y3 y4 y5 p0 p1 p2 p3 p4 p5
          cases Q with
          | true =>
            have HF : Hid (R = true) := by
              show _ = _
              rw [← HR.out, HST.out, Bool.true_or]
            go_wp2_with fail
            go_ret
            exact ⟨ret_bool HF.out.symm, HB2.out⟩
          | false =>
            have HF : Hid (menSL t (args.drop (k + 1)) = R) := by
              show _ = _
              rw [← HR.out, HST.out, Bool.false_or]
            go_wp2_with fail
            go_roundg g
            case rel => exact ⟨k + 1, by have := HG.out; omega, by go_num, HF.out, HB2.out, HX2.out⟩
            case measure => omega

theorem mentions_all (t : Int) : ∀ n, n ≤ 100001 → MnC t n
  | 0, _ => fun e h => by cases e; simp [Ex.big] at h
  | n + 1, h => mentions_step t n (by omega) (mentions_all t n (by omega))
end Go.Proofs.YtocebddhllfhpaaDoor
