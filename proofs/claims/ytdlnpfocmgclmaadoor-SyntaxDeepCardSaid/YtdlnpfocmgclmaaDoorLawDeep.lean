/-
  The walk of the law SyntaxDeep. Conditions: as for awake.
-/
import Derived.Test.YtdlnpfocmgclmaaDoorWalkAw
import Derived.Laws.IdiomStrings
namespace Go.Proofs.YtdlnpfocmgclmaaDoor
open Go.RowKit

theorem strB_app (a b : List UInt8) : strB a ++ strB b = strB (a ++ b) := by
  apply ByteArray.ext
  simp [strB]

theorem deep_parse_big (c j : Nat) (hc : c < 3) (hj : j < 40) (hd : 16 < dep c j) (w : World) (hL : LW w) (hS : SymAt w) : Calls Tryd.prog 6 #[.string (strB (deepT c j))] w fun e w' =>
    ∃ (A0 A1 A2 A3 A4 : Option Addr) (l0 q0 l1 q1 l2 q2 l3 q3 q4 : Nat), e = .returned (.tuple #[.agg #[.slice A0 l0 q0, .slice A1 l1 q1, .slice A2 l2 q2, .slice A3 l3 q3, .slice A4 0 q4], .int .i64 0, .int .i64 6]) ∧ Below w.heap.size w w' := by
  have hk := deep_at c j hc hj
  unfold deepCheck at hk
  rw [if_pos hd] at hk
  simp only [Bool.and_eq_true, decide_eq_true_eq] at hk
  obtain ⟨hg, ⟨h1, h2⟩, h3⟩ := hk
  have e : (strB (deepT c j)).data.toList = deepT c j := by simp [strB]
  have h := parse_good (strB (deepT c j)) w hL hS (by rw [e]; exact hg)
  rw [e] at h
  refine h.mono ?_
  rintro e w' ⟨v, rfl, hv, hb⟩
  rw [h1, h2]
  obtain ⟨A0, A1, A2, A3, A4, l0, q0, l1, q1, l2, q2, l3, q3, l4, q4, rfl, _, _, _, _, ⟨A, q, hq, _⟩⟩ := hv
  injection hq with _ e2 _
  have e3 : l4 = 0 := by rw [e2, List.isEmpty_iff.1 h3]; rfl
  subst e3
  exact ⟨A0, A1, A2, A3, A4, l0, q0, l1, q1, l2, q2, l3, q3, q4, rfl, hb⟩

theorem deep_parse_ok (c j : Nat) (hc : c < 3) (hj : j < 40) (hd : ¬16 < dep c j) (w : World) (hL : LW w) (hS : SymAt w) : Calls Tryd.prog 6 #[.string (strB (deepT c j))] w fun e w' =>
    ∃ (p : Pr) (off : Nat) (A0 A1 A2 A3 A4 : Option Addr) (l0 q0 l1 q1 l2 q2 l3 q3 l4 q4 : Nat), e = .returned (.tuple #[.agg #[.slice A0 l0 q0, .slice A1 l1 q1, .slice A2 l2 q2, .slice A3 l3 q3, .slice A4 l4 q4], .int .i64 off, .int .i64 0]) ∧
      PrAt (From w.heap.size) w' p (.slice A0 l0 q0) (.slice A1 l1 q1) (.slice A2 l2 q2) (.slice A3 l3 q3) (.slice A4 l4 q4) ∧ p.deep = dep c j ∧ p.big ≤ 100000 ∧ Below w.heap.size w w' := by
  have hk := deep_at c j hc hj
  unfold deepCheck at hk
  rw [if_neg hd] at hk
  simp only [Bool.and_eq_true, decide_eq_true_eq] at hk
  obtain ⟨hg, ⟨h1, h2⟩, h3⟩ := hk
  have e : (strB (deepT c j)).data.toList = deepT c j := by simp [strB]
  have h := parse_good (strB (deepT c j)) w hL hS (by rw [e]; exact hg)
  rw [e] at h
  refine h.mono ?_
  rintro e w' ⟨v, rfl, hv, hb⟩
  rw [h1]
  obtain ⟨A0, A1, A2, A3, A4, l0, q0, l1, q1, l2, q2, l3, q3, l4, q4, rfl, hp⟩ := hv
  exact ⟨_, _, A0, A1, A2, A3, A4, l0, q0, l1, q1, l2, q2, l3, q3, l4, q4, rfl, hp, h2, h3, hb⟩

theorem rep_len (x : List UInt8) (h : x.length ≤ 2) : ∀ j, (rep j x).length ≤ 2 * j
  | 0 => by simp [rep]
  | j + 1 => by rw [rep_succ, List.length_append]; have := rep_len x h j; omega
theorem opn_len (c : Nat) : (opn c).length ≤ 2 := by unfold opn; split <;> simp
theorem cls_len (c : Nat) : (cls c).length ≤ 2 := by unfold cls; split <;> simp
theorem strB_size (l : List UInt8) : (strB l).size = l.length := by show l.toArray.size = _; simp
theorem dep_le (c j : Nat) : dep c j ≤ 2 + j := by unfold dep; split <;> omega

set_option maxHeartbeats 4000000 in
set_option maxRecDepth 100000 in
theorem syntaxDeep_any (a b : Nat) (w : World) (ha : a ≤ 255) (hb : b ≤ 255) (hL : LW w) (hsym : SymAt w) : Calls Tryd.prog 4 #[.int .u8 a, .int .u8 b] w fun e w' => e = .returned (.bool true) ∧ Below w.heap.size w w' := by
  have HL := Lib.hid hL
  have HSY := Lib.hid hsym
  clear hL hsym
  obtain ⟨K, hK⟩ : ∃ K : Nat, a % 40 = K := ⟨_, rfl⟩
  obtain ⟨c, hc⟩ : ∃ c : Nat, b % 3 = c := ⟨_, rfl⟩
  have hK' : (a : Int) % 40 = (K : Int) := by omega
  have hc' : (b : Int) % 3 = (c : Int) := by omega
  have hK40 : K < 40 := by omega
  have hc3 : c < 3 := by omega
  clear hK hc
  go_enter Tryd.func4, Tryd.ntmps4
  go_wp2_with fail
  refine (awake2_any _ HL.out HSY.out).mono ?_
  rintro e w1 ⟨rfl, hb1⟩
  have HB1 := Lib.hid hb1
  have HL1 := Lib.hid (HL.out.below hb1 HL.out.big)
  have HSY1 := Lib.hid (HSY.out.below hb1)
  clear hb1
  go_wp2_with fail
  simp only [hK']
  clear hK'
  go_loopg [6, 7, 8, 9] K (fun g o cl d i wr => ∃ j : Nat, j + g = K ∧ o = .string (strB (rep j (opn c))) ∧ cl = .string (strB (rep j (cls c))) ∧ d = .int .i64 (dep c j) ∧ i = .int .i64 j ∧ Below w.heap.size w wr ∧ LW wr ∧ SymAt wr)
  case atStart => exact ⟨0, by omega, rfl, rfl, by unfold dep; split <;> rfl, rfl, HB1.out, HL1.out, HSY1.out⟩
  case round =>
    obtain ⟨j, hjg, rfl, rfl, rfl, rfl, hb, hl, hs⟩ := hrel
    have HB := Lib.hid hb
    have HLR := Lib.hid hl
    have HSR := Lib.hid hs
    clear hb hl hs
    have hdl := dep_le c j
    cases gk with
    | zero =>
      have hjK : j = K := by omega
      subst hjK
      clear hjg
      have hdj : (dep c j : Int) ≤ 42 := by omega
      obtain ⟨ob, hob⟩ : ∃ x, strB (rep j (opn c)) = x := ⟨_, rfl⟩
      obtain ⟨cb, hcb⟩ : ∃ x, strB (rep j (cls c)) = x := ⟨_, rfl⟩
      have ho : ob.size ≤ 80 := by rw [← hob, strB_size]; have := rep_len (opn c) (opn_len c) j; omega
      have hcl : cb.size ≤ 80 := by rw [← hcb, strB_size]; have := rep_len (cls c) (cls_len c) j; omega
      have HT : Hid (({ data := #[111, 110, 32, 105, 110, 112, 117, 116, 32, 123, 32, 120, 32, 61, 32] } : ByteArray) ++ ob ++ { data := #[49] } ++ cb ++ { data := #[59, 32, 125] } = strB (deepT c j)) := by
        rw [← hob, ← hcb]
        show _ = _
        apply ByteArray.ext
        simp [strB, deepT]
      rw [hob, hcb]
      clear hob hcb
      by_cases hd : 16 < dep c j
      · have HC := Lib.hid (fun W h1 h2 => deep_parse_big c j hc3 hK40 hd W h1 h2)
        rw [← HT.out] at HC
        have hd1 : (16 : Int) < (dep c j : Int) := by omega
        clear hd hdl
        go_wp2_with fail
        refine (HC.out _ HLR.out HSR.out).mono ?_
        rintro e w2 ⟨A0, A1, A2, A3, A4, l0, q0, l1, q1, l2, q2, l3, q3, q4, rfl, hb⟩
        have HB2 := Lib.hid (HB.out.trans (hb.mono HB.out.size))
        clear hb HC
        go_wp2_with fail
        go_ret
        exact ⟨rfl, HB2.out.alloc HB2.out.size _⟩
      · have HC := Lib.hid (fun W h1 h2 => deep_parse_ok c j hc3 hK40 hd W h1 h2)
        rw [← HT.out] at HC
        have hd1 : (dep c j : Int) ≤ 16 := by omega
        clear hd hdl
        go_wp2_with fail
        refine (HC.out _ HLR.out HSR.out).mono ?_
        rintro e w2 ⟨p, off, A0, A1, A2, A3, A4, l0, q0, l1, q1, l2, q2, l3, q3, l4, q4, rfl, hp, hpd, hpb, hb⟩
        have HB2 := Lib.hid (HB.out.trans (hb.mono HB.out.size))
        have HD := Lib.hid (depth_any p hpb (From wr.heap.size) (w2.alloc (.cells #[.slice A0 l0 q0, .slice A1 l1 q1, .slice A2 l2 q2, .slice A3 l3 q3, .slice A4 l4 q4] 28)) A0 A1 A2 A3 A4 l0 l1 l2 l3 l4 q0 q1 q2 q3 q4 (hp.still fun k h1 h2 => ⟨h1, alloc_blk w2 _ h2⟩))
        rw [hpd] at HD
        clear hb HC hp hpd hpb
        go_wp2_with fail
        refine HD.out.mono ?_
        rintro e w3 ⟨rfl, hb⟩
        have HB3 := Lib.hid ((HB2.out.alloc HB2.out.size (.cells #[.slice A0 l0 q0, .slice A1 l1 q1, .slice A2 l2 q2, .slice A3 l3 q3, .slice A4 l4 q4] 28)).trans (hb.mono (by rw [new_size]; have := HB2.out.size; omega)))
        clear hb HD
        go_wp2_with fail
        go_ret
        exact ⟨rfl, HB3.out⟩
    | succ g =>
      have hlt : (j : Int) < (K : Int) := by omega
      have hj40 : j < 40 := by omega
      have HJ := Lib.hid hjg
      clear hjg
      have hdj : (dep c j : Int) ≤ 42 := by omega
      have hdj0 : (0 : Int) ≤ (dep c j : Int) := by omega
      have hstep : (dep c (j + 1) : Int) = if c = 0 then (dep c j : Int) else (dep c j : Int) + 1 := by unfold dep; split <;> omega
      have HST := Lib.hid hstep
      obtain ⟨d, hd⟩ : ∃ x, (dep c j : Int) = x := ⟨_, rfl⟩
      obtain ⟨ob, hob⟩ : ∃ x, strB (rep j (opn c)) = x := ⟨_, rfl⟩
      obtain ⟨cb, hcb⟩ : ∃ x, strB (rep j (cls c)) = x := ⟨_, rfl⟩
      have ho : ob.size ≤ 80 := by rw [← hob, strB_size]; have := rep_len (opn c) (opn_len c) j; omega
      have hcl : cb.size ≤ 80 := by rw [← hcb, strB_size]; have := rep_len (cls c) (cls_len c) j; omega
      have HO : Hid (ob ++ strB (opn c) = strB (rep (j + 1) (opn c))) := by rw [← hob]; show _ = _; rw [rep_snoc, strB_app]
      have HCL : Hid (strB (cls c) ++ cb = strB (rep (j + 1) (cls c))) := by rw [← hcb]; show _ = _; rw [rep_succ, strB_app]
      rw [hd] at hdj hdj0 HST ⊢
      rw [hob, hcb]
      clear hob hcb hstep hd hdl
      have hcc : c = 0 ∨ c = 1 ∨ c = 2 := by omega
      rcases hcc with rfl | rfl | rfl
      · have hc0 : (b : Int) % 3 = 0 := hc'
        clear hc'
        go_wp2_with fail
        go_roundg g
        case rel => exact ⟨j + 1, by have := HJ.out; omega, by rw [← HO.out]; rfl, by rw [← HCL.out]; rfl, by rw [HST.out]; rfl, by go_num, HB.out, HLR.out, HSR.out⟩
        case measure => omega
      · have hc0 : (b : Int) % 3 = 1 := hc'
        clear hc'
        go_wp2_with fail
        go_roundg g
        case rel => exact ⟨j + 1, by have := HJ.out; omega, by rw [← HO.out]; rfl, by rw [← HCL.out]; congr 1, by rw [HST.out, if_neg (by omega)], by go_num, HB.out, HLR.out, HSR.out⟩
        case measure => omega
      · have hc0 : (b : Int) % 3 = 2 := hc'
        clear hc'
        go_wp2_with fail
        go_roundg g
        case rel => exact ⟨j + 1, by have := HJ.out; omega, by rw [← HO.out]; rfl, by rw [← HCL.out]; rfl, by rw [HST.out, if_neg (by omega)], by go_num, HB.out, HLR.out, HSR.out⟩
        case measure => omega
end Go.Proofs.YtdlnpfocmgclmaaDoor
