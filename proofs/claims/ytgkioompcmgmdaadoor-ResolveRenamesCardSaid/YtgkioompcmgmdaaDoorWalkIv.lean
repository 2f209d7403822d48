/-
  What isVar and Check of package syntax return. Conditions: names have at most 2^47 bytes; a program has at most 100000 parts and declarations; what areStmts returns for the handlers is given.
-/
import Derived.Test.YtgkioompcmgmdaaDoorWalkDq
import Derived.Test.YtgkioompcmgmdaaDoorWalkLk
namespace Go.Proofs.YtgkioompcmgmdaaDoor
open Go.RowKit

set_option maxHeartbeats 1000000 in
set_option maxRecDepth 100000 in
theorem isVar_any (v : Vr) (w : World) (hs : v.name.length ≤ 140737488351232) : Calls Tryd.prog 32 #[.agg #[.string (strB v.name), .int .i64 v.size, .int .i64 v.init]] w fun e w' => e = .returned (.bool (varOK v)) ∧ Below w.heap.size w w' := by
  obtain ⟨nm, sz, it⟩ := v
  simp only [varOK]
  have hv := valid_any (strB nm)
  rw [str_data, str_size] at hv
  obtain ⟨b, hb⟩ : ∃ b, validS nm = b := ⟨_, rfl⟩
  rw [hb] at hv ⊢
  have HV := Lib.hid hv
  have HS := Lib.hid hs
  clear hv hb hs
  cases b with
  | false =>
    go_enter Tryd.func32, Tryd.ntmps32
    go_wp2_with fail
    refine (HV.out _ HS.out).mono ?_
    rintro e w1 ⟨rfl, rfl⟩
    go_wp2_with fail
    go_ret
    exact ⟨rfl, (Below.refl _ _).alloc (Nat.le_refl _) _⟩
  | true =>
    go_enter Tryd.func32, Tryd.ntmps32
    go_wp2_with fail
    refine (HV.out _ HS.out).mono ?_
    rintro e w1 ⟨rfl, rfl⟩
    go_wp2_with fail
    all_goals (go_ret; refine ⟨ret_bool ?_, (Below.refl _ _).alloc (Nat.le_refl _) _⟩)
    all_goals simp_all
    all_goals first | omega | (by_cases hi0 : it = 0 <;> simp_all)

/-- The error of a program, where bs says whether the statements of a handler are as parsing makes them. -/
def chkS (p : Pr) (bs : Nat → Bool) : Int :=
  if 16 < p.deep then 6 else if p.vars.all varOK = false then 7 else if (bs 0 && bs 1 && bs 2 && bs 3) = false then 7 else 0

theorem all_drop {l : List Vr} {k : Nat} {v : Vr} (h : l[k]? = some v) : (l.drop k).all varOK = (varOK v && (l.drop (k + 1)).all varOK) := by
  have hlt := (List.getElem?_eq_some_iff.1 h).1
  have hv : l[k] = v := (List.getElem?_eq_some_iff.1 h).2
  rw [List.drop_eq_getElem_cons hlt, hv]
  rfl

/-- What is left of the handlers. -/
def bsFrom (bs : Nat → Bool) : Nat → Bool
  | 0 => bs 0 && bs 1 && bs 2 && bs 3
  | 1 => bs 1 && bs 2 && bs 3
  | 2 => bs 2 && bs 3
  | 3 => bs 3
  | _ => true
theorem bsFrom_step (bs : Nat → Bool) : ∀ k, k < 4 → bsFrom bs k = (bs k && bsFrom bs (k + 1))
  | 0, _ => by simp [bsFrom, Bool.and_assoc]
  | 1, _ => by simp [bsFrom, Bool.and_assoc]
  | 2, _ => by simp [bsFrom]
  | 3, _ => by simp [bsFrom]
  | k + 4, h => absurd h (by omega)

set_option maxHeartbeats 4000000 in
set_option maxRecDepth 100000 in
theorem check_any (p : Pr) (hbig : p.big ≤ 100000) (hvn : p.vars.length ≤ 100000) (hnm : ∀ v ∈ p.vars, v.name.length ≤ 140737488351232) (S : Nat → Prop) (w : World) (A0 A1 A2 A3 A4 : Option Addr) (l0 l1 l2 l3 l4 c0 c1 c2 c3 c4 : Nat)
    (hp : PrAt S w p (.slice A0 l0 c0) (.slice A1 l1 c1) (.slice A2 l2 c2) (.slice A3 l3 c3) (.slice A4 l4 c4))
    (bs : Nat → Bool) (hbs : ∀ k, k < 4 → ∀ w', Below w.heap.size w w' → Calls Tryd.prog 34 #[.slice (hA A1 A2 A3 A4 k) (hN l1 l2 l3 l4 k) (hN c1 c2 c3 c4 k)] w' fun e w2 => e = .returned (.bool (bs k)) ∧ Below w'.heap.size w' w2) :
    Calls Tryd.prog 20 #[.agg #[.slice A0 l0 c0, .slice A1 l1 c1, .slice A2 l2 c2, .slice A3 l3 c3, .slice A4 l4 c4]] w fun e w' => e = .returned (.int .i64 (chkS p bs)) ∧ Below w.heap.size w w' := by
  have HP := Lib.hid hp
  have HBS := Lib.hid hbs
  have HNM := Lib.hid hnm
  have hnl : l0 = p.vars.length := by obtain ⟨⟨_, _, e, _⟩, _⟩ := hp; injection e
  have HNL := Lib.hid hnl
  have hl0 : l0 ≤ 100000 := by omega
  have hdb := deep_big p
  have HD := Lib.hid (fun w' h => depth_any p hbig S w' A0 A1 A2 A3 A4 l0 l1 l2 l3 l4 c0 c1 c2 c3 c4 h)
  obtain ⟨dp, hdp⟩ : ∃ x, p.deep = x := ⟨_, rfl⟩
  obtain ⟨R, hR⟩ : ∃ R, chkS p bs = R := ⟨_, rfl⟩
  rw [hR]
  unfold chkS at hR
  rw [hdp] at hdb hR HD
  have hd63 : (dp : Int) ≤ 100000 := by omega
  have HR := Lib.hid hR
  have hbx : ∀ w', Below w.heap.size w w' → Below w.heap.size w (w'.alloc (.cells #[.slice A0 l0 c0, .slice A1 l1 c1, .slice A2 l2 c2, .slice A3 l3 c3, .slice A4 l4 c4] 29)) := fun w' h => h.alloc h.size _
  clear hp hbs hnm hnl hvn hbig hdb hR hdp
  go_enter Tryd.func20, Tryd.ntmps20
  go_wp2_with fail
  refine (HD.out _ (HP.out.still fun k h1 h2 => ⟨h1, alloc_blk w _ h2⟩)).mono ?_
  rintro e w1 ⟨rfl, hb⟩
  have HB1 : Hid (Below w.heap.size w w1) := ((Below.refl _ _).alloc (Nat.le_refl _) _).trans (hb.mono (by rw [new_size]; omega))
  have HX1 := Lib.hid (below_blk hb (new_blk w _))
  clear hb HD hbx
  by_cases hd : 16 < dp
  · have hd1 : (16 : Int) < (dp : Int) := by omega
    have HQ : Hid (6 = R) := by have := HR.out; rw [if_pos hd] at this; exact this
    clear hd HR
    go_wp2_with fail
    go_ret
    exact ⟨ret_int HQ.out, HB1.out⟩
  · have hd1 : (dp : Int) ≤ 16 := by omega
    have HQ : Hid ((if p.vars.all varOK = false then 7 else if (bs 0 && bs 1 && bs 2 && bs 3) = false then 7 else 0) = R) := by have := HR.out; rw [if_neg hd] at this; exact this
    clear hd HR
    obtain ⟨d0, d1, d2, d3, d4, _, _, _, _, _, hz⟩ := box5 HX1.out
    go_wp2_with fail
    clear d0 d1 d2 d3 d4
    go_loopg [13] l0 (fun g i wr => ∃ k : Nat, k + g = l0 ∧ i = .int .i64 k ∧ Hid ((p.vars.drop k).all varOK = p.vars.all varOK) ∧ Hid (Below w1.heap.size w1 wr))
    case atStart => exact ⟨0, by omega, rfl, rfl, Below.refl _ _⟩
    case round =>
      obtain ⟨k, hkg, rfl, HA, HB⟩ := hrel
      cases gk with
      | zero =>
        have hge : l0 ≤ k := by omega
        have HT : Hid (p.vars.all varOK = true) := by
          show _ = _
          rw [← HA.out, List.drop_eq_nil_of_le (by have := HNL.out; omega)]; rfl
        have HQ1 : Hid ((if (bs 0 && bs 1 && bs 2 && bs 3) = false then 7 else 0) = R) := by
          have := HQ.out; rw [HT.out, if_neg (by simp)] at this; exact this
        clear hkg HQ HT
        obtain ⟨d0, d1, d2, d3, d4, _, _, _, _, _, hz2⟩ := box5 (below_blk HB.out HX1.out)
        go_wp2_with fail
        refine (handlers_any _ _ _ _ _ _ _ _ _ _ _ _ _ _ _ _).mono ?_
        rintro e w2 ⟨rfl, hb⟩
        have HB2 : Hid (Below w.heap.size w w2) := (HB1.out.trans (HB.out.mono HB1.out.size)).trans (hb.mono (Nat.le_trans HB1.out.size HB.out.size))
        clear hb d0 d1 d2 d3 d4
        go_wp2_with fail
        go_loopg [23] 4 (fun g i wr => ∃ k : Nat, k + g = 4 ∧ i = .int .i64 k ∧ Hid (bsFrom bs k = bsFrom bs 0) ∧ Hid (Below w.heap.size w wr))
        case atStart => exact ⟨0, rfl, rfl, rfl, HB2⟩
        case round =>
          obtain ⟨k2, hkg2, rfl, HBF, HB3⟩ := hrel
          cases gk with
          | zero =>
            have hge2 : 4 ≤ k2 := by omega
            have HK : Hid (0 = R) := by
              have := HQ1.out
              rw [show (bs 0 && bs 1 && bs 2 && bs 3) = bsFrom bs 0 from rfl, ← HBF.out, show k2 = 4 by omega, if_neg (by simp [bsFrom])] at this
              exact this
            clear hkg2
            go_wp2_with fail
            go_ret
            exact ⟨ret_int HK.out, HB3.out⟩
          | succ g =>
            have hlt : k2 < 4 := by omega
            have HG := Lib.hid hkg2
            clear hkg2
            have hi := hand_index2 A1 A2 A3 A4 l1 l2 l3 l4 c1 c2 c3 c4 k2 hlt
            have HC := Lib.hid (fun w' h => HBS.out k2 hlt w' h)
            have HS := Lib.hid (bsFrom_step bs k2 hlt)
            obtain ⟨B, hB'⟩ : ∃ x, hA A1 A2 A3 A4 k2 = x := ⟨_, rfl⟩
            obtain ⟨bl, hbl⟩ : ∃ x, hN l1 l2 l3 l4 k2 = x := ⟨_, rfl⟩
            obtain ⟨bc, hbc⟩ : ∃ x, hN c1 c2 c3 c4 k2 = x := ⟨_, rfl⟩
            obtain ⟨bb, hbb⟩ : ∃ x, bs k2 = x := ⟨_, rfl⟩
            rw [hB', hbl, hbc] at hi HC
            rw [hbb] at HC HS
            clear hB' hbl hbc hbb
            go_wp2_with fail
            clear hi
            refine (HC.out _ (HB3.out.alloc HB3.out.size _)).mono ?_
            rintro e w4 ⟨rfl, hb⟩
            have HB4 := Lib.hid ((HB3.out.alloc HB3.out.size _).trans (hb.mono (by rw [new_size]; have := HB3.out.size; omega)))
            clear hb HC
            cases bb with
            | false =>
              have HK : Hid (7 = R) := by
                have := HQ1.out
                rw [show (bs 0 && bs 1 && bs 2 && bs 3) = bsFrom bs 0 from rfl, ← HBF.out, HS.out, if_pos (by simp)] at this
                exact this
              go_wp2_with fail
              go_ret
              exact ⟨ret_int HK.out, HB4.out⟩
            | true =>
              go_wp2_with fail
              go_roundg g
              case rel => exact ⟨k2 + 1, by have := HG.out; omega, by go_num, by rw [← HBF.out, HS.out, Bool.true_and]; rfl, HB4⟩
              case measure => omega
      | succ g =>
        have hlt : k < l0 := by omega
        have HG := Lib.hid hkg
        clear hkg
        obtain ⟨v, hv⟩ : ∃ v, p.vars[k]? = some v := ⟨_, List.getElem?_eq_getElem (by have := HNL.out; omega)⟩
        have HAD := Lib.hid (all_drop hv)
        have HV := Lib.hid (fun w' => isVar_any v w' (HNM.out v (List.mem_of_getElem? hv)))
        obtain ⟨-, -, b, o, rfl, -, hbb, d0, d1, d2⟩ := HP.out.1.get hv
        have hw : ∀ j u, w.cell? ⟨b, j, none⟩ = some u → wr.cell? ⟨b, j, none⟩ = some u := fun j u hu => ((HB1.out.trans (HB.out.mono HB1.out.size)).cell (p := ⟨b, j, none⟩) hbb).trans hu
        replace d0 := hw _ _ d0
        replace d1 := hw _ _ d1
        replace d2 := hw _ _ d2
        obtain ⟨vo, hvo⟩ : ∃ x, varOK v = x := ⟨_, rfl⟩
        rw [hvo] at HAD HV
        obtain ⟨vn, vs, vi⟩ := v
        simp only at d0 d1 d2 HV
        clear hw hv hvo
        go_wp2_with fail
        refine (HV.out _).mono ?_
        rintro e w2 ⟨rfl, hb⟩
        have HB2 := Lib.hid ((HB.out.alloc HB.out.size _).trans (hb.mono (by rw [new_size]; have := HB.out.size; omega)))
        clear hb HV d0 d1 d2
        cases vo with
        | false =>
          have HK : Hid (7 = R) := by
            have := HQ.out
            rw [← HA.out, HAD.out, if_pos (by simp)] at this
            exact this
          go_wp2_with fail
          go_ret
          exact ⟨ret_int HK.out, HB1.out.trans (HB2.out.mono HB1.out.size)⟩
        | true =>
          go_wp2_with fail
          go_roundg g
          case rel => exact ⟨k + 1, by have := HG.out; omega, by go_num, by rw [← HA.out, HAD.out, Bool.true_and]; rfl, HB2⟩
          case measure => omega
end Go.Proofs.YtgkioompcmgmdaaDoor
