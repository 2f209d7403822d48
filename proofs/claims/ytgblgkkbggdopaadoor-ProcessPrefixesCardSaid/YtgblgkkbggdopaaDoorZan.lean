/-
  Texts of a walk, laid together by a program of the prover's own (merge.py). No conditions beyond those that each text names.
-/
import Derived.Test.YtgblgkkbggdopaaDoorZak
/-
  What declared of the document's answer returns: whether all names are declared. Conditions: at most 100000 parts and declarations.
-/
namespace Go.Proofs.YtgblgkkbggdopaaDoor
open Go.RowKit

set_option maxHeartbeats 8000000 in
set_option maxRecDepth 100000 in
theorem declared_all (vl : List Vr) (hvn : vl.length ≤ 100000) : ∀ (n : Nat) (ls : List St), St.bigL ls ≤ n → n ≤ 100000 → ∀ (S : Nat → Prop) (w : World) (B : Option Addr) (vn vc : Nat) (A : Option Addr) (l q : Nat), VrSlice S w vl (.slice B vn vc) → StSlice S w ls (.slice A l q) →
    Calls Tryd.prog 54 #[.slice B vn vc, .slice A l q] w fun e' w' => e' = .returned (.bool (St.dclL (dclB vl) ls)) ∧ Below w.heap.size w w' := by
  intro n
  induction n using Nat.strongRecOn with
  | ind n ih =>
  intro ls h hn S w B vn vc A l q hvs hl
  have IH : Hid (∀ (ls' : List St), St.bigL ls' < n → ∀ (S : Nat → Prop) (w : World) (A : Option Addr) (l q : Nat), VrSlice S w vl (.slice B vn vc) → StSlice S w ls' (.slice A l q) → Calls Tryd.prog 54 #[.slice B vn vc, .slice A l q] w fun e' w' => e' = .returned (.bool (St.dclL (dclB vl) ls')) ∧ Below w.heap.size w w') :=
    fun ls' h' S w A l q h1 h2 => ih _ h' ls' (Nat.le_refl _) (by omega) S w B vn vc A l q h1 h2
  clear ih
  obtain ⟨A', c', e1, hc, hr⟩ := hl
  simp only [Value.slice.injEq] at e1
  obtain ⟨rfl, rfl, rfl⟩ := e1
  have hlq : ls.length ≤ 100000 := by have := St.len_big ls; omega
  have HR := Lib.hid hr
  have HD := Lib.hid h
  have HVS := Lib.hid hvs
  obtain ⟨m, hm⟩ : ∃ x, ls.length = x := ⟨_, rfl⟩
  have HM := Lib.hid hm
  rw [hm] at hlq ⊢
  obtain ⟨R, hR⟩ : ∃ x, St.dclL (dclB vl) ls = x := ⟨_, rfl⟩
  rw [hR]
  have HRR := Lib.hid hR
  clear hr hm h hc hvs hR
  go_enter Tryd.func54, Tryd.ntmps54
  go_wp2_with fail
  go_loopg [5, 6, 7, 8] m (fun g i _ _ _ wr => ∃ k : Nat, k + g = m ∧ i = .int .i64 k ∧ Hid (St.dclL (dclB vl) (ls.drop k) = R) ∧ Hid (Below w.heap.size w wr))
  case atStart => exact ⟨0, by omega, rfl, by rw [List.drop_zero]; exact HRR, Below.refl _ _⟩
  case round =>
    obtain ⟨k, hkg, rfl, HT, HB⟩ := hrel
    cases gk with
    | zero =>
      have hge : m ≤ k := by omega
      have HRT : Hid (true = R) := by
        have h := HT.out
        rw [List.drop_eq_nil_of_le (by have := HM.out; omega)] at h
        exact h
      clear hkg
      go_wp2_with fail
      go_ret
      exact ⟨ret_bool HRT.out, HB.out⟩
    | succ g =>
      have hlt : k < m := by omega
      have hk0 : (0 : Int) ≤ (k : Int) := by omega
      have hk1 : (k : Int) < (m : Int) := by omega
      have HG := Lib.hid hkg
      clear hkg
      have hbr : Below w.heap.size w w := Below.refl _ _
      have HB0 := Lib.hid hbr
      clear hbr
      obtain ⟨e1, he1⟩ : ∃ e1, ls[k]? = some e1 := ⟨_, List.getElem?_eq_getElem (by have := HM.out; omega)⟩
      have HE1 := Lib.hid he1
      have hbg := St.big_at ls k e1 he1
      obtain ⟨bb, o, rfl, hS, hrow⟩ := HR.out (fun e => by have := HM.out; rw [e] at this; simp at this; omega)
      obtain ⟨cs, hcs, hex⟩ := StRow.get ls bb o k e1 hrow he1
      obtain ⟨kind, name, slot, size, place, value, body, els⟩ := e1
      simp only [St.big] at hbg
      have HX := Lib.hid hex
      simp only [StL] at hex
      obtain ⟨cp, cv, A3, c3, A4, c4, rfl, hp, hv, h3, h4, h5, h6⟩ := hex
      obtain ⟨p0, p1, p2, p3, p4, P1, P2, P3, rfl⟩ := hp.plain
      obtain ⟨v0, v1, v2, v3, v4, V1, V2, V3, rfl⟩ := hv.plain
      have hbb : bb < w.heap.size := hcs.lt
      have hw : ∀ j u, w.cell? ⟨bb, j, none⟩ = some u → w.cell? ⟨bb, j, none⟩ = some u := fun j u hu => (HB0.out.cell (p := ⟨bb, j, none⟩) hbb).trans hu
      have hcs' : ∀ j u, (stCells kind name slot size [.int .i64 p0, .int .i64 p1, .string p2, .int .i64 p3, .int .i64 p4, .slice P1 P2 P3] [.int .i64 v0, .int .i64 v1, .string v2, .int .i64 v3, .int .i64 v4, .slice V1 V2 V3] (.slice A3 body.length c3) (.slice A4 els.length c4))[j]? = some u → w.cell? ⟨bb, o + k * 18 + j, none⟩ = some u := fun j u hu => hw _ _ (hcs j u hu)
      have HRG : Hid (w.rangeAt bb (o + k * 18) (stCells kind name slot size [.int .i64 p0, .int .i64 p1, .string p2, .int .i64 p3, .int .i64 p4, .slice P1 P2 P3] [.int .i64 v0, .int .i64 v1, .string v2, .int .i64 v3, .int .i64 v4, .slice V1 V2 V3] (.slice A3 body.length c3) (.slice A4 els.length c4))) := fun j v hv => hw _ _ (hcs j v hv)
      have HP := Lib.hid hp
      have HV := Lib.hid hv
      have HBO : Hid (StSlice S w body (.slice A3 body.length c3)) := ⟨A3, c3, rfl, h3, h5⟩
      have HEL : Hid (StSlice S w els (.slice A4 els.length c4)) := ⟨A4, c4, rfl, h4, h6⟩
      have y0 := hcs' 0 _ rfl
      have y1 := hcs' 1 _ rfl
      have y4 := hcs' 4 _ rfl
      have y5 := hcs' 5 _ rfl
      have y6 := hcs' 6 _ rfl
      have y7 := hcs' 7 _ rfl
      have y8 := hcs' 8 _ rfl
      have y9 := hcs' 9 _ rfl
      have y10 := hcs' 10 _ rfl
      have y11 := hcs' 11 _ rfl
      have y12 := hcs' 12 _ rfl
      have y13 := hcs' 13 _ rfl
      have y14 := hcs' 14 _ rfl
      have y15 := hcs' 15 _ rfl
      have y16 := hcs' 16 _ rfl
      have y17 := hcs' 17 _ rfl
      rw [Nat.add_zero] at y0
      clear hw hcs hcs' hrow he1 hp hv h3 h4 h5 h6 hS

      have HY : Hid (∀ W, Below w.heap.size w W → W.cell? ⟨bb, o + k * 18, none⟩ = some (.int .i64 kind) ∧ W.cell? ⟨bb, o + k * 18 + 1, none⟩ = some (.string (strB name)) ∧ W.cell? ⟨bb, o + k * 18 + 4, none⟩ = some (.int .i64 p0) ∧ W.cell? ⟨bb, o + k * 18 + 5, none⟩ = some (.int .i64 p1) ∧ W.cell? ⟨bb, o + k * 18 + 6, none⟩ = some (.string p2) ∧ W.cell? ⟨bb, o + k * 18 + 7, none⟩ = some (.int .i64 p3) ∧ W.cell? ⟨bb, o + k * 18 + 8, none⟩ = some (.int .i64 p4) ∧ W.cell? ⟨bb, o + k * 18 + 9, none⟩ = some (.slice P1 P2 P3) ∧ W.cell? ⟨bb, o + k * 18 + 10, none⟩ = some (.int .i64 v0) ∧ W.cell? ⟨bb, o + k * 18 + 11, none⟩ = some (.int .i64 v1) ∧ W.cell? ⟨bb, o + k * 18 + 12, none⟩ = some (.string v2) ∧ W.cell? ⟨bb, o + k * 18 + 13, none⟩ = some (.int .i64 v3) ∧ W.cell? ⟨bb, o + k * 18 + 14, none⟩ = some (.int .i64 v4) ∧ W.cell? ⟨bb, o + k * 18 + 15, none⟩ = some (.slice V1 V2 V3) ∧ W.cell? ⟨bb, o + k * 18 + 16, none⟩ = some (.slice A3 body.length c3) ∧ W.cell? ⟨bb, o + k * 18 + 17, none⟩ = some (.slice A4 els.length c4)) := fun W hb => by
        have hl : ∀ (p : Addr) u, w.cell? p = some u → W.cell? p = some u := fun p u hu => (hb.cell (p := p) (World.block_lt_of_cell? w _ hu)).trans hu
        exact ⟨hl _ _ y0, hl _ _ y1, hl _ _ y4, hl _ _ y5, hl _ _ y6, hl _ _ y7, hl _ _ y8, hl _ _ y9, hl _ _ y10, hl _ _ y11, hl _ _ y12, hl _ _ y13, hl _ _ y14, hl _ _ y15, hl _ _ y16, hl _ _ y17⟩
      clear y0 y1 y4 y5 y6 y7 y8 y9 y10 y11 y12 y13 y14 y15 y16 y17
      have HDR := Lib.hid (sdclL_drop (dclB vl) ls k _ HE1.out)
      simp only [St.dcl] at HDR
      have hd0 := HD.out
      have hpp := Ex.big_pos place
      have hst : ∀ W, Below w.heap.size w W → Still S S w W := fun W hb j h1 h2 => ⟨h1, hb.block j h2⟩
      have CL := Lib.hid (fun (W : World) (hb : Below w.heap.size w W) => lookup3_any S vl name B vn vc W (HVS.out.still (hst W hb)) hvn)
      have CP := Lib.hid (fun (W : World) (hb : Below w.heap.size w W) => names_all vl hvn place.big place (Nat.le_refl _) (by omega) S W B vn vc p0 p1 p2 p3 p4 P1 P2 P3 (HVS.out.still (hst W hb)) (ExL.still (hst W hb) place _ HP.out))
      have CV := Lib.hid (fun (W : World) (hb : Below w.heap.size w W) => names_all vl hvn value.big value (Nat.le_refl _) (by omega) S W B vn vc v0 v1 v2 v3 v4 V1 V2 V3 (HVS.out.still (hst W hb)) (ExL.still (hst W hb) value _ HV.out))
      have CB := Lib.hid (fun (W : World) (hb : Below w.heap.size w W) => IH.out body (by omega) S W A3 body.length c3 (HVS.out.still (hst W hb)) (StSlice.still HBO.out (hst W hb)))
      have CE := Lib.hid (fun (W : World) (hb : Below w.heap.size w W) => IH.out els (by omega) S W A4 els.length c4 (HVS.out.still (hst W hb)) (StSlice.still HEL.out (hst W hb)))
      obtain ⟨L, hL⟩ : ∃ x, lookS name vl 0 = x := ⟨_, rfl⟩
      obtain ⟨L1, L2, L3⟩ := L
      obtain ⟨b1, hb1⟩ : ∃ x, place.dcl (dclB vl) = x := ⟨_, rfl⟩
      obtain ⟨b2, hb2⟩ : ∃ x, value.dcl (dclB vl) = x := ⟨_, rfl⟩
      obtain ⟨b3, hb3⟩ : ∃ x, St.dclL (dclB vl) body = x := ⟨_, rfl⟩
      obtain ⟨b4, hb4⟩ : ∃ x, St.dclL (dclB vl) els = x := ⟨_, rfl⟩
      have hdn : dclB vl name = L3 := by unfold dclB; rw [hL]
      rw [hL] at CL
      simp only [lkV] at CL
      rw [hb1] at CP HDR
      rw [hb2] at CV HDR
      rw [hb3] at CB HDR
      rw [hb4] at CE HDR
      rw [hdn] at HDR
      clear hb1 hb2 hb3 hb4 hdn hL hst hd0 hpp hbg
      obtain ⟨y0, y1, y4, y5, y6, y7, y8, y9, y10, y11, y12, y13, y14, y15, y16, y17⟩ := HY.out _ HB.out
      go_wp2_with fail
      refine (CL.out _ HB.out).mono ?_
      rintro e w1 ⟨rfl, hb⟩
      have HB1 := Lib.hid (HB.out.trans (hb.mono HB.out.size))
      clear hb
      clear y0 y1 y4 y5 y6 y7 y8 y9 y10 y11 y12 y13 y14 y15 y16 y17
      obtain ⟨y0, y1, y4, y5, y6, y7, y8, y9, y10, y11, y12, y13, y14, y15, y16, y17⟩ := HY.out _ HB1.out
      have hcs : ((kind = 1 ∨ ((kind == 1) = false ∧ kind = 2)) ∧ L3 = false) ∨ (((kind = 1 ∨ ((kind == 1) = false ∧ kind = 2)) ∧ L3 = true) ∨ ((kind == 1) = false ∧ (kind == 2) = false)) := by
        by_cases h1 : kind = 1
        · cases L3 <;> simp [h1]
        · by_cases h2 : kind = 2
          · cases L3 <;> simp [h2]
          · right; right; simp [h1, h2]
      have HNO : Hid ((kind = 1 ∨ ((kind == 1) = false ∧ kind = 2)) ∧ L3 = false → false = R) := fun ⟨h1, h2⟩ => by
        rw [← HT.out, HDR.out, h2]
        rcases h1 with rfl | ⟨_, rfl⟩ <;> simp
      have HYS : Hid (((kind = 1 ∨ ((kind == 1) = false ∧ kind = 2)) ∧ L3 = true) ∨ ((kind == 1) = false ∧ (kind == 2) = false) → ((b1 && (b2 && (b3 && b4))) && St.dclL (dclB vl) (ls.drop (k + 1))) = R) := fun h => by
        rw [← HT.out, HDR.out]
        rcases h with ⟨_, h⟩ | ⟨h1, h2⟩
        · rw [h]; simp
        · simp at h1 h2; simp [h1, h2]
      clear HDR
      rcases hcs with hcs | hcs
      · have HK := Lib.hid (HNO.out hcs)
        obtain ⟨hk12, rfl⟩ := hcs
        rcases hk12 with rfl | ⟨hk12, rfl⟩
        all_goals
          go_wp2_with fail
          go_ret
          exact ⟨ret_bool HK.out, HB1.out⟩
      · have HK := Lib.hid (HYS.out hcs)
        clear HNO HYS
        rcases hcs with ⟨rfl | ⟨hk12, rfl⟩, rfl⟩ | ⟨hk1', hk2'⟩
        all_goals
          go_wp2_with fail
          refine (CP.out _ HB1.out).mono ?_
          rintro e w2 ⟨rfl, hb⟩
          have HB2 := Lib.hid (HB1.out.trans (hb.mono HB1.out.size))
          clear hb
          clear y0 y1 y4 y5 y6 y7 y8 y9 y10 y11 y12 y13 y14 y15 y16 y17
          obtain ⟨y0, y1, y4, y5, y6, y7, y8, y9, y10, y11, y12, y13, y14, y15, y16, y17⟩ := HY.out _ HB2.out
          cases b1 with
          | false =>
            have HKF : Hid (false = R) := by show _ = _; rw [← HK.out]; simp
            go_wp2_with fail
            go_ret
            exact ⟨ret_bool HKF.out, HB2.out⟩
          | true =>
            go_wp2_with fail
            refine (CV.out _ HB2.out).mono ?_
            rintro e w3 ⟨rfl, hb⟩
            have HB3 := Lib.hid (HB2.out.trans (hb.mono HB2.out.size))
            clear hb
            clear y0 y1 y4 y5 y6 y7 y8 y9 y10 y11 y12 y13 y14 y15 y16 y17
            obtain ⟨y0, y1, y4, y5, y6, y7, y8, y9, y10, y11, y12, y13, y14, y15, y16, y17⟩ := HY.out _ HB3.out
            cases b2 with
            | false =>
              have HKF : Hid (false = R) := by show _ = _; rw [← HK.out]; simp
              go_wp2_with fail
              go_ret
              exact ⟨ret_bool HKF.out, HB3.out⟩
            | true =>
              go_wp2_with fail
              refine (CB.out _ HB3.out).mono ?_
              rintro e w4 ⟨rfl, hb⟩
              have HB4 := Lib.hid (HB3.out.trans (hb.mono HB3.out.size))
              clear hb
              clear y0 y1 y4 y5 y6 y7 y8 y9 y10 y11 y12 y13 y14 y15 y16 y17
              obtain ⟨y0, y1, y4, y5, y6, y7, y8, y9, y10, y11, y12, y13, y14, y15, y16, y17⟩ := HY.out _ HB4.out
              cases b3 with
              | false =>
                have HKF : Hid (false = R) := by show _ = _; rw [← HK.out]; simp
                go_wp2_with fail
                go_ret
                exact ⟨ret_bool HKF.out, HB4.out⟩
              | true =>
                go_wp2_with fail
                refine (CE.out _ HB4.out).mono ?_
                rintro e w5 ⟨rfl, hb⟩
                have HB5 := Lib.hid (HB4.out.trans (hb.mono HB4.out.size))
                clear hb
                clear y0 y1 y4 y5 y6 y7 y8 y9 y10 y11 y12 y13 y14 y15 y16 y17
                obtain ⟨y0, y1, y4, y5, y6, y7, y8, y9, y10, y11, y12, y13, y14, y15, y16, y17⟩ := HY.out _ HB5.out
                cases b4 with
                | false =>
                  have HKF : Hid (false = R) := by show _ = _; rw [← HK.out]; simp
                  go_wp2_with fail
                  go_ret
                  exact ⟨ret_bool HKF.out, HB5.out⟩
                | true =>
                  go_wp2_with fail
                  go_roundg g
                  case rel => exact ⟨k + 1, by have := HG.out; omega, by go_num, by rw [← HK.out]; rfl, HB5⟩
                  case measure => omega
end Go.Proofs.YtgblgkkbggdopaaDoor
