/-
  Texts of a walk, laid together by a program of the prover's own (merge.py). No conditions beyond those that each text names.
-/
import Derived.Test.YtgblgkkbggdopaaDoorZal
import Derived.Deep.DeepCutAuto
/-
  What stmts of the document's answer returns: a copy of statements with the places of their names, and whether each is used as what it is. Conditions: at most 100000 parts and declarations.
-/
namespace Go.Proofs.YtgblgkkbggdopaaDoor
open Go.RowKit

mutual
/-- Whether all names of a statement are used as what they are. -/
def St.shp (z : List UInt8 → Int) : St → Bool
  | .mk kind nm _ _ p v b e => (!(decide (kind = 1) || decide (kind = 2)) || (decide (kind = 2) == decide (0 < z nm))) && (p.shp z && (v.shp z && (St.shpL z b && St.shpL z e)))
def St.shpL (z : List UInt8 → Int) : List St → Bool
  | [] => true
  | s :: r => s.shp z && St.shpL z r
end
theorem sshpL_take (z : List UInt8 → Int) : ∀ (l : List St) (k : Nat) (e : St), l[k]? = some e → St.shpL z (l.take (k + 1)) = (St.shpL z (l.take k) && e.shp z)
  | [], _, _, h => by simp at h
  | x :: r, 0, e, h => by
    simp only [List.getElem?_cons_zero, Option.some.injEq] at h
    subst h
    simp [St.shpL]
  | x :: r, k + 1, e, h => by
    simp only [List.getElem?_cons_succ] at h
    simp [St.shpL, sshpL_take z r k e h, Bool.and_assoc]

set_option maxHeartbeats 8000000 in
set_option maxRecDepth 100000 in
theorem xstmts_all (vl : List Vr) (hvn : vl.length ≤ 100000) : ∀ (n : Nat) (ls : List St), St.bigL ls ≤ n → n ≤ 100000 → ∀ (S : Nat → Prop) (w : World) (B : Option Addr) (vn vc : Nat) (A : Option Addr) (l q : Nat), VrSlice S w vl (.slice B vn vc) → StSlice S w ls (.slice A l q) →
    Calls Tryd.prog 55 #[.slice B vn vc, .slice A l q] w fun e' w' => ∃ v, e' = .returned (.tuple #[v, .bool (St.shpL (zL vl) ls)]) ∧ VSts w.heap.size w' (St.resL (plL vl) ls) v ∧ Below w.heap.size w w' := by
  intro n
  induction n using Nat.strongRecOn with
  | ind n ih =>
  intro ls h hn S w B vn vc A l q hvs hl
  have IH : Hid (∀ (ls' : List St), St.bigL ls' < n → ∀ (S : Nat → Prop) (w : World) (A : Option Addr) (l q : Nat), VrSlice S w vl (.slice B vn vc) → StSlice S w ls' (.slice A l q) → Calls Tryd.prog 55 #[.slice B vn vc, .slice A l q] w fun e' w' => ∃ v, e' = .returned (.tuple #[v, .bool (St.shpL (zL vl) ls')]) ∧ VSts w.heap.size w' (St.resL (plL vl) ls') v ∧ Below w.heap.size w w') :=
    fun ls' h' S w A l q h1 h2 => ih _ h' ls' (Nat.le_refl _) (by omega) S w B vn vc A l q h1 h2
  clear ih
  obtain ⟨A', c', e1, hc, hr⟩ := hl
  simp only [Value.slice.injEq] at e1
  obtain ⟨rfl, rfl, rfl⟩ := e1
  have hlq : ls.length ≤ 100000 := by have := St.len_big ls; omega
  obtain ⟨i0, hi, hz0, hz1, hz2⟩ := info_parts infoSt3
  have HI := Lib.hid hi
  have HI0 := Lib.hid hz0
  have HI1 := Lib.hid hz1
  have HI2 := Lib.hid hz2
  clear hi hz0 hz1 hz2
  have HR := Lib.hid hr
  have HD := Lib.hid h
  have HVS := Lib.hid hvs
  obtain ⟨m, hm⟩ : ∃ x, ls.length = x := ⟨_, rfl⟩
  have HM := Lib.hid hm
  rw [hm] at hlq ⊢
  obtain ⟨R, hR⟩ : ∃ x, St.shpL (zL vl) ls = x := ⟨_, rfl⟩
  have HRR := Lib.hid hR
  rw [hR]
  clear hr hm h hc hvs hR
  go_enter Tryd.func55, Tryd.ntmps55
  go_wp2_with fail
  go_loopg [6, 7, 8, 9, 10, 11, 12, 13, 14, 15, 16, 17, 18, 19, 20] m (fun g v okv i _ _ _ _ _ _ _ _ _ _ _ _ wr => ∃ (k : Nat) (css : List (List Value)) (okk : Bool), k + g = m ∧ i = .int .i64 k ∧ okv = .bool okk ∧ Hid (okk = St.shpL (zL vl) (ls.take k)) ∧ Hid (RyHead (plL vl) w k ls v wr css))
  case atStart => exact ⟨0, [], true, by omega, rfl, rfl, by show _ = _; simp [St.shpL], RyHead.start (plL vl) w ls⟩
  case round =>
    obtain ⟨k, css, okk, hkg, rfl, rfl, HOK, HH⟩ := hrel
    have hz0 := HH.out.b.size
    cases gk with
    | zero =>
      have hkm : k = m := by omega
      have hge : m ≤ k := by omega
      have HT : Hid (ls.take k = ls) := List.take_of_length_le (by have := HM.out; omega)
      have HKM := Lib.hid hkm
      have hok2 : okk = R := by rw [HOK.out, HT.out]; exact HRR.out
      subst hok2
      have hv : VSts w.heap.size wr (St.resL (plL vl) ls) _ := RyHead.done (by have h := HH.out; rw [hkm, ← HM.out] at h; exact h)
      have HVV := Lib.hid hv
      clear hkg hv hkm
      go_wp2_with fail
      refine bodyPost_ret (v := .tuple #[u6, .bool okk]) ?_ rfl ?_
      · simp [results, Tryd.results55, go_sem]
      · exact ⟨_, rfl, HVV.out, HH.out.b⟩
    | succ g =>
      have hlt : k < m := by omega
      have hk0 : (0 : Int) ≤ (k : Int) := by omega
      have hk1 : (k : Int) < (m : Int) := by omega
      have HG := Lib.hid hkg
      have HB := Lib.hid HH.out.b
      clear hkg
      obtain ⟨e1, he1⟩ : ∃ e1, ls[k]? = some e1 := ⟨_, List.getElem?_eq_getElem (by have := HM.out; omega)⟩
      have HE1 := Lib.hid he1
      have hbg := St.big_at ls k e1 he1
      obtain ⟨bb, o, rfl, hS, hrow⟩ := HR.out (fun e => by have := HM.out; rw [e] at this; simp at this; omega)
      obtain ⟨cs, hcs, hex⟩ := StRow.get ls bb o k e1 hrow he1
      obtain ⟨kind, name, slot, size, place, value, body, els⟩ := e1
      simp only [St.big] at hbg
      have HX := Lib.hid hex
      simp only [StL] at hex
      obtain ⟨cp, cv, A3, c3, A4, c4, rfl, hp, hv, h3, h4, h5, h6⟩ := hex
      obtain ⟨p0, p1, p2, p3, p4, P1, P2, P3, rfl⟩ := hp.plain
      obtain ⟨v0, v1, v2, v3, v4, V1, V2, V3, rfl⟩ := hv.plain
      have hbb : bb < w.heap.size := hcs.lt
      have hw : ∀ j u, w.cell? ⟨bb, j, none⟩ = some u → wr.cell? ⟨bb, j, none⟩ = some u := fun j u hu => (HB.out.cell (p := ⟨bb, j, none⟩) hbb).trans hu
      have hcs' : ∀ j u, (stCells kind name slot size [.int .i64 p0, .int .i64 p1, .string p2, .int .i64 p3, .int .i64 p4, .slice P1 P2 P3] [.int .i64 v0, .int .i64 v1, .string v2, .int .i64 v3, .int .i64 v4, .slice V1 V2 V3] (.slice A3 body.length c3) (.slice A4 els.length c4))[j]? = some u → wr.cell? ⟨bb, o + k * 18 + j, none⟩ = some u := fun j u hu => hw _ _ (hcs j u hu)
      have HRG : Hid (wr.rangeAt bb (o + k * 18) (stCells kind name slot size [.int .i64 p0, .int .i64 p1, .string p2, .int .i64 p3, .int .i64 p4, .slice P1 P2 P3] [.int .i64 v0, .int .i64 v1, .string v2, .int .i64 v3, .int .i64 v4, .slice V1 V2 V3] (.slice A3 body.length c3) (.slice A4 els.length c4))) := fun j v hv => hw _ _ (hcs j v hv)
      have HP := Lib.hid hp
      have HV := Lib.hid hv
      have HBO : Hid (StSlice S w body (.slice A3 body.length c3)) := ⟨A3, c3, rfl, h3, h5⟩
      have HEL : Hid (StSlice S w els (.slice A4 els.length c4)) := ⟨A4, c4, rfl, h4, h6⟩
      clear hw hcs hcs' hrow he1 hp hv h3 h4 h5 h6 hS
      have hln : (St.resL (plL vl) (ls.take k)).length = k := ry_len (by have := HM.out; omega)
      have HLN := Lib.hid hln
      have HTK := Lib.hid (sshpL_take (zL vl) ls k _ HE1.out)
      simp only [St.shp] at HTK
      have hd0 := HD.out
      have hpp := Ex.big_pos place
      have hst : ∀ W, Below w.heap.size w W → Still S S w W := fun W hb j h1 h2 => ⟨h1, hb.block j h2⟩
      have CL := Lib.hid (fun (W : World) (hb : Below w.heap.size w W) => lookup3_any S vl name B vn vc W (HVS.out.still (hst W hb)) hvn)
      have CP := Lib.hid (fun (W : World) (hb : Below w.heap.size w W) => xexpr_all vl hvn 100000 place (by omega) (Nat.le_refl _) S W B vn vc p0 p1 p2 p3 p4 P1 P2 P3 (HVS.out.still (hst W hb)) (ExL.still (hst W hb) place _ HP.out))
      have CV := Lib.hid (fun (W : World) (hb : Below w.heap.size w W) => xexpr_all vl hvn 100000 value (by omega) (Nat.le_refl _) S W B vn vc v0 v1 v2 v3 v4 V1 V2 V3 (HVS.out.still (hst W hb)) (ExL.still (hst W hb) value _ HV.out))
      have CB := Lib.hid (fun (W : World) (hb : Below w.heap.size w W) => IH.out body (by omega) S W A3 body.length c3 (HVS.out.still (hst W hb)) (StSlice.still HBO.out (hst W hb)))
      have CE := Lib.hid (fun (W : World) (hb : Below w.heap.size w W) => IH.out els (by omega) S W A4 els.length c4 (HVS.out.still (hst W hb)) (StSlice.still HEL.out (hst W hb)))
      obtain ⟨L, hL⟩ : ∃ x, lookS name vl 0 = x := ⟨_, rfl⟩
      obtain ⟨L1, L2, L3⟩ := L
      obtain ⟨b1, hb1⟩ : ∃ x, place.shp (zL vl) = x := ⟨_, rfl⟩
      obtain ⟨b2, hb2⟩ : ∃ x, value.shp (zL vl) = x := ⟨_, rfl⟩
      obtain ⟨b3, hb3⟩ : ∃ x, St.shpL (zL vl) body = x := ⟨_, rfl⟩
      obtain ⟨b4, hb4⟩ : ∃ x, St.shpL (zL vl) els = x := ⟨_, rfl⟩
      have hzn : zL vl name = L2 := by unfold zL; rw [hL]
      have hpl : plL vl name = some (L1, L2) := by unfold plL; rw [hL]
      have HPL := Lib.hid hpl
      rw [hL] at CL
      simp only [lkV] at CL
      rw [hb1] at CP HTK
      rw [hb2] at CV HTK
      rw [hb3] at CB HTK
      rw [hb4] at CE HTK
      rw [hzn] at HTK
      clear hb1 hb2 hb3 hb4 hzn hL hpl hst hd0 hpp hbg hln
      go_upto_region 7 with (first | (refine wpList_load_mid rfl 94 _ rfl bb (o + k * 18) rfl _ _ HRG.out Tryd.underlying94 rfl (by kernel_rfl) ?_) | (refine wpList_store_row rfl 94 _ _ rfl wr.heap.size _ rfl rfl _ _ (new_blk wr stZ) HX.out.info HX.out.size18 HX.out.one ?_))
      have h5 : ((wr.alloc stZ).setRow wr.heap.size (stCells kind name slot size [.int .i64 p0, .int .i64 p1, .string p2, .int .i64 p3, .int .i64 p4, .slice P1 P2 P3] [.int .i64 v0, .int .i64 v1, .string v2, .int .i64 v3, .int .i64 v4, .slice V1 V2 V3] (.slice A3 body.length c3) (.slice A4 els.length c4)).toArray).heap[wr.heap.size]? = some (.cells (stCells kind name slot size [.int .i64 p0, .int .i64 p1, .string p2, .int .i64 p3, .int .i64 p4, .slice P1 P2 P3] [.int .i64 v0, .int .i64 v1, .string v2, .int .i64 v3, .int .i64 v4, .slice V1 V2 V3] (.slice A3 body.length c3) (.slice A4 els.length c4)).toArray 94 (0, 0)) := setRow_same (new_blk wr stZ)
      have HB5 : Hid (Below wr.heap.size wr ((wr.alloc stZ).setRow wr.heap.size (stCells kind name slot size [.int .i64 p0, .int .i64 p1, .string p2, .int .i64 p3, .int .i64 p4, .slice P1 P2 P3] [.int .i64 v0, .int .i64 v1, .string v2, .int .i64 v3, .int .i64 v4, .slice V1 V2 V3] (.slice A3 body.length c3) (.slice A4 els.length c4)).toArray)) := by
        have h1 : Below wr.heap.size wr (wr.alloc stZ) := (Below.refl _ _).alloc (Nat.le_refl _) stZ
        exact ⟨h1.os, h1.tape, h1.output, by simp, fun k hk => (setRow_blk (wr.alloc stZ) wr.heap.size _ (by omega)).trans (h1.block k hk)⟩
      obtain ⟨w5, hw5⟩ : ∃ x, (wr.alloc stZ).setRow wr.heap.size (stCells kind name slot size [.int .i64 p0, .int .i64 p1, .string p2, .int .i64 p3, .int .i64 p4, .slice P1 P2 P3] [.int .i64 v0, .int .i64 v1, .string v2, .int .i64 v3, .int .i64 v4, .slice V1 V2 V3] (.slice A3 body.length c3) (.slice A4 els.length c4)).toArray = x := ⟨_, rfl⟩
      rw [hw5] at h5 HB5 ⊢
      clear hw5
      have H5 := Lib.hid h5
      have q0 : w5.cell? ⟨wr.heap.size, 0, none⟩ = some (.int .i64 kind) := by rw [Lib.cell_of_heap H5.out]; rfl
      clear h5
      have hcs : (kind = 1 ∧ 0 < L2) ∨ (kind = 1 ∧ ¬ 0 < L2) ∨ ((kind == 1) = false ∧ kind = 2 ∧ 0 < L2) ∨ ((kind == 1) = false ∧ kind = 2 ∧ ¬ 0 < L2) ∨ ((kind == 1) = false ∧ (kind == 2) = false) := by
        by_cases h2 : kind = 1
        · by_cases h0 : 0 < L2 <;> simp [h2, h0]
        · by_cases h3 : kind = 2
          · by_cases h0 : 0 < L2 <;> simp [h3, h0]
          · simp [h2, h3]
      rcases hcs with ⟨rfl, h0⟩ | ⟨rfl, h0⟩ | ⟨hn2, rfl, h0⟩ | ⟨hn2, rfl, h0⟩ | ⟨hn2, hn3⟩
      · have HRES : Hid (St.res (plL vl) (.mk 1 name slot size place value body els) = .mk 1 name L1 L2 (place.res (plL vl)) (value.res (plL vl)) (St.resL (plL vl) body) (St.resL (plL vl) els)) := by show _ = _; simp [St.res, HPL.out]
        have hdd : decide (0 < L2) = true := by simp; omega
        have HSH : Hid (St.shpL (zL vl) (ls.take (k + 1)) = (okk && (false && (b1 && (b2 && (b3 && b4)))))) := by
          show _ = _
          rw [HTK.out, ← HOK.out, hdd]
          simp
        clear hdd
        have q1 : w5.cell? ⟨wr.heap.size, 1, none⟩ = some (.string (strB name)) := by rw [Lib.cell_of_heap H5.out]; rfl
        clear HTK
        go_wp2_with fail
        refine (CL.out _ (HB.out.trans (HB5.out.mono hz0))).mono ?_
        rintro e wf ⟨rfl, hb⟩
        have HBf := Lib.hid hb
        have Hf := Lib.hid (below_blk hb H5.out)
        have hnf := lt_of_block Hf.out
        have r0 : wf.cell? ⟨wr.heap.size, 0, none⟩ = some (.int .i64 1) := by rw [Lib.cell_of_heap Hf.out]; rfl
        have r2 : wf.cell? ⟨wr.heap.size, 2, none⟩ = some (.int .i64 slot) := by rw [Lib.cell_of_heap Hf.out]; rfl
        have r3 : wf.cell? ⟨wr.heap.size, 3, none⟩ = some (.int .i64 size) := by rw [Lib.cell_of_heap Hf.out]; rfl
        have rf2 : wf.frozen? ⟨wr.heap.size, 2, none⟩ = false := Lib.frozen_of_heap Hf.out 2
        have rf3 : wf.frozen? ⟨wr.heap.size, 3, none⟩ = false := Lib.frozen_of_heap Hf.out 3
        clear hb q1 q0
        cases okk
        all_goals
          go_upto_region 11 with fail
          obtain ⟨w6, hw6⟩ : ∃ x, (wf.setCell ⟨wr.heap.size, 2, none⟩ (.int .i64 L1)).setCell ⟨wr.heap.size, 3, none⟩ (.int .i64 L2) = x := ⟨_, rfl⟩
          have H6 : Hid (w6.heap[wr.heap.size]? = some (.cells #[.int .i64 1, .string (strB name), .int .i64 L1, .int .i64 L2, .int .i64 p0, .int .i64 p1, .string p2, .int .i64 p3, .int .i64 p4, .slice P1 P2 P3, .int .i64 v0, .int .i64 v1, .string v2, .int .i64 v3, .int .i64 v4, .slice V1 V2 V3, .slice A3 body.length c3, .slice A4 els.length c4] 94 (0, 0))) := by
            rw [← hw6]
            have h' := blk_set (blk_set Hf.out 2 (.int .i64 L1)) 3 (.int .i64 L2)
            simp only [stCells, List.cons_append, List.nil_append, List.setIfInBounds_toArray, List.set_cons_zero, List.set_cons_succ] at h'
            exact h'
          have HB6 : Hid (Below wr.heap.size wr w6) := by
            rw [← hw6]
            have h1 := HB5.out.trans (HBf.out.mono HB5.out.size)
            exact (h1.setCell (p := ⟨wr.heap.size, 2, none⟩) (Nat.le_refl _) _).setCell (p := ⟨wr.heap.size, 3, none⟩) (Nat.le_refl _) _
          simp only [hw6]
          clear hw6 r0 r2 r3 rf2 rf3 hnf
        rotate_left 0
        · skip
          have HKO := HSH
          have s4 : w6.cell? ⟨wr.heap.size, 4, none⟩ = some (.int .i64 p0) := by rw [Lib.cell_of_heap H6.out]; rfl
          have s5 : w6.cell? ⟨wr.heap.size, 5, none⟩ = some (.int .i64 p1) := by rw [Lib.cell_of_heap H6.out]; rfl
          have s6 : w6.cell? ⟨wr.heap.size, 6, none⟩ = some (.string p2) := by rw [Lib.cell_of_heap H6.out]; rfl
          have s7 : w6.cell? ⟨wr.heap.size, 7, none⟩ = some (.int .i64 p3) := by rw [Lib.cell_of_heap H6.out]; rfl
          have s8 : w6.cell? ⟨wr.heap.size, 8, none⟩ = some (.int .i64 p4) := by rw [Lib.cell_of_heap H6.out]; rfl
          have s9 : w6.cell? ⟨wr.heap.size, 9, none⟩ = some (.slice P1 P2 P3) := by rw [Lib.cell_of_heap H6.out]; rfl
          have HW6 : Hid (Below w.heap.size w w6) := HB.out.trans (HB6.out.mono hz0)
          go_wp2_with fail
          refine (CP.out _ HW6.out).mono ?_
          rintro e w7 ⟨y7, rfl, ⟨x0, x1, x2, x3, x4, X1, X2, X3, rfl, hl⟩, hb⟩
          have HLP := Lib.hid hl
          have H7 := Lib.hid (below_blk hb H6.out)
          have HB7 := Lib.hid hb
          clear hb hl s4 s5 s6 s7 s8 s9
          go_upto_region 12 with fail
          obtain ⟨w8, hw8⟩ : ∃ x, w7.alloc (.cells #[.int .i64 x0, .int .i64 x1, .string x2, .int .i64 x3, .int .i64 x4, .slice X1 X2 X3] 92) = x := ⟨_, rfl⟩
          have hb78 : Below w7.heap.size w7 w8 := by rw [← hw8]; exact (Below.refl _ _).alloc (Nat.le_refl _) _
          have E87 : Hid (∀ k, k < w7.heap.size → w8.heap[k]? = w7.heap[k]?) := fun k hk => hb78.block k hk
          have HX8 : Hid (w8.heap[w7.heap.size]? = some (.cells #[.int .i64 x0, .int .i64 x1, .string x2, .int .i64 x3, .int .i64 x4, .slice X1 X2 X3] 92 (0, 0))) := by rw [← hw8]; exact new_blk w7 _
          obtain ⟨np, hnp⟩ : ∃ x, w7.heap.size = x := ⟨_, rfl⟩
          have HNP := Lib.hid hnp
          rw [hnp] at HX8
          simp only [hw8, hnp]
          clear hw8 hnp
          have H8 := Lib.hid (below_blk hb78 H7.out)
          have HB8 := Lib.hid (HB7.out.trans (hb78.mono HB7.out.size))
          have HW8 : Hid (Below w.heap.size w w8) := HW6.out.trans (HB8.out.mono HW6.out.size)
          clear hb78
          have s10 : w8.cell? ⟨wr.heap.size, 10, none⟩ = some (.int .i64 v0) := by rw [Lib.cell_of_heap H8.out]; rfl
          have s11 : w8.cell? ⟨wr.heap.size, 11, none⟩ = some (.int .i64 v1) := by rw [Lib.cell_of_heap H8.out]; rfl
          have s12 : w8.cell? ⟨wr.heap.size, 12, none⟩ = some (.string v2) := by rw [Lib.cell_of_heap H8.out]; rfl
          have s13 : w8.cell? ⟨wr.heap.size, 13, none⟩ = some (.int .i64 v3) := by rw [Lib.cell_of_heap H8.out]; rfl
          have s14 : w8.cell? ⟨wr.heap.size, 14, none⟩ = some (.int .i64 v4) := by rw [Lib.cell_of_heap H8.out]; rfl
          have s15 : w8.cell? ⟨wr.heap.size, 15, none⟩ = some (.slice V1 V2 V3) := by rw [Lib.cell_of_heap H8.out]; rfl
          go_wp2_with fail
          refine (CV.out _ HW8.out).mono ?_
          rintro e w9 ⟨y9, rfl, ⟨z0, z1, z2, z3, z4, Z1, Z2, Z3, rfl, hl⟩, hb⟩
          have HLV := Lib.hid hl
          have H9 := Lib.hid (below_blk hb H8.out)
          have HX9 := Lib.hid (below_blk hb HX8.out)
          have HB9 := Lib.hid hb
          clear hb hl s10 s11 s12 s13 s14 s15
          go_upto_region 13 with fail
          obtain ⟨w10, hw10⟩ : ∃ x, w9.alloc (.cells #[.int .i64 z0, .int .i64 z1, .string z2, .int .i64 z3, .int .i64 z4, .slice Z1 Z2 Z3] 92) = x := ⟨_, rfl⟩
          have hb910 : Below w9.heap.size w9 w10 := by rw [← hw10]; exact (Below.refl _ _).alloc (Nat.le_refl _) _
          have E109 : Hid (∀ k, k < w9.heap.size → w10.heap[k]? = w9.heap[k]?) := fun k hk => hb910.block k hk
          have HZ10 : Hid (w10.heap[w9.heap.size]? = some (.cells #[.int .i64 z0, .int .i64 z1, .string z2, .int .i64 z3, .int .i64 z4, .slice Z1 Z2 Z3] 92 (0, 0))) := by rw [← hw10]; exact new_blk w9 _
          obtain ⟨nv, hnv⟩ : ∃ x, w9.heap.size = x := ⟨_, rfl⟩
          have HNV := Lib.hid hnv
          rw [hnv] at HZ10
          simp only [hw10, hnv]
          clear hw10 hnv
          have H10 := Lib.hid (below_blk hb910 H9.out)
          have HX10 := Lib.hid (below_blk hb910 HX9.out)
          have HB10 := Lib.hid (HB9.out.trans (hb910.mono HB9.out.size))
          have HW10 : Hid (Below w.heap.size w w10) := HW8.out.trans (HB10.out.mono HW8.out.size)
          clear hb910
          have s16 : w10.cell? ⟨wr.heap.size, 16, none⟩ = some (.slice A3 body.length c3) := by rw [Lib.cell_of_heap H10.out]; rfl
          go_wp2_with fail
          refine (CB.out _ HW10.out).mono ?_
          rintro e w11 ⟨y11, rfl, ⟨Ab, cb, rfl, hl, hr⟩, hb⟩
          have HLB := Lib.hid hl
          have HRB := Lib.hid hr
          have H11 := Lib.hid (below_blk hb H10.out)
          have HX11 := Lib.hid (below_blk hb HX10.out)
          have HZ11 := Lib.hid (below_blk hb HZ10.out)
          have HB11 := Lib.hid hb
          have HW11 : Hid (Below w.heap.size w w11) := HW10.out.trans (HB11.out.mono HW10.out.size)
          clear hb hl hr s16
          have s17 : w11.cell? ⟨wr.heap.size, 17, none⟩ = some (.slice A4 els.length c4) := by rw [Lib.cell_of_heap H11.out]; rfl
          go_wp2_with fail
          refine (CE.out _ HW11.out).mono ?_
          rintro e w12 ⟨y12, rfl, ⟨Ae, ce, rfl, hl, hr⟩, hb⟩
          have HLE := Lib.hid hl
          have HRE := Lib.hid hr
          have H12 := Lib.hid (below_blk hb H11.out)
          have HX12 := Lib.hid (below_blk hb HX11.out)
          have HZ12 := Lib.hid (below_blk hb HZ11.out)
          have HB12 := Lib.hid hb
          clear hb hl hr s17
          go_upto_region 15 with fail
          have hnp : np ≠ wr.heap.size := by have := HNP.out; have := HB6.out.size; have := HB7.out.size; have := lt_of_block H6.out; omega
          have hnv : nv ≠ wr.heap.size := by have := HNV.out; have := HB9.out.size; have := HB8.out.size; have := lt_of_block H6.out; omega
          have hS : w12.drew.heap[np]? = some (.cells #[.int .i64 x0, .int .i64 x1, .string x2, .int .i64 x3, .int .i64 x4, .slice X1 X2 X3] 92 (0, 0)) ∧ w12.drew.heap[nv]? = some (.cells #[.int .i64 z0, .int .i64 z1, .string z2, .int .i64 z3, .int .i64 z4, .slice Z1 Z2 Z3] 92 (0, 0)) := ⟨HX12.out, HZ12.out⟩
          obtain ⟨wd, hwd⟩ : ∃ x, w12.drew = x := ⟨_, rfl⟩
          have HD12 : Hid (wd.heap[wr.heap.size]? = some (.cells #[.int .i64 1, .string (strB name), .int .i64 L1, .int .i64 L2, .int .i64 p0, .int .i64 p1, .string p2, .int .i64 p3, .int .i64 p4, .slice P1 P2 P3, .int .i64 v0, .int .i64 v1, .string v2, .int .i64 v3, .int .i64 v4, .slice V1 V2 V3, .slice A3 body.length c3, .slice A4 els.length c4] 94 (0, 0)) ∧ Below w12.heap.size w12 wd) := by rw [← hwd]; exact ⟨H12.out, (Below.refl _ _).drew⟩
          refine wp_region_G [5, 7] (fun w' => w'.heap[np]? = some (.cells #[.int .i64 x0, .int .i64 x1, .string x2, .int .i64 x3, .int .i64 x4, .slice X1 X2 X3] 92 (0, 0)) ∧ w'.heap[nv]? = some (.cells #[.int .i64 z0, .int .i64 z1, .string z2, .int .i64 z3, .int .i64 z4, .slice Z1 Z2 Z3] 92 (0, 0))) (by kernel_rfl) ?_
          rw [hwd] at hS ⊢
          clear hwd
          have hS0 := hS
          refine' wpAnyG_take 5 (i := 0) (v := _) ?hi1 (by kernel_rfl) ?hQ1 (Or.inl ⟨?hw1, ?hy1⟩) hS ?rest1
          case hi1 => (simp only [List.getElem?_toArray, List.getElem?_cons_zero]; rfl)
          case hQ1 => exact fun _ _ _ h => h
          case hw1 => rfl
          case hy1 =>
            rintro w99 ⟨hx99, -⟩
            have d0 : w99.cell? ⟨np, 0, none⟩ = some (.int .i64 x0) := by rw [Lib.cell_of_heap hx99]; rfl
            have d1 : w99.cell? ⟨np, 1, none⟩ = some (.int .i64 x1) := by rw [Lib.cell_of_heap hx99]; rfl
            have d2 : w99.cell? ⟨np, 2, none⟩ = some (.string x2) := by rw [Lib.cell_of_heap hx99]; rfl
            have d3 : w99.cell? ⟨np, 3, none⟩ = some (.int .i64 x3) := by rw [Lib.cell_of_heap hx99]; rfl
            have d4 : w99.cell? ⟨np, 4, none⟩ = some (.int .i64 x4) := by rw [Lib.cell_of_heap hx99]; rfl
            have d5 : w99.cell? ⟨np, 5, none⟩ = some (.slice X1 X2 X3) := by rw [Lib.cell_of_heap hx99]; rfl
            go_simp
            with_reducible rfl
          try simp only [Act.put, List.setIfInBounds_toArray, List.set_cons_zero, List.set_cons_succ]
          refine' wpAnyG_take 7 (i := 1) (v := _) ?hi2 (by kernel_rfl) ?hQ2 (Or.inl ⟨?hw2, ?hy2⟩) hS ?rest2
          case hi2 => (simp only [List.getElem?_toArray, List.getElem?_cons_succ, List.getElem?_cons_zero]; rfl)
          case hQ2 => exact fun _ _ _ h => h
          case hw2 => rfl
          case hy2 =>
            rintro w99 ⟨-, hx99⟩
            have d0 : w99.cell? ⟨nv, 0, none⟩ = some (.int .i64 z0) := by rw [Lib.cell_of_heap hx99]; rfl
            have d1 : w99.cell? ⟨nv, 1, none⟩ = some (.int .i64 z1) := by rw [Lib.cell_of_heap hx99]; rfl
            have d2 : w99.cell? ⟨nv, 2, none⟩ = some (.string z2) := by rw [Lib.cell_of_heap hx99]; rfl
            have d3 : w99.cell? ⟨nv, 3, none⟩ = some (.int .i64 z3) := by rw [Lib.cell_of_heap hx99]; rfl
            have d4 : w99.cell? ⟨nv, 4, none⟩ = some (.int .i64 z4) := by rw [Lib.cell_of_heap hx99]; rfl
            have d5 : w99.cell? ⟨nv, 5, none⟩ = some (.slice Z1 Z2 Z3) := by rw [Lib.cell_of_heap hx99]; rfl
            go_simp
            with_reducible rfl
          try simp only [Act.put, List.setIfInBounds_toArray, List.set_cons_zero, List.set_cons_succ]
          refine' wpAnyG_step (i := 2) (v := _) ?hi3 (by kernel_rfl) ?hQ3 (Or.inl ⟨?hw3, ?hy3⟩) hS ?rest3
          case hi3 => (simp only [List.getElem?_toArray, List.getElem?_cons_succ, List.getElem?_cons_zero]; rfl)
          case hQ3 => exact fun _ _ _ h => h
          case hw3 => rfl
          case hy3 => (intro w99; go_simp; with_reducible rfl)
          try simp only [Act.put, List.setIfInBounds_toArray, List.set_cons_zero, List.set_cons_succ]
          refine' wpAnyG_step (i := 3) (v := _) ?hi4 (by kernel_rfl) ?hQ4 (Or.inl ⟨?hw4, ?hy4⟩) hS ?rest4
          case hi4 => (simp only [List.getElem?_toArray, List.getElem?_cons_succ, List.getElem?_cons_zero]; rfl)
          case hQ4 => exact fun _ _ _ h => h
          case hw4 => rfl
          case hy4 => (intro w99; go_simp; with_reducible rfl)
          try simp only [Act.put, List.setIfInBounds_toArray, List.set_cons_zero, List.set_cons_succ]
          refine' wpAnyG_step (i := 4) (v := _) ?hi5 (by kernel_rfl) ?hQ5 (Or.inl ⟨?hw5, ?hy5⟩) hS ?rest5
          case hi5 => (simp only [List.getElem?_toArray, List.getElem?_cons_succ, List.getElem?_cons_zero]; rfl)
          case hQ5 => exact fun _ _ _ h => h
          case hw5 => rfl
          case hy5 => (intro w99; go_simp; with_reducible rfl)
          try simp only [Act.put, List.setIfInBounds_toArray, List.set_cons_zero, List.set_cons_succ]
          have s4 : wd.cell? ⟨wr.heap.size, 4, none⟩ = some (.int .i64 p0) := by rw [Lib.cell_of_heap HD12.out.1]; rfl
          have sf4 : wd.frozen? ⟨wr.heap.size, 4, none⟩ = false := Lib.frozen_of_heap HD12.out.1 4
          have s5 : wd.cell? ⟨wr.heap.size, 5, none⟩ = some (.int .i64 p1) := by rw [Lib.cell_of_heap HD12.out.1]; rfl
          have sf5 : wd.frozen? ⟨wr.heap.size, 5, none⟩ = false := Lib.frozen_of_heap HD12.out.1 5
          have s6 : wd.cell? ⟨wr.heap.size, 6, none⟩ = some (.string p2) := by rw [Lib.cell_of_heap HD12.out.1]; rfl
          have sf6 : wd.frozen? ⟨wr.heap.size, 6, none⟩ = false := Lib.frozen_of_heap HD12.out.1 6
          have s7 : wd.cell? ⟨wr.heap.size, 7, none⟩ = some (.int .i64 p3) := by rw [Lib.cell_of_heap HD12.out.1]; rfl
          have sf7 : wd.frozen? ⟨wr.heap.size, 7, none⟩ = false := Lib.frozen_of_heap HD12.out.1 7
          have s8 : wd.cell? ⟨wr.heap.size, 8, none⟩ = some (.int .i64 p4) := by rw [Lib.cell_of_heap HD12.out.1]; rfl
          have sf8 : wd.frozen? ⟨wr.heap.size, 8, none⟩ = false := Lib.frozen_of_heap HD12.out.1 8
          have s9 : wd.cell? ⟨wr.heap.size, 9, none⟩ = some (.slice P1 P2 P3) := by rw [Lib.cell_of_heap HD12.out.1]; rfl
          have sf9 : wd.frozen? ⟨wr.heap.size, 9, none⟩ = false := Lib.frozen_of_heap HD12.out.1 9
          have s10 : wd.cell? ⟨wr.heap.size, 10, none⟩ = some (.int .i64 v0) := by rw [Lib.cell_of_heap HD12.out.1]; rfl
          have sf10 : wd.frozen? ⟨wr.heap.size, 10, none⟩ = false := Lib.frozen_of_heap HD12.out.1 10
          have s11 : wd.cell? ⟨wr.heap.size, 11, none⟩ = some (.int .i64 v1) := by rw [Lib.cell_of_heap HD12.out.1]; rfl
          have sf11 : wd.frozen? ⟨wr.heap.size, 11, none⟩ = false := Lib.frozen_of_heap HD12.out.1 11
          have s12 : wd.cell? ⟨wr.heap.size, 12, none⟩ = some (.string v2) := by rw [Lib.cell_of_heap HD12.out.1]; rfl
          have sf12 : wd.frozen? ⟨wr.heap.size, 12, none⟩ = false := Lib.frozen_of_heap HD12.out.1 12
          have s13 : wd.cell? ⟨wr.heap.size, 13, none⟩ = some (.int .i64 v3) := by rw [Lib.cell_of_heap HD12.out.1]; rfl
          have sf13 : wd.frozen? ⟨wr.heap.size, 13, none⟩ = false := Lib.frozen_of_heap HD12.out.1 13
          have s14 : wd.cell? ⟨wr.heap.size, 14, none⟩ = some (.int .i64 v4) := by rw [Lib.cell_of_heap HD12.out.1]; rfl
          have sf14 : wd.frozen? ⟨wr.heap.size, 14, none⟩ = false := Lib.frozen_of_heap HD12.out.1 14
          have s15 : wd.cell? ⟨wr.heap.size, 15, none⟩ = some (.slice V1 V2 V3) := by rw [Lib.cell_of_heap HD12.out.1]; rfl
          have sf15 : wd.frozen? ⟨wr.heap.size, 15, none⟩ = false := Lib.frozen_of_heap HD12.out.1 15
          have s16 : wd.cell? ⟨wr.heap.size, 16, none⟩ = some (.slice A3 body.length c3) := by rw [Lib.cell_of_heap HD12.out.1]; rfl
          have sf16 : wd.frozen? ⟨wr.heap.size, 16, none⟩ = false := Lib.frozen_of_heap HD12.out.1 16
          have s17 : wd.cell? ⟨wr.heap.size, 17, none⟩ = some (.slice A4 els.length c4) := by rw [Lib.cell_of_heap HD12.out.1]; rfl
          have sf17 : wd.frozen? ⟨wr.heap.size, 17, none⟩ = false := Lib.frozen_of_heap HD12.out.1 17
          refine' wpAnyG_one (i := 5) (by kernel_rfl) ?hi6 (fun K hK => ?rest6)
          case hi6 => (simp only [List.getElem?_toArray, List.getElem?_cons_succ, List.getElem?_cons_zero]; rfl)
          go_simp
          refine hK.out _ _ ⟨?_, ?_⟩ (fun hS => ?_)
          · repeat rw [Below.heap_setCell _ _ _ _ (show np ≠ wr.heap.size from hnp)]
            exact hS0.1
          · repeat rw [Below.heap_setCell _ _ _ _ (show nv ≠ wr.heap.size from hnv)]
            exact hS0.2
          clear hK K
          try simp only [Act.put, List.setIfInBounds_toArray, List.set_cons_zero, List.set_cons_succ]
          refine' wpAnyG_one (i := 6) (by kernel_rfl) ?hi7 (fun K hK => ?rest7)
          case hi7 => (simp only [List.getElem?_toArray, List.getElem?_cons_succ, List.getElem?_cons_zero]; rfl)
          go_simp
          refine hK.out _ _ ⟨?_, ?_⟩ (fun hS => ?_)
          · repeat rw [Below.heap_setCell _ _ _ _ (show np ≠ wr.heap.size from hnp)]
            exact hS0.1
          · repeat rw [Below.heap_setCell _ _ _ _ (show nv ≠ wr.heap.size from hnv)]
            exact hS0.2
          clear hK K
          try simp only [Act.put, List.setIfInBounds_toArray, List.set_cons_zero, List.set_cons_succ]
          refine' wpAnyG_one (i := 7) (by kernel_rfl) ?hi8 (fun K hK => ?rest8)
          case hi8 => (simp only [List.getElem?_toArray, List.getElem?_cons_succ, List.getElem?_cons_zero]; rfl)
          go_simp
          refine hK.out _ _ ⟨?_, ?_⟩ (fun hS => ?_)
          · repeat rw [Below.heap_setCell _ _ _ _ (show np ≠ wr.heap.size from hnp)]
            exact hS0.1
          · repeat rw [Below.heap_setCell _ _ _ _ (show nv ≠ wr.heap.size from hnv)]
            exact hS0.2
          clear hK K
          try simp only [Act.put, List.setIfInBounds_toArray, List.set_cons_zero, List.set_cons_succ]
          refine wpAnyG_rel (by kernel_rfl) ?_
          clear hS
          refine' wpAny_one (i := 8) (by kernel_rfl) ?hi9 (fun K hK => ?rest9)
          case hi9 => (simp only [List.getElem?_toArray, List.getElem?_cons_succ, List.getElem?_cons_zero]; rfl)
          go_simp
          refine hK.out _ _ ?_
          clear hK K
          try simp only [Act.put, List.setIfInBounds_toArray, List.set_cons_zero, List.set_cons_succ]
          refine' wpAny_one (i := 9) (by kernel_rfl) ?hi10 (fun K hK => ?rest10)
          case hi10 => (simp only [List.getElem?_toArray, List.getElem?_cons_succ, List.getElem?_cons_zero]; rfl)
          go_simp
          refine hK.out _ _ ?_
          clear hK K
          try simp only [Act.put, List.setIfInBounds_toArray, List.set_cons_zero, List.set_cons_succ]
          refine' wpAny_one (i := 10) (by kernel_rfl) ?hi11 (fun K hK => ?rest11)
          case hi11 => (simp only [List.getElem?_toArray, List.getElem?_cons_succ, List.getElem?_cons_zero]; rfl)
          go_simp
          refine hK.out _ _ ?_
          clear hK K
          try simp only [Act.put, List.setIfInBounds_toArray, List.set_cons_zero, List.set_cons_succ]
          refine' wpAny_one (i := 11) (by kernel_rfl) ?hi12 (fun K hK => ?rest12)
          case hi12 => (simp only [List.getElem?_toArray, List.getElem?_cons_succ, List.getElem?_cons_zero]; rfl)
          go_simp
          refine hK.out _ _ ?_
          clear hK K
          try simp only [Act.put, List.setIfInBounds_toArray, List.set_cons_zero, List.set_cons_succ]
          refine wpAny_done (by kernel_rfl) ?_ _
          obtain ⟨w13, hw13⟩ : ∃ x, ((((((((((((((wd.setCell ⟨wr.heap.size, 4, none⟩ (.int .i64 x0)).setCell ⟨wr.heap.size, 5, none⟩ (.int .i64 x1)).setCell ⟨wr.heap.size, 6, none⟩ (.string x2)).setCell ⟨wr.heap.size, 7, none⟩ (.int .i64 x3)).setCell ⟨wr.heap.size, 8, none⟩ (.int .i64 x4)).setCell ⟨wr.heap.size, 9, none⟩ (.slice X1 X2 X3)).setCell ⟨wr.heap.size, 10, none⟩ (.int .i64 z0)).setCell ⟨wr.heap.size, 11, none⟩ (.int .i64 z1)).setCell ⟨wr.heap.size, 12, none⟩ (.string z2)).setCell ⟨wr.heap.size, 13, none⟩ (.int .i64 z3)).setCell ⟨wr.heap.size, 14, none⟩ (.int .i64 z4)).setCell ⟨wr.heap.size, 15, none⟩ (.slice Z1 Z2 Z3)).setCell ⟨wr.heap.size, 16, none⟩ (.slice Ab (St.resL (plL vl) body).length cb)).setCell ⟨wr.heap.size, 17, none⟩ (.slice Ae (St.resL (plL vl) els).length ce)) = x := ⟨_, rfl⟩
          have H13 : Hid (w13.heap[wr.heap.size]? = some (.cells #[.int .i64 1, .string (strB name), .int .i64 L1, .int .i64 L2, .int .i64 x0, .int .i64 x1, .string x2, .int .i64 x3, .int .i64 x4, .slice X1 X2 X3, .int .i64 z0, .int .i64 z1, .string z2, .int .i64 z3, .int .i64 z4, .slice Z1 Z2 Z3, .slice Ab (St.resL (plL vl) body).length cb, .slice Ae (St.resL (plL vl) els).length ce] 94 (0, 0))) := by
            have h' := (blk_set (blk_set (blk_set (blk_set (blk_set (blk_set (blk_set (blk_set (blk_set (blk_set (blk_set (blk_set (blk_set (blk_set HD12.out.1 4 (.int .i64 x0)) 5 (.int .i64 x1)) 6 (.string x2)) 7 (.int .i64 x3)) 8 (.int .i64 x4)) 9 (.slice X1 X2 X3)) 10 (.int .i64 z0)) 11 (.int .i64 z1)) 12 (.string z2)) 13 (.int .i64 z3)) 14 (.int .i64 z4)) 15 (.slice Z1 Z2 Z3)) 16 (.slice Ab (St.resL (plL vl) body).length cb)) 17 (.slice Ae (St.resL (plL vl) els).length ce))
            rw [hw13] at h'
            simp only [List.setIfInBounds_toArray, List.set_cons_zero, List.set_cons_succ] at h'
            exact h'
          have HK13 : Hid (∀ k, k ≠ wr.heap.size → w13.heap[k]? = wd.heap[k]?) := fun k hk => by
            rw [← hw13]
            iterate 14 rw [Below.heap_setCell _ _ _ _ hk]
          have HB13 : Hid (Below wr.heap.size wd w13) := by rw [← hw13]; exact (((((((((((((((Below.refl _ _).setCell (p := ⟨wr.heap.size, 4, none⟩) (Nat.le_refl _) _).setCell (p := ⟨wr.heap.size, 5, none⟩) (Nat.le_refl _) _).setCell (p := ⟨wr.heap.size, 6, none⟩) (Nat.le_refl _) _).setCell (p := ⟨wr.heap.size, 7, none⟩) (Nat.le_refl _) _).setCell (p := ⟨wr.heap.size, 8, none⟩) (Nat.le_refl _) _).setCell (p := ⟨wr.heap.size, 9, none⟩) (Nat.le_refl _) _).setCell (p := ⟨wr.heap.size, 10, none⟩) (Nat.le_refl _) _).setCell (p := ⟨wr.heap.size, 11, none⟩) (Nat.le_refl _) _).setCell (p := ⟨wr.heap.size, 12, none⟩) (Nat.le_refl _) _).setCell (p := ⟨wr.heap.size, 13, none⟩) (Nat.le_refl _) _).setCell (p := ⟨wr.heap.size, 14, none⟩) (Nat.le_refl _) _).setCell (p := ⟨wr.heap.size, 15, none⟩) (Nat.le_refl _) _).setCell (p := ⟨wr.heap.size, 16, none⟩) (Nat.le_refl _) _).setCell (p := ⟨wr.heap.size, 17, none⟩) (Nat.le_refl _) _)
          simp only [hw13]
          clear hw13 s4 sf4 s5 sf5 s6 sf6 s7 sf7 s8 sf8 s9 sf9 s10 sf10 s11 sf11 s12 sf12 s13 sf13 s14 sf14 s15 sf15 s16 sf16 s17 sf17
          have hza : wr.heap.size < w6.heap.size := lt_of_block H6.out
          have hzb : w6.heap.size ≤ w7.heap.size := HB7.out.size
          have hzc : w7.heap.size ≤ w8.heap.size := by have := lt_of_block HX8.out; have := HNP.out; omega
          have hzd : w8.heap.size ≤ w9.heap.size := HB9.out.size
          have hze : w9.heap.size ≤ w10.heap.size := by have := lt_of_block HZ10.out; have := HNV.out; omega
          have hzf : w10.heap.size ≤ w11.heap.size := HB11.out.size
          have hzg : w11.heap.size ≤ w12.heap.size := HB12.out.size
          have hzh : w12.heap.size ≤ wd.heap.size := HD12.out.2.size
          have HW13 : Hid (Below wr.heap.size wr w13) := (((((HB6.out.trans (HB8.out.mono (by omega))).trans (HB10.out.mono (by omega))).trans (HB11.out.mono (by omega))).trans (HB12.out.mono (by omega))).trans (HD12.out.2.mono (by omega))).trans HB13.out
          have HS13 : Hid (StL (From wr.heap.size) w13 (St.res (plL vl) (.mk 1 name slot size place value body els)) [.int .i64 1, .string (strB name), .int .i64 L1, .int .i64 L2, .int .i64 x0, .int .i64 x1, .string x2, .int .i64 x3, .int .i64 x4, .slice X1 X2 X3, .int .i64 z0, .int .i64 z1, .string z2, .int .i64 z3, .int .i64 z4, .slice Z1 Z2 Z3, .slice Ab (St.resL (plL vl) body).length cb, .slice Ae (St.resL (plL vl) els).length ce]) := by
            have hres : St.res (plL vl) (.mk 1 name slot size place value body els) = .mk 1 name L1 L2 (place.res (plL vl)) (value.res (plL vl)) (St.resL (plL vl) body) (St.resL (plL vl) els) := HRES.out
            rw [hres]
            simp only [StL]
            refine ⟨[.int .i64 x0, .int .i64 x1, .string x2, .int .i64 x3, .int .i64 x4, .slice X1 X2 X3], [.int .i64 z0, .int .i64 z1, .string z2, .int .i64 z3, .int .i64 z4, .slice Z1 Z2 Z3], Ab, cb, Ae, ce, rfl, ?_, ?_, HLB.out, HLE.out, fun hne => ?_, fun hne => ?_⟩
            · exact ExL.still (fun k (h1 : w6.heap.size ≤ k) h2 => ⟨show wr.heap.size ≤ k by omega, (HK13.out k (by omega)).trans ((HD12.out.2.block k (by omega)).trans ((HB12.out.block k (by omega)).trans ((HB11.out.block k (by omega)).trans ((HB10.out.block k (by omega)).trans (E87.out k h2)))))⟩) _ _ HLP.out
            · exact ExL.still (fun k (h1 : w8.heap.size ≤ k) h2 => ⟨show wr.heap.size ≤ k by omega, (HK13.out k (by omega)).trans ((HD12.out.2.block k (by omega)).trans ((HB12.out.block k (by omega)).trans ((HB11.out.block k (by omega)).trans (E109.out k h2))))⟩) _ _ HLV.out
            · obtain ⟨b, o, hA, hS, hr⟩ := HRB.out hne
              exact ⟨b, o, hA, show wr.heap.size ≤ b from Nat.le_trans (by omega) (show w10.heap.size ≤ b from hS), StRow.still (fun k (h1 : w10.heap.size ≤ k) h2 => ⟨show wr.heap.size ≤ k by omega, (HK13.out k (by omega)).trans ((HD12.out.2.block k (by omega)).trans (HB12.out.block k h2))⟩) _ b o hS hr⟩
            · obtain ⟨b, o, hA, hS, hr⟩ := HRE.out hne
              exact ⟨b, o, hA, show wr.heap.size ≤ b from Nat.le_trans (by omega) (show w11.heap.size ≤ b from hS), StRow.still (fun k (h1 : w11.heap.size ≤ k) h2 => ⟨show wr.heap.size ≤ k by omega, (HK13.out k (by omega)).trans (HD12.out.2.block k h2)⟩) _ b o hS hr⟩
          clear hza hzb hzc hzd hze hzf hzg hzh hnp hnv
          go_wp2_with (first
            | (refine wpList_load_row rfl 94 _ rfl wr.heap.size rfl 94 _ (0, 0) _ H13.out Tryd.underlying94 rfl (by kernel_rfl) ?_)
            | (at_builtin; refine wpList_append_own_at _ rfl _ _ 27 rfl w.heap.size 94 i0 _ 18 232 Tryd.underlying27 HI.out HI0.out HI1.out HI2.out rfl (by decide) _ _ _ rfl ((own_bel HH.out.o HW13.out).alloc _) ⟨w13.heap.size, 0, none⟩ 1 1 [.int .i64 1, .string (strB name), .int .i64 L1, .int .i64 L2, .int .i64 x0, .int .i64 x1, .string x2, .int .i64 x3, .int .i64 x4, .slice X1 X2 X3, .int .i64 z0, .int .i64 z1, .string z2, .int .i64 z3, .int .i64 z4, .slice Z1 Z2 Z3, .slice Ab (St.resL (plL vl) body).length cb, .slice Ae (St.resL (plL vl) els).length ce] rfl rfl (ex_new _ _ _) (by simp [Value.oneCell']) (by rw [HLN.out]; unfold maxLen; omega) (by rw [HLN.out]; omega) (by rw [new_size]; have := HW13.out.size; omega) ?_))
          intro va wa hown hgrow _ hobl
          have HN := Lib.hid (RyHead.next HH.out HE1.out HW13.out HS13.out hown hgrow hobl)
          clear hown hgrow hobl
          go_wp2_with fail
          go_roundg g
          case rel => exact ⟨k + 1, _, _, by have := HG.out; omega, by go_num, rfl, HKO.out.symm.trans (by simp), HN⟩
          case measure => omega
        · skip
          have HKO := HSH
          have s4 : w6.cell? ⟨wr.heap.size, 4, none⟩ = some (.int .i64 p0) := by rw [Lib.cell_of_heap H6.out]; rfl
          have s5 : w6.cell? ⟨wr.heap.size, 5, none⟩ = some (.int .i64 p1) := by rw [Lib.cell_of_heap H6.out]; rfl
          have s6 : w6.cell? ⟨wr.heap.size, 6, none⟩ = some (.string p2) := by rw [Lib.cell_of_heap H6.out]; rfl
          have s7 : w6.cell? ⟨wr.heap.size, 7, none⟩ = some (.int .i64 p3) := by rw [Lib.cell_of_heap H6.out]; rfl
          have s8 : w6.cell? ⟨wr.heap.size, 8, none⟩ = some (.int .i64 p4) := by rw [Lib.cell_of_heap H6.out]; rfl
          have s9 : w6.cell? ⟨wr.heap.size, 9, none⟩ = some (.slice P1 P2 P3) := by rw [Lib.cell_of_heap H6.out]; rfl
          have HW6 : Hid (Below w.heap.size w w6) := HB.out.trans (HB6.out.mono hz0)
          go_wp2_with fail
          refine (CP.out _ HW6.out).mono ?_
          rintro e w7 ⟨y7, rfl, ⟨x0, x1, x2, x3, x4, X1, X2, X3, rfl, hl⟩, hb⟩
          have HLP := Lib.hid hl
          have H7 := Lib.hid (below_blk hb H6.out)
          have HB7 := Lib.hid hb
          clear hb hl s4 s5 s6 s7 s8 s9
          go_upto_region 12 with fail
          obtain ⟨w8, hw8⟩ : ∃ x, w7.alloc (.cells #[.int .i64 x0, .int .i64 x1, .string x2, .int .i64 x3, .int .i64 x4, .slice X1 X2 X3] 92) = x := ⟨_, rfl⟩
          have hb78 : Below w7.heap.size w7 w8 := by rw [← hw8]; exact (Below.refl _ _).alloc (Nat.le_refl _) _
          have E87 : Hid (∀ k, k < w7.heap.size → w8.heap[k]? = w7.heap[k]?) := fun k hk => hb78.block k hk
          have HX8 : Hid (w8.heap[w7.heap.size]? = some (.cells #[.int .i64 x0, .int .i64 x1, .string x2, .int .i64 x3, .int .i64 x4, .slice X1 X2 X3] 92 (0, 0))) := by rw [← hw8]; exact new_blk w7 _
          obtain ⟨np, hnp⟩ : ∃ x, w7.heap.size = x := ⟨_, rfl⟩
          have HNP := Lib.hid hnp
          rw [hnp] at HX8
          simp only [hw8, hnp]
          clear hw8 hnp
          have H8 := Lib.hid (below_blk hb78 H7.out)
          have HB8 := Lib.hid (HB7.out.trans (hb78.mono HB7.out.size))
          have HW8 : Hid (Below w.heap.size w w8) := HW6.out.trans (HB8.out.mono HW6.out.size)
          clear hb78
          have s10 : w8.cell? ⟨wr.heap.size, 10, none⟩ = some (.int .i64 v0) := by rw [Lib.cell_of_heap H8.out]; rfl
          have s11 : w8.cell? ⟨wr.heap.size, 11, none⟩ = some (.int .i64 v1) := by rw [Lib.cell_of_heap H8.out]; rfl
          have s12 : w8.cell? ⟨wr.heap.size, 12, none⟩ = some (.string v2) := by rw [Lib.cell_of_heap H8.out]; rfl
          have s13 : w8.cell? ⟨wr.heap.size, 13, none⟩ = some (.int .i64 v3) := by rw [Lib.cell_of_heap H8.out]; rfl
          have s14 : w8.cell? ⟨wr.heap.size, 14, none⟩ = some (.int .i64 v4) := by rw [Lib.cell_of_heap H8.out]; rfl
          have s15 : w8.cell? ⟨wr.heap.size, 15, none⟩ = some (.slice V1 V2 V3) := by rw [Lib.cell_of_heap H8.out]; rfl
          go_wp2_with fail
          refine (CV.out _ HW8.out).mono ?_
          rintro e w9 ⟨y9, rfl, ⟨z0, z1, z2, z3, z4, Z1, Z2, Z3, rfl, hl⟩, hb⟩
          have HLV := Lib.hid hl
          have H9 := Lib.hid (below_blk hb H8.out)
          have HX9 := Lib.hid (below_blk hb HX8.out)
          have HB9 := Lib.hid hb
          clear hb hl s10 s11 s12 s13 s14 s15
          go_upto_region 13 with fail
          obtain ⟨w10, hw10⟩ : ∃ x, w9.alloc (.cells #[.int .i64 z0, .int .i64 z1, .string z2, .int .i64 z3, .int .i64 z4, .slice Z1 Z2 Z3] 92) = x := ⟨_, rfl⟩
          have hb910 : Below w9.heap.size w9 w10 := by rw [← hw10]; exact (Below.refl _ _).alloc (Nat.le_refl _) _
          have E109 : Hid (∀ k, k < w9.heap.size → w10.heap[k]? = w9.heap[k]?) := fun k hk => hb910.block k hk
          have HZ10 : Hid (w10.heap[w9.heap.size]? = some (.cells #[.int .i64 z0, .int .i64 z1, .string z2, .int .i64 z3, .int .i64 z4, .slice Z1 Z2 Z3] 92 (0, 0))) := by rw [← hw10]; exact new_blk w9 _
          obtain ⟨nv, hnv⟩ : ∃ x, w9.heap.size = x := ⟨_, rfl⟩
          have HNV := Lib.hid hnv
          rw [hnv] at HZ10
          simp only [hw10, hnv]
          clear hw10 hnv
          have H10 := Lib.hid (below_blk hb910 H9.out)
          have HX10 := Lib.hid (below_blk hb910 HX9.out)
          have HB10 := Lib.hid (HB9.out.trans (hb910.mono HB9.out.size))
          have HW10 : Hid (Below w.heap.size w w10) := HW8.out.trans (HB10.out.mono HW8.out.size)
          clear hb910
          have s16 : w10.cell? ⟨wr.heap.size, 16, none⟩ = some (.slice A3 body.length c3) := by rw [Lib.cell_of_heap H10.out]; rfl
          go_wp2_with fail
          refine (CB.out _ HW10.out).mono ?_
          rintro e w11 ⟨y11, rfl, ⟨Ab, cb, rfl, hl, hr⟩, hb⟩
          have HLB := Lib.hid hl
          have HRB := Lib.hid hr
          have H11 := Lib.hid (below_blk hb H10.out)
          have HX11 := Lib.hid (below_blk hb HX10.out)
          have HZ11 := Lib.hid (below_blk hb HZ10.out)
          have HB11 := Lib.hid hb
          have HW11 : Hid (Below w.heap.size w w11) := HW10.out.trans (HB11.out.mono HW10.out.size)
          clear hb hl hr s16
          have s17 : w11.cell? ⟨wr.heap.size, 17, none⟩ = some (.slice A4 els.length c4) := by rw [Lib.cell_of_heap H11.out]; rfl
          go_wp2_with fail
          refine (CE.out _ HW11.out).mono ?_
          rintro e w12 ⟨y12, rfl, ⟨Ae, ce, rfl, hl, hr⟩, hb⟩
          have HLE := Lib.hid hl
          have HRE := Lib.hid hr
          have H12 := Lib.hid (below_blk hb H11.out)
          have HX12 := Lib.hid (below_blk hb HX11.out)
          have HZ12 := Lib.hid (below_blk hb HZ11.out)
          have HB12 := Lib.hid hb
          clear hb hl hr s17
          go_upto_region 15 with fail
          have hnp : np ≠ wr.heap.size := by have := HNP.out; have := HB6.out.size; have := HB7.out.size; have := lt_of_block H6.out; omega
          have hnv : nv ≠ wr.heap.size := by have := HNV.out; have := HB9.out.size; have := HB8.out.size; have := lt_of_block H6.out; omega
          have hS : w12.drew.heap[np]? = some (.cells #[.int .i64 x0, .int .i64 x1, .string x2, .int .i64 x3, .int .i64 x4, .slice X1 X2 X3] 92 (0, 0)) ∧ w12.drew.heap[nv]? = some (.cells #[.int .i64 z0, .int .i64 z1, .string z2, .int .i64 z3, .int .i64 z4, .slice Z1 Z2 Z3] 92 (0, 0)) := ⟨HX12.out, HZ12.out⟩
          obtain ⟨wd, hwd⟩ : ∃ x, w12.drew = x := ⟨_, rfl⟩
          have HD12 : Hid (wd.heap[wr.heap.size]? = some (.cells #[.int .i64 1, .string (strB name), .int .i64 L1, .int .i64 L2, .int .i64 p0, .int .i64 p1, .string p2, .int .i64 p3, .int .i64 p4, .slice P1 P2 P3, .int .i64 v0, .int .i64 v1, .string v2, .int .i64 v3, .int .i64 v4, .slice V1 V2 V3, .slice A3 body.length c3, .slice A4 els.length c4] 94 (0, 0)) ∧ Below w12.heap.size w12 wd) := by rw [← hwd]; exact ⟨H12.out, (Below.refl _ _).drew⟩
          refine wp_region_G [5, 7] (fun w' => w'.heap[np]? = some (.cells #[.int .i64 x0, .int .i64 x1, .string x2, .int .i64 x3, .int .i64 x4, .slice X1 X2 X3] 92 (0, 0)) ∧ w'.heap[nv]? = some (.cells #[.int .i64 z0, .int .i64 z1, .string z2, .int .i64 z3, .int .i64 z4, .slice Z1 Z2 Z3] 92 (0, 0))) (by kernel_rfl) ?_
          rw [hwd] at hS ⊢
          clear hwd
          have hS0 := hS
          refine' wpAnyG_take 5 (i := 0) (v := _) ?hi13 (by kernel_rfl) ?hQ13 (Or.inl ⟨?hw13, ?hy13⟩) hS ?rest13
          case hi13 => (simp only [List.getElem?_toArray, List.getElem?_cons_zero]; rfl)
          case hQ13 => exact fun _ _ _ h => h
          case hw13 => rfl
          case hy13 =>
            rintro w99 ⟨hx99, -⟩
            have d0 : w99.cell? ⟨np, 0, none⟩ = some (.int .i64 x0) := by rw [Lib.cell_of_heap hx99]; rfl
            have d1 : w99.cell? ⟨np, 1, none⟩ = some (.int .i64 x1) := by rw [Lib.cell_of_heap hx99]; rfl
            have d2 : w99.cell? ⟨np, 2, none⟩ = some (.string x2) := by rw [Lib.cell_of_heap hx99]; rfl
            have d3 : w99.cell? ⟨np, 3, none⟩ = some (.int .i64 x3) := by rw [Lib.cell_of_heap hx99]; rfl
            have d4 : w99.cell? ⟨np, 4, none⟩ = some (.int .i64 x4) := by rw [Lib.cell_of_heap hx99]; rfl
            have d5 : w99.cell? ⟨np, 5, none⟩ = some (.slice X1 X2 X3) := by rw [Lib.cell_of_heap hx99]; rfl
            go_simp
            with_reducible rfl
          try simp only [Act.put, List.setIfInBounds_toArray, List.set_cons_zero, List.set_cons_succ]
          refine' wpAnyG_take 7 (i := 1) (v := _) ?hi14 (by kernel_rfl) ?hQ14 (Or.inl ⟨?hw14, ?hy14⟩) hS ?rest14
          case hi14 => (simp only [List.getElem?_toArray, List.getElem?_cons_succ, List.getElem?_cons_zero]; rfl)
          case hQ14 => exact fun _ _ _ h => h
          case hw14 => rfl
          case hy14 =>
            rintro w99 ⟨-, hx99⟩
            have d0 : w99.cell? ⟨nv, 0, none⟩ = some (.int .i64 z0) := by rw [Lib.cell_of_heap hx99]; rfl
            have d1 : w99.cell? ⟨nv, 1, none⟩ = some (.int .i64 z1) := by rw [Lib.cell_of_heap hx99]; rfl
            have d2 : w99.cell? ⟨nv, 2, none⟩ = some (.string z2) := by rw [Lib.cell_of_heap hx99]; rfl
            have d3 : w99.cell? ⟨nv, 3, none⟩ = some (.int .i64 z3) := by rw [Lib.cell_of_heap hx99]; rfl
            have d4 : w99.cell? ⟨nv, 4, none⟩ = some (.int .i64 z4) := by rw [Lib.cell_of_heap hx99]; rfl
            have d5 : w99.cell? ⟨nv, 5, none⟩ = some (.slice Z1 Z2 Z3) := by rw [Lib.cell_of_heap hx99]; rfl
            go_simp
            with_reducible rfl
          try simp only [Act.put, List.setIfInBounds_toArray, List.set_cons_zero, List.set_cons_succ]
          refine' wpAnyG_step (i := 2) (v := _) ?hi15 (by kernel_rfl) ?hQ15 (Or.inl ⟨?hw15, ?hy15⟩) hS ?rest15
          case hi15 => (simp only [List.getElem?_toArray, List.getElem?_cons_succ, List.getElem?_cons_zero]; rfl)
          case hQ15 => exact fun _ _ _ h => h
          case hw15 => rfl
          case hy15 => (intro w99; go_simp; with_reducible rfl)
          try simp only [Act.put, List.setIfInBounds_toArray, List.set_cons_zero, List.set_cons_succ]
          refine' wpAnyG_step (i := 3) (v := _) ?hi16 (by kernel_rfl) ?hQ16 (Or.inl ⟨?hw16, ?hy16⟩) hS ?rest16
          case hi16 => (simp only [List.getElem?_toArray, List.getElem?_cons_succ, List.getElem?_cons_zero]; rfl)
          case hQ16 => exact fun _ _ _ h => h
          case hw16 => rfl
          case hy16 => (intro w99; go_simp; with_reducible rfl)
          try simp only [Act.put, List.setIfInBounds_toArray, List.set_cons_zero, List.set_cons_succ]
          refine' wpAnyG_step (i := 4) (v := _) ?hi17 (by kernel_rfl) ?hQ17 (Or.inl ⟨?hw17, ?hy17⟩) hS ?rest17
          case hi17 => (simp only [List.getElem?_toArray, List.getElem?_cons_succ, List.getElem?_cons_zero]; rfl)
          case hQ17 => exact fun _ _ _ h => h
          case hw17 => rfl
          case hy17 => (intro w99; go_simp; with_reducible rfl)
          try simp only [Act.put, List.setIfInBounds_toArray, List.set_cons_zero, List.set_cons_succ]
          have s4 : wd.cell? ⟨wr.heap.size, 4, none⟩ = some (.int .i64 p0) := by rw [Lib.cell_of_heap HD12.out.1]; rfl
          have sf4 : wd.frozen? ⟨wr.heap.size, 4, none⟩ = false := Lib.frozen_of_heap HD12.out.1 4
          have s5 : wd.cell? ⟨wr.heap.size, 5, none⟩ = some (.int .i64 p1) := by rw [Lib.cell_of_heap HD12.out.1]; rfl
          have sf5 : wd.frozen? ⟨wr.heap.size, 5, none⟩ = false := Lib.frozen_of_heap HD12.out.1 5
          have s6 : wd.cell? ⟨wr.heap.size, 6, none⟩ = some (.string p2) := by rw [Lib.cell_of_heap HD12.out.1]; rfl
          have sf6 : wd.frozen? ⟨wr.heap.size, 6, none⟩ = false := Lib.frozen_of_heap HD12.out.1 6
          have s7 : wd.cell? ⟨wr.heap.size, 7, none⟩ = some (.int .i64 p3) := by rw [Lib.cell_of_heap HD12.out.1]; rfl
          have sf7 : wd.frozen? ⟨wr.heap.size, 7, none⟩ = false := Lib.frozen_of_heap HD12.out.1 7
          have s8 : wd.cell? ⟨wr.heap.size, 8, none⟩ = some (.int .i64 p4) := by rw [Lib.cell_of_heap HD12.out.1]; rfl
          have sf8 : wd.frozen? ⟨wr.heap.size, 8, none⟩ = false := Lib.frozen_of_heap HD12.out.1 8
          have s9 : wd.cell? ⟨wr.heap.size, 9, none⟩ = some (.slice P1 P2 P3) := by rw [Lib.cell_of_heap HD12.out.1]; rfl
          have sf9 : wd.frozen? ⟨wr.heap.size, 9, none⟩ = false := Lib.frozen_of_heap HD12.out.1 9
          have s10 : wd.cell? ⟨wr.heap.size, 10, none⟩ = some (.int .i64 v0) := by rw [Lib.cell_of_heap HD12.out.1]; rfl
          have sf10 : wd.frozen? ⟨wr.heap.size, 10, none⟩ = false := Lib.frozen_of_heap HD12.out.1 10
          have s11 : wd.cell? ⟨wr.heap.size, 11, none⟩ = some (.int .i64 v1) := by rw [Lib.cell_of_heap HD12.out.1]; rfl
          have sf11 : wd.frozen? ⟨wr.heap.size, 11, none⟩ = false := Lib.frozen_of_heap HD12.out.1 11
          have s12 : wd.cell? ⟨wr.heap.size, 12, none⟩ = some (.string v2) := by rw [Lib.cell_of_heap HD12.out.1]; rfl
          have sf12 : wd.frozen? ⟨wr.heap.size, 12, none⟩ = false := Lib.frozen_of_heap HD12.out.1 12
          have s13 : wd.cell? ⟨wr.heap.size, 13, none⟩ = some (.int .i64 v3) := by rw [Lib.cell_of_heap HD12.out.1]; rfl
          have sf13 : wd.frozen? ⟨wr.heap.size, 13, none⟩ = false := Lib.frozen_of_heap HD12.out.1 13
          have s14 : wd.cell? ⟨wr.heap.size, 14, none⟩ = some (.int .i64 v4) := by rw [Lib.cell_of_heap HD12.out.1]; rfl
          have sf14 : wd.frozen? ⟨wr.heap.size, 14, none⟩ = false := Lib.frozen_of_heap HD12.out.1 14
          have s15 : wd.cell? ⟨wr.heap.size, 15, none⟩ = some (.slice V1 V2 V3) := by rw [Lib.cell_of_heap HD12.out.1]; rfl
          have sf15 : wd.frozen? ⟨wr.heap.size, 15, none⟩ = false := Lib.frozen_of_heap HD12.out.1 15
          have s16 : wd.cell? ⟨wr.heap.size, 16, none⟩ = some (.slice A3 body.length c3) := by rw [Lib.cell_of_heap HD12.out.1]; rfl
          have sf16 : wd.frozen? ⟨wr.heap.size, 16, none⟩ = false := Lib.frozen_of_heap HD12.out.1 16
          have s17 : wd.cell? ⟨wr.heap.size, 17, none⟩ = some (.slice A4 els.length c4) := by rw [Lib.cell_of_heap HD12.out.1]; rfl
          have sf17 : wd.frozen? ⟨wr.heap.size, 17, none⟩ = false := Lib.frozen_of_heap HD12.out.1 17
          refine' wpAnyG_one (i := 5) (by kernel_rfl) ?hi18 (fun K hK => ?rest18)
          case hi18 => (simp only [List.getElem?_toArray, List.getElem?_cons_succ, List.getElem?_cons_zero]; rfl)
          go_simp
          refine hK.out _ _ ⟨?_, ?_⟩ (fun hS => ?_)
          · repeat rw [Below.heap_setCell _ _ _ _ (show np ≠ wr.heap.size from hnp)]
            exact hS0.1
          · repeat rw [Below.heap_setCell _ _ _ _ (show nv ≠ wr.heap.size from hnv)]
            exact hS0.2
          clear hK K
          try simp only [Act.put, List.setIfInBounds_toArray, List.set_cons_zero, List.set_cons_succ]
          refine' wpAnyG_one (i := 6) (by kernel_rfl) ?hi19 (fun K hK => ?rest19)
          case hi19 => (simp only [List.getElem?_toArray, List.getElem?_cons_succ, List.getElem?_cons_zero]; rfl)
          go_simp
          refine hK.out _ _ ⟨?_, ?_⟩ (fun hS => ?_)
          · repeat rw [Below.heap_setCell _ _ _ _ (show np ≠ wr.heap.size from hnp)]
            exact hS0.1
          · repeat rw [Below.heap_setCell _ _ _ _ (show nv ≠ wr.heap.size from hnv)]
            exact hS0.2
          clear hK K
          try simp only [Act.put, List.setIfInBounds_toArray, List.set_cons_zero, List.set_cons_succ]
          refine' wpAnyG_one (i := 7) (by kernel_rfl) ?hi20 (fun K hK => ?rest20)
          case hi20 => (simp only [List.getElem?_toArray, List.getElem?_cons_succ, List.getElem?_cons_zero]; rfl)
          go_simp
          refine hK.out _ _ ⟨?_, ?_⟩ (fun hS => ?_)
          · repeat rw [Below.heap_setCell _ _ _ _ (show np ≠ wr.heap.size from hnp)]
            exact hS0.1
          · repeat rw [Below.heap_setCell _ _ _ _ (show nv ≠ wr.heap.size from hnv)]
            exact hS0.2
          clear hK K
          try simp only [Act.put, List.setIfInBounds_toArray, List.set_cons_zero, List.set_cons_succ]
          refine wpAnyG_rel (by kernel_rfl) ?_
          clear hS
          refine' wpAny_one (i := 8) (by kernel_rfl) ?hi21 (fun K hK => ?rest21)
          case hi21 => (simp only [List.getElem?_toArray, List.getElem?_cons_succ, List.getElem?_cons_zero]; rfl)
          go_simp
          refine hK.out _ _ ?_
          clear hK K
          try simp only [Act.put, List.setIfInBounds_toArray, List.set_cons_zero, List.set_cons_succ]
          refine' wpAny_one (i := 9) (by kernel_rfl) ?hi22 (fun K hK => ?rest22)
          case hi22 => (simp only [List.getElem?_toArray, List.getElem?_cons_succ, List.getElem?_cons_zero]; rfl)
          go_simp
          refine hK.out _ _ ?_
          clear hK K
          try simp only [Act.put, List.setIfInBounds_toArray, List.set_cons_zero, List.set_cons_succ]
          refine' wpAny_one (i := 10) (by kernel_rfl) ?hi23 (fun K hK => ?rest23)
          case hi23 => (simp only [List.getElem?_toArray, List.getElem?_cons_succ, List.getElem?_cons_zero]; rfl)
          go_simp
          refine hK.out _ _ ?_
          clear hK K
          try simp only [Act.put, List.setIfInBounds_toArray, List.set_cons_zero, List.set_cons_succ]
          refine' wpAny_one (i := 11) (by kernel_rfl) ?hi24 (fun K hK => ?rest24)
          case hi24 => (simp only [List.getElem?_toArray, List.getElem?_cons_succ, List.getElem?_cons_zero]; rfl)
          go_simp
          refine hK.out _ _ ?_
          clear hK K
          try simp only [Act.put, List.setIfInBounds_toArray, List.set_cons_zero, List.set_cons_succ]
          refine wpAny_done (by kernel_rfl) ?_ _
          obtain ⟨w13, hw13⟩ : ∃ x, ((((((((((((((wd.setCell ⟨wr.heap.size, 4, none⟩ (.int .i64 x0)).setCell ⟨wr.heap.size, 5, none⟩ (.int .i64 x1)).setCell ⟨wr.heap.size, 6, none⟩ (.string x2)).setCell ⟨wr.heap.size, 7, none⟩ (.int .i64 x3)).setCell ⟨wr.heap.size, 8, none⟩ (.int .i64 x4)).setCell ⟨wr.heap.size, 9, none⟩ (.slice X1 X2 X3)).setCell ⟨wr.heap.size, 10, none⟩ (.int .i64 z0)).setCell ⟨wr.heap.size, 11, none⟩ (.int .i64 z1)).setCell ⟨wr.heap.size, 12, none⟩ (.string z2)).setCell ⟨wr.heap.size, 13, none⟩ (.int .i64 z3)).setCell ⟨wr.heap.size, 14, none⟩ (.int .i64 z4)).setCell ⟨wr.heap.size, 15, none⟩ (.slice Z1 Z2 Z3)).setCell ⟨wr.heap.size, 16, none⟩ (.slice Ab (St.resL (plL vl) body).length cb)).setCell ⟨wr.heap.size, 17, none⟩ (.slice Ae (St.resL (plL vl) els).length ce)) = x := ⟨_, rfl⟩
          have H13 : Hid (w13.heap[wr.heap.size]? = some (.cells #[.int .i64 1, .string (strB name), .int .i64 L1, .int .i64 L2, .int .i64 x0, .int .i64 x1, .string x2, .int .i64 x3, .int .i64 x4, .slice X1 X2 X3, .int .i64 z0, .int .i64 z1, .string z2, .int .i64 z3, .int .i64 z4, .slice Z1 Z2 Z3, .slice Ab (St.resL (plL vl) body).length cb, .slice Ae (St.resL (plL vl) els).length ce] 94 (0, 0))) := by
            have h' := (blk_set (blk_set (blk_set (blk_set (blk_set (blk_set (blk_set (blk_set (blk_set (blk_set (blk_set (blk_set (blk_set (blk_set HD12.out.1 4 (.int .i64 x0)) 5 (.int .i64 x1)) 6 (.string x2)) 7 (.int .i64 x3)) 8 (.int .i64 x4)) 9 (.slice X1 X2 X3)) 10 (.int .i64 z0)) 11 (.int .i64 z1)) 12 (.string z2)) 13 (.int .i64 z3)) 14 (.int .i64 z4)) 15 (.slice Z1 Z2 Z3)) 16 (.slice Ab (St.resL (plL vl) body).length cb)) 17 (.slice Ae (St.resL (plL vl) els).length ce))
            rw [hw13] at h'
            simp only [List.setIfInBounds_toArray, List.set_cons_zero, List.set_cons_succ] at h'
            exact h'
          have HK13 : Hid (∀ k, k ≠ wr.heap.size → w13.heap[k]? = wd.heap[k]?) := fun k hk => by
            rw [← hw13]
            iterate 14 rw [Below.heap_setCell _ _ _ _ hk]
          have HB13 : Hid (Below wr.heap.size wd w13) := by rw [← hw13]; exact (((((((((((((((Below.refl _ _).setCell (p := ⟨wr.heap.size, 4, none⟩) (Nat.le_refl _) _).setCell (p := ⟨wr.heap.size, 5, none⟩) (Nat.le_refl _) _).setCell (p := ⟨wr.heap.size, 6, none⟩) (Nat.le_refl _) _).setCell (p := ⟨wr.heap.size, 7, none⟩) (Nat.le_refl _) _).setCell (p := ⟨wr.heap.size, 8, none⟩) (Nat.le_refl _) _).setCell (p := ⟨wr.heap.size, 9, none⟩) (Nat.le_refl _) _).setCell (p := ⟨wr.heap.size, 10, none⟩) (Nat.le_refl _) _).setCell (p := ⟨wr.heap.size, 11, none⟩) (Nat.le_refl _) _).setCell (p := ⟨wr.heap.size, 12, none⟩) (Nat.le_refl _) _).setCell (p := ⟨wr.heap.size, 13, none⟩) (Nat.le_refl _) _).setCell (p := ⟨wr.heap.size, 14, none⟩) (Nat.le_refl _) _).setCell (p := ⟨wr.heap.size, 15, none⟩) (Nat.le_refl _) _).setCell (p := ⟨wr.heap.size, 16, none⟩) (Nat.le_refl _) _).setCell (p := ⟨wr.heap.size, 17, none⟩) (Nat.le_refl _) _)
          simp only [hw13]
          clear hw13 s4 sf4 s5 sf5 s6 sf6 s7 sf7 s8 sf8 s9 sf9 s10 sf10 s11 sf11 s12 sf12 s13 sf13 s14 sf14 s15 sf15 s16 sf16 s17 sf17
          have hza : wr.heap.size < w6.heap.size := lt_of_block H6.out
          have hzb : w6.heap.size ≤ w7.heap.size := HB7.out.size
          have hzc : w7.heap.size ≤ w8.heap.size := by have := lt_of_block HX8.out; have := HNP.out; omega
          have hzd : w8.heap.size ≤ w9.heap.size := HB9.out.size
          have hze : w9.heap.size ≤ w10.heap.size := by have := lt_of_block HZ10.out; have := HNV.out; omega
          have hzf : w10.heap.size ≤ w11.heap.size := HB11.out.size
          have hzg : w11.heap.size ≤ w12.heap.size := HB12.out.size
          have hzh : w12.heap.size ≤ wd.heap.size := HD12.out.2.size
          have HW13 : Hid (Below wr.heap.size wr w13) := (((((HB6.out.trans (HB8.out.mono (by omega))).trans (HB10.out.mono (by omega))).trans (HB11.out.mono (by omega))).trans (HB12.out.mono (by omega))).trans (HD12.out.2.mono (by omega))).trans HB13.out
          have HS13 : Hid (StL (From wr.heap.size) w13 (St.res (plL vl) (.mk 1 name slot size place value body els)) [.int .i64 1, .string (strB name), .int .i64 L1, .int .i64 L2, .int .i64 x0, .int .i64 x1, .string x2, .int .i64 x3, .int .i64 x4, .slice X1 X2 X3, .int .i64 z0, .int .i64 z1, .string z2, .int .i64 z3, .int .i64 z4, .slice Z1 Z2 Z3, .slice Ab (St.resL (plL vl) body).length cb, .slice Ae (St.resL (plL vl) els).length ce]) := by
            have hres : St.res (plL vl) (.mk 1 name slot size place value body els) = .mk 1 name L1 L2 (place.res (plL vl)) (value.res (plL vl)) (St.resL (plL vl) body) (St.resL (plL vl) els) := HRES.out
            rw [hres]
            simp only [StL]
            refine ⟨[.int .i64 x0, .int .i64 x1, .string x2, .int .i64 x3, .int .i64 x4, .slice X1 X2 X3], [.int .i64 z0, .int .i64 z1, .string z2, .int .i64 z3, .int .i64 z4, .slice Z1 Z2 Z3], Ab, cb, Ae, ce, rfl, ?_, ?_, HLB.out, HLE.out, fun hne => ?_, fun hne => ?_⟩
            · exact ExL.still (fun k (h1 : w6.heap.size ≤ k) h2 => ⟨show wr.heap.size ≤ k by omega, (HK13.out k (by omega)).trans ((HD12.out.2.block k (by omega)).trans ((HB12.out.block k (by omega)).trans ((HB11.out.block k (by omega)).trans ((HB10.out.block k (by omega)).trans (E87.out k h2)))))⟩) _ _ HLP.out
            · exact ExL.still (fun k (h1 : w8.heap.size ≤ k) h2 => ⟨show wr.heap.size ≤ k by omega, (HK13.out k (by omega)).trans ((HD12.out.2.block k (by omega)).trans ((HB12.out.block k (by omega)).trans ((HB11.out.block k (by omega)).trans (E109.out k h2))))⟩) _ _ HLV.out
            · obtain ⟨b, o, hA, hS, hr⟩ := HRB.out hne
              exact ⟨b, o, hA, show wr.heap.size ≤ b from Nat.le_trans (by omega) (show w10.heap.size ≤ b from hS), StRow.still (fun k (h1 : w10.heap.size ≤ k) h2 => ⟨show wr.heap.size ≤ k by omega, (HK13.out k (by omega)).trans ((HD12.out.2.block k (by omega)).trans (HB12.out.block k h2))⟩) _ b o hS hr⟩
            · obtain ⟨b, o, hA, hS, hr⟩ := HRE.out hne
              exact ⟨b, o, hA, show wr.heap.size ≤ b from Nat.le_trans (by omega) (show w11.heap.size ≤ b from hS), StRow.still (fun k (h1 : w11.heap.size ≤ k) h2 => ⟨show wr.heap.size ≤ k by omega, (HK13.out k (by omega)).trans (HD12.out.2.block k h2)⟩) _ b o hS hr⟩
          clear hza hzb hzc hzd hze hzf hzg hzh hnp hnv
          go_wp2_with (first
            | (refine wpList_load_row rfl 94 _ rfl wr.heap.size rfl 94 _ (0, 0) _ H13.out Tryd.underlying94 rfl (by kernel_rfl) ?_)
            | (at_builtin; refine wpList_append_own_at _ rfl _ _ 27 rfl w.heap.size 94 i0 _ 18 232 Tryd.underlying27 HI.out HI0.out HI1.out HI2.out rfl (by decide) _ _ _ rfl ((own_bel HH.out.o HW13.out).alloc _) ⟨w13.heap.size, 0, none⟩ 1 1 [.int .i64 1, .string (strB name), .int .i64 L1, .int .i64 L2, .int .i64 x0, .int .i64 x1, .string x2, .int .i64 x3, .int .i64 x4, .slice X1 X2 X3, .int .i64 z0, .int .i64 z1, .string z2, .int .i64 z3, .int .i64 z4, .slice Z1 Z2 Z3, .slice Ab (St.resL (plL vl) body).length cb, .slice Ae (St.resL (plL vl) els).length ce] rfl rfl (ex_new _ _ _) (by simp [Value.oneCell']) (by rw [HLN.out]; unfold maxLen; omega) (by rw [HLN.out]; omega) (by rw [new_size]; have := HW13.out.size; omega) ?_))
          intro va wa hown hgrow _ hobl
          have HN := Lib.hid (RyHead.next HH.out HE1.out HW13.out HS13.out hown hgrow hobl)
          clear hown hgrow hobl
          go_wp2_with fail
          go_roundg g
          case rel => exact ⟨k + 1, _, _, by have := HG.out; omega, by go_num, rfl, HKO.out.symm.trans (by simp), HN⟩
          case measure => omega

      · have HRES : Hid (St.res (plL vl) (.mk 1 name slot size place value body els) = .mk 1 name L1 L2 (place.res (plL vl)) (value.res (plL vl)) (St.resL (plL vl) body) (St.resL (plL vl) els)) := by show _ = _; simp [St.res, HPL.out]
        have hdz : decide (0 < L2) = false := decide_eq_false h0
        have hdd : decide (0 < L2) = false := by simp; omega
        have HSH : Hid (St.shpL (zL vl) (ls.take (k + 1)) = (okk && (true && (b1 && (b2 && (b3 && b4)))))) := by
          show _ = _
          rw [HTK.out, ← HOK.out, hdd]
          simp
        clear hdd
        have q1 : w5.cell? ⟨wr.heap.size, 1, none⟩ = some (.string (strB name)) := by rw [Lib.cell_of_heap H5.out]; rfl
        clear HTK
        go_wp2_with fail
        refine (CL.out _ (HB.out.trans (HB5.out.mono hz0))).mono ?_
        rintro e wf ⟨rfl, hb⟩
        have HBf := Lib.hid hb
        have Hf := Lib.hid (below_blk hb H5.out)
        have hnf := lt_of_block Hf.out
        have r0 : wf.cell? ⟨wr.heap.size, 0, none⟩ = some (.int .i64 1) := by rw [Lib.cell_of_heap Hf.out]; rfl
        have r2 : wf.cell? ⟨wr.heap.size, 2, none⟩ = some (.int .i64 slot) := by rw [Lib.cell_of_heap Hf.out]; rfl
        have r3 : wf.cell? ⟨wr.heap.size, 3, none⟩ = some (.int .i64 size) := by rw [Lib.cell_of_heap Hf.out]; rfl
        have rf2 : wf.frozen? ⟨wr.heap.size, 2, none⟩ = false := Lib.frozen_of_heap Hf.out 2
        have rf3 : wf.frozen? ⟨wr.heap.size, 3, none⟩ = false := Lib.frozen_of_heap Hf.out 3
        clear hb q1 q0
        cases okk
        all_goals
          go_upto_region 11 with fail
          obtain ⟨w6, hw6⟩ : ∃ x, (wf.setCell ⟨wr.heap.size, 2, none⟩ (.int .i64 L1)).setCell ⟨wr.heap.size, 3, none⟩ (.int .i64 L2) = x := ⟨_, rfl⟩
          have H6 : Hid (w6.heap[wr.heap.size]? = some (.cells #[.int .i64 1, .string (strB name), .int .i64 L1, .int .i64 L2, .int .i64 p0, .int .i64 p1, .string p2, .int .i64 p3, .int .i64 p4, .slice P1 P2 P3, .int .i64 v0, .int .i64 v1, .string v2, .int .i64 v3, .int .i64 v4, .slice V1 V2 V3, .slice A3 body.length c3, .slice A4 els.length c4] 94 (0, 0))) := by
            rw [← hw6]
            have h' := blk_set (blk_set Hf.out 2 (.int .i64 L1)) 3 (.int .i64 L2)
            simp only [stCells, List.cons_append, List.nil_append, List.setIfInBounds_toArray, List.set_cons_zero, List.set_cons_succ] at h'
            exact h'
          have HB6 : Hid (Below wr.heap.size wr w6) := by
            rw [← hw6]
            have h1 := HB5.out.trans (HBf.out.mono HB5.out.size)
            exact (h1.setCell (p := ⟨wr.heap.size, 2, none⟩) (Nat.le_refl _) _).setCell (p := ⟨wr.heap.size, 3, none⟩) (Nat.le_refl _) _
          simp only [hw6]
          clear hw6 r0 r2 r3 rf2 rf3 hnf
        rotate_left 0
        · skip
          have HKO := HSH
          have s4 : w6.cell? ⟨wr.heap.size, 4, none⟩ = some (.int .i64 p0) := by rw [Lib.cell_of_heap H6.out]; rfl
          have s5 : w6.cell? ⟨wr.heap.size, 5, none⟩ = some (.int .i64 p1) := by rw [Lib.cell_of_heap H6.out]; rfl
          have s6 : w6.cell? ⟨wr.heap.size, 6, none⟩ = some (.string p2) := by rw [Lib.cell_of_heap H6.out]; rfl
          have s7 : w6.cell? ⟨wr.heap.size, 7, none⟩ = some (.int .i64 p3) := by rw [Lib.cell_of_heap H6.out]; rfl
          have s8 : w6.cell? ⟨wr.heap.size, 8, none⟩ = some (.int .i64 p4) := by rw [Lib.cell_of_heap H6.out]; rfl
          have s9 : w6.cell? ⟨wr.heap.size, 9, none⟩ = some (.slice P1 P2 P3) := by rw [Lib.cell_of_heap H6.out]; rfl
          have HW6 : Hid (Below w.heap.size w w6) := HB.out.trans (HB6.out.mono hz0)
          go_wp2_with fail
          refine (CP.out _ HW6.out).mono ?_
          rintro e w7 ⟨y7, rfl, ⟨x0, x1, x2, x3, x4, X1, X2, X3, rfl, hl⟩, hb⟩
          have HLP := Lib.hid hl
          have H7 := Lib.hid (below_blk hb H6.out)
          have HB7 := Lib.hid hb
          clear hb hl s4 s5 s6 s7 s8 s9
          go_upto_region 12 with fail
          obtain ⟨w8, hw8⟩ : ∃ x, w7.alloc (.cells #[.int .i64 x0, .int .i64 x1, .string x2, .int .i64 x3, .int .i64 x4, .slice X1 X2 X3] 92) = x := ⟨_, rfl⟩
          have hb78 : Below w7.heap.size w7 w8 := by rw [← hw8]; exact (Below.refl _ _).alloc (Nat.le_refl _) _
          have E87 : Hid (∀ k, k < w7.heap.size → w8.heap[k]? = w7.heap[k]?) := fun k hk => hb78.block k hk
          have HX8 : Hid (w8.heap[w7.heap.size]? = some (.cells #[.int .i64 x0, .int .i64 x1, .string x2, .int .i64 x3, .int .i64 x4, .slice X1 X2 X3] 92 (0, 0))) := by rw [← hw8]; exact new_blk w7 _
          obtain ⟨np, hnp⟩ : ∃ x, w7.heap.size = x := ⟨_, rfl⟩
          have HNP := Lib.hid hnp
          rw [hnp] at HX8
          simp only [hw8, hnp]
          clear hw8 hnp
          have H8 := Lib.hid (below_blk hb78 H7.out)
          have HB8 := Lib.hid (HB7.out.trans (hb78.mono HB7.out.size))
          have HW8 : Hid (Below w.heap.size w w8) := HW6.out.trans (HB8.out.mono HW6.out.size)
          clear hb78
          have s10 : w8.cell? ⟨wr.heap.size, 10, none⟩ = some (.int .i64 v0) := by rw [Lib.cell_of_heap H8.out]; rfl
          have s11 : w8.cell? ⟨wr.heap.size, 11, none⟩ = some (.int .i64 v1) := by rw [Lib.cell_of_heap H8.out]; rfl
          have s12 : w8.cell? ⟨wr.heap.size, 12, none⟩ = some (.string v2) := by rw [Lib.cell_of_heap H8.out]; rfl
          have s13 : w8.cell? ⟨wr.heap.size, 13, none⟩ = some (.int .i64 v3) := by rw [Lib.cell_of_heap H8.out]; rfl
          have s14 : w8.cell? ⟨wr.heap.size, 14, none⟩ = some (.int .i64 v4) := by rw [Lib.cell_of_heap H8.out]; rfl
          have s15 : w8.cell? ⟨wr.heap.size, 15, none⟩ = some (.slice V1 V2 V3) := by rw [Lib.cell_of_heap H8.out]; rfl
          go_wp2_with fail
          refine (CV.out _ HW8.out).mono ?_
          rintro e w9 ⟨y9, rfl, ⟨z0, z1, z2, z3, z4, Z1, Z2, Z3, rfl, hl⟩, hb⟩
          have HLV := Lib.hid hl
          have H9 := Lib.hid (below_blk hb H8.out)
          have HX9 := Lib.hid (below_blk hb HX8.out)
          have HB9 := Lib.hid hb
          clear hb hl s10 s11 s12 s13 s14 s15
          go_upto_region 13 with fail
          obtain ⟨w10, hw10⟩ : ∃ x, w9.alloc (.cells #[.int .i64 z0, .int .i64 z1, .string z2, .int .i64 z3, .int .i64 z4, .slice Z1 Z2 Z3] 92) = x := ⟨_, rfl⟩
          have hb910 : Below w9.heap.size w9 w10 := by rw [← hw10]; exact (Below.refl _ _).alloc (Nat.le_refl _) _
          have E109 : Hid (∀ k, k < w9.heap.size → w10.heap[k]? = w9.heap[k]?) := fun k hk => hb910.block k hk
          have HZ10 : Hid (w10.heap[w9.heap.size]? = some (.cells #[.int .i64 z0, .int .i64 z1, .string z2, .int .i64 z3, .int .i64 z4, .slice Z1 Z2 Z3] 92 (0, 0))) := by rw [← hw10]; exact new_blk w9 _
          obtain ⟨nv, hnv⟩ : ∃ x, w9.heap.size = x := ⟨_, rfl⟩
          have HNV := Lib.hid hnv
          rw [hnv] at HZ10
          simp only [hw10, hnv]
          clear hw10 hnv
          have H10 := Lib.hid (below_blk hb910 H9.out)
          have HX10 := Lib.hid (below_blk hb910 HX9.out)
          have HB10 := Lib.hid (HB9.out.trans (hb910.mono HB9.out.size))
          have HW10 : Hid (Below w.heap.size w w10) := HW8.out.trans (HB10.out.mono HW8.out.size)
          clear hb910
          have s16 : w10.cell? ⟨wr.heap.size, 16, none⟩ = some (.slice A3 body.length c3) := by rw [Lib.cell_of_heap H10.out]; rfl
          go_wp2_with fail
          refine (CB.out _ HW10.out).mono ?_
          rintro e w11 ⟨y11, rfl, ⟨Ab, cb, rfl, hl, hr⟩, hb⟩
          have HLB := Lib.hid hl
          have HRB := Lib.hid hr
          have H11 := Lib.hid (below_blk hb H10.out)
          have HX11 := Lib.hid (below_blk hb HX10.out)
          have HZ11 := Lib.hid (below_blk hb HZ10.out)
          have HB11 := Lib.hid hb
          have HW11 : Hid (Below w.heap.size w w11) := HW10.out.trans (HB11.out.mono HW10.out.size)
          clear hb hl hr s16
          have s17 : w11.cell? ⟨wr.heap.size, 17, none⟩ = some (.slice A4 els.length c4) := by rw [Lib.cell_of_heap H11.out]; rfl
          go_wp2_with fail
          refine (CE.out _ HW11.out).mono ?_
          rintro e w12 ⟨y12, rfl, ⟨Ae, ce, rfl, hl, hr⟩, hb⟩
          have HLE := Lib.hid hl
          have HRE := Lib.hid hr
          have H12 := Lib.hid (below_blk hb H11.out)
          have HX12 := Lib.hid (below_blk hb HX11.out)
          have HZ12 := Lib.hid (below_blk hb HZ11.out)
          have HB12 := Lib.hid hb
          clear hb hl hr s17
          go_upto_region 15 with fail
          have hnp : np ≠ wr.heap.size := by have := HNP.out; have := HB6.out.size; have := HB7.out.size; have := lt_of_block H6.out; omega
          have hnv : nv ≠ wr.heap.size := by have := HNV.out; have := HB9.out.size; have := HB8.out.size; have := lt_of_block H6.out; omega
          have hS : w12.drew.heap[np]? = some (.cells #[.int .i64 x0, .int .i64 x1, .string x2, .int .i64 x3, .int .i64 x4, .slice X1 X2 X3] 92 (0, 0)) ∧ w12.drew.heap[nv]? = some (.cells #[.int .i64 z0, .int .i64 z1, .string z2, .int .i64 z3, .int .i64 z4, .slice Z1 Z2 Z3] 92 (0, 0)) := ⟨HX12.out, HZ12.out⟩
          obtain ⟨wd, hwd⟩ : ∃ x, w12.drew = x := ⟨_, rfl⟩
          have HD12 : Hid (wd.heap[wr.heap.size]? = some (.cells #[.int .i64 1, .string (strB name), .int .i64 L1, .int .i64 L2, .int .i64 p0, .int .i64 p1, .string p2, .int .i64 p3, .int .i64 p4, .slice P1 P2 P3, .int .i64 v0, .int .i64 v1, .string v2, .int .i64 v3, .int .i64 v4, .slice V1 V2 V3, .slice A3 body.length c3, .slice A4 els.length c4] 94 (0, 0)) ∧ Below w12.heap.size w12 wd) := by rw [← hwd]; exact ⟨H12.out, (Below.refl _ _).drew⟩
          refine wp_region_G [5, 7] (fun w' => w'.heap[np]? = some (.cells #[.int .i64 x0, .int .i64 x1, .string x2, .int .i64 x3, .int .i64 x4, .slice X1 X2 X3] 92 (0, 0)) ∧ w'.heap[nv]? = some (.cells #[.int .i64 z0, .int .i64 z1, .string z2, .int .i64 z3, .int .i64 z4, .slice Z1 Z2 Z3] 92 (0, 0))) (by kernel_rfl) ?_
          rw [hwd] at hS ⊢
          clear hwd
          have hS0 := hS
          refine' wpAnyG_take 5 (i := 0) (v := _) ?hi25 (by kernel_rfl) ?hQ25 (Or.inl ⟨?hw25, ?hy25⟩) hS ?rest25
          case hi25 => (simp only [List.getElem?_toArray, List.getElem?_cons_zero]; rfl)
          case hQ25 => exact fun _ _ _ h => h
          case hw25 => rfl
          case hy25 =>
            rintro w99 ⟨hx99, -⟩
            have d0 : w99.cell? ⟨np, 0, none⟩ = some (.int .i64 x0) := by rw [Lib.cell_of_heap hx99]; rfl
            have d1 : w99.cell? ⟨np, 1, none⟩ = some (.int .i64 x1) := by rw [Lib.cell_of_heap hx99]; rfl
            have d2 : w99.cell? ⟨np, 2, none⟩ = some (.string x2) := by rw [Lib.cell_of_heap hx99]; rfl
            have d3 : w99.cell? ⟨np, 3, none⟩ = some (.int .i64 x3) := by rw [Lib.cell_of_heap hx99]; rfl
            have d4 : w99.cell? ⟨np, 4, none⟩ = some (.int .i64 x4) := by rw [Lib.cell_of_heap hx99]; rfl
            have d5 : w99.cell? ⟨np, 5, none⟩ = some (.slice X1 X2 X3) := by rw [Lib.cell_of_heap hx99]; rfl
            go_simp
            with_reducible rfl
          try simp only [Act.put, List.setIfInBounds_toArray, List.set_cons_zero, List.set_cons_succ]
          refine' wpAnyG_take 7 (i := 1) (v := _) ?hi26 (by kernel_rfl) ?hQ26 (Or.inl ⟨?hw26, ?hy26⟩) hS ?rest26
          case hi26 => (simp only [List.getElem?_toArray, List.getElem?_cons_succ, List.getElem?_cons_zero]; rfl)
          case hQ26 => exact fun _ _ _ h => h
          case hw26 => rfl
          case hy26 =>
            rintro w99 ⟨-, hx99⟩
            have d0 : w99.cell? ⟨nv, 0, none⟩ = some (.int .i64 z0) := by rw [Lib.cell_of_heap hx99]; rfl
            have d1 : w99.cell? ⟨nv, 1, none⟩ = some (.int .i64 z1) := by rw [Lib.cell_of_heap hx99]; rfl
            have d2 : w99.cell? ⟨nv, 2, none⟩ = some (.string z2) := by rw [Lib.cell_of_heap hx99]; rfl
            have d3 : w99.cell? ⟨nv, 3, none⟩ = some (.int .i64 z3) := by rw [Lib.cell_of_heap hx99]; rfl
            have d4 : w99.cell? ⟨nv, 4, none⟩ = some (.int .i64 z4) := by rw [Lib.cell_of_heap hx99]; rfl
            have d5 : w99.cell? ⟨nv, 5, none⟩ = some (.slice Z1 Z2 Z3) := by rw [Lib.cell_of_heap hx99]; rfl
            go_simp
            with_reducible rfl
          try simp only [Act.put, List.setIfInBounds_toArray, List.set_cons_zero, List.set_cons_succ]
          refine' wpAnyG_step (i := 2) (v := _) ?hi27 (by kernel_rfl) ?hQ27 (Or.inl ⟨?hw27, ?hy27⟩) hS ?rest27
          case hi27 => (simp only [List.getElem?_toArray, List.getElem?_cons_succ, List.getElem?_cons_zero]; rfl)
          case hQ27 => exact fun _ _ _ h => h
          case hw27 => rfl
          case hy27 => (intro w99; go_simp; with_reducible rfl)
          try simp only [Act.put, List.setIfInBounds_toArray, List.set_cons_zero, List.set_cons_succ]
          refine' wpAnyG_step (i := 3) (v := _) ?hi28 (by kernel_rfl) ?hQ28 (Or.inl ⟨?hw28, ?hy28⟩) hS ?rest28
          case hi28 => (simp only [List.getElem?_toArray, List.getElem?_cons_succ, List.getElem?_cons_zero]; rfl)
          case hQ28 => exact fun _ _ _ h => h
          case hw28 => rfl
          case hy28 => (intro w99; go_simp; with_reducible rfl)
          try simp only [Act.put, List.setIfInBounds_toArray, List.set_cons_zero, List.set_cons_succ]
          refine' wpAnyG_step (i := 4) (v := _) ?hi29 (by kernel_rfl) ?hQ29 (Or.inl ⟨?hw29, ?hy29⟩) hS ?rest29
          case hi29 => (simp only [List.getElem?_toArray, List.getElem?_cons_succ, List.getElem?_cons_zero]; rfl)
          case hQ29 => exact fun _ _ _ h => h
          case hw29 => rfl
          case hy29 => (intro w99; go_simp; with_reducible rfl)
          try simp only [Act.put, List.setIfInBounds_toArray, List.set_cons_zero, List.set_cons_succ]
          have s4 : wd.cell? ⟨wr.heap.size, 4, none⟩ = some (.int .i64 p0) := by rw [Lib.cell_of_heap HD12.out.1]; rfl
          have sf4 : wd.frozen? ⟨wr.heap.size, 4, none⟩ = false := Lib.frozen_of_heap HD12.out.1 4
          have s5 : wd.cell? ⟨wr.heap.size, 5, none⟩ = some (.int .i64 p1) := by rw [Lib.cell_of_heap HD12.out.1]; rfl
          have sf5 : wd.frozen? ⟨wr.heap.size, 5, none⟩ = false := Lib.frozen_of_heap HD12.out.1 5
          have s6 : wd.cell? ⟨wr.heap.size, 6, none⟩ = some (.string p2) := by rw [Lib.cell_of_heap HD12.out.1]; rfl
          have sf6 : wd.frozen? ⟨wr.heap.size, 6, none⟩ = false := Lib.frozen_of_heap HD12.out.1 6
          have s7 : wd.cell? ⟨wr.heap.size, 7, none⟩ = some (.int .i64 p3) := by rw [Lib.cell_of_heap HD12.out.1]; rfl
          have sf7 : wd.frozen? ⟨wr.heap.size, 7, none⟩ = false := Lib.frozen_of_heap HD12.out.1 7
          have s8 : wd.cell? ⟨wr.heap.size, 8, none⟩ = some (.int .i64 p4) := by rw [Lib.cell_of_heap HD12.out.1]; rfl
          have sf8 : wd.frozen? ⟨wr.heap.size, 8, none⟩ = false := Lib.frozen_of_heap HD12.out.1 8
          have s9 : wd.cell? ⟨wr.heap.size, 9, none⟩ = some (.slice P1 P2 P3) := by rw [Lib.cell_of_heap HD12.out.1]; rfl
          have sf9 : wd.frozen? ⟨wr.heap.size, 9, none⟩ = false := Lib.frozen_of_heap HD12.out.1 9
          have s10 : wd.cell? ⟨wr.heap.size, 10, none⟩ = some (.int .i64 v0) := by rw [Lib.cell_of_heap HD12.out.1]; rfl
          have sf10 : wd.frozen? ⟨wr.heap.size, 10, none⟩ = false := Lib.frozen_of_heap HD12.out.1 10
          have s11 : wd.cell? ⟨wr.heap.size, 11, none⟩ = some (.int .i64 v1) := by rw [Lib.cell_of_heap HD12.out.1]; rfl
          have sf11 : wd.frozen? ⟨wr.heap.size, 11, none⟩ = false := Lib.frozen_of_heap HD12.out.1 11
          have s12 : wd.cell? ⟨wr.heap.size, 12, none⟩ = some (.string v2) := by rw [Lib.cell_of_heap HD12.out.1]; rfl
          have sf12 : wd.frozen? ⟨wr.heap.size, 12, none⟩ = false := Lib.frozen_of_heap HD12.out.1 12
          have s13 : wd.cell? ⟨wr.heap.size, 13, none⟩ = some (.int .i64 v3) := by rw [Lib.cell_of_heap HD12.out.1]; rfl
          have sf13 : wd.frozen? ⟨wr.heap.size, 13, none⟩ = false := Lib.frozen_of_heap HD12.out.1 13
          have s14 : wd.cell? ⟨wr.heap.size, 14, none⟩ = some (.int .i64 v4) := by rw [Lib.cell_of_heap HD12.out.1]; rfl
          have sf14 : wd.frozen? ⟨wr.heap.size, 14, none⟩ = false := Lib.frozen_of_heap HD12.out.1 14
          have s15 : wd.cell? ⟨wr.heap.size, 15, none⟩ = some (.slice V1 V2 V3) := by rw [Lib.cell_of_heap HD12.out.1]; rfl
          have sf15 : wd.frozen? ⟨wr.heap.size, 15, none⟩ = false := Lib.frozen_of_heap HD12.out.1 15
          have s16 : wd.cell? ⟨wr.heap.size, 16, none⟩ = some (.slice A3 body.length c3) := by rw [Lib.cell_of_heap HD12.out.1]; rfl
          have sf16 : wd.frozen? ⟨wr.heap.size, 16, none⟩ = false := Lib.frozen_of_heap HD12.out.1 16
          have s17 : wd.cell? ⟨wr.heap.size, 17, none⟩ = some (.slice A4 els.length c4) := by rw [Lib.cell_of_heap HD12.out.1]; rfl
          have sf17 : wd.frozen? ⟨wr.heap.size, 17, none⟩ = false := Lib.frozen_of_heap HD12.out.1 17
          refine' wpAnyG_one (i := 5) (by kernel_rfl) ?hi30 (fun K hK => ?rest30)
          case hi30 => (simp only [List.getElem?_toArray, List.getElem?_cons_succ, List.getElem?_cons_zero]; rfl)
          go_simp
          refine hK.out _ _ ⟨?_, ?_⟩ (fun hS => ?_)
          · repeat rw [Below.heap_setCell _ _ _ _ (show np ≠ wr.heap.size from hnp)]
            exact hS0.1
          · repeat rw [Below.heap_setCell _ _ _ _ (show nv ≠ wr.heap.size from hnv)]
            exact hS0.2
          clear hK K
          try simp only [Act.put, List.setIfInBounds_toArray, List.set_cons_zero, List.set_cons_succ]
          refine' wpAnyG_one (i := 6) (by kernel_rfl) ?hi31 (fun K hK => ?rest31)
          case hi31 => (simp only [List.getElem?_toArray, List.getElem?_cons_succ, List.getElem?_cons_zero]; rfl)
          go_simp
          refine hK.out _ _ ⟨?_, ?_⟩ (fun hS => ?_)
          · repeat rw [Below.heap_setCell _ _ _ _ (show np ≠ wr.heap.size from hnp)]
            exact hS0.1
          · repeat rw [Below.heap_setCell _ _ _ _ (show nv ≠ wr.heap.size from hnv)]
            exact hS0.2
          clear hK K
          try simp only [Act.put, List.setIfInBounds_toArray, List.set_cons_zero, List.set_cons_succ]
          refine' wpAnyG_one (i := 7) (by kernel_rfl) ?hi32 (fun K hK => ?rest32)
          case hi32 => (simp only [List.getElem?_toArray, List.getElem?_cons_succ, List.getElem?_cons_zero]; rfl)
          go_simp
          refine hK.out _ _ ⟨?_, ?_⟩ (fun hS => ?_)
          · repeat rw [Below.heap_setCell _ _ _ _ (show np ≠ wr.heap.size from hnp)]
            exact hS0.1
          · repeat rw [Below.heap_setCell _ _ _ _ (show nv ≠ wr.heap.size from hnv)]
            exact hS0.2
          clear hK K
          try simp only [Act.put, List.setIfInBounds_toArray, List.set_cons_zero, List.set_cons_succ]
          refine wpAnyG_rel (by kernel_rfl) ?_
          clear hS
          refine' wpAny_one (i := 8) (by kernel_rfl) ?hi33 (fun K hK => ?rest33)
          case hi33 => (simp only [List.getElem?_toArray, List.getElem?_cons_succ, List.getElem?_cons_zero]; rfl)
          go_simp
          refine hK.out _ _ ?_
          clear hK K
          try simp only [Act.put, List.setIfInBounds_toArray, List.set_cons_zero, List.set_cons_succ]
          refine' wpAny_one (i := 9) (by kernel_rfl) ?hi34 (fun K hK => ?rest34)
          case hi34 => (simp only [List.getElem?_toArray, List.getElem?_cons_succ, List.getElem?_cons_zero]; rfl)
          go_simp
          refine hK.out _ _ ?_
          clear hK K
          try simp only [Act.put, List.setIfInBounds_toArray, List.set_cons_zero, List.set_cons_succ]
          refine' wpAny_one (i := 10) (by kernel_rfl) ?hi35 (fun K hK => ?rest35)
          case hi35 => (simp only [List.getElem?_toArray, List.getElem?_cons_succ, List.getElem?_cons_zero]; rfl)
          go_simp
          refine hK.out _ _ ?_
          clear hK K
          try simp only [Act.put, List.setIfInBounds_toArray, List.set_cons_zero, List.set_cons_succ]
          refine' wpAny_one (i := 11) (by kernel_rfl) ?hi36 (fun K hK => ?rest36)
          case hi36 => (simp only [List.getElem?_toArray, List.getElem?_cons_succ, List.getElem?_cons_zero]; rfl)
          go_simp
          refine hK.out _ _ ?_
          clear hK K
          try simp only [Act.put, List.setIfInBounds_toArray, List.set_cons_zero, List.set_cons_succ]
          refine wpAny_done (by kernel_rfl) ?_ _
          obtain ⟨w13, hw13⟩ : ∃ x, ((((((((((((((wd.setCell ⟨wr.heap.size, 4, none⟩ (.int .i64 x0)).setCell ⟨wr.heap.size, 5, none⟩ (.int .i64 x1)).setCell ⟨wr.heap.size, 6, none⟩ (.string x2)).setCell ⟨wr.heap.size, 7, none⟩ (.int .i64 x3)).setCell ⟨wr.heap.size, 8, none⟩ (.int .i64 x4)).setCell ⟨wr.heap.size, 9, none⟩ (.slice X1 X2 X3)).setCell ⟨wr.heap.size, 10, none⟩ (.int .i64 z0)).setCell ⟨wr.heap.size, 11, none⟩ (.int .i64 z1)).setCell ⟨wr.heap.size, 12, none⟩ (.string z2)).setCell ⟨wr.heap.size, 13, none⟩ (.int .i64 z3)).setCell ⟨wr.heap.size, 14, none⟩ (.int .i64 z4)).setCell ⟨wr.heap.size, 15, none⟩ (.slice Z1 Z2 Z3)).setCell ⟨wr.heap.size, 16, none⟩ (.slice Ab (St.resL (plL vl) body).length cb)).setCell ⟨wr.heap.size, 17, none⟩ (.slice Ae (St.resL (plL vl) els).length ce)) = x := ⟨_, rfl⟩
          have H13 : Hid (w13.heap[wr.heap.size]? = some (.cells #[.int .i64 1, .string (strB name), .int .i64 L1, .int .i64 L2, .int .i64 x0, .int .i64 x1, .string x2, .int .i64 x3, .int .i64 x4, .slice X1 X2 X3, .int .i64 z0, .int .i64 z1, .string z2, .int .i64 z3, .int .i64 z4, .slice Z1 Z2 Z3, .slice Ab (St.resL (plL vl) body).length cb, .slice Ae (St.resL (plL vl) els).length ce] 94 (0, 0))) := by
            have h' := (blk_set (blk_set (blk_set (blk_set (blk_set (blk_set (blk_set (blk_set (blk_set (blk_set (blk_set (blk_set (blk_set (blk_set HD12.out.1 4 (.int .i64 x0)) 5 (.int .i64 x1)) 6 (.string x2)) 7 (.int .i64 x3)) 8 (.int .i64 x4)) 9 (.slice X1 X2 X3)) 10 (.int .i64 z0)) 11 (.int .i64 z1)) 12 (.string z2)) 13 (.int .i64 z3)) 14 (.int .i64 z4)) 15 (.slice Z1 Z2 Z3)) 16 (.slice Ab (St.resL (plL vl) body).length cb)) 17 (.slice Ae (St.resL (plL vl) els).length ce))
            rw [hw13] at h'
            simp only [List.setIfInBounds_toArray, List.set_cons_zero, List.set_cons_succ] at h'
            exact h'
          have HK13 : Hid (∀ k, k ≠ wr.heap.size → w13.heap[k]? = wd.heap[k]?) := fun k hk => by
            rw [← hw13]
            iterate 14 rw [Below.heap_setCell _ _ _ _ hk]
          have HB13 : Hid (Below wr.heap.size wd w13) := by rw [← hw13]; exact (((((((((((((((Below.refl _ _).setCell (p := ⟨wr.heap.size, 4, none⟩) (Nat.le_refl _) _).setCell (p := ⟨wr.heap.size, 5, none⟩) (Nat.le_refl _) _).setCell (p := ⟨wr.heap.size, 6, none⟩) (Nat.le_refl _) _).setCell (p := ⟨wr.heap.size, 7, none⟩) (Nat.le_refl _) _).setCell (p := ⟨wr.heap.size, 8, none⟩) (Nat.le_refl _) _).setCell (p := ⟨wr.heap.size, 9, none⟩) (Nat.le_refl _) _).setCell (p := ⟨wr.heap.size, 10, none⟩) (Nat.le_refl _) _).setCell (p := ⟨wr.heap.size, 11, none⟩) (Nat.le_refl _) _).setCell (p := ⟨wr.heap.size, 12, none⟩) (Nat.le_refl _) _).setCell (p := ⟨wr.heap.size, 13, none⟩) (Nat.le_refl _) _).setCell (p := ⟨wr.heap.size, 14, none⟩) (Nat.le_refl _) _).setCell (p := ⟨wr.heap.size, 15, none⟩) (Nat.le_refl _) _).setCell (p := ⟨wr.heap.size, 16, none⟩) (Nat.le_refl _) _).setCell (p := ⟨wr.heap.size, 17, none⟩) (Nat.le_refl _) _)
          simp only [hw13]
          clear hw13 s4 sf4 s5 sf5 s6 sf6 s7 sf7 s8 sf8 s9 sf9 s10 sf10 s11 sf11 s12 sf12 s13 sf13 s14 sf14 s15 sf15 s16 sf16 s17 sf17
          have hza : wr.heap.size < w6.heap.size := lt_of_block H6.out
          have hzb : w6.heap.size ≤ w7.heap.size := HB7.out.size
          have hzc : w7.heap.size ≤ w8.heap.size := by have := lt_of_block HX8.out; have := HNP.out; omega
          have hzd : w8.heap.size ≤ w9.heap.size := HB9.out.size
          have hze : w9.heap.size ≤ w10.heap.size := by have := lt_of_block HZ10.out; have := HNV.out; omega
          have hzf : w10.heap.size ≤ w11.heap.size := HB11.out.size
          have hzg : w11.heap.size ≤ w12.heap.size := HB12.out.size
          have hzh : w12.heap.size ≤ wd.heap.size := HD12.out.2.size
          have HW13 : Hid (Below wr.heap.size wr w13) := (((((HB6.out.trans (HB8.out.mono (by omega))).trans (HB10.out.mono (by omega))).trans (HB11.out.mono (by omega))).trans (HB12.out.mono (by omega))).trans (HD12.out.2.mono (by omega))).trans HB13.out
          have HS13 : Hid (StL (From wr.heap.size) w13 (St.res (plL vl) (.mk 1 name slot size place value body els)) [.int .i64 1, .string (strB name), .int .i64 L1, .int .i64 L2, .int .i64 x0, .int .i64 x1, .string x2, .int .i64 x3, .int .i64 x4, .slice X1 X2 X3, .int .i64 z0, .int .i64 z1, .string z2, .int .i64 z3, .int .i64 z4, .slice Z1 Z2 Z3, .slice Ab (St.resL (plL vl) body).length cb, .slice Ae (St.resL (plL vl) els).length ce]) := by
            have hres : St.res (plL vl) (.mk 1 name slot size place value body els) = .mk 1 name L1 L2 (place.res (plL vl)) (value.res (plL vl)) (St.resL (plL vl) body) (St.resL (plL vl) els) := HRES.out
            rw [hres]
            simp only [StL]
            refine ⟨[.int .i64 x0, .int .i64 x1, .string x2, .int .i64 x3, .int .i64 x4, .slice X1 X2 X3], [.int .i64 z0, .int .i64 z1, .string z2, .int .i64 z3, .int .i64 z4, .slice Z1 Z2 Z3], Ab, cb, Ae, ce, rfl, ?_, ?_, HLB.out, HLE.out, fun hne => ?_, fun hne => ?_⟩
            · exact ExL.still (fun k (h1 : w6.heap.size ≤ k) h2 => ⟨show wr.heap.size ≤ k by omega, (HK13.out k (by omega)).trans ((HD12.out.2.block k (by omega)).trans ((HB12.out.block k (by omega)).trans ((HB11.out.block k (by omega)).trans ((HB10.out.block k (by omega)).trans (E87.out k h2)))))⟩) _ _ HLP.out
            · exact ExL.still (fun k (h1 : w8.heap.size ≤ k) h2 => ⟨show wr.heap.size ≤ k by omega, (HK13.out k (by omega)).trans ((HD12.out.2.block k (by omega)).trans ((HB12.out.block k (by omega)).trans ((HB11.out.block k (by omega)).trans (E109.out k h2))))⟩) _ _ HLV.out
            · obtain ⟨b, o, hA, hS, hr⟩ := HRB.out hne
              exact ⟨b, o, hA, show wr.heap.size ≤ b from Nat.le_trans (by omega) (show w10.heap.size ≤ b from hS), StRow.still (fun k (h1 : w10.heap.size ≤ k) h2 => ⟨show wr.heap.size ≤ k by omega, (HK13.out k (by omega)).trans ((HD12.out.2.block k (by omega)).trans (HB12.out.block k h2))⟩) _ b o hS hr⟩
            · obtain ⟨b, o, hA, hS, hr⟩ := HRE.out hne
              exact ⟨b, o, hA, show wr.heap.size ≤ b from Nat.le_trans (by omega) (show w11.heap.size ≤ b from hS), StRow.still (fun k (h1 : w11.heap.size ≤ k) h2 => ⟨show wr.heap.size ≤ k by omega, (HK13.out k (by omega)).trans (HD12.out.2.block k h2)⟩) _ b o hS hr⟩
          clear hza hzb hzc hzd hze hzf hzg hzh hnp hnv
          go_wp2_with (first
            | (refine wpList_load_row rfl 94 _ rfl wr.heap.size rfl 94 _ (0, 0) _ H13.out Tryd.underlying94 rfl (by kernel_rfl) ?_)
            | (at_builtin; refine wpList_append_own_at _ rfl _ _ 27 rfl w.heap.size 94 i0 _ 18 232 Tryd.underlying27 HI.out HI0.out HI1.out HI2.out rfl (by decide) _ _ _ rfl ((own_bel HH.out.o HW13.out).alloc _) ⟨w13.heap.size, 0, none⟩ 1 1 [.int .i64 1, .string (strB name), .int .i64 L1, .int .i64 L2, .int .i64 x0, .int .i64 x1, .string x2, .int .i64 x3, .int .i64 x4, .slice X1 X2 X3, .int .i64 z0, .int .i64 z1, .string z2, .int .i64 z3, .int .i64 z4, .slice Z1 Z2 Z3, .slice Ab (St.resL (plL vl) body).length cb, .slice Ae (St.resL (plL vl) els).length ce] rfl rfl (ex_new _ _ _) (by simp [Value.oneCell']) (by rw [HLN.out]; unfold maxLen; omega) (by rw [HLN.out]; omega) (by rw [new_size]; have := HW13.out.size; omega) ?_))
          intro va wa hown hgrow _ hobl
          have HN := Lib.hid (RyHead.next HH.out HE1.out HW13.out HS13.out hown hgrow hobl)
          clear hown hgrow hobl
          go_wp2_with fail
          go_roundg g
          case rel => exact ⟨k + 1, _, _, by have := HG.out; omega, by go_num, rfl, HKO.out.symm.trans (by simp), HN⟩
          case measure => omega
        · skip
          have HKO := HSH
          have s4 : w6.cell? ⟨wr.heap.size, 4, none⟩ = some (.int .i64 p0) := by rw [Lib.cell_of_heap H6.out]; rfl
          have s5 : w6.cell? ⟨wr.heap.size, 5, none⟩ = some (.int .i64 p1) := by rw [Lib.cell_of_heap H6.out]; rfl
          have s6 : w6.cell? ⟨wr.heap.size, 6, none⟩ = some (.string p2) := by rw [Lib.cell_of_heap H6.out]; rfl
          have s7 : w6.cell? ⟨wr.heap.size, 7, none⟩ = some (.int .i64 p3) := by rw [Lib.cell_of_heap H6.out]; rfl
          have s8 : w6.cell? ⟨wr.heap.size, 8, none⟩ = some (.int .i64 p4) := by rw [Lib.cell_of_heap H6.out]; rfl
          have s9 : w6.cell? ⟨wr.heap.size, 9, none⟩ = some (.slice P1 P2 P3) := by rw [Lib.cell_of_heap H6.out]; rfl
          have HW6 : Hid (Below w.heap.size w w6) := HB.out.trans (HB6.out.mono hz0)
          go_wp2_with fail
          refine (CP.out _ HW6.out).mono ?_
          rintro e w7 ⟨y7, rfl, ⟨x0, x1, x2, x3, x4, X1, X2, X3, rfl, hl⟩, hb⟩
          have HLP := Lib.hid hl
          have H7 := Lib.hid (below_blk hb H6.out)
          have HB7 := Lib.hid hb
          clear hb hl s4 s5 s6 s7 s8 s9
          go_upto_region 12 with fail
          obtain ⟨w8, hw8⟩ : ∃ x, w7.alloc (.cells #[.int .i64 x0, .int .i64 x1, .string x2, .int .i64 x3, .int .i64 x4, .slice X1 X2 X3] 92) = x := ⟨_, rfl⟩
          have hb78 : Below w7.heap.size w7 w8 := by rw [← hw8]; exact (Below.refl _ _).alloc (Nat.le_refl _) _
          have E87 : Hid (∀ k, k < w7.heap.size → w8.heap[k]? = w7.heap[k]?) := fun k hk => hb78.block k hk
          have HX8 : Hid (w8.heap[w7.heap.size]? = some (.cells #[.int .i64 x0, .int .i64 x1, .string x2, .int .i64 x3, .int .i64 x4, .slice X1 X2 X3] 92 (0, 0))) := by rw [← hw8]; exact new_blk w7 _
          obtain ⟨np, hnp⟩ : ∃ x, w7.heap.size = x := ⟨_, rfl⟩
          have HNP := Lib.hid hnp
          rw [hnp] at HX8
          simp only [hw8, hnp]
          clear hw8 hnp
          have H8 := Lib.hid (below_blk hb78 H7.out)
          have HB8 := Lib.hid (HB7.out.trans (hb78.mono HB7.out.size))
          have HW8 : Hid (Below w.heap.size w w8) := HW6.out.trans (HB8.out.mono HW6.out.size)
          clear hb78
          have s10 : w8.cell? ⟨wr.heap.size, 10, none⟩ = some (.int .i64 v0) := by rw [Lib.cell_of_heap H8.out]; rfl
          have s11 : w8.cell? ⟨wr.heap.size, 11, none⟩ = some (.int .i64 v1) := by rw [Lib.cell_of_heap H8.out]; rfl
          have s12 : w8.cell? ⟨wr.heap.size, 12, none⟩ = some (.string v2) := by rw [Lib.cell_of_heap H8.out]; rfl
          have s13 : w8.cell? ⟨wr.heap.size, 13, none⟩ = some (.int .i64 v3) := by rw [Lib.cell_of_heap H8.out]; rfl
          have s14 : w8.cell? ⟨wr.heap.size, 14, none⟩ = some (.int .i64 v4) := by rw [Lib.cell_of_heap H8.out]; rfl
          have s15 : w8.cell? ⟨wr.heap.size, 15, none⟩ = some (.slice V1 V2 V3) := by rw [Lib.cell_of_heap H8.out]; rfl
          go_wp2_with fail
          refine (CV.out _ HW8.out).mono ?_
          rintro e w9 ⟨y9, rfl, ⟨z0, z1, z2, z3, z4, Z1, Z2, Z3, rfl, hl⟩, hb⟩
          have HLV := Lib.hid hl
          have H9 := Lib.hid (below_blk hb H8.out)
          have HX9 := Lib.hid (below_blk hb HX8.out)
          have HB9 := Lib.hid hb
          clear hb hl s10 s11 s12 s13 s14 s15
          go_upto_region 13 with fail
          obtain ⟨w10, hw10⟩ : ∃ x, w9.alloc (.cells #[.int .i64 z0, .int .i64 z1, .string z2, .int .i64 z3, .int .i64 z4, .slice Z1 Z2 Z3] 92) = x := ⟨_, rfl⟩
          have hb910 : Below w9.heap.size w9 w10 := by rw [← hw10]; exact (Below.refl _ _).alloc (Nat.le_refl _) _
          have E109 : Hid (∀ k, k < w9.heap.size → w10.heap[k]? = w9.heap[k]?) := fun k hk => hb910.block k hk
          have HZ10 : Hid (w10.heap[w9.heap.size]? = some (.cells #[.int .i64 z0, .int .i64 z1, .string z2, .int .i64 z3, .int .i64 z4, .slice Z1 Z2 Z3] 92 (0, 0))) := by rw [← hw10]; exact new_blk w9 _
          obtain ⟨nv, hnv⟩ : ∃ x, w9.heap.size = x := ⟨_, rfl⟩
          have HNV := Lib.hid hnv
          rw [hnv] at HZ10
          simp only [hw10, hnv]
          clear hw10 hnv
          have H10 := Lib.hid (below_blk hb910 H9.out)
          have HX10 := Lib.hid (below_blk hb910 HX9.out)
          have HB10 := Lib.hid (HB9.out.trans (hb910.mono HB9.out.size))
          have HW10 : Hid (Below w.heap.size w w10) := HW8.out.trans (HB10.out.mono HW8.out.size)
          clear hb910
          have s16 : w10.cell? ⟨wr.heap.size, 16, none⟩ = some (.slice A3 body.length c3) := by rw [Lib.cell_of_heap H10.out]; rfl
          go_wp2_with fail
          refine (CB.out _ HW10.out).mono ?_
          rintro e w11 ⟨y11, rfl, ⟨Ab, cb, rfl, hl, hr⟩, hb⟩
          have HLB := Lib.hid hl
          have HRB := Lib.hid hr
          have H11 := Lib.hid (below_blk hb H10.out)
          have HX11 := Lib.hid (below_blk hb HX10.out)
          have HZ11 := Lib.hid (below_blk hb HZ10.out)
          have HB11 := Lib.hid hb
          have HW11 : Hid (Below w.heap.size w w11) := HW10.out.trans (HB11.out.mono HW10.out.size)
          clear hb hl hr s16
          have s17 : w11.cell? ⟨wr.heap.size, 17, none⟩ = some (.slice A4 els.length c4) := by rw [Lib.cell_of_heap H11.out]; rfl
          go_wp2_with fail
          refine (CE.out _ HW11.out).mono ?_
          rintro e w12 ⟨y12, rfl, ⟨Ae, ce, rfl, hl, hr⟩, hb⟩
          have HLE := Lib.hid hl
          have HRE := Lib.hid hr
          have H12 := Lib.hid (below_blk hb H11.out)
          have HX12 := Lib.hid (below_blk hb HX11.out)
          have HZ12 := Lib.hid (below_blk hb HZ11.out)
          have HB12 := Lib.hid hb
          clear hb hl hr s17
          go_upto_region 15 with fail
          have hnp : np ≠ wr.heap.size := by have := HNP.out; have := HB6.out.size; have := HB7.out.size; have := lt_of_block H6.out; omega
          have hnv : nv ≠ wr.heap.size := by have := HNV.out; have := HB9.out.size; have := HB8.out.size; have := lt_of_block H6.out; omega
          have hS : w12.drew.heap[np]? = some (.cells #[.int .i64 x0, .int .i64 x1, .string x2, .int .i64 x3, .int .i64 x4, .slice X1 X2 X3] 92 (0, 0)) ∧ w12.drew.heap[nv]? = some (.cells #[.int .i64 z0, .int .i64 z1, .string z2, .int .i64 z3, .int .i64 z4, .slice Z1 Z2 Z3] 92 (0, 0)) := ⟨HX12.out, HZ12.out⟩
          obtain ⟨wd, hwd⟩ : ∃ x, w12.drew = x := ⟨_, rfl⟩
          have HD12 : Hid (wd.heap[wr.heap.size]? = some (.cells #[.int .i64 1, .string (strB name), .int .i64 L1, .int .i64 L2, .int .i64 p0, .int .i64 p1, .string p2, .int .i64 p3, .int .i64 p4, .slice P1 P2 P3, .int .i64 v0, .int .i64 v1, .string v2, .int .i64 v3, .int .i64 v4, .slice V1 V2 V3, .slice A3 body.length c3, .slice A4 els.length c4] 94 (0, 0)) ∧ Below w12.heap.size w12 wd) := by rw [← hwd]; exact ⟨H12.out, (Below.refl _ _).drew⟩
          refine wp_region_G [5, 7] (fun w' => w'.heap[np]? = some (.cells #[.int .i64 x0, .int .i64 x1, .string x2, .int .i64 x3, .int .i64 x4, .slice X1 X2 X3] 92 (0, 0)) ∧ w'.heap[nv]? = some (.cells #[.int .i64 z0, .int .i64 z1, .string z2, .int .i64 z3, .int .i64 z4, .slice Z1 Z2 Z3] 92 (0, 0))) (by kernel_rfl) ?_
          rw [hwd] at hS ⊢
          clear hwd
          have hS0 := hS
          refine' wpAnyG_take 5 (i := 0) (v := _) ?hi37 (by kernel_rfl) ?hQ37 (Or.inl ⟨?hw37, ?hy37⟩) hS ?rest37
          case hi37 => (simp only [List.getElem?_toArray, List.getElem?_cons_zero]; rfl)
          case hQ37 => exact fun _ _ _ h => h
          case hw37 => rfl
          case hy37 =>
            rintro w99 ⟨hx99, -⟩
            have d0 : w99.cell? ⟨np, 0, none⟩ = some (.int .i64 x0) := by rw [Lib.cell_of_heap hx99]; rfl
            have d1 : w99.cell? ⟨np, 1, none⟩ = some (.int .i64 x1) := by rw [Lib.cell_of_heap hx99]; rfl
            have d2 : w99.cell? ⟨np, 2, none⟩ = some (.string x2) := by rw [Lib.cell_of_heap hx99]; rfl
            have d3 : w99.cell? ⟨np, 3, none⟩ = some (.int .i64 x3) := by rw [Lib.cell_of_heap hx99]; rfl
            have d4 : w99.cell? ⟨np, 4, none⟩ = some (.int .i64 x4) := by rw [Lib.cell_of_heap hx99]; rfl
            have d5 : w99.cell? ⟨np, 5, none⟩ = some (.slice X1 X2 X3) := by rw [Lib.cell_of_heap hx99]; rfl
            go_simp
            with_reducible rfl
          try simp only [Act.put, List.setIfInBounds_toArray, List.set_cons_zero, List.set_cons_succ]
          refine' wpAnyG_take 7 (i := 1) (v := _) ?hi38 (by kernel_rfl) ?hQ38 (Or.inl ⟨?hw38, ?hy38⟩) hS ?rest38
          case hi38 => (simp only [List.getElem?_toArray, List.getElem?_cons_succ, List.getElem?_cons_zero]; rfl)
          case hQ38 => exact fun _ _ _ h => h
          case hw38 => rfl
          case hy38 =>
            rintro w99 ⟨-, hx99⟩
            have d0 : w99.cell? ⟨nv, 0, none⟩ = some (.int .i64 z0) := by rw [Lib.cell_of_heap hx99]; rfl
            have d1 : w99.cell? ⟨nv, 1, none⟩ = some (.int .i64 z1) := by rw [Lib.cell_of_heap hx99]; rfl
            have d2 : w99.cell? ⟨nv, 2, none⟩ = some (.string z2) := by rw [Lib.cell_of_heap hx99]; rfl
            have d3 : w99.cell? ⟨nv, 3, none⟩ = some (.int .i64 z3) := by rw [Lib.cell_of_heap hx99]; rfl
            have d4 : w99.cell? ⟨nv, 4, none⟩ = some (.int .i64 z4) := by rw [Lib.cell_of_heap hx99]; rfl
            have d5 : w99.cell? ⟨nv, 5, none⟩ = some (.slice Z1 Z2 Z3) := by rw [Lib.cell_of_heap hx99]; rfl
            go_simp
            with_reducible rfl
          try simp only [Act.put, List.setIfInBounds_toArray, List.set_cons_zero, List.set_cons_succ]
          refine' wpAnyG_step (i := 2) (v := _) ?hi39 (by kernel_rfl) ?hQ39 (Or.inl ⟨?hw39, ?hy39⟩) hS ?rest39
          case hi39 => (simp only [List.getElem?_toArray, List.getElem?_cons_succ, List.getElem?_cons_zero]; rfl)
          case hQ39 => exact fun _ _ _ h => h
          case hw39 => rfl
          case hy39 => (intro w99; go_simp; with_reducible rfl)
          try simp only [Act.put, List.setIfInBounds_toArray, List.set_cons_zero, List.set_cons_succ]
          refine' wpAnyG_step (i := 3) (v := _) ?hi40 (by kernel_rfl) ?hQ40 (Or.inl ⟨?hw40, ?hy40⟩) hS ?rest40
          case hi40 => (simp only [List.getElem?_toArray, List.getElem?_cons_succ, List.getElem?_cons_zero]; rfl)
          case hQ40 => exact fun _ _ _ h => h
          case hw40 => rfl
          case hy40 => (intro w99; go_simp; with_reducible rfl)
          try simp only [Act.put, List.setIfInBounds_toArray, List.set_cons_zero, List.set_cons_succ]
          refine' wpAnyG_step (i := 4) (v := _) ?hi41 (by kernel_rfl) ?hQ41 (Or.inl ⟨?hw41, ?hy41⟩) hS ?rest41
          case hi41 => (simp only [List.getElem?_toArray, List.getElem?_cons_succ, List.getElem?_cons_zero]; rfl)
          case hQ41 => exact fun _ _ _ h => h
          case hw41 => rfl
          case hy41 => (intro w99; go_simp; with_reducible rfl)
          try simp only [Act.put, List.setIfInBounds_toArray, List.set_cons_zero, List.set_cons_succ]
          have s4 : wd.cell? ⟨wr.heap.size, 4, none⟩ = some (.int .i64 p0) := by rw [Lib.cell_of_heap HD12.out.1]; rfl
          have sf4 : wd.frozen? ⟨wr.heap.size, 4, none⟩ = false := Lib.frozen_of_heap HD12.out.1 4
          have s5 : wd.cell? ⟨wr.heap.size, 5, none⟩ = some (.int .i64 p1) := by rw [Lib.cell_of_heap HD12.out.1]; rfl
          have sf5 : wd.frozen? ⟨wr.heap.size, 5, none⟩ = false := Lib.frozen_of_heap HD12.out.1 5
          have s6 : wd.cell? ⟨wr.heap.size, 6, none⟩ = some (.string p2) := by rw [Lib.cell_of_heap HD12.out.1]; rfl
          have sf6 : wd.frozen? ⟨wr.heap.size, 6, none⟩ = false := Lib.frozen_of_heap HD12.out.1 6
          have s7 : wd.cell? ⟨wr.heap.size, 7, none⟩ = some (.int .i64 p3) := by rw [Lib.cell_of_heap HD12.out.1]; rfl
          have sf7 : wd.frozen? ⟨wr.heap.size, 7, none⟩ = false := Lib.frozen_of_heap HD12.out.1 7
          have s8 : wd.cell? ⟨wr.heap.size, 8, none⟩ = some (.int .i64 p4) := by rw [Lib.cell_of_heap HD12.out.1]; rfl
          have sf8 : wd.frozen? ⟨wr.heap.size, 8, none⟩ = false := Lib.frozen_of_heap HD12.out.1 8
          have s9 : wd.cell? ⟨wr.heap.size, 9, none⟩ = some (.slice P1 P2 P3) := by rw [Lib.cell_of_heap HD12.out.1]; rfl
          have sf9 : wd.frozen? ⟨wr.heap.size, 9, none⟩ = false := Lib.frozen_of_heap HD12.out.1 9
          have s10 : wd.cell? ⟨wr.heap.size, 10, none⟩ = some (.int .i64 v0) := by rw [Lib.cell_of_heap HD12.out.1]; rfl
          have sf10 : wd.frozen? ⟨wr.heap.size, 10, none⟩ = false := Lib.frozen_of_heap HD12.out.1 10
          have s11 : wd.cell? ⟨wr.heap.size, 11, none⟩ = some (.int .i64 v1) := by rw [Lib.cell_of_heap HD12.out.1]; rfl
          have sf11 : wd.frozen? ⟨wr.heap.size, 11, none⟩ = false := Lib.frozen_of_heap HD12.out.1 11
          have s12 : wd.cell? ⟨wr.heap.size, 12, none⟩ = some (.string v2) := by rw [Lib.cell_of_heap HD12.out.1]; rfl
          have sf12 : wd.frozen? ⟨wr.heap.size, 12, none⟩ = false := Lib.frozen_of_heap HD12.out.1 12
          have s13 : wd.cell? ⟨wr.heap.size, 13, none⟩ = some (.int .i64 v3) := by rw [Lib.cell_of_heap HD12.out.1]; rfl
          have sf13 : wd.frozen? ⟨wr.heap.size, 13, none⟩ = false := Lib.frozen_of_heap HD12.out.1 13
          have s14 : wd.cell? ⟨wr.heap.size, 14, none⟩ = some (.int .i64 v4) := by rw [Lib.cell_of_heap HD12.out.1]; rfl
          have sf14 : wd.frozen? ⟨wr.heap.size, 14, none⟩ = false := Lib.frozen_of_heap HD12.out.1 14
          have s15 : wd.cell? ⟨wr.heap.size, 15, none⟩ = some (.slice V1 V2 V3) := by rw [Lib.cell_of_heap HD12.out.1]; rfl
          have sf15 : wd.frozen? ⟨wr.heap.size, 15, none⟩ = false := Lib.frozen_of_heap HD12.out.1 15
          have s16 : wd.cell? ⟨wr.heap.size, 16, none⟩ = some (.slice A3 body.length c3) := by rw [Lib.cell_of_heap HD12.out.1]; rfl
          have sf16 : wd.frozen? ⟨wr.heap.size, 16, none⟩ = false := Lib.frozen_of_heap HD12.out.1 16
          have s17 : wd.cell? ⟨wr.heap.size, 17, none⟩ = some (.slice A4 els.length c4) := by rw [Lib.cell_of_heap HD12.out.1]; rfl
          have sf17 : wd.frozen? ⟨wr.heap.size, 17, none⟩ = false := Lib.frozen_of_heap HD12.out.1 17
          refine' wpAnyG_one (i := 5) (by kernel_rfl) ?hi42 (fun K hK => ?rest42)
          case hi42 => (simp only [List.getElem?_toArray, List.getElem?_cons_succ, List.getElem?_cons_zero]; rfl)
          go_simp
          refine hK.out _ _ ⟨?_, ?_⟩ (fun hS => ?_)
          · repeat rw [Below.heap_setCell _ _ _ _ (show np ≠ wr.heap.size from hnp)]
            exact hS0.1
          · repeat rw [Below.heap_setCell _ _ _ _ (show nv ≠ wr.heap.size from hnv)]
            exact hS0.2
          clear hK K
          try simp only [Act.put, List.setIfInBounds_toArray, List.set_cons_zero, List.set_cons_succ]
          refine' wpAnyG_one (i := 6) (by kernel_rfl) ?hi43 (fun K hK => ?rest43)
          case hi43 => (simp only [List.getElem?_toArray, List.getElem?_cons_succ, List.getElem?_cons_zero]; rfl)
          go_simp
          refine hK.out _ _ ⟨?_, ?_⟩ (fun hS => ?_)
          · repeat rw [Below.heap_setCell _ _ _ _ (show np ≠ wr.heap.size from hnp)]
            exact hS0.1
          · repeat rw [Below.heap_setCell _ _ _ _ (show nv ≠ wr.heap.size from hnv)]
            exact hS0.2
          clear hK K
          try simp only [Act.put, List.setIfInBounds_toArray, List.set_cons_zero, List.set_cons_succ]
          refine' wpAnyG_one (i := 7) (by kernel_rfl) ?hi44 (fun K hK => ?rest44)
          case hi44 => (simp only [List.getElem?_toArray, List.getElem?_cons_succ, List.getElem?_cons_zero]; rfl)
          go_simp
          refine hK.out _ _ ⟨?_, ?_⟩ (fun hS => ?_)
          · repeat rw [Below.heap_setCell _ _ _ _ (show np ≠ wr.heap.size from hnp)]
            exact hS0.1
          · repeat rw [Below.heap_setCell _ _ _ _ (show nv ≠ wr.heap.size from hnv)]
            exact hS0.2
          clear hK K
          try simp only [Act.put, List.setIfInBounds_toArray, List.set_cons_zero, List.set_cons_succ]
          refine wpAnyG_rel (by kernel_rfl) ?_
          clear hS
          refine' wpAny_one (i := 8) (by kernel_rfl) ?hi45 (fun K hK => ?rest45)
          case hi45 => (simp only [List.getElem?_toArray, List.getElem?_cons_succ, List.getElem?_cons_zero]; rfl)
          go_simp
          refine hK.out _ _ ?_
          clear hK K
          try simp only [Act.put, List.setIfInBounds_toArray, List.set_cons_zero, List.set_cons_succ]
          refine' wpAny_one (i := 9) (by kernel_rfl) ?hi46 (fun K hK => ?rest46)
          case hi46 => (simp only [List.getElem?_toArray, List.getElem?_cons_succ, List.getElem?_cons_zero]; rfl)
          go_simp
          refine hK.out _ _ ?_
          clear hK K
          try simp only [Act.put, List.setIfInBounds_toArray, List.set_cons_zero, List.set_cons_succ]
          refine' wpAny_one (i := 10) (by kernel_rfl) ?hi47 (fun K hK => ?rest47)
          case hi47 => (simp only [List.getElem?_toArray, List.getElem?_cons_succ, List.getElem?_cons_zero]; rfl)
          go_simp
          refine hK.out _ _ ?_
          clear hK K
          try simp only [Act.put, List.setIfInBounds_toArray, List.set_cons_zero, List.set_cons_succ]
          refine' wpAny_one (i := 11) (by kernel_rfl) ?hi48 (fun K hK => ?rest48)
          case hi48 => (simp only [List.getElem?_toArray, List.getElem?_cons_succ, List.getElem?_cons_zero]; rfl)
          go_simp
          refine hK.out _ _ ?_
          clear hK K
          try simp only [Act.put, List.setIfInBounds_toArray, List.set_cons_zero, List.set_cons_succ]
          refine wpAny_done (by kernel_rfl) ?_ _
          obtain ⟨w13, hw13⟩ : ∃ x, ((((((((((((((wd.setCell ⟨wr.heap.size, 4, none⟩ (.int .i64 x0)).setCell ⟨wr.heap.size, 5, none⟩ (.int .i64 x1)).setCell ⟨wr.heap.size, 6, none⟩ (.string x2)).setCell ⟨wr.heap.size, 7, none⟩ (.int .i64 x3)).setCell ⟨wr.heap.size, 8, none⟩ (.int .i64 x4)).setCell ⟨wr.heap.size, 9, none⟩ (.slice X1 X2 X3)).setCell ⟨wr.heap.size, 10, none⟩ (.int .i64 z0)).setCell ⟨wr.heap.size, 11, none⟩ (.int .i64 z1)).setCell ⟨wr.heap.size, 12, none⟩ (.string z2)).setCell ⟨wr.heap.size, 13, none⟩ (.int .i64 z3)).setCell ⟨wr.heap.size, 14, none⟩ (.int .i64 z4)).setCell ⟨wr.heap.size, 15, none⟩ (.slice Z1 Z2 Z3)).setCell ⟨wr.heap.size, 16, none⟩ (.slice Ab (St.resL (plL vl) body).length cb)).setCell ⟨wr.heap.size, 17, none⟩ (.slice Ae (St.resL (plL vl) els).length ce)) = x := ⟨_, rfl⟩
          have H13 : Hid (w13.heap[wr.heap.size]? = some (.cells #[.int .i64 1, .string (strB name), .int .i64 L1, .int .i64 L2, .int .i64 x0, .int .i64 x1, .string x2, .int .i64 x3, .int .i64 x4, .slice X1 X2 X3, .int .i64 z0, .int .i64 z1, .string z2, .int .i64 z3, .int .i64 z4, .slice Z1 Z2 Z3, .slice Ab (St.resL (plL vl) body).length cb, .slice Ae (St.resL (plL vl) els).length ce] 94 (0, 0))) := by
            have h' := (blk_set (blk_set (blk_set (blk_set (blk_set (blk_set (blk_set (blk_set (blk_set (blk_set (blk_set (blk_set (blk_set (blk_set HD12.out.1 4 (.int .i64 x0)) 5 (.int .i64 x1)) 6 (.string x2)) 7 (.int .i64 x3)) 8 (.int .i64 x4)) 9 (.slice X1 X2 X3)) 10 (.int .i64 z0)) 11 (.int .i64 z1)) 12 (.string z2)) 13 (.int .i64 z3)) 14 (.int .i64 z4)) 15 (.slice Z1 Z2 Z3)) 16 (.slice Ab (St.resL (plL vl) body).length cb)) 17 (.slice Ae (St.resL (plL vl) els).length ce))
            rw [hw13] at h'
            simp only [List.setIfInBounds_toArray, List.set_cons_zero, List.set_cons_succ] at h'
            exact h'
          have HK13 : Hid (∀ k, k ≠ wr.heap.size → w13.heap[k]? = wd.heap[k]?) := fun k hk => by
            rw [← hw13]
            iterate 14 rw [Below.heap_setCell _ _ _ _ hk]
          have HB13 : Hid (Below wr.heap.size wd w13) := by rw [← hw13]; exact (((((((((((((((Below.refl _ _).setCell (p := ⟨wr.heap.size, 4, none⟩) (Nat.le_refl _) _).setCell (p := ⟨wr.heap.size, 5, none⟩) (Nat.le_refl _) _).setCell (p := ⟨wr.heap.size, 6, none⟩) (Nat.le_refl _) _).setCell (p := ⟨wr.heap.size, 7, none⟩) (Nat.le_refl _) _).setCell (p := ⟨wr.heap.size, 8, none⟩) (Nat.le_refl _) _).setCell (p := ⟨wr.heap.size, 9, none⟩) (Nat.le_refl _) _).setCell (p := ⟨wr.heap.size, 10, none⟩) (Nat.le_refl _) _).setCell (p := ⟨wr.heap.size, 11, none⟩) (Nat.le_refl _) _).setCell (p := ⟨wr.heap.size, 12, none⟩) (Nat.le_refl _) _).setCell (p := ⟨wr.heap.size, 13, none⟩) (Nat.le_refl _) _).setCell (p := ⟨wr.heap.size, 14, none⟩) (Nat.le_refl _) _).setCell (p := ⟨wr.heap.size, 15, none⟩) (Nat.le_refl _) _).setCell (p := ⟨wr.heap.size, 16, none⟩) (Nat.le_refl _) _).setCell (p := ⟨wr.heap.size, 17, none⟩) (Nat.le_refl _) _)
          simp only [hw13]
          clear hw13 s4 sf4 s5 sf5 s6 sf6 s7 sf7 s8 sf8 s9 sf9 s10 sf10 s11 sf11 s12 sf12 s13 sf13 s14 sf14 s15 sf15 s16 sf16 s17 sf17
          have hza : wr.heap.size < w6.heap.size := lt_of_block H6.out
          have hzb : w6.heap.size ≤ w7.heap.size := HB7.out.size
          have hzc : w7.heap.size ≤ w8.heap.size := by have := lt_of_block HX8.out; have := HNP.out; omega
          have hzd : w8.heap.size ≤ w9.heap.size := HB9.out.size
          have hze : w9.heap.size ≤ w10.heap.size := by have := lt_of_block HZ10.out; have := HNV.out; omega
          have hzf : w10.heap.size ≤ w11.heap.size := HB11.out.size
          have hzg : w11.heap.size ≤ w12.heap.size := HB12.out.size
          have hzh : w12.heap.size ≤ wd.heap.size := HD12.out.2.size
          have HW13 : Hid (Below wr.heap.size wr w13) := (((((HB6.out.trans (HB8.out.mono (by omega))).trans (HB10.out.mono (by omega))).trans (HB11.out.mono (by omega))).trans (HB12.out.mono (by omega))).trans (HD12.out.2.mono (by omega))).trans HB13.out
          have HS13 : Hid (StL (From wr.heap.size) w13 (St.res (plL vl) (.mk 1 name slot size place value body els)) [.int .i64 1, .string (strB name), .int .i64 L1, .int .i64 L2, .int .i64 x0, .int .i64 x1, .string x2, .int .i64 x3, .int .i64 x4, .slice X1 X2 X3, .int .i64 z0, .int .i64 z1, .string z2, .int .i64 z3, .int .i64 z4, .slice Z1 Z2 Z3, .slice Ab (St.resL (plL vl) body).length cb, .slice Ae (St.resL (plL vl) els).length ce]) := by
            have hres : St.res (plL vl) (.mk 1 name slot size place value body els) = .mk 1 name L1 L2 (place.res (plL vl)) (value.res (plL vl)) (St.resL (plL vl) body) (St.resL (plL vl) els) := HRES.out
            rw [hres]
            simp only [StL]
            refine ⟨[.int .i64 x0, .int .i64 x1, .string x2, .int .i64 x3, .int .i64 x4, .slice X1 X2 X3], [.int .i64 z0, .int .i64 z1, .string z2, .int .i64 z3, .int .i64 z4, .slice Z1 Z2 Z3], Ab, cb, Ae, ce, rfl, ?_, ?_, HLB.out, HLE.out, fun hne => ?_, fun hne => ?_⟩
            · exact ExL.still (fun k (h1 : w6.heap.size ≤ k) h2 => ⟨show wr.heap.size ≤ k by omega, (HK13.out k (by omega)).trans ((HD12.out.2.block k (by omega)).trans ((HB12.out.block k (by omega)).trans ((HB11.out.block k (by omega)).trans ((HB10.out.block k (by omega)).trans (E87.out k h2)))))⟩) _ _ HLP.out
            · exact ExL.still (fun k (h1 : w8.heap.size ≤ k) h2 => ⟨show wr.heap.size ≤ k by omega, (HK13.out k (by omega)).trans ((HD12.out.2.block k (by omega)).trans ((HB12.out.block k (by omega)).trans ((HB11.out.block k (by omega)).trans (E109.out k h2))))⟩) _ _ HLV.out
            · obtain ⟨b, o, hA, hS, hr⟩ := HRB.out hne
              exact ⟨b, o, hA, show wr.heap.size ≤ b from Nat.le_trans (by omega) (show w10.heap.size ≤ b from hS), StRow.still (fun k (h1 : w10.heap.size ≤ k) h2 => ⟨show wr.heap.size ≤ k by omega, (HK13.out k (by omega)).trans ((HD12.out.2.block k (by omega)).trans (HB12.out.block k h2))⟩) _ b o hS hr⟩
            · obtain ⟨b, o, hA, hS, hr⟩ := HRE.out hne
              exact ⟨b, o, hA, show wr.heap.size ≤ b from Nat.le_trans (by omega) (show w11.heap.size ≤ b from hS), StRow.still (fun k (h1 : w11.heap.size ≤ k) h2 => ⟨show wr.heap.size ≤ k by omega, (HK13.out k (by omega)).trans (HD12.out.2.block k h2)⟩) _ b o hS hr⟩
          clear hza hzb hzc hzd hze hzf hzg hzh hnp hnv
          go_wp2_with (first
            | (refine wpList_load_row rfl 94 _ rfl wr.heap.size rfl 94 _ (0, 0) _ H13.out Tryd.underlying94 rfl (by kernel_rfl) ?_)
            | (at_builtin; refine wpList_append_own_at _ rfl _ _ 27 rfl w.heap.size 94 i0 _ 18 232 Tryd.underlying27 HI.out HI0.out HI1.out HI2.out rfl (by decide) _ _ _ rfl ((own_bel HH.out.o HW13.out).alloc _) ⟨w13.heap.size, 0, none⟩ 1 1 [.int .i64 1, .string (strB name), .int .i64 L1, .int .i64 L2, .int .i64 x0, .int .i64 x1, .string x2, .int .i64 x3, .int .i64 x4, .slice X1 X2 X3, .int .i64 z0, .int .i64 z1, .string z2, .int .i64 z3, .int .i64 z4, .slice Z1 Z2 Z3, .slice Ab (St.resL (plL vl) body).length cb, .slice Ae (St.resL (plL vl) els).length ce] rfl rfl (ex_new _ _ _) (by simp [Value.oneCell']) (by rw [HLN.out]; unfold maxLen; omega) (by rw [HLN.out]; omega) (by rw [new_size]; have := HW13.out.size; omega) ?_))
          intro va wa hown hgrow _ hobl
          have HN := Lib.hid (RyHead.next HH.out HE1.out HW13.out HS13.out hown hgrow hobl)
          clear hown hgrow hobl
          cases b1 with
          | false =>
            go_wp2_with fail
            go_roundg g
            case rel => exact ⟨k + 1, _, _, by have := HG.out; omega, by go_num, rfl, HKO.out.symm.trans (by simp), HN⟩
            case measure => omega
          | true =>
            cases b2 with
            | false =>
              go_wp2_with fail
              go_roundg g
              case rel => exact ⟨k + 1, _, _, by have := HG.out; omega, by go_num, rfl, HKO.out.symm.trans (by simp), HN⟩
              case measure => omega
            | true =>
              cases b3 with
              | false =>
                go_wp2_with fail
                go_roundg g
                case rel => exact ⟨k + 1, _, _, by have := HG.out; omega, by go_num, rfl, HKO.out.symm.trans (by simp), HN⟩
                case measure => omega
              | true =>
                cases b4 with
                | false =>
                  go_wp2_with fail
                  go_roundg g
                  case rel => exact ⟨k + 1, _, _, by have := HG.out; omega, by go_num, rfl, HKO.out.symm.trans (by simp), HN⟩
                  case measure => omega
                | true =>
                  go_wp2_with fail
                  go_roundg g
                  case rel => exact ⟨k + 1, _, _, by have := HG.out; omega, by go_num, rfl, HKO.out.symm.trans (by simp), HN⟩
                  case measure => omega

      · have HRES : Hid (St.res (plL vl) (.mk 2 name slot size place value body els) = .mk 2 name L1 L2 (place.res (plL vl)) (value.res (plL vl)) (St.resL (plL vl) body) (St.resL (plL vl) els)) := by show _ = _; simp [St.res, HPL.out]
        have hdd : decide (0 < L2) = true := by simp; omega
        have HSH : Hid (St.shpL (zL vl) (ls.take (k + 1)) = (okk && (true && (b1 && (b2 && (b3 && b4)))))) := by
          show _ = _
          rw [HTK.out, ← HOK.out, hdd]
          simp
        clear hdd
        have q1 : w5.cell? ⟨wr.heap.size, 1, none⟩ = some (.string (strB name)) := by rw [Lib.cell_of_heap H5.out]; rfl
        clear HTK
        go_wp2_with fail
        refine (CL.out _ (HB.out.trans (HB5.out.mono hz0))).mono ?_
        rintro e wf ⟨rfl, hb⟩
        have HBf := Lib.hid hb
        have Hf := Lib.hid (below_blk hb H5.out)
        have hnf := lt_of_block Hf.out
        have r0 : wf.cell? ⟨wr.heap.size, 0, none⟩ = some (.int .i64 2) := by rw [Lib.cell_of_heap Hf.out]; rfl
        have r2 : wf.cell? ⟨wr.heap.size, 2, none⟩ = some (.int .i64 slot) := by rw [Lib.cell_of_heap Hf.out]; rfl
        have r3 : wf.cell? ⟨wr.heap.size, 3, none⟩ = some (.int .i64 size) := by rw [Lib.cell_of_heap Hf.out]; rfl
        have rf2 : wf.frozen? ⟨wr.heap.size, 2, none⟩ = false := Lib.frozen_of_heap Hf.out 2
        have rf3 : wf.frozen? ⟨wr.heap.size, 3, none⟩ = false := Lib.frozen_of_heap Hf.out 3
        clear hb q1 q0
        cases okk
        all_goals
          go_upto_region 11 with fail
          obtain ⟨w6, hw6⟩ : ∃ x, (wf.setCell ⟨wr.heap.size, 2, none⟩ (.int .i64 L1)).setCell ⟨wr.heap.size, 3, none⟩ (.int .i64 L2) = x := ⟨_, rfl⟩
          have H6 : Hid (w6.heap[wr.heap.size]? = some (.cells #[.int .i64 2, .string (strB name), .int .i64 L1, .int .i64 L2, .int .i64 p0, .int .i64 p1, .string p2, .int .i64 p3, .int .i64 p4, .slice P1 P2 P3, .int .i64 v0, .int .i64 v1, .string v2, .int .i64 v3, .int .i64 v4, .slice V1 V2 V3, .slice A3 body.length c3, .slice A4 els.length c4] 94 (0, 0))) := by
            rw [← hw6]
            have h' := blk_set (blk_set Hf.out 2 (.int .i64 L1)) 3 (.int .i64 L2)
            simp only [stCells, List.cons_append, List.nil_append, List.setIfInBounds_toArray, List.set_cons_zero, List.set_cons_succ] at h'
            exact h'
          have HB6 : Hid (Below wr.heap.size wr w6) := by
            rw [← hw6]
            have h1 := HB5.out.trans (HBf.out.mono HB5.out.size)
            exact (h1.setCell (p := ⟨wr.heap.size, 2, none⟩) (Nat.le_refl _) _).setCell (p := ⟨wr.heap.size, 3, none⟩) (Nat.le_refl _) _
          simp only [hw6]
          clear hw6 r0 r2 r3 rf2 rf3 hnf
        rotate_left 0
        · skip
          have HKO := HSH
          have s4 : w6.cell? ⟨wr.heap.size, 4, none⟩ = some (.int .i64 p0) := by rw [Lib.cell_of_heap H6.out]; rfl
          have s5 : w6.cell? ⟨wr.heap.size, 5, none⟩ = some (.int .i64 p1) := by rw [Lib.cell_of_heap H6.out]; rfl
          have s6 : w6.cell? ⟨wr.heap.size, 6, none⟩ = some (.string p2) := by rw [Lib.cell_of_heap H6.out]; rfl
          have s7 : w6.cell? ⟨wr.heap.size, 7, none⟩ = some (.int .i64 p3) := by rw [Lib.cell_of_heap H6.out]; rfl
          have s8 : w6.cell? ⟨wr.heap.size, 8, none⟩ = some (.int .i64 p4) := by rw [Lib.cell_of_heap H6.out]; rfl
          have s9 : w6.cell? ⟨wr.heap.size, 9, none⟩ = some (.slice P1 P2 P3) := by rw [Lib.cell_of_heap H6.out]; rfl
          have HW6 : Hid (Below w.heap.size w w6) := HB.out.trans (HB6.out.mono hz0)
          go_wp2_with fail
          refine (CP.out _ HW6.out).mono ?_
          rintro e w7 ⟨y7, rfl, ⟨x0, x1, x2, x3, x4, X1, X2, X3, rfl, hl⟩, hb⟩
          have HLP := Lib.hid hl
          have H7 := Lib.hid (below_blk hb H6.out)
          have HB7 := Lib.hid hb
          clear hb hl s4 s5 s6 s7 s8 s9
          go_upto_region 12 with fail
          obtain ⟨w8, hw8⟩ : ∃ x, w7.alloc (.cells #[.int .i64 x0, .int .i64 x1, .string x2, .int .i64 x3, .int .i64 x4, .slice X1 X2 X3] 92) = x := ⟨_, rfl⟩
          have hb78 : Below w7.heap.size w7 w8 := by rw [← hw8]; exact (Below.refl _ _).alloc (Nat.le_refl _) _
          have E87 : Hid (∀ k, k < w7.heap.size → w8.heap[k]? = w7.heap[k]?) := fun k hk => hb78.block k hk
          have HX8 : Hid (w8.heap[w7.heap.size]? = some (.cells #[.int .i64 x0, .int .i64 x1, .string x2, .int .i64 x3, .int .i64 x4, .slice X1 X2 X3] 92 (0, 0))) := by rw [← hw8]; exact new_blk w7 _
          obtain ⟨np, hnp⟩ : ∃ x, w7.heap.size = x := ⟨_, rfl⟩
          have HNP := Lib.hid hnp
          rw [hnp] at HX8
          simp only [hw8, hnp]
          clear hw8 hnp
          have H8 := Lib.hid (below_blk hb78 H7.out)
          have HB8 := Lib.hid (HB7.out.trans (hb78.mono HB7.out.size))
          have HW8 : Hid (Below w.heap.size w w8) := HW6.out.trans (HB8.out.mono HW6.out.size)
          clear hb78
          have s10 : w8.cell? ⟨wr.heap.size, 10, none⟩ = some (.int .i64 v0) := by rw [Lib.cell_of_heap H8.out]; rfl
          have s11 : w8.cell? ⟨wr.heap.size, 11, none⟩ = some (.int .i64 v1) := by rw [Lib.cell_of_heap H8.out]; rfl
          have s12 : w8.cell? ⟨wr.heap.size, 12, none⟩ = some (.string v2) := by rw [Lib.cell_of_heap H8.out]; rfl
          have s13 : w8.cell? ⟨wr.heap.size, 13, none⟩ = some (.int .i64 v3) := by rw [Lib.cell_of_heap H8.out]; rfl
          have s14 : w8.cell? ⟨wr.heap.size, 14, none⟩ = some (.int .i64 v4) := by rw [Lib.cell_of_heap H8.out]; rfl
          have s15 : w8.cell? ⟨wr.heap.size, 15, none⟩ = some (.slice V1 V2 V3) := by rw [Lib.cell_of_heap H8.out]; rfl
          go_wp2_with fail
          refine (CV.out _ HW8.out).mono ?_
          rintro e w9 ⟨y9, rfl, ⟨z0, z1, z2, z3, z4, Z1, Z2, Z3, rfl, hl⟩, hb⟩
          have HLV := Lib.hid hl
          have H9 := Lib.hid (below_blk hb H8.out)
          have HX9 := Lib.hid (below_blk hb HX8.out)
          have HB9 := Lib.hid hb
          clear hb hl s10 s11 s12 s13 s14 s15
          go_upto_region 13 with fail
          obtain ⟨w10, hw10⟩ : ∃ x, w9.alloc (.cells #[.int .i64 z0, .int .i64 z1, .string z2, .int .i64 z3, .int .i64 z4, .slice Z1 Z2 Z3] 92) = x := ⟨_, rfl⟩
          have hb910 : Below w9.heap.size w9 w10 := by rw [← hw10]; exact (Below.refl _ _).alloc (Nat.le_refl _) _
          have E109 : Hid (∀ k, k < w9.heap.size → w10.heap[k]? = w9.heap[k]?) := fun k hk => hb910.block k hk
          have HZ10 : Hid (w10.heap[w9.heap.size]? = some (.cells #[.int .i64 z0, .int .i64 z1, .string z2, .int .i64 z3, .int .i64 z4, .slice Z1 Z2 Z3] 92 (0, 0))) := by rw [← hw10]; exact new_blk w9 _
          obtain ⟨nv, hnv⟩ : ∃ x, w9.heap.size = x := ⟨_, rfl⟩
          have HNV := Lib.hid hnv
          rw [hnv] at HZ10
          simp only [hw10, hnv]
          clear hw10 hnv
          have H10 := Lib.hid (below_blk hb910 H9.out)
          have HX10 := Lib.hid (below_blk hb910 HX9.out)
          have HB10 := Lib.hid (HB9.out.trans (hb910.mono HB9.out.size))
          have HW10 : Hid (Below w.heap.size w w10) := HW8.out.trans (HB10.out.mono HW8.out.size)
          clear hb910
          have s16 : w10.cell? ⟨wr.heap.size, 16, none⟩ = some (.slice A3 body.length c3) := by rw [Lib.cell_of_heap H10.out]; rfl
          go_wp2_with fail
          refine (CB.out _ HW10.out).mono ?_
          rintro e w11 ⟨y11, rfl, ⟨Ab, cb, rfl, hl, hr⟩, hb⟩
          have HLB := Lib.hid hl
          have HRB := Lib.hid hr
          have H11 := Lib.hid (below_blk hb H10.out)
          have HX11 := Lib.hid (below_blk hb HX10.out)
          have HZ11 := Lib.hid (below_blk hb HZ10.out)
          have HB11 := Lib.hid hb
          have HW11 : Hid (Below w.heap.size w w11) := HW10.out.trans (HB11.out.mono HW10.out.size)
          clear hb hl hr s16
          have s17 : w11.cell? ⟨wr.heap.size, 17, none⟩ = some (.slice A4 els.length c4) := by rw [Lib.cell_of_heap H11.out]; rfl
          go_wp2_with fail
          refine (CE.out _ HW11.out).mono ?_
          rintro e w12 ⟨y12, rfl, ⟨Ae, ce, rfl, hl, hr⟩, hb⟩
          have HLE := Lib.hid hl
          have HRE := Lib.hid hr
          have H12 := Lib.hid (below_blk hb H11.out)
          have HX12 := Lib.hid (below_blk hb HX11.out)
          have HZ12 := Lib.hid (below_blk hb HZ11.out)
          have HB12 := Lib.hid hb
          clear hb hl hr s17
          go_upto_region 15 with fail
          have hnp : np ≠ wr.heap.size := by have := HNP.out; have := HB6.out.size; have := HB7.out.size; have := lt_of_block H6.out; omega
          have hnv : nv ≠ wr.heap.size := by have := HNV.out; have := HB9.out.size; have := HB8.out.size; have := lt_of_block H6.out; omega
          have hS : w12.drew.heap[np]? = some (.cells #[.int .i64 x0, .int .i64 x1, .string x2, .int .i64 x3, .int .i64 x4, .slice X1 X2 X3] 92 (0, 0)) ∧ w12.drew.heap[nv]? = some (.cells #[.int .i64 z0, .int .i64 z1, .string z2, .int .i64 z3, .int .i64 z4, .slice Z1 Z2 Z3] 92 (0, 0)) := ⟨HX12.out, HZ12.out⟩
          obtain ⟨wd, hwd⟩ : ∃ x, w12.drew = x := ⟨_, rfl⟩
          have HD12 : Hid (wd.heap[wr.heap.size]? = some (.cells #[.int .i64 2, .string (strB name), .int .i64 L1, .int .i64 L2, .int .i64 p0, .int .i64 p1, .string p2, .int .i64 p3, .int .i64 p4, .slice P1 P2 P3, .int .i64 v0, .int .i64 v1, .string v2, .int .i64 v3, .int .i64 v4, .slice V1 V2 V3, .slice A3 body.length c3, .slice A4 els.length c4] 94 (0, 0)) ∧ Below w12.heap.size w12 wd) := by rw [← hwd]; exact ⟨H12.out, (Below.refl _ _).drew⟩
          refine wp_region_G [5, 7] (fun w' => w'.heap[np]? = some (.cells #[.int .i64 x0, .int .i64 x1, .string x2, .int .i64 x3, .int .i64 x4, .slice X1 X2 X3] 92 (0, 0)) ∧ w'.heap[nv]? = some (.cells #[.int .i64 z0, .int .i64 z1, .string z2, .int .i64 z3, .int .i64 z4, .slice Z1 Z2 Z3] 92 (0, 0))) (by kernel_rfl) ?_
          rw [hwd] at hS ⊢
          clear hwd
          have hS0 := hS
          refine' wpAnyG_take 5 (i := 0) (v := _) ?hi49 (by kernel_rfl) ?hQ49 (Or.inl ⟨?hw49, ?hy49⟩) hS ?rest49
          case hi49 => (simp only [List.getElem?_toArray, List.getElem?_cons_zero]; rfl)
          case hQ49 => exact fun _ _ _ h => h
          case hw49 => rfl
          case hy49 =>
            rintro w99 ⟨hx99, -⟩
            have d0 : w99.cell? ⟨np, 0, none⟩ = some (.int .i64 x0) := by rw [Lib.cell_of_heap hx99]; rfl
            have d1 : w99.cell? ⟨np, 1, none⟩ = some (.int .i64 x1) := by rw [Lib.cell_of_heap hx99]; rfl
            have d2 : w99.cell? ⟨np, 2, none⟩ = some (.string x2) := by rw [Lib.cell_of_heap hx99]; rfl
            have d3 : w99.cell? ⟨np, 3, none⟩ = some (.int .i64 x3) := by rw [Lib.cell_of_heap hx99]; rfl
            have d4 : w99.cell? ⟨np, 4, none⟩ = some (.int .i64 x4) := by rw [Lib.cell_of_heap hx99]; rfl
            have d5 : w99.cell? ⟨np, 5, none⟩ = some (.slice X1 X2 X3) := by rw [Lib.cell_of_heap hx99]; rfl
            go_simp
            with_reducible rfl
          try simp only [Act.put, List.setIfInBounds_toArray, List.set_cons_zero, List.set_cons_succ]
          refine' wpAnyG_take 7 (i := 1) (v := _) ?hi50 (by kernel_rfl) ?hQ50 (Or.inl ⟨?hw50, ?hy50⟩) hS ?rest50
          case hi50 => (simp only [List.getElem?_toArray, List.getElem?_cons_succ, List.getElem?_cons_zero]; rfl)
          case hQ50 => exact fun _ _ _ h => h
          case hw50 => rfl
          case hy50 =>
            rintro w99 ⟨-, hx99⟩
            have d0 : w99.cell? ⟨nv, 0, none⟩ = some (.int .i64 z0) := by rw [Lib.cell_of_heap hx99]; rfl
            have d1 : w99.cell? ⟨nv, 1, none⟩ = some (.int .i64 z1) := by rw [Lib.cell_of_heap hx99]; rfl
            have d2 : w99.cell? ⟨nv, 2, none⟩ = some (.string z2) := by rw [Lib.cell_of_heap hx99]; rfl
            have d3 : w99.cell? ⟨nv, 3, none⟩ = some (.int .i64 z3) := by rw [Lib.cell_of_heap hx99]; rfl
            have d4 : w99.cell? ⟨nv, 4, none⟩ = some (.int .i64 z4) := by rw [Lib.cell_of_heap hx99]; rfl
            have d5 : w99.cell? ⟨nv, 5, none⟩ = some (.slice Z1 Z2 Z3) := by rw [Lib.cell_of_heap hx99]; rfl
            go_simp
            with_reducible rfl
          try simp only [Act.put, List.setIfInBounds_toArray, List.set_cons_zero, List.set_cons_succ]
          refine' wpAnyG_step (i := 2) (v := _) ?hi51 (by kernel_rfl) ?hQ51 (Or.inl ⟨?hw51, ?hy51⟩) hS ?rest51
          case hi51 => (simp only [List.getElem?_toArray, List.getElem?_cons_succ, List.getElem?_cons_zero]; rfl)
          case hQ51 => exact fun _ _ _ h => h
          case hw51 => rfl
          case hy51 => (intro w99; go_simp; with_reducible rfl)
          try simp only [Act.put, List.setIfInBounds_toArray, List.set_cons_zero, List.set_cons_succ]
          refine' wpAnyG_step (i := 3) (v := _) ?hi52 (by kernel_rfl) ?hQ52 (Or.inl ⟨?hw52, ?hy52⟩) hS ?rest52
          case hi52 => (simp only [List.getElem?_toArray, List.getElem?_cons_succ, List.getElem?_cons_zero]; rfl)
          case hQ52 => exact fun _ _ _ h => h
          case hw52 => rfl
          case hy52 => (intro w99; go_simp; with_reducible rfl)
          try simp only [Act.put, List.setIfInBounds_toArray, List.set_cons_zero, List.set_cons_succ]
          refine' wpAnyG_step (i := 4) (v := _) ?hi53 (by kernel_rfl) ?hQ53 (Or.inl ⟨?hw53, ?hy53⟩) hS ?rest53
          case hi53 => (simp only [List.getElem?_toArray, List.getElem?_cons_succ, List.getElem?_cons_zero]; rfl)
          case hQ53 => exact fun _ _ _ h => h
          case hw53 => rfl
          case hy53 => (intro w99; go_simp; with_reducible rfl)
          try simp only [Act.put, List.setIfInBounds_toArray, List.set_cons_zero, List.set_cons_succ]
          have s4 : wd.cell? ⟨wr.heap.size, 4, none⟩ = some (.int .i64 p0) := by rw [Lib.cell_of_heap HD12.out.1]; rfl
          have sf4 : wd.frozen? ⟨wr.heap.size, 4, none⟩ = false := Lib.frozen_of_heap HD12.out.1 4
          have s5 : wd.cell? ⟨wr.heap.size, 5, none⟩ = some (.int .i64 p1) := by rw [Lib.cell_of_heap HD12.out.1]; rfl
          have sf5 : wd.frozen? ⟨wr.heap.size, 5, none⟩ = false := Lib.frozen_of_heap HD12.out.1 5
          have s6 : wd.cell? ⟨wr.heap.size, 6, none⟩ = some (.string p2) := by rw [Lib.cell_of_heap HD12.out.1]; rfl
          have sf6 : wd.frozen? ⟨wr.heap.size, 6, none⟩ = false := Lib.frozen_of_heap HD12.out.1 6
          have s7 : wd.cell? ⟨wr.heap.size, 7, none⟩ = some (.int .i64 p3) := by rw [Lib.cell_of_heap HD12.out.1]; rfl
          have sf7 : wd.frozen? ⟨wr.heap.size, 7, none⟩ = false := Lib.frozen_of_heap HD12.out.1 7
          have s8 : wd.cell? ⟨wr.heap.size, 8, none⟩ = some (.int .i64 p4) := by rw [Lib.cell_of_heap HD12.out.1]; rfl
          have sf8 : wd.frozen? ⟨wr.heap.size, 8, none⟩ = false := Lib.frozen_of_heap HD12.out.1 8
          have s9 : wd.cell? ⟨wr.heap.size, 9, none⟩ = some (.slice P1 P2 P3) := by rw [Lib.cell_of_heap HD12.out.1]; rfl
          have sf9 : wd.frozen? ⟨wr.heap.size, 9, none⟩ = false := Lib.frozen_of_heap HD12.out.1 9
          have s10 : wd.cell? ⟨wr.heap.size, 10, none⟩ = some (.int .i64 v0) := by rw [Lib.cell_of_heap HD12.out.1]; rfl
          have sf10 : wd.frozen? ⟨wr.heap.size, 10, none⟩ = false := Lib.frozen_of_heap HD12.out.1 10
          have s11 : wd.cell? ⟨wr.heap.size, 11, none⟩ = some (.int .i64 v1) := by rw [Lib.cell_of_heap HD12.out.1]; rfl
          have sf11 : wd.frozen? ⟨wr.heap.size, 11, none⟩ = false := Lib.frozen_of_heap HD12.out.1 11
          have s12 : wd.cell? ⟨wr.heap.size, 12, none⟩ = some (.string v2) := by rw [Lib.cell_of_heap HD12.out.1]; rfl
          have sf12 : wd.frozen? ⟨wr.heap.size, 12, none⟩ = false := Lib.frozen_of_heap HD12.out.1 12
          have s13 : wd.cell? ⟨wr.heap.size, 13, none⟩ = some (.int .i64 v3) := by rw [Lib.cell_of_heap HD12.out.1]; rfl
          have sf13 : wd.frozen? ⟨wr.heap.size, 13, none⟩ = false := Lib.frozen_of_heap HD12.out.1 13
          have s14 : wd.cell? ⟨wr.heap.size, 14, none⟩ = some (.int .i64 v4) := by rw [Lib.cell_of_heap HD12.out.1]; rfl
          have sf14 : wd.frozen? ⟨wr.heap.size, 14, none⟩ = false := Lib.frozen_of_heap HD12.out.1 14
          have s15 : wd.cell? ⟨wr.heap.size, 15, none⟩ = some (.slice V1 V2 V3) := by rw [Lib.cell_of_heap HD12.out.1]; rfl
          have sf15 : wd.frozen? ⟨wr.heap.size, 15, none⟩ = false := Lib.frozen_of_heap HD12.out.1 15
          have s16 : wd.cell? ⟨wr.heap.size, 16, none⟩ = some (.slice A3 body.length c3) := by rw [Lib.cell_of_heap HD12.out.1]; rfl
          have sf16 : wd.frozen? ⟨wr.heap.size, 16, none⟩ = false := Lib.frozen_of_heap HD12.out.1 16
          have s17 : wd.cell? ⟨wr.heap.size, 17, none⟩ = some (.slice A4 els.length c4) := by rw [Lib.cell_of_heap HD12.out.1]; rfl
          have sf17 : wd.frozen? ⟨wr.heap.size, 17, none⟩ = false := Lib.frozen_of_heap HD12.out.1 17
          refine' wpAnyG_one (i := 5) (by kernel_rfl) ?hi54 (fun K hK => ?rest54)
          case hi54 => (simp only [List.getElem?_toArray, List.getElem?_cons_succ, List.getElem?_cons_zero]; rfl)
          go_simp
          refine hK.out _ _ ⟨?_, ?_⟩ (fun hS => ?_)
          · repeat rw [Below.heap_setCell _ _ _ _ (show np ≠ wr.heap.size from hnp)]
            exact hS0.1
          · repeat rw [Below.heap_setCell _ _ _ _ (show nv ≠ wr.heap.size from hnv)]
            exact hS0.2
          clear hK K
          try simp only [Act.put, List.setIfInBounds_toArray, List.set_cons_zero, List.set_cons_succ]
          refine' wpAnyG_one (i := 6) (by kernel_rfl) ?hi55 (fun K hK => ?rest55)
          case hi55 => (simp only [List.getElem?_toArray, List.getElem?_cons_succ, List.getElem?_cons_zero]; rfl)
          go_simp
          refine hK.out _ _ ⟨?_, ?_⟩ (fun hS => ?_)
          · repeat rw [Below.heap_setCell _ _ _ _ (show np ≠ wr.heap.size from hnp)]
            exact hS0.1
          · repeat rw [Below.heap_setCell _ _ _ _ (show nv ≠ wr.heap.size from hnv)]
            exact hS0.2
          clear hK K
          try simp only [Act.put, List.setIfInBounds_toArray, List.set_cons_zero, List.set_cons_succ]
          refine' wpAnyG_one (i := 7) (by kernel_rfl) ?hi56 (fun K hK => ?rest56)
          case hi56 => (simp only [List.getElem?_toArray, List.getElem?_cons_succ, List.getElem?_cons_zero]; rfl)
          go_simp
          refine hK.out _ _ ⟨?_, ?_⟩ (fun hS => ?_)
          · repeat rw [Below.heap_setCell _ _ _ _ (show np ≠ wr.heap.size from hnp)]
            exact hS0.1
          · repeat rw [Below.heap_setCell _ _ _ _ (show nv ≠ wr.heap.size from hnv)]
            exact hS0.2
          clear hK K
          try simp only [Act.put, List.setIfInBounds_toArray, List.set_cons_zero, List.set_cons_succ]
          refine wpAnyG_rel (by kernel_rfl) ?_
          clear hS
          refine' wpAny_one (i := 8) (by kernel_rfl) ?hi57 (fun K hK => ?rest57)
          case hi57 => (simp only [List.getElem?_toArray, List.getElem?_cons_succ, List.getElem?_cons_zero]; rfl)
          go_simp
          refine hK.out _ _ ?_
          clear hK K
          try simp only [Act.put, List.setIfInBounds_toArray, List.set_cons_zero, List.set_cons_succ]
          refine' wpAny_one (i := 9) (by kernel_rfl) ?hi58 (fun K hK => ?rest58)
          case hi58 => (simp only [List.getElem?_toArray, List.getElem?_cons_succ, List.getElem?_cons_zero]; rfl)
          go_simp
          refine hK.out _ _ ?_
          clear hK K
          try simp only [Act.put, List.setIfInBounds_toArray, List.set_cons_zero, List.set_cons_succ]
          refine' wpAny_one (i := 10) (by kernel_rfl) ?hi59 (fun K hK => ?rest59)
          case hi59 => (simp only [List.getElem?_toArray, List.getElem?_cons_succ, List.getElem?_cons_zero]; rfl)
          go_simp
          refine hK.out _ _ ?_
          clear hK K
          try simp only [Act.put, List.setIfInBounds_toArray, List.set_cons_zero, List.set_cons_succ]
          refine' wpAny_one (i := 11) (by kernel_rfl) ?hi60 (fun K hK => ?rest60)
          case hi60 => (simp only [List.getElem?_toArray, List.getElem?_cons_succ, List.getElem?_cons_zero]; rfl)
          go_simp
          refine hK.out _ _ ?_
          clear hK K
          try simp only [Act.put, List.setIfInBounds_toArray, List.set_cons_zero, List.set_cons_succ]
          refine wpAny_done (by kernel_rfl) ?_ _
          obtain ⟨w13, hw13⟩ : ∃ x, ((((((((((((((wd.setCell ⟨wr.heap.size, 4, none⟩ (.int .i64 x0)).setCell ⟨wr.heap.size, 5, none⟩ (.int .i64 x1)).setCell ⟨wr.heap.size, 6, none⟩ (.string x2)).setCell ⟨wr.heap.size, 7, none⟩ (.int .i64 x3)).setCell ⟨wr.heap.size, 8, none⟩ (.int .i64 x4)).setCell ⟨wr.heap.size, 9, none⟩ (.slice X1 X2 X3)).setCell ⟨wr.heap.size, 10, none⟩ (.int .i64 z0)).setCell ⟨wr.heap.size, 11, none⟩ (.int .i64 z1)).setCell ⟨wr.heap.size, 12, none⟩ (.string z2)).setCell ⟨wr.heap.size, 13, none⟩ (.int .i64 z3)).setCell ⟨wr.heap.size, 14, none⟩ (.int .i64 z4)).setCell ⟨wr.heap.size, 15, none⟩ (.slice Z1 Z2 Z3)).setCell ⟨wr.heap.size, 16, none⟩ (.slice Ab (St.resL (plL vl) body).length cb)).setCell ⟨wr.heap.size, 17, none⟩ (.slice Ae (St.resL (plL vl) els).length ce)) = x := ⟨_, rfl⟩
          have H13 : Hid (w13.heap[wr.heap.size]? = some (.cells #[.int .i64 2, .string (strB name), .int .i64 L1, .int .i64 L2, .int .i64 x0, .int .i64 x1, .string x2, .int .i64 x3, .int .i64 x4, .slice X1 X2 X3, .int .i64 z0, .int .i64 z1, .string z2, .int .i64 z3, .int .i64 z4, .slice Z1 Z2 Z3, .slice Ab (St.resL (plL vl) body).length cb, .slice Ae (St.resL (plL vl) els).length ce] 94 (0, 0))) := by
            have h' := (blk_set (blk_set (blk_set (blk_set (blk_set (blk_set (blk_set (blk_set (blk_set (blk_set (blk_set (blk_set (blk_set (blk_set HD12.out.1 4 (.int .i64 x0)) 5 (.int .i64 x1)) 6 (.string x2)) 7 (.int .i64 x3)) 8 (.int .i64 x4)) 9 (.slice X1 X2 X3)) 10 (.int .i64 z0)) 11 (.int .i64 z1)) 12 (.string z2)) 13 (.int .i64 z3)) 14 (.int .i64 z4)) 15 (.slice Z1 Z2 Z3)) 16 (.slice Ab (St.resL (plL vl) body).length cb)) 17 (.slice Ae (St.resL (plL vl) els).length ce))
            rw [hw13] at h'
            simp only [List.setIfInBounds_toArray, List.set_cons_zero, List.set_cons_succ] at h'
            exact h'
          have HK13 : Hid (∀ k, k ≠ wr.heap.size → w13.heap[k]? = wd.heap[k]?) := fun k hk => by
            rw [← hw13]
            iterate 14 rw [Below.heap_setCell _ _ _ _ hk]
          have HB13 : Hid (Below wr.heap.size wd w13) := by rw [← hw13]; exact (((((((((((((((Below.refl _ _).setCell (p := ⟨wr.heap.size, 4, none⟩) (Nat.le_refl _) _).setCell (p := ⟨wr.heap.size, 5, none⟩) (Nat.le_refl _) _).setCell (p := ⟨wr.heap.size, 6, none⟩) (Nat.le_refl _) _).setCell (p := ⟨wr.heap.size, 7, none⟩) (Nat.le_refl _) _).setCell (p := ⟨wr.heap.size, 8, none⟩) (Nat.le_refl _) _).setCell (p := ⟨wr.heap.size, 9, none⟩) (Nat.le_refl _) _).setCell (p := ⟨wr.heap.size, 10, none⟩) (Nat.le_refl _) _).setCell (p := ⟨wr.heap.size, 11, none⟩) (Nat.le_refl _) _).setCell (p := ⟨wr.heap.size, 12, none⟩) (Nat.le_refl _) _).setCell (p := ⟨wr.heap.size, 13, none⟩) (Nat.le_refl _) _).setCell (p := ⟨wr.heap.size, 14, none⟩) (Nat.le_refl _) _).setCell (p := ⟨wr.heap.size, 15, none⟩) (Nat.le_refl _) _).setCell (p := ⟨wr.heap.size, 16, none⟩) (Nat.le_refl _) _).setCell (p := ⟨wr.heap.size, 17, none⟩) (Nat.le_refl _) _)
          simp only [hw13]
          clear hw13 s4 sf4 s5 sf5 s6 sf6 s7 sf7 s8 sf8 s9 sf9 s10 sf10 s11 sf11 s12 sf12 s13 sf13 s14 sf14 s15 sf15 s16 sf16 s17 sf17
          have hza : wr.heap.size < w6.heap.size := lt_of_block H6.out
          have hzb : w6.heap.size ≤ w7.heap.size := HB7.out.size
          have hzc : w7.heap.size ≤ w8.heap.size := by have := lt_of_block HX8.out; have := HNP.out; omega
          have hzd : w8.heap.size ≤ w9.heap.size := HB9.out.size
          have hze : w9.heap.size ≤ w10.heap.size := by have := lt_of_block HZ10.out; have := HNV.out; omega
          have hzf : w10.heap.size ≤ w11.heap.size := HB11.out.size
          have hzg : w11.heap.size ≤ w12.heap.size := HB12.out.size
          have hzh : w12.heap.size ≤ wd.heap.size := HD12.out.2.size
          have HW13 : Hid (Below wr.heap.size wr w13) := (((((HB6.out.trans (HB8.out.mono (by omega))).trans (HB10.out.mono (by omega))).trans (HB11.out.mono (by omega))).trans (HB12.out.mono (by omega))).trans (HD12.out.2.mono (by omega))).trans HB13.out
          have HS13 : Hid (StL (From wr.heap.size) w13 (St.res (plL vl) (.mk 2 name slot size place value body els)) [.int .i64 2, .string (strB name), .int .i64 L1, .int .i64 L2, .int .i64 x0, .int .i64 x1, .string x2, .int .i64 x3, .int .i64 x4, .slice X1 X2 X3, .int .i64 z0, .int .i64 z1, .string z2, .int .i64 z3, .int .i64 z4, .slice Z1 Z2 Z3, .slice Ab (St.resL (plL vl) body).length cb, .slice Ae (St.resL (plL vl) els).length ce]) := by
            have hres : St.res (plL vl) (.mk 2 name slot size place value body els) = .mk 2 name L1 L2 (place.res (plL vl)) (value.res (plL vl)) (St.resL (plL vl) body) (St.resL (plL vl) els) := HRES.out
            rw [hres]
            simp only [StL]
            refine ⟨[.int .i64 x0, .int .i64 x1, .string x2, .int .i64 x3, .int .i64 x4, .slice X1 X2 X3], [.int .i64 z0, .int .i64 z1, .string z2, .int .i64 z3, .int .i64 z4, .slice Z1 Z2 Z3], Ab, cb, Ae, ce, rfl, ?_, ?_, HLB.out, HLE.out, fun hne => ?_, fun hne => ?_⟩
            · exact ExL.still (fun k (h1 : w6.heap.size ≤ k) h2 => ⟨show wr.heap.size ≤ k by omega, (HK13.out k (by omega)).trans ((HD12.out.2.block k (by omega)).trans ((HB12.out.block k (by omega)).trans ((HB11.out.block k (by omega)).trans ((HB10.out.block k (by omega)).trans (E87.out k h2)))))⟩) _ _ HLP.out
            · exact ExL.still (fun k (h1 : w8.heap.size ≤ k) h2 => ⟨show wr.heap.size ≤ k by omega, (HK13.out k (by omega)).trans ((HD12.out.2.block k (by omega)).trans ((HB12.out.block k (by omega)).trans ((HB11.out.block k (by omega)).trans (E109.out k h2))))⟩) _ _ HLV.out
            · obtain ⟨b, o, hA, hS, hr⟩ := HRB.out hne
              exact ⟨b, o, hA, show wr.heap.size ≤ b from Nat.le_trans (by omega) (show w10.heap.size ≤ b from hS), StRow.still (fun k (h1 : w10.heap.size ≤ k) h2 => ⟨show wr.heap.size ≤ k by omega, (HK13.out k (by omega)).trans ((HD12.out.2.block k (by omega)).trans (HB12.out.block k h2))⟩) _ b o hS hr⟩
            · obtain ⟨b, o, hA, hS, hr⟩ := HRE.out hne
              exact ⟨b, o, hA, show wr.heap.size ≤ b from Nat.le_trans (by omega) (show w11.heap.size ≤ b from hS), StRow.still (fun k (h1 : w11.heap.size ≤ k) h2 => ⟨show wr.heap.size ≤ k by omega, (HK13.out k (by omega)).trans (HD12.out.2.block k h2)⟩) _ b o hS hr⟩
          clear hza hzb hzc hzd hze hzf hzg hzh hnp hnv
          go_wp2_with (first
            | (refine wpList_load_row rfl 94 _ rfl wr.heap.size rfl 94 _ (0, 0) _ H13.out Tryd.underlying94 rfl (by kernel_rfl) ?_)
            | (at_builtin; refine wpList_append_own_at _ rfl _ _ 27 rfl w.heap.size 94 i0 _ 18 232 Tryd.underlying27 HI.out HI0.out HI1.out HI2.out rfl (by decide) _ _ _ rfl ((own_bel HH.out.o HW13.out).alloc _) ⟨w13.heap.size, 0, none⟩ 1 1 [.int .i64 2, .string (strB name), .int .i64 L1, .int .i64 L2, .int .i64 x0, .int .i64 x1, .string x2, .int .i64 x3, .int .i64 x4, .slice X1 X2 X3, .int .i64 z0, .int .i64 z1, .string z2, .int .i64 z3, .int .i64 z4, .slice Z1 Z2 Z3, .slice Ab (St.resL (plL vl) body).length cb, .slice Ae (St.resL (plL vl) els).length ce] rfl rfl (ex_new _ _ _) (by simp [Value.oneCell']) (by rw [HLN.out]; unfold maxLen; omega) (by rw [HLN.out]; omega) (by rw [new_size]; have := HW13.out.size; omega) ?_))
          intro va wa hown hgrow _ hobl
          have HN := Lib.hid (RyHead.next HH.out HE1.out HW13.out HS13.out hown hgrow hobl)
          clear hown hgrow hobl
          go_wp2_with fail
          go_roundg g
          case rel => exact ⟨k + 1, _, _, by have := HG.out; omega, by go_num, rfl, HKO.out.symm.trans (by simp), HN⟩
          case measure => omega
        · skip
          have HKO := HSH
          have s4 : w6.cell? ⟨wr.heap.size, 4, none⟩ = some (.int .i64 p0) := by rw [Lib.cell_of_heap H6.out]; rfl
          have s5 : w6.cell? ⟨wr.heap.size, 5, none⟩ = some (.int .i64 p1) := by rw [Lib.cell_of_heap H6.out]; rfl
          have s6 : w6.cell? ⟨wr.heap.size, 6, none⟩ = some (.string p2) := by rw [Lib.cell_of_heap H6.out]; rfl
          have s7 : w6.cell? ⟨wr.heap.size, 7, none⟩ = some (.int .i64 p3) := by rw [Lib.cell_of_heap H6.out]; rfl
          have s8 : w6.cell? ⟨wr.heap.size, 8, none⟩ = some (.int .i64 p4) := by rw [Lib.cell_of_heap H6.out]; rfl
          have s9 : w6.cell? ⟨wr.heap.size, 9, none⟩ = some (.slice P1 P2 P3) := by rw [Lib.cell_of_heap H6.out]; rfl
          have HW6 : Hid (Below w.heap.size w w6) := HB.out.trans (HB6.out.mono hz0)
          go_wp2_with fail
          refine (CP.out _ HW6.out).mono ?_
          rintro e w7 ⟨y7, rfl, ⟨x0, x1, x2, x3, x4, X1, X2, X3, rfl, hl⟩, hb⟩
          have HLP := Lib.hid hl
          have H7 := Lib.hid (below_blk hb H6.out)
          have HB7 := Lib.hid hb
          clear hb hl s4 s5 s6 s7 s8 s9
          go_upto_region 12 with fail
          obtain ⟨w8, hw8⟩ : ∃ x, w7.alloc (.cells #[.int .i64 x0, .int .i64 x1, .string x2, .int .i64 x3, .int .i64 x4, .slice X1 X2 X3] 92) = x := ⟨_, rfl⟩
          have hb78 : Below w7.heap.size w7 w8 := by rw [← hw8]; exact (Below.refl _ _).alloc (Nat.le_refl _) _
          have E87 : Hid (∀ k, k < w7.heap.size → w8.heap[k]? = w7.heap[k]?) := fun k hk => hb78.block k hk
          have HX8 : Hid (w8.heap[w7.heap.size]? = some (.cells #[.int .i64 x0, .int .i64 x1, .string x2, .int .i64 x3, .int .i64 x4, .slice X1 X2 X3] 92 (0, 0))) := by rw [← hw8]; exact new_blk w7 _
          obtain ⟨np, hnp⟩ : ∃ x, w7.heap.size = x := ⟨_, rfl⟩
          have HNP := Lib.hid hnp
          rw [hnp] at HX8
          simp only [hw8, hnp]
          clear hw8 hnp
          have H8 := Lib.hid (below_blk hb78 H7.out)
          have HB8 := Lib.hid (HB7.out.trans (hb78.mono HB7.out.size))
          have HW8 : Hid (Below w.heap.size w w8) := HW6.out.trans (HB8.out.mono HW6.out.size)
          clear hb78
          have s10 : w8.cell? ⟨wr.heap.size, 10, none⟩ = some (.int .i64 v0) := by rw [Lib.cell_of_heap H8.out]; rfl
          have s11 : w8.cell? ⟨wr.heap.size, 11, none⟩ = some (.int .i64 v1) := by rw [Lib.cell_of_heap H8.out]; rfl
          have s12 : w8.cell? ⟨wr.heap.size, 12, none⟩ = some (.string v2) := by rw [Lib.cell_of_heap H8.out]; rfl
          have s13 : w8.cell? ⟨wr.heap.size, 13, none⟩ = some (.int .i64 v3) := by rw [Lib.cell_of_heap H8.out]; rfl
          have s14 : w8.cell? ⟨wr.heap.size, 14, none⟩ = some (.int .i64 v4) := by rw [Lib.cell_of_heap H8.out]; rfl
          have s15 : w8.cell? ⟨wr.heap.size, 15, none⟩ = some (.slice V1 V2 V3) := by rw [Lib.cell_of_heap H8.out]; rfl
          go_wp2_with fail
          refine (CV.out _ HW8.out).mono ?_
          rintro e w9 ⟨y9, rfl, ⟨z0, z1, z2, z3, z4, Z1, Z2, Z3, rfl, hl⟩, hb⟩
          have HLV := Lib.hid hl
          have H9 := Lib.hid (below_blk hb H8.out)
          have HX9 := Lib.hid (below_blk hb HX8.out)
          have HB9 := Lib.hid hb
          clear hb hl s10 s11 s12 s13 s14 s15
          go_upto_region 13 with fail
          obtain ⟨w10, hw10⟩ : ∃ x, w9.alloc (.cells #[.int .i64 z0, .int .i64 z1, .string z2, .int .i64 z3, .int .i64 z4, .slice Z1 Z2 Z3] 92) = x := ⟨_, rfl⟩
          have hb910 : Below w9.heap.size w9 w10 := by rw [← hw10]; exact (Below.refl _ _).alloc (Nat.le_refl _) _
          have E109 : Hid (∀ k, k < w9.heap.size → w10.heap[k]? = w9.heap[k]?) := fun k hk => hb910.block k hk
          have HZ10 : Hid (w10.heap[w9.heap.size]? = some (.cells #[.int .i64 z0, .int .i64 z1, .string z2, .int .i64 z3, .int .i64 z4, .slice Z1 Z2 Z3] 92 (0, 0))) := by rw [← hw10]; exact new_blk w9 _
          obtain ⟨nv, hnv⟩ : ∃ x, w9.heap.size = x := ⟨_, rfl⟩
          have HNV := Lib.hid hnv
          rw [hnv] at HZ10
          simp only [hw10, hnv]
          clear hw10 hnv
          have H10 := Lib.hid (below_blk hb910 H9.out)
          have HX10 := Lib.hid (below_blk hb910 HX9.out)
          have HB10 := Lib.hid (HB9.out.trans (hb910.mono HB9.out.size))
          have HW10 : Hid (Below w.heap.size w w10) := HW8.out.trans (HB10.out.mono HW8.out.size)
          clear hb910
          have s16 : w10.cell? ⟨wr.heap.size, 16, none⟩ = some (.slice A3 body.length c3) := by rw [Lib.cell_of_heap H10.out]; rfl
          go_wp2_with fail
          refine (CB.out _ HW10.out).mono ?_
          rintro e w11 ⟨y11, rfl, ⟨Ab, cb, rfl, hl, hr⟩, hb⟩
          have HLB := Lib.hid hl
          have HRB := Lib.hid hr
          have H11 := Lib.hid (below_blk hb H10.out)
          have HX11 := Lib.hid (below_blk hb HX10.out)
          have HZ11 := Lib.hid (below_blk hb HZ10.out)
          have HB11 := Lib.hid hb
          have HW11 : Hid (Below w.heap.size w w11) := HW10.out.trans (HB11.out.mono HW10.out.size)
          clear hb hl hr s16
          have s17 : w11.cell? ⟨wr.heap.size, 17, none⟩ = some (.slice A4 els.length c4) := by rw [Lib.cell_of_heap H11.out]; rfl
          go_wp2_with fail
          refine (CE.out _ HW11.out).mono ?_
          rintro e w12 ⟨y12, rfl, ⟨Ae, ce, rfl, hl, hr⟩, hb⟩
          have HLE := Lib.hid hl
          have HRE := Lib.hid hr
          have H12 := Lib.hid (below_blk hb H11.out)
          have HX12 := Lib.hid (below_blk hb HX11.out)
          have HZ12 := Lib.hid (below_blk hb HZ11.out)
          have HB12 := Lib.hid hb
          clear hb hl hr s17
          go_upto_region 15 with fail
          have hnp : np ≠ wr.heap.size := by have := HNP.out; have := HB6.out.size; have := HB7.out.size; have := lt_of_block H6.out; omega
          have hnv : nv ≠ wr.heap.size := by have := HNV.out; have := HB9.out.size; have := HB8.out.size; have := lt_of_block H6.out; omega
          have hS : w12.drew.heap[np]? = some (.cells #[.int .i64 x0, .int .i64 x1, .string x2, .int .i64 x3, .int .i64 x4, .slice X1 X2 X3] 92 (0, 0)) ∧ w12.drew.heap[nv]? = some (.cells #[.int .i64 z0, .int .i64 z1, .string z2, .int .i64 z3, .int .i64 z4, .slice Z1 Z2 Z3] 92 (0, 0)) := ⟨HX12.out, HZ12.out⟩
          obtain ⟨wd, hwd⟩ : ∃ x, w12.drew = x := ⟨_, rfl⟩
          have HD12 : Hid (wd.heap[wr.heap.size]? = some (.cells #[.int .i64 2, .string (strB name), .int .i64 L1, .int .i64 L2, .int .i64 p0, .int .i64 p1, .string p2, .int .i64 p3, .int .i64 p4, .slice P1 P2 P3, .int .i64 v0, .int .i64 v1, .string v2, .int .i64 v3, .int .i64 v4, .slice V1 V2 V3, .slice A3 body.length c3, .slice A4 els.length c4] 94 (0, 0)) ∧ Below w12.heap.size w12 wd) := by rw [← hwd]; exact ⟨H12.out, (Below.refl _ _).drew⟩
          refine wp_region_G [5, 7] (fun w' => w'.heap[np]? = some (.cells #[.int .i64 x0, .int .i64 x1, .string x2, .int .i64 x3, .int .i64 x4, .slice X1 X2 X3] 92 (0, 0)) ∧ w'.heap[nv]? = some (.cells #[.int .i64 z0, .int .i64 z1, .string z2, .int .i64 z3, .int .i64 z4, .slice Z1 Z2 Z3] 92 (0, 0))) (by kernel_rfl) ?_
          rw [hwd] at hS ⊢
          clear hwd
          have hS0 := hS
          refine' wpAnyG_take 5 (i := 0) (v := _) ?hi61 (by kernel_rfl) ?hQ61 (Or.inl ⟨?hw61, ?hy61⟩) hS ?rest61
          case hi61 => (simp only [List.getElem?_toArray, List.getElem?_cons_zero]; rfl)
          case hQ61 => exact fun _ _ _ h => h
          case hw61 => rfl
          case hy61 =>
            rintro w99 ⟨hx99, -⟩
            have d0 : w99.cell? ⟨np, 0, none⟩ = some (.int .i64 x0) := by rw [Lib.cell_of_heap hx99]; rfl
            have d1 : w99.cell? ⟨np, 1, none⟩ = some (.int .i64 x1) := by rw [Lib.cell_of_heap hx99]; rfl
            have d2 : w99.cell? ⟨np, 2, none⟩ = some (.string x2) := by rw [Lib.cell_of_heap hx99]; rfl
            have d3 : w99.cell? ⟨np, 3, none⟩ = some (.int .i64 x3) := by rw [Lib.cell_of_heap hx99]; rfl
            have d4 : w99.cell? ⟨np, 4, none⟩ = some (.int .i64 x4) := by rw [Lib.cell_of_heap hx99]; rfl
            have d5 : w99.cell? ⟨np, 5, none⟩ = some (.slice X1 X2 X3) := by rw [Lib.cell_of_heap hx99]; rfl
            go_simp
            with_reducible rfl
          try simp only [Act.put, List.setIfInBounds_toArray, List.set_cons_zero, List.set_cons_succ]
          refine' wpAnyG_take 7 (i := 1) (v := _) ?hi62 (by kernel_rfl) ?hQ62 (Or.inl ⟨?hw62, ?hy62⟩) hS ?rest62
          case hi62 => (simp only [List.getElem?_toArray, List.getElem?_cons_succ, List.getElem?_cons_zero]; rfl)
          case hQ62 => exact fun _ _ _ h => h
          case hw62 => rfl
          case hy62 =>
            rintro w99 ⟨-, hx99⟩
            have d0 : w99.cell? ⟨nv, 0, none⟩ = some (.int .i64 z0) := by rw [Lib.cell_of_heap hx99]; rfl
            have d1 : w99.cell? ⟨nv, 1, none⟩ = some (.int .i64 z1) := by rw [Lib.cell_of_heap hx99]; rfl
            have d2 : w99.cell? ⟨nv, 2, none⟩ = some (.string z2) := by rw [Lib.cell_of_heap hx99]; rfl
            have d3 : w99.cell? ⟨nv, 3, none⟩ = some (.int .i64 z3) := by rw [Lib.cell_of_heap hx99]; rfl
            have d4 : w99.cell? ⟨nv, 4, none⟩ = some (.int .i64 z4) := by rw [Lib.cell_of_heap hx99]; rfl
            have d5 : w99.cell? ⟨nv, 5, none⟩ = some (.slice Z1 Z2 Z3) := by rw [Lib.cell_of_heap hx99]; rfl
            go_simp
            with_reducible rfl
          try simp only [Act.put, List.setIfInBounds_toArray, List.set_cons_zero, List.set_cons_succ]
          refine' wpAnyG_step (i := 2) (v := _) ?hi63 (by kernel_rfl) ?hQ63 (Or.inl ⟨?hw63, ?hy63⟩) hS ?rest63
          case hi63 => (simp only [List.getElem?_toArray, List.getElem?_cons_succ, List.getElem?_cons_zero]; rfl)
          case hQ63 => exact fun _ _ _ h => h
          case hw63 => rfl
          case hy63 => (intro w99; go_simp; with_reducible rfl)
          try simp only [Act.put, List.setIfInBounds_toArray, List.set_cons_zero, List.set_cons_succ]
          refine' wpAnyG_step (i := 3) (v := _) ?hi64 (by kernel_rfl) ?hQ64 (Or.inl ⟨?hw64, ?hy64⟩) hS ?rest64
          case hi64 => (simp only [List.getElem?_toArray, List.getElem?_cons_succ, List.getElem?_cons_zero]; rfl)
          case hQ64 => exact fun _ _ _ h => h
          case hw64 => rfl
          case hy64 => (intro w99; go_simp; with_reducible rfl)
          try simp only [Act.put, List.setIfInBounds_toArray, List.set_cons_zero, List.set_cons_succ]
          refine' wpAnyG_step (i := 4) (v := _) ?hi65 (by kernel_rfl) ?hQ65 (Or.inl ⟨?hw65, ?hy65⟩) hS ?rest65
          case hi65 => (simp only [List.getElem?_toArray, List.getElem?_cons_succ, List.getElem?_cons_zero]; rfl)
          case hQ65 => exact fun _ _ _ h => h
          case hw65 => rfl
          case hy65 => (intro w99; go_simp; with_reducible rfl)
          try simp only [Act.put, List.setIfInBounds_toArray, List.set_cons_zero, List.set_cons_succ]
          have s4 : wd.cell? ⟨wr.heap.size, 4, none⟩ = some (.int .i64 p0) := by rw [Lib.cell_of_heap HD12.out.1]; rfl
          have sf4 : wd.frozen? ⟨wr.heap.size, 4, none⟩ = false := Lib.frozen_of_heap HD12.out.1 4
          have s5 : wd.cell? ⟨wr.heap.size, 5, none⟩ = some (.int .i64 p1) := by rw [Lib.cell_of_heap HD12.out.1]; rfl
          have sf5 : wd.frozen? ⟨wr.heap.size, 5, none⟩ = false := Lib.frozen_of_heap HD12.out.1 5
          have s6 : wd.cell? ⟨wr.heap.size, 6, none⟩ = some (.string p2) := by rw [Lib.cell_of_heap HD12.out.1]; rfl
          have sf6 : wd.frozen? ⟨wr.heap.size, 6, none⟩ = false := Lib.frozen_of_heap HD12.out.1 6
          have s7 : wd.cell? ⟨wr.heap.size, 7, none⟩ = some (.int .i64 p3) := by rw [Lib.cell_of_heap HD12.out.1]; rfl
          have sf7 : wd.frozen? ⟨wr.heap.size, 7, none⟩ = false := Lib.frozen_of_heap HD12.out.1 7
          have s8 : wd.cell? ⟨wr.heap.size, 8, none⟩ = some (.int .i64 p4) := by rw [Lib.cell_of_heap HD12.out.1]; rfl
          have sf8 : wd.frozen? ⟨wr.heap.size, 8, none⟩ = false := Lib.frozen_of_heap HD12.out.1 8
          have s9 : wd.cell? ⟨wr.heap.size, 9, none⟩ = some (.slice P1 P2 P3) := by rw [Lib.cell_of_heap HD12.out.1]; rfl
          have sf9 : wd.frozen? ⟨wr.heap.size, 9, none⟩ = false := Lib.frozen_of_heap HD12.out.1 9
          have s10 : wd.cell? ⟨wr.heap.size, 10, none⟩ = some (.int .i64 v0) := by rw [Lib.cell_of_heap HD12.out.1]; rfl
          have sf10 : wd.frozen? ⟨wr.heap.size, 10, none⟩ = false := Lib.frozen_of_heap HD12.out.1 10
          have s11 : wd.cell? ⟨wr.heap.size, 11, none⟩ = some (.int .i64 v1) := by rw [Lib.cell_of_heap HD12.out.1]; rfl
          have sf11 : wd.frozen? ⟨wr.heap.size, 11, none⟩ = false := Lib.frozen_of_heap HD12.out.1 11
          have s12 : wd.cell? ⟨wr.heap.size, 12, none⟩ = some (.string v2) := by rw [Lib.cell_of_heap HD12.out.1]; rfl
          have sf12 : wd.frozen? ⟨wr.heap.size, 12, none⟩ = false := Lib.frozen_of_heap HD12.out.1 12
          have s13 : wd.cell? ⟨wr.heap.size, 13, none⟩ = some (.int .i64 v3) := by rw [Lib.cell_of_heap HD12.out.1]; rfl
          have sf13 : wd.frozen? ⟨wr.heap.size, 13, none⟩ = false := Lib.frozen_of_heap HD12.out.1 13
          have s14 : wd.cell? ⟨wr.heap.size, 14, none⟩ = some (.int .i64 v4) := by rw [Lib.cell_of_heap HD12.out.1]; rfl
          have sf14 : wd.frozen? ⟨wr.heap.size, 14, none⟩ = false := Lib.frozen_of_heap HD12.out.1 14
          have s15 : wd.cell? ⟨wr.heap.size, 15, none⟩ = some (.slice V1 V2 V3) := by rw [Lib.cell_of_heap HD12.out.1]; rfl
          have sf15 : wd.frozen? ⟨wr.heap.size, 15, none⟩ = false := Lib.frozen_of_heap HD12.out.1 15
          have s16 : wd.cell? ⟨wr.heap.size, 16, none⟩ = some (.slice A3 body.length c3) := by rw [Lib.cell_of_heap HD12.out.1]; rfl
          have sf16 : wd.frozen? ⟨wr.heap.size, 16, none⟩ = false := Lib.frozen_of_heap HD12.out.1 16
          have s17 : wd.cell? ⟨wr.heap.size, 17, none⟩ = some (.slice A4 els.length c4) := by rw [Lib.cell_of_heap HD12.out.1]; rfl
          have sf17 : wd.frozen? ⟨wr.heap.size, 17, none⟩ = false := Lib.frozen_of_heap HD12.out.1 17
          refine' wpAnyG_one (i := 5) (by kernel_rfl) ?hi66 (fun K hK => ?rest66)
          case hi66 => (simp only [List.getElem?_toArray, List.getElem?_cons_succ, List.getElem?_cons_zero]; rfl)
          go_simp
          refine hK.out _ _ ⟨?_, ?_⟩ (fun hS => ?_)
          · repeat rw [Below.heap_setCell _ _ _ _ (show np ≠ wr.heap.size from hnp)]
            exact hS0.1
          · repeat rw [Below.heap_setCell _ _ _ _ (show nv ≠ wr.heap.size from hnv)]
            exact hS0.2
          clear hK K
          try simp only [Act.put, List.setIfInBounds_toArray, List.set_cons_zero, List.set_cons_succ]
          refine' wpAnyG_one (i := 6) (by kernel_rfl) ?hi67 (fun K hK => ?rest67)
          case hi67 => (simp only [List.getElem?_toArray, List.getElem?_cons_succ, List.getElem?_cons_zero]; rfl)
          go_simp
          refine hK.out _ _ ⟨?_, ?_⟩ (fun hS => ?_)
          · repeat rw [Below.heap_setCell _ _ _ _ (show np ≠ wr.heap.size from hnp)]
            exact hS0.1
          · repeat rw [Below.heap_setCell _ _ _ _ (show nv ≠ wr.heap.size from hnv)]
            exact hS0.2
          clear hK K
          try simp only [Act.put, List.setIfInBounds_toArray, List.set_cons_zero, List.set_cons_succ]
          refine' wpAnyG_one (i := 7) (by kernel_rfl) ?hi68 (fun K hK => ?rest68)
          case hi68 => (simp only [List.getElem?_toArray, List.getElem?_cons_succ, List.getElem?_cons_zero]; rfl)
          go_simp
          refine hK.out _ _ ⟨?_, ?_⟩ (fun hS => ?_)
          · repeat rw [Below.heap_setCell _ _ _ _ (show np ≠ wr.heap.size from hnp)]
            exact hS0.1
          · repeat rw [Below.heap_setCell _ _ _ _ (show nv ≠ wr.heap.size from hnv)]
            exact hS0.2
          clear hK K
          try simp only [Act.put, List.setIfInBounds_toArray, List.set_cons_zero, List.set_cons_succ]
          refine wpAnyG_rel (by kernel_rfl) ?_
          clear hS
          refine' wpAny_one (i := 8) (by kernel_rfl) ?hi69 (fun K hK => ?rest69)
          case hi69 => (simp only [List.getElem?_toArray, List.getElem?_cons_succ, List.getElem?_cons_zero]; rfl)
          go_simp
          refine hK.out _ _ ?_
          clear hK K
          try simp only [Act.put, List.setIfInBounds_toArray, List.set_cons_zero, List.set_cons_succ]
          refine' wpAny_one (i := 9) (by kernel_rfl) ?hi70 (fun K hK => ?rest70)
          case hi70 => (simp only [List.getElem?_toArray, List.getElem?_cons_succ, List.getElem?_cons_zero]; rfl)
          go_simp
          refine hK.out _ _ ?_
          clear hK K
          try simp only [Act.put, List.setIfInBounds_toArray, List.set_cons_zero, List.set_cons_succ]
          refine' wpAny_one (i := 10) (by kernel_rfl) ?hi71 (fun K hK => ?rest71)
          case hi71 => (simp only [List.getElem?_toArray, List.getElem?_cons_succ, List.getElem?_cons_zero]; rfl)
          go_simp
          refine hK.out _ _ ?_
          clear hK K
          try simp only [Act.put, List.setIfInBounds_toArray, List.set_cons_zero, List.set_cons_succ]
          refine' wpAny_one (i := 11) (by kernel_rfl) ?hi72 (fun K hK => ?rest72)
          case hi72 => (simp only [List.getElem?_toArray, List.getElem?_cons_succ, List.getElem?_cons_zero]; rfl)
          go_simp
          refine hK.out _ _ ?_
          clear hK K
          try simp only [Act.put, List.setIfInBounds_toArray, List.set_cons_zero, List.set_cons_succ]
          refine wpAny_done (by kernel_rfl) ?_ _
          obtain ⟨w13, hw13⟩ : ∃ x, ((((((((((((((wd.setCell ⟨wr.heap.size, 4, none⟩ (.int .i64 x0)).setCell ⟨wr.heap.size, 5, none⟩ (.int .i64 x1)).setCell ⟨wr.heap.size, 6, none⟩ (.string x2)).setCell ⟨wr.heap.size, 7, none⟩ (.int .i64 x3)).setCell ⟨wr.heap.size, 8, none⟩ (.int .i64 x4)).setCell ⟨wr.heap.size, 9, none⟩ (.slice X1 X2 X3)).setCell ⟨wr.heap.size, 10, none⟩ (.int .i64 z0)).setCell ⟨wr.heap.size, 11, none⟩ (.int .i64 z1)).setCell ⟨wr.heap.size, 12, none⟩ (.string z2)).setCell ⟨wr.heap.size, 13, none⟩ (.int .i64 z3)).setCell ⟨wr.heap.size, 14, none⟩ (.int .i64 z4)).setCell ⟨wr.heap.size, 15, none⟩ (.slice Z1 Z2 Z3)).setCell ⟨wr.heap.size, 16, none⟩ (.slice Ab (St.resL (plL vl) body).length cb)).setCell ⟨wr.heap.size, 17, none⟩ (.slice Ae (St.resL (plL vl) els).length ce)) = x := ⟨_, rfl⟩
          have H13 : Hid (w13.heap[wr.heap.size]? = some (.cells #[.int .i64 2, .string (strB name), .int .i64 L1, .int .i64 L2, .int .i64 x0, .int .i64 x1, .string x2, .int .i64 x3, .int .i64 x4, .slice X1 X2 X3, .int .i64 z0, .int .i64 z1, .string z2, .int .i64 z3, .int .i64 z4, .slice Z1 Z2 Z3, .slice Ab (St.resL (plL vl) body).length cb, .slice Ae (St.resL (plL vl) els).length ce] 94 (0, 0))) := by
            have h' := (blk_set (blk_set (blk_set (blk_set (blk_set (blk_set (blk_set (blk_set (blk_set (blk_set (blk_set (blk_set (blk_set (blk_set HD12.out.1 4 (.int .i64 x0)) 5 (.int .i64 x1)) 6 (.string x2)) 7 (.int .i64 x3)) 8 (.int .i64 x4)) 9 (.slice X1 X2 X3)) 10 (.int .i64 z0)) 11 (.int .i64 z1)) 12 (.string z2)) 13 (.int .i64 z3)) 14 (.int .i64 z4)) 15 (.slice Z1 Z2 Z3)) 16 (.slice Ab (St.resL (plL vl) body).length cb)) 17 (.slice Ae (St.resL (plL vl) els).length ce))
            rw [hw13] at h'
            simp only [List.setIfInBounds_toArray, List.set_cons_zero, List.set_cons_succ] at h'
            exact h'
          have HK13 : Hid (∀ k, k ≠ wr.heap.size → w13.heap[k]? = wd.heap[k]?) := fun k hk => by
            rw [← hw13]
            iterate 14 rw [Below.heap_setCell _ _ _ _ hk]
          have HB13 : Hid (Below wr.heap.size wd w13) := by rw [← hw13]; exact (((((((((((((((Below.refl _ _).setCell (p := ⟨wr.heap.size, 4, none⟩) (Nat.le_refl _) _).setCell (p := ⟨wr.heap.size, 5, none⟩) (Nat.le_refl _) _).setCell (p := ⟨wr.heap.size, 6, none⟩) (Nat.le_refl _) _).setCell (p := ⟨wr.heap.size, 7, none⟩) (Nat.le_refl _) _).setCell (p := ⟨wr.heap.size, 8, none⟩) (Nat.le_refl _) _).setCell (p := ⟨wr.heap.size, 9, none⟩) (Nat.le_refl _) _).setCell (p := ⟨wr.heap.size, 10, none⟩) (Nat.le_refl _) _).setCell (p := ⟨wr.heap.size, 11, none⟩) (Nat.le_refl _) _).setCell (p := ⟨wr.heap.size, 12, none⟩) (Nat.le_refl _) _).setCell (p := ⟨wr.heap.size, 13, none⟩) (Nat.le_refl _) _).setCell (p := ⟨wr.heap.size, 14, none⟩) (Nat.le_refl _) _).setCell (p := ⟨wr.heap.size, 15, none⟩) (Nat.le_refl _) _).setCell (p := ⟨wr.heap.size, 16, none⟩) (Nat.le_refl _) _).setCell (p := ⟨wr.heap.size, 17, none⟩) (Nat.le_refl _) _)
          simp only [hw13]
          clear hw13 s4 sf4 s5 sf5 s6 sf6 s7 sf7 s8 sf8 s9 sf9 s10 sf10 s11 sf11 s12 sf12 s13 sf13 s14 sf14 s15 sf15 s16 sf16 s17 sf17
          have hza : wr.heap.size < w6.heap.size := lt_of_block H6.out
          have hzb : w6.heap.size ≤ w7.heap.size := HB7.out.size
          have hzc : w7.heap.size ≤ w8.heap.size := by have := lt_of_block HX8.out; have := HNP.out; omega
          have hzd : w8.heap.size ≤ w9.heap.size := HB9.out.size
          have hze : w9.heap.size ≤ w10.heap.size := by have := lt_of_block HZ10.out; have := HNV.out; omega
          have hzf : w10.heap.size ≤ w11.heap.size := HB11.out.size
          have hzg : w11.heap.size ≤ w12.heap.size := HB12.out.size
          have hzh : w12.heap.size ≤ wd.heap.size := HD12.out.2.size
          have HW13 : Hid (Below wr.heap.size wr w13) := (((((HB6.out.trans (HB8.out.mono (by omega))).trans (HB10.out.mono (by omega))).trans (HB11.out.mono (by omega))).trans (HB12.out.mono (by omega))).trans (HD12.out.2.mono (by omega))).trans HB13.out
          have HS13 : Hid (StL (From wr.heap.size) w13 (St.res (plL vl) (.mk 2 name slot size place value body els)) [.int .i64 2, .string (strB name), .int .i64 L1, .int .i64 L2, .int .i64 x0, .int .i64 x1, .string x2, .int .i64 x3, .int .i64 x4, .slice X1 X2 X3, .int .i64 z0, .int .i64 z1, .string z2, .int .i64 z3, .int .i64 z4, .slice Z1 Z2 Z3, .slice Ab (St.resL (plL vl) body).length cb, .slice Ae (St.resL (plL vl) els).length ce]) := by
            have hres : St.res (plL vl) (.mk 2 name slot size place value body els) = .mk 2 name L1 L2 (place.res (plL vl)) (value.res (plL vl)) (St.resL (plL vl) body) (St.resL (plL vl) els) := HRES.out
            rw [hres]
            simp only [StL]
            refine ⟨[.int .i64 x0, .int .i64 x1, .string x2, .int .i64 x3, .int .i64 x4, .slice X1 X2 X3], [.int .i64 z0, .int .i64 z1, .string z2, .int .i64 z3, .int .i64 z4, .slice Z1 Z2 Z3], Ab, cb, Ae, ce, rfl, ?_, ?_, HLB.out, HLE.out, fun hne => ?_, fun hne => ?_⟩
            · exact ExL.still (fun k (h1 : w6.heap.size ≤ k) h2 => ⟨show wr.heap.size ≤ k by omega, (HK13.out k (by omega)).trans ((HD12.out.2.block k (by omega)).trans ((HB12.out.block k (by omega)).trans ((HB11.out.block k (by omega)).trans ((HB10.out.block k (by omega)).trans (E87.out k h2)))))⟩) _ _ HLP.out
            · exact ExL.still (fun k (h1 : w8.heap.size ≤ k) h2 => ⟨show wr.heap.size ≤ k by omega, (HK13.out k (by omega)).trans ((HD12.out.2.block k (by omega)).trans ((HB12.out.block k (by omega)).trans ((HB11.out.block k (by omega)).trans (E109.out k h2))))⟩) _ _ HLV.out
            · obtain ⟨b, o, hA, hS, hr⟩ := HRB.out hne
              exact ⟨b, o, hA, show wr.heap.size ≤ b from Nat.le_trans (by omega) (show w10.heap.size ≤ b from hS), StRow.still (fun k (h1 : w10.heap.size ≤ k) h2 => ⟨show wr.heap.size ≤ k by omega, (HK13.out k (by omega)).trans ((HD12.out.2.block k (by omega)).trans (HB12.out.block k h2))⟩) _ b o hS hr⟩
            · obtain ⟨b, o, hA, hS, hr⟩ := HRE.out hne
              exact ⟨b, o, hA, show wr.heap.size ≤ b from Nat.le_trans (by omega) (show w11.heap.size ≤ b from hS), StRow.still (fun k (h1 : w11.heap.size ≤ k) h2 => ⟨show wr.heap.size ≤ k by omega, (HK13.out k (by omega)).trans (HD12.out.2.block k h2)⟩) _ b o hS hr⟩
          clear hza hzb hzc hzd hze hzf hzg hzh hnp hnv
          go_wp2_with (first
            | (refine wpList_load_row rfl 94 _ rfl wr.heap.size rfl 94 _ (0, 0) _ H13.out Tryd.underlying94 rfl (by kernel_rfl) ?_)
            | (at_builtin; refine wpList_append_own_at _ rfl _ _ 27 rfl w.heap.size 94 i0 _ 18 232 Tryd.underlying27 HI.out HI0.out HI1.out HI2.out rfl (by decide) _ _ _ rfl ((own_bel HH.out.o HW13.out).alloc _) ⟨w13.heap.size, 0, none⟩ 1 1 [.int .i64 2, .string (strB name), .int .i64 L1, .int .i64 L2, .int .i64 x0, .int .i64 x1, .string x2, .int .i64 x3, .int .i64 x4, .slice X1 X2 X3, .int .i64 z0, .int .i64 z1, .string z2, .int .i64 z3, .int .i64 z4, .slice Z1 Z2 Z3, .slice Ab (St.resL (plL vl) body).length cb, .slice Ae (St.resL (plL vl) els).length ce] rfl rfl (ex_new _ _ _) (by simp [Value.oneCell']) (by rw [HLN.out]; unfold maxLen; omega) (by rw [HLN.out]; omega) (by rw [new_size]; have := HW13.out.size; omega) ?_))
          intro va wa hown hgrow _ hobl
          have HN := Lib.hid (RyHead.next HH.out HE1.out HW13.out HS13.out hown hgrow hobl)
          clear hown hgrow hobl
          cases b1 with
          | false =>
            go_wp2_with fail
            go_roundg g
            case rel => exact ⟨k + 1, _, _, by have := HG.out; omega, by go_num, rfl, HKO.out.symm.trans (by simp), HN⟩
            case measure => omega
          | true =>
            cases b2 with
            | false =>
              go_wp2_with fail
              go_roundg g
              case rel => exact ⟨k + 1, _, _, by have := HG.out; omega, by go_num, rfl, HKO.out.symm.trans (by simp), HN⟩
              case measure => omega
            | true =>
              cases b3 with
              | false =>
                go_wp2_with fail
                go_roundg g
                case rel => exact ⟨k + 1, _, _, by have := HG.out; omega, by go_num, rfl, HKO.out.symm.trans (by simp), HN⟩
                case measure => omega
              | true =>
                cases b4 with
                | false =>
                  go_wp2_with fail
                  go_roundg g
                  case rel => exact ⟨k + 1, _, _, by have := HG.out; omega, by go_num, rfl, HKO.out.symm.trans (by simp), HN⟩
                  case measure => omega
                | true =>
                  go_wp2_with fail
                  go_roundg g
                  case rel => exact ⟨k + 1, _, _, by have := HG.out; omega, by go_num, rfl, HKO.out.symm.trans (by simp), HN⟩
                  case measure => omega

      · have HRES : Hid (St.res (plL vl) (.mk 2 name slot size place value body els) = .mk 2 name L1 L2 (place.res (plL vl)) (value.res (plL vl)) (St.resL (plL vl) body) (St.resL (plL vl) els)) := by show _ = _; simp [St.res, HPL.out]
        have hdz : decide (0 < L2) = false := decide_eq_false h0
        have hdd : decide (0 < L2) = false := by simp; omega
        have HSH : Hid (St.shpL (zL vl) (ls.take (k + 1)) = (okk && (false && (b1 && (b2 && (b3 && b4)))))) := by
          show _ = _
          rw [HTK.out, ← HOK.out, hdd]
          simp
        clear hdd
        have q1 : w5.cell? ⟨wr.heap.size, 1, none⟩ = some (.string (strB name)) := by rw [Lib.cell_of_heap H5.out]; rfl
        clear HTK
        go_wp2_with fail
        refine (CL.out _ (HB.out.trans (HB5.out.mono hz0))).mono ?_
        rintro e wf ⟨rfl, hb⟩
        have HBf := Lib.hid hb
        have Hf := Lib.hid (below_blk hb H5.out)
        have hnf := lt_of_block Hf.out
        have r0 : wf.cell? ⟨wr.heap.size, 0, none⟩ = some (.int .i64 2) := by rw [Lib.cell_of_heap Hf.out]; rfl
        have r2 : wf.cell? ⟨wr.heap.size, 2, none⟩ = some (.int .i64 slot) := by rw [Lib.cell_of_heap Hf.out]; rfl
        have r3 : wf.cell? ⟨wr.heap.size, 3, none⟩ = some (.int .i64 size) := by rw [Lib.cell_of_heap Hf.out]; rfl
        have rf2 : wf.frozen? ⟨wr.heap.size, 2, none⟩ = false := Lib.frozen_of_heap Hf.out 2
        have rf3 : wf.frozen? ⟨wr.heap.size, 3, none⟩ = false := Lib.frozen_of_heap Hf.out 3
        clear hb q1 q0
        cases okk
        all_goals
          go_upto_region 11 with fail
          obtain ⟨w6, hw6⟩ : ∃ x, (wf.setCell ⟨wr.heap.size, 2, none⟩ (.int .i64 L1)).setCell ⟨wr.heap.size, 3, none⟩ (.int .i64 L2) = x := ⟨_, rfl⟩
          have H6 : Hid (w6.heap[wr.heap.size]? = some (.cells #[.int .i64 2, .string (strB name), .int .i64 L1, .int .i64 L2, .int .i64 p0, .int .i64 p1, .string p2, .int .i64 p3, .int .i64 p4, .slice P1 P2 P3, .int .i64 v0, .int .i64 v1, .string v2, .int .i64 v3, .int .i64 v4, .slice V1 V2 V3, .slice A3 body.length c3, .slice A4 els.length c4] 94 (0, 0))) := by
            rw [← hw6]
            have h' := blk_set (blk_set Hf.out 2 (.int .i64 L1)) 3 (.int .i64 L2)
            simp only [stCells, List.cons_append, List.nil_append, List.setIfInBounds_toArray, List.set_cons_zero, List.set_cons_succ] at h'
            exact h'
          have HB6 : Hid (Below wr.heap.size wr w6) := by
            rw [← hw6]
            have h1 := HB5.out.trans (HBf.out.mono HB5.out.size)
            exact (h1.setCell (p := ⟨wr.heap.size, 2, none⟩) (Nat.le_refl _) _).setCell (p := ⟨wr.heap.size, 3, none⟩) (Nat.le_refl _) _
          simp only [hw6]
          clear hw6 r0 r2 r3 rf2 rf3 hnf
        rotate_left 0
        · skip
          have HKO := HSH
          have s4 : w6.cell? ⟨wr.heap.size, 4, none⟩ = some (.int .i64 p0) := by rw [Lib.cell_of_heap H6.out]; rfl
          have s5 : w6.cell? ⟨wr.heap.size, 5, none⟩ = some (.int .i64 p1) := by rw [Lib.cell_of_heap H6.out]; rfl
          have s6 : w6.cell? ⟨wr.heap.size, 6, none⟩ = some (.string p2) := by rw [Lib.cell_of_heap H6.out]; rfl
          have s7 : w6.cell? ⟨wr.heap.size, 7, none⟩ = some (.int .i64 p3) := by rw [Lib.cell_of_heap H6.out]; rfl
          have s8 : w6.cell? ⟨wr.heap.size, 8, none⟩ = some (.int .i64 p4) := by rw [Lib.cell_of_heap H6.out]; rfl
          have s9 : w6.cell? ⟨wr.heap.size, 9, none⟩ = some (.slice P1 P2 P3) := by rw [Lib.cell_of_heap H6.out]; rfl
          have HW6 : Hid (Below w.heap.size w w6) := HB.out.trans (HB6.out.mono hz0)
          go_wp2_with fail
          refine (CP.out _ HW6.out).mono ?_
          rintro e w7 ⟨y7, rfl, ⟨x0, x1, x2, x3, x4, X1, X2, X3, rfl, hl⟩, hb⟩
          have HLP := Lib.hid hl
          have H7 := Lib.hid (below_blk hb H6.out)
          have HB7 := Lib.hid hb
          clear hb hl s4 s5 s6 s7 s8 s9
          go_upto_region 12 with fail
          obtain ⟨w8, hw8⟩ : ∃ x, w7.alloc (.cells #[.int .i64 x0, .int .i64 x1, .string x2, .int .i64 x3, .int .i64 x4, .slice X1 X2 X3] 92) = x := ⟨_, rfl⟩
          have hb78 : Below w7.heap.size w7 w8 := by rw [← hw8]; exact (Below.refl _ _).alloc (Nat.le_refl _) _
          have E87 : Hid (∀ k, k < w7.heap.size → w8.heap[k]? = w7.heap[k]?) := fun k hk => hb78.block k hk
          have HX8 : Hid (w8.heap[w7.heap.size]? = some (.cells #[.int .i64 x0, .int .i64 x1, .string x2, .int .i64 x3, .int .i64 x4, .slice X1 X2 X3] 92 (0, 0))) := by rw [← hw8]; exact new_blk w7 _
          obtain ⟨np, hnp⟩ : ∃ x, w7.heap.size = x := ⟨_, rfl⟩
          have HNP := Lib.hid hnp
          rw [hnp] at HX8
          simp only [hw8, hnp]
          clear hw8 hnp
          have H8 := Lib.hid (below_blk hb78 H7.out)
          have HB8 := Lib.hid (HB7.out.trans (hb78.mono HB7.out.size))
          have HW8 : Hid (Below w.heap.size w w8) := HW6.out.trans (HB8.out.mono HW6.out.size)
          clear hb78
          have s10 : w8.cell? ⟨wr.heap.size, 10, none⟩ = some (.int .i64 v0) := by rw [Lib.cell_of_heap H8.out]; rfl
          have s11 : w8.cell? ⟨wr.heap.size, 11, none⟩ = some (.int .i64 v1) := by rw [Lib.cell_of_heap H8.out]; rfl
          have s12 : w8.cell? ⟨wr.heap.size, 12, none⟩ = some (.string v2) := by rw [Lib.cell_of_heap H8.out]; rfl
          have s13 : w8.cell? ⟨wr.heap.size, 13, none⟩ = some (.int .i64 v3) := by rw [Lib.cell_of_heap H8.out]; rfl
          have s14 : w8.cell? ⟨wr.heap.size, 14, none⟩ = some (.int .i64 v4) := by rw [Lib.cell_of_heap H8.out]; rfl
          have s15 : w8.cell? ⟨wr.heap.size, 15, none⟩ = some (.slice V1 V2 V3) := by rw [Lib.cell_of_heap H8.out]; rfl
          go_wp2_with fail
          refine (CV.out _ HW8.out).mono ?_
          rintro e w9 ⟨y9, rfl, ⟨z0, z1, z2, z3, z4, Z1, Z2, Z3, rfl, hl⟩, hb⟩
          have HLV := Lib.hid hl
          have H9 := Lib.hid (below_blk hb H8.out)
          have HX9 := Lib.hid (below_blk hb HX8.out)
          have HB9 := Lib.hid hb
          clear hb hl s10 s11 s12 s13 s14 s15
          go_upto_region 13 with fail
          obtain ⟨w10, hw10⟩ : ∃ x, w9.alloc (.cells #[.int .i64 z0, .int .i64 z1, .string z2, .int .i64 z3, .int .i64 z4, .slice Z1 Z2 Z3] 92) = x := ⟨_, rfl⟩
          have hb910 : Below w9.heap.size w9 w10 := by rw [← hw10]; exact (Below.refl _ _).alloc (Nat.le_refl _) _
          have E109 : Hid (∀ k, k < w9.heap.size → w10.heap[k]? = w9.heap[k]?) := fun k hk => hb910.block k hk
          have HZ10 : Hid (w10.heap[w9.heap.size]? = some (.cells #[.int .i64 z0, .int .i64 z1, .string z2, .int .i64 z3, .int .i64 z4, .slice Z1 Z2 Z3] 92 (0, 0))) := by rw [← hw10]; exact new_blk w9 _
          obtain ⟨nv, hnv⟩ : ∃ x, w9.heap.size = x := ⟨_, rfl⟩
          have HNV := Lib.hid hnv
          rw [hnv] at HZ10
          simp only [hw10, hnv]
          clear hw10 hnv
          have H10 := Lib.hid (below_blk hb910 H9.out)
          have HX10 := Lib.hid (below_blk hb910 HX9.out)
          have HB10 := Lib.hid (HB9.out.trans (hb910.mono HB9.out.size))
          have HW10 : Hid (Below w.heap.size w w10) := HW8.out.trans (HB10.out.mono HW8.out.size)
          clear hb910
          have s16 : w10.cell? ⟨wr.heap.size, 16, none⟩ = some (.slice A3 body.length c3) := by rw [Lib.cell_of_heap H10.out]; rfl
          go_wp2_with fail
          refine (CB.out _ HW10.out).mono ?_
          rintro e w11 ⟨y11, rfl, ⟨Ab, cb, rfl, hl, hr⟩, hb⟩
          have HLB := Lib.hid hl
          have HRB := Lib.hid hr
          have H11 := Lib.hid (below_blk hb H10.out)
          have HX11 := Lib.hid (below_blk hb HX10.out)
          have HZ11 := Lib.hid (below_blk hb HZ10.out)
          have HB11 := Lib.hid hb
          have HW11 : Hid (Below w.heap.size w w11) := HW10.out.trans (HB11.out.mono HW10.out.size)
          clear hb hl hr s16
          have s17 : w11.cell? ⟨wr.heap.size, 17, none⟩ = some (.slice A4 els.length c4) := by rw [Lib.cell_of_heap H11.out]; rfl
          go_wp2_with fail
          refine (CE.out _ HW11.out).mono ?_
          rintro e w12 ⟨y12, rfl, ⟨Ae, ce, rfl, hl, hr⟩, hb⟩
          have HLE := Lib.hid hl
          have HRE := Lib.hid hr
          have H12 := Lib.hid (below_blk hb H11.out)
          have HX12 := Lib.hid (below_blk hb HX11.out)
          have HZ12 := Lib.hid (below_blk hb HZ11.out)
          have HB12 := Lib.hid hb
          clear hb hl hr s17
          go_upto_region 15 with fail
          have hnp : np ≠ wr.heap.size := by have := HNP.out; have := HB6.out.size; have := HB7.out.size; have := lt_of_block H6.out; omega
          have hnv : nv ≠ wr.heap.size := by have := HNV.out; have := HB9.out.size; have := HB8.out.size; have := lt_of_block H6.out; omega
          have hS : w12.drew.heap[np]? = some (.cells #[.int .i64 x0, .int .i64 x1, .string x2, .int .i64 x3, .int .i64 x4, .slice X1 X2 X3] 92 (0, 0)) ∧ w12.drew.heap[nv]? = some (.cells #[.int .i64 z0, .int .i64 z1, .string z2, .int .i64 z3, .int .i64 z4, .slice Z1 Z2 Z3] 92 (0, 0)) := ⟨HX12.out, HZ12.out⟩
          obtain ⟨wd, hwd⟩ : ∃ x, w12.drew = x := ⟨_, rfl⟩
          have HD12 : Hid (wd.heap[wr.heap.size]? = some (.cells #[.int .i64 2, .string (strB name), .int .i64 L1, .int .i64 L2, .int .i64 p0, .int .i64 p1, .string p2, .int .i64 p3, .int .i64 p4, .slice P1 P2 P3, .int .i64 v0, .int .i64 v1, .string v2, .int .i64 v3, .int .i64 v4, .slice V1 V2 V3, .slice A3 body.length c3, .slice A4 els.length c4] 94 (0, 0)) ∧ Below w12.heap.size w12 wd) := by rw [← hwd]; exact ⟨H12.out, (Below.refl _ _).drew⟩
          refine wp_region_G [5, 7] (fun w' => w'.heap[np]? = some (.cells #[.int .i64 x0, .int .i64 x1, .string x2, .int .i64 x3, .int .i64 x4, .slice X1 X2 X3] 92 (0, 0)) ∧ w'.heap[nv]? = some (.cells #[.int .i64 z0, .int .i64 z1, .string z2, .int .i64 z3, .int .i64 z4, .slice Z1 Z2 Z3] 92 (0, 0))) (by kernel_rfl) ?_
          rw [hwd] at hS ⊢
          clear hwd
          have hS0 := hS
          refine' wpAnyG_take 5 (i := 0) (v := _) ?hi73 (by kernel_rfl) ?hQ73 (Or.inl ⟨?hw73, ?hy73⟩) hS ?rest73
          case hi73 => (simp only [List.getElem?_toArray, List.getElem?_cons_zero]; rfl)
          case hQ73 => exact fun _ _ _ h => h
          case hw73 => rfl
          case hy73 =>
            rintro w99 ⟨hx99, -⟩
            have d0 : w99.cell? ⟨np, 0, none⟩ = some (.int .i64 x0) := by rw [Lib.cell_of_heap hx99]; rfl
            have d1 : w99.cell? ⟨np, 1, none⟩ = some (.int .i64 x1) := by rw [Lib.cell_of_heap hx99]; rfl
            have d2 : w99.cell? ⟨np, 2, none⟩ = some (.string x2) := by rw [Lib.cell_of_heap hx99]; rfl
            have d3 : w99.cell? ⟨np, 3, none⟩ = some (.int .i64 x3) := by rw [Lib.cell_of_heap hx99]; rfl
            have d4 : w99.cell? ⟨np, 4, none⟩ = some (.int .i64 x4) := by rw [Lib.cell_of_heap hx99]; rfl
            have d5 : w99.cell? ⟨np, 5, none⟩ = some (.slice X1 X2 X3) := by rw [Lib.cell_of_heap hx99]; rfl
            go_simp
            with_reducible rfl
          try simp only [Act.put, List.setIfInBounds_toArray, List.set_cons_zero, List.set_cons_succ]
          refine' wpAnyG_take 7 (i := 1) (v := _) ?hi74 (by kernel_rfl) ?hQ74 (Or.inl ⟨?hw74, ?hy74⟩) hS ?rest74
          case hi74 => (simp only [List.getElem?_toArray, List.getElem?_cons_succ, List.getElem?_cons_zero]; rfl)
          case hQ74 => exact fun _ _ _ h => h
          case hw74 => rfl
          case hy74 =>
            rintro w99 ⟨-, hx99⟩
            have d0 : w99.cell? ⟨nv, 0, none⟩ = some (.int .i64 z0) := by rw [Lib.cell_of_heap hx99]; rfl
            have d1 : w99.cell? ⟨nv, 1, none⟩ = some (.int .i64 z1) := by rw [Lib.cell_of_heap hx99]; rfl
            have d2 : w99.cell? ⟨nv, 2, none⟩ = some (.string z2) := by rw [Lib.cell_of_heap hx99]; rfl
            have d3 : w99.cell? ⟨nv, 3, none⟩ = some (.int .i64 z3) := by rw [Lib.cell_of_heap hx99]; rfl
            have d4 : w99.cell? ⟨nv, 4, none⟩ = some (.int .i64 z4) := by rw [Lib.cell_of_heap hx99]; rfl
            have d5 : w99.cell? ⟨nv, 5, none⟩ = some (.slice Z1 Z2 Z3) := by rw [Lib.cell_of_heap hx99]; rfl
            go_simp
            with_reducible rfl
          try simp only [Act.put, List.setIfInBounds_toArray, List.set_cons_zero, List.set_cons_succ]
          refine' wpAnyG_step (i := 2) (v := _) ?hi75 (by kernel_rfl) ?hQ75 (Or.inl ⟨?hw75, ?hy75⟩) hS ?rest75
          case hi75 => (simp only [List.getElem?_toArray, List.getElem?_cons_succ, List.getElem?_cons_zero]; rfl)
          case hQ75 => exact fun _ _ _ h => h
          case hw75 => rfl
          case hy75 => (intro w99; go_simp; with_reducible rfl)
          try simp only [Act.put, List.setIfInBounds_toArray, List.set_cons_zero, List.set_cons_succ]
          refine' wpAnyG_step (i := 3) (v := _) ?hi76 (by kernel_rfl) ?hQ76 (Or.inl ⟨?hw76, ?hy76⟩) hS ?rest76
          case hi76 => (simp only [List.getElem?_toArray, List.getElem?_cons_succ, List.getElem?_cons_zero]; rfl)
          case hQ76 => exact fun _ _ _ h => h
          case hw76 => rfl
          case hy76 => (intro w99; go_simp; with_reducible rfl)
          try simp only [Act.put, List.setIfInBounds_toArray, List.set_cons_zero, List.set_cons_succ]
          refine' wpAnyG_step (i := 4) (v := _) ?hi77 (by kernel_rfl) ?hQ77 (Or.inl ⟨?hw77, ?hy77⟩) hS ?rest77
          case hi77 => (simp only [List.getElem?_toArray, List.getElem?_cons_succ, List.getElem?_cons_zero]; rfl)
          case hQ77 => exact fun _ _ _ h => h
          case hw77 => rfl
          case hy77 => (intro w99; go_simp; with_reducible rfl)
          try simp only [Act.put, List.setIfInBounds_toArray, List.set_cons_zero, List.set_cons_succ]
          have s4 : wd.cell? ⟨wr.heap.size, 4, none⟩ = some (.int .i64 p0) := by rw [Lib.cell_of_heap HD12.out.1]; rfl
          have sf4 : wd.frozen? ⟨wr.heap.size, 4, none⟩ = false := Lib.frozen_of_heap HD12.out.1 4
          have s5 : wd.cell? ⟨wr.heap.size, 5, none⟩ = some (.int .i64 p1) := by rw [Lib.cell_of_heap HD12.out.1]; rfl
          have sf5 : wd.frozen? ⟨wr.heap.size, 5, none⟩ = false := Lib.frozen_of_heap HD12.out.1 5
          have s6 : wd.cell? ⟨wr.heap.size, 6, none⟩ = some (.string p2) := by rw [Lib.cell_of_heap HD12.out.1]; rfl
          have sf6 : wd.frozen? ⟨wr.heap.size, 6, none⟩ = false := Lib.frozen_of_heap HD12.out.1 6
          have s7 : wd.cell? ⟨wr.heap.size, 7, none⟩ = some (.int .i64 p3) := by rw [Lib.cell_of_heap HD12.out.1]; rfl
          have sf7 : wd.frozen? ⟨wr.heap.size, 7, none⟩ = false := Lib.frozen_of_heap HD12.out.1 7
          have s8 : wd.cell? ⟨wr.heap.size, 8, none⟩ = some (.int .i64 p4) := by rw [Lib.cell_of_heap HD12.out.1]; rfl
          have sf8 : wd.frozen? ⟨wr.heap.size, 8, none⟩ = false := Lib.frozen_of_heap HD12.out.1 8
          have s9 : wd.cell? ⟨wr.heap.size, 9, none⟩ = some (.slice P1 P2 P3) := by rw [Lib.cell_of_heap HD12.out.1]; rfl
          have sf9 : wd.frozen? ⟨wr.heap.size, 9, none⟩ = false := Lib.frozen_of_heap HD12.out.1 9
          have s10 : wd.cell? ⟨wr.heap.size, 10, none⟩ = some (.int .i64 v0) := by rw [Lib.cell_of_heap HD12.out.1]; rfl
          have sf10 : wd.frozen? ⟨wr.heap.size, 10, none⟩ = false := Lib.frozen_of_heap HD12.out.1 10
          have s11 : wd.cell? ⟨wr.heap.size, 11, none⟩ = some (.int .i64 v1) := by rw [Lib.cell_of_heap HD12.out.1]; rfl
          have sf11 : wd.frozen? ⟨wr.heap.size, 11, none⟩ = false := Lib.frozen_of_heap HD12.out.1 11
          have s12 : wd.cell? ⟨wr.heap.size, 12, none⟩ = some (.string v2) := by rw [Lib.cell_of_heap HD12.out.1]; rfl
          have sf12 : wd.frozen? ⟨wr.heap.size, 12, none⟩ = false := Lib.frozen_of_heap HD12.out.1 12
          have s13 : wd.cell? ⟨wr.heap.size, 13, none⟩ = some (.int .i64 v3) := by rw [Lib.cell_of_heap HD12.out.1]; rfl
          have sf13 : wd.frozen? ⟨wr.heap.size, 13, none⟩ = false := Lib.frozen_of_heap HD12.out.1 13
          have s14 : wd.cell? ⟨wr.heap.size, 14, none⟩ = some (.int .i64 v4) := by rw [Lib.cell_of_heap HD12.out.1]; rfl
          have sf14 : wd.frozen? ⟨wr.heap.size, 14, none⟩ = false := Lib.frozen_of_heap HD12.out.1 14
          have s15 : wd.cell? ⟨wr.heap.size, 15, none⟩ = some (.slice V1 V2 V3) := by rw [Lib.cell_of_heap HD12.out.1]; rfl
          have sf15 : wd.frozen? ⟨wr.heap.size, 15, none⟩ = false := Lib.frozen_of_heap HD12.out.1 15
          have s16 : wd.cell? ⟨wr.heap.size, 16, none⟩ = some (.slice A3 body.length c3) := by rw [Lib.cell_of_heap HD12.out.1]; rfl
          have sf16 : wd.frozen? ⟨wr.heap.size, 16, none⟩ = false := Lib.frozen_of_heap HD12.out.1 16
          have s17 : wd.cell? ⟨wr.heap.size, 17, none⟩ = some (.slice A4 els.length c4) := by rw [Lib.cell_of_heap HD12.out.1]; rfl
          have sf17 : wd.frozen? ⟨wr.heap.size, 17, none⟩ = false := Lib.frozen_of_heap HD12.out.1 17
          refine' wpAnyG_one (i := 5) (by kernel_rfl) ?hi78 (fun K hK => ?rest78)
          case hi78 => (simp only [List.getElem?_toArray, List.getElem?_cons_succ, List.getElem?_cons_zero]; rfl)
          go_simp
          refine hK.out _ _ ⟨?_, ?_⟩ (fun hS => ?_)
          · repeat rw [Below.heap_setCell _ _ _ _ (show np ≠ wr.heap.size from hnp)]
            exact hS0.1
          · repeat rw [Below.heap_setCell _ _ _ _ (show nv ≠ wr.heap.size from hnv)]
            exact hS0.2
          clear hK K
          try simp only [Act.put, List.setIfInBounds_toArray, List.set_cons_zero, List.set_cons_succ]
          refine' wpAnyG_one (i := 6) (by kernel_rfl) ?hi79 (fun K hK => ?rest79)
          case hi79 => (simp only [List.getElem?_toArray, List.getElem?_cons_succ, List.getElem?_cons_zero]; rfl)
          go_simp
          refine hK.out _ _ ⟨?_, ?_⟩ (fun hS => ?_)
          · repeat rw [Below.heap_setCell _ _ _ _ (show np ≠ wr.heap.size from hnp)]
            exact hS0.1
          · repeat rw [Below.heap_setCell _ _ _ _ (show nv ≠ wr.heap.size from hnv)]
            exact hS0.2
          clear hK K
          try simp only [Act.put, List.setIfInBounds_toArray, List.set_cons_zero, List.set_cons_succ]
          refine' wpAnyG_one (i := 7) (by kernel_rfl) ?hi80 (fun K hK => ?rest80)
          case hi80 => (simp only [List.getElem?_toArray, List.getElem?_cons_succ, List.getElem?_cons_zero]; rfl)
          go_simp
          refine hK.out _ _ ⟨?_, ?_⟩ (fun hS => ?_)
          · repeat rw [Below.heap_setCell _ _ _ _ (show np ≠ wr.heap.size from hnp)]
            exact hS0.1
          · repeat rw [Below.heap_setCell _ _ _ _ (show nv ≠ wr.heap.size from hnv)]
            exact hS0.2
          clear hK K
          try simp only [Act.put, List.setIfInBounds_toArray, List.set_cons_zero, List.set_cons_succ]
          refine wpAnyG_rel (by kernel_rfl) ?_
          clear hS
          refine' wpAny_one (i := 8) (by kernel_rfl) ?hi81 (fun K hK => ?rest81)
          case hi81 => (simp only [List.getElem?_toArray, List.getElem?_cons_succ, List.getElem?_cons_zero]; rfl)
          go_simp
          refine hK.out _ _ ?_
          clear hK K
          try simp only [Act.put, List.setIfInBounds_toArray, List.set_cons_zero, List.set_cons_succ]
          refine' wpAny_one (i := 9) (by kernel_rfl) ?hi82 (fun K hK => ?rest82)
          case hi82 => (simp only [List.getElem?_toArray, List.getElem?_cons_succ, List.getElem?_cons_zero]; rfl)
          go_simp
          refine hK.out _ _ ?_
          clear hK K
          try simp only [Act.put, List.setIfInBounds_toArray, List.set_cons_zero, List.set_cons_succ]
          refine' wpAny_one (i := 10) (by kernel_rfl) ?hi83 (fun K hK => ?rest83)
          case hi83 => (simp only [List.getElem?_toArray, List.getElem?_cons_succ, List.getElem?_cons_zero]; rfl)
          go_simp
          refine hK.out _ _ ?_
          clear hK K
          try simp only [Act.put, List.setIfInBounds_toArray, List.set_cons_zero, List.set_cons_succ]
          refine' wpAny_one (i := 11) (by kernel_rfl) ?hi84 (fun K hK => ?rest84)
          case hi84 => (simp only [List.getElem?_toArray, List.getElem?_cons_succ, List.getElem?_cons_zero]; rfl)
          go_simp
          refine hK.out _ _ ?_
          clear hK K
          try simp only [Act.put, List.setIfInBounds_toArray, List.set_cons_zero, List.set_cons_succ]
          refine wpAny_done (by kernel_rfl) ?_ _
          obtain ⟨w13, hw13⟩ : ∃ x, ((((((((((((((wd.setCell ⟨wr.heap.size, 4, none⟩ (.int .i64 x0)).setCell ⟨wr.heap.size, 5, none⟩ (.int .i64 x1)).setCell ⟨wr.heap.size, 6, none⟩ (.string x2)).setCell ⟨wr.heap.size, 7, none⟩ (.int .i64 x3)).setCell ⟨wr.heap.size, 8, none⟩ (.int .i64 x4)).setCell ⟨wr.heap.size, 9, none⟩ (.slice X1 X2 X3)).setCell ⟨wr.heap.size, 10, none⟩ (.int .i64 z0)).setCell ⟨wr.heap.size, 11, none⟩ (.int .i64 z1)).setCell ⟨wr.heap.size, 12, none⟩ (.string z2)).setCell ⟨wr.heap.size, 13, none⟩ (.int .i64 z3)).setCell ⟨wr.heap.size, 14, none⟩ (.int .i64 z4)).setCell ⟨wr.heap.size, 15, none⟩ (.slice Z1 Z2 Z3)).setCell ⟨wr.heap.size, 16, none⟩ (.slice Ab (St.resL (plL vl) body).length cb)).setCell ⟨wr.heap.size, 17, none⟩ (.slice Ae (St.resL (plL vl) els).length ce)) = x := ⟨_, rfl⟩
          have H13 : Hid (w13.heap[wr.heap.size]? = some (.cells #[.int .i64 2, .string (strB name), .int .i64 L1, .int .i64 L2, .int .i64 x0, .int .i64 x1, .string x2, .int .i64 x3, .int .i64 x4, .slice X1 X2 X3, .int .i64 z0, .int .i64 z1, .string z2, .int .i64 z3, .int .i64 z4, .slice Z1 Z2 Z3, .slice Ab (St.resL (plL vl) body).length cb, .slice Ae (St.resL (plL vl) els).length ce] 94 (0, 0))) := by
            have h' := (blk_set (blk_set (blk_set (blk_set (blk_set (blk_set (blk_set (blk_set (blk_set (blk_set (blk_set (blk_set (blk_set (blk_set HD12.out.1 4 (.int .i64 x0)) 5 (.int .i64 x1)) 6 (.string x2)) 7 (.int .i64 x3)) 8 (.int .i64 x4)) 9 (.slice X1 X2 X3)) 10 (.int .i64 z0)) 11 (.int .i64 z1)) 12 (.string z2)) 13 (.int .i64 z3)) 14 (.int .i64 z4)) 15 (.slice Z1 Z2 Z3)) 16 (.slice Ab (St.resL (plL vl) body).length cb)) 17 (.slice Ae (St.resL (plL vl) els).length ce))
            rw [hw13] at h'
            simp only [List.setIfInBounds_toArray, List.set_cons_zero, List.set_cons_succ] at h'
            exact h'
          have HK13 : Hid (∀ k, k ≠ wr.heap.size → w13.heap[k]? = wd.heap[k]?) := fun k hk => by
            rw [← hw13]
            iterate 14 rw [Below.heap_setCell _ _ _ _ hk]
          have HB13 : Hid (Below wr.heap.size wd w13) := by rw [← hw13]; exact (((((((((((((((Below.refl _ _).setCell (p := ⟨wr.heap.size, 4, none⟩) (Nat.le_refl _) _).setCell (p := ⟨wr.heap.size, 5, none⟩) (Nat.le_refl _) _).setCell (p := ⟨wr.heap.size, 6, none⟩) (Nat.le_refl _) _).setCell (p := ⟨wr.heap.size, 7, none⟩) (Nat.le_refl _) _).setCell (p := ⟨wr.heap.size, 8, none⟩) (Nat.le_refl _) _).setCell (p := ⟨wr.heap.size, 9, none⟩) (Nat.le_refl _) _).setCell (p := ⟨wr.heap.size, 10, none⟩) (Nat.le_refl _) _).setCell (p := ⟨wr.heap.size, 11, none⟩) (Nat.le_refl _) _).setCell (p := ⟨wr.heap.size, 12, none⟩) (Nat.le_refl _) _).setCell (p := ⟨wr.heap.size, 13, none⟩) (Nat.le_refl _) _).setCell (p := ⟨wr.heap.size, 14, none⟩) (Nat.le_refl _) _).setCell (p := ⟨wr.heap.size, 15, none⟩) (Nat.le_refl _) _).setCell (p := ⟨wr.heap.size, 16, none⟩) (Nat.le_refl _) _).setCell (p := ⟨wr.heap.size, 17, none⟩) (Nat.le_refl _) _)
          simp only [hw13]
          clear hw13 s4 sf4 s5 sf5 s6 sf6 s7 sf7 s8 sf8 s9 sf9 s10 sf10 s11 sf11 s12 sf12 s13 sf13 s14 sf14 s15 sf15 s16 sf16 s17 sf17
          have hza : wr.heap.size < w6.heap.size := lt_of_block H6.out
          have hzb : w6.heap.size ≤ w7.heap.size := HB7.out.size
          have hzc : w7.heap.size ≤ w8.heap.size := by have := lt_of_block HX8.out; have := HNP.out; omega
          have hzd : w8.heap.size ≤ w9.heap.size := HB9.out.size
          have hze : w9.heap.size ≤ w10.heap.size := by have := lt_of_block HZ10.out; have := HNV.out; omega
          have hzf : w10.heap.size ≤ w11.heap.size := HB11.out.size
          have hzg : w11.heap.size ≤ w12.heap.size := HB12.out.size
          have hzh : w12.heap.size ≤ wd.heap.size := HD12.out.2.size
          have HW13 : Hid (Below wr.heap.size wr w13) := (((((HB6.out.trans (HB8.out.mono (by omega))).trans (HB10.out.mono (by omega))).trans (HB11.out.mono (by omega))).trans (HB12.out.mono (by omega))).trans (HD12.out.2.mono (by omega))).trans HB13.out
          have HS13 : Hid (StL (From wr.heap.size) w13 (St.res (plL vl) (.mk 2 name slot size place value body els)) [.int .i64 2, .string (strB name), .int .i64 L1, .int .i64 L2, .int .i64 x0, .int .i64 x1, .string x2, .int .i64 x3, .int .i64 x4, .slice X1 X2 X3, .int .i64 z0, .int .i64 z1, .string z2, .int .i64 z3, .int .i64 z4, .slice Z1 Z2 Z3, .slice Ab (St.resL (plL vl) body).length cb, .slice Ae (St.resL (plL vl) els).length ce]) := by
            have hres : St.res (plL vl) (.mk 2 name slot size place value body els) = .mk 2 name L1 L2 (place.res (plL vl)) (value.res (plL vl)) (St.resL (plL vl) body) (St.resL (plL vl) els) := HRES.out
            rw [hres]
            simp only [StL]
            refine ⟨[.int .i64 x0, .int .i64 x1, .string x2, .int .i64 x3, .int .i64 x4, .slice X1 X2 X3], [.int .i64 z0, .int .i64 z1, .string z2, .int .i64 z3, .int .i64 z4, .slice Z1 Z2 Z3], Ab, cb, Ae, ce, rfl, ?_, ?_, HLB.out, HLE.out, fun hne => ?_, fun hne => ?_⟩
            · exact ExL.still (fun k (h1 : w6.heap.size ≤ k) h2 => ⟨show wr.heap.size ≤ k by omega, (HK13.out k (by omega)).trans ((HD12.out.2.block k (by omega)).trans ((HB12.out.block k (by omega)).trans ((HB11.out.block k (by omega)).trans ((HB10.out.block k (by omega)).trans (E87.out k h2)))))⟩) _ _ HLP.out
            · exact ExL.still (fun k (h1 : w8.heap.size ≤ k) h2 => ⟨show wr.heap.size ≤ k by omega, (HK13.out k (by omega)).trans ((HD12.out.2.block k (by omega)).trans ((HB12.out.block k (by omega)).trans ((HB11.out.block k (by omega)).trans (E109.out k h2))))⟩) _ _ HLV.out
            · obtain ⟨b, o, hA, hS, hr⟩ := HRB.out hne
              exact ⟨b, o, hA, show wr.heap.size ≤ b from Nat.le_trans (by omega) (show w10.heap.size ≤ b from hS), StRow.still (fun k (h1 : w10.heap.size ≤ k) h2 => ⟨show wr.heap.size ≤ k by omega, (HK13.out k (by omega)).trans ((HD12.out.2.block k (by omega)).trans (HB12.out.block k h2))⟩) _ b o hS hr⟩
            · obtain ⟨b, o, hA, hS, hr⟩ := HRE.out hne
              exact ⟨b, o, hA, show wr.heap.size ≤ b from Nat.le_trans (by omega) (show w11.heap.size ≤ b from hS), StRow.still (fun k (h1 : w11.heap.size ≤ k) h2 => ⟨show wr.heap.size ≤ k by omega, (HK13.out k (by omega)).trans (HD12.out.2.block k h2)⟩) _ b o hS hr⟩
          clear hza hzb hzc hzd hze hzf hzg hzh hnp hnv
          go_wp2_with (first
            | (refine wpList_load_row rfl 94 _ rfl wr.heap.size rfl 94 _ (0, 0) _ H13.out Tryd.underlying94 rfl (by kernel_rfl) ?_)
            | (at_builtin; refine wpList_append_own_at _ rfl _ _ 27 rfl w.heap.size 94 i0 _ 18 232 Tryd.underlying27 HI.out HI0.out HI1.out HI2.out rfl (by decide) _ _ _ rfl ((own_bel HH.out.o HW13.out).alloc _) ⟨w13.heap.size, 0, none⟩ 1 1 [.int .i64 2, .string (strB name), .int .i64 L1, .int .i64 L2, .int .i64 x0, .int .i64 x1, .string x2, .int .i64 x3, .int .i64 x4, .slice X1 X2 X3, .int .i64 z0, .int .i64 z1, .string z2, .int .i64 z3, .int .i64 z4, .slice Z1 Z2 Z3, .slice Ab (St.resL (plL vl) body).length cb, .slice Ae (St.resL (plL vl) els).length ce] rfl rfl (ex_new _ _ _) (by simp [Value.oneCell']) (by rw [HLN.out]; unfold maxLen; omega) (by rw [HLN.out]; omega) (by rw [new_size]; have := HW13.out.size; omega) ?_))
          intro va wa hown hgrow _ hobl
          have HN := Lib.hid (RyHead.next HH.out HE1.out HW13.out HS13.out hown hgrow hobl)
          clear hown hgrow hobl
          go_wp2_with fail
          go_roundg g
          case rel => exact ⟨k + 1, _, _, by have := HG.out; omega, by go_num, rfl, HKO.out.symm.trans (by simp), HN⟩
          case measure => omega
        · skip
          have HKO := HSH
          have s4 : w6.cell? ⟨wr.heap.size, 4, none⟩ = some (.int .i64 p0) := by rw [Lib.cell_of_heap H6.out]; rfl
          have s5 : w6.cell? ⟨wr.heap.size, 5, none⟩ = some (.int .i64 p1) := by rw [Lib.cell_of_heap H6.out]; rfl
          have s6 : w6.cell? ⟨wr.heap.size, 6, none⟩ = some (.string p2) := by rw [Lib.cell_of_heap H6.out]; rfl
          have s7 : w6.cell? ⟨wr.heap.size, 7, none⟩ = some (.int .i64 p3) := by rw [Lib.cell_of_heap H6.out]; rfl
          have s8 : w6.cell? ⟨wr.heap.size, 8, none⟩ = some (.int .i64 p4) := by rw [Lib.cell_of_heap H6.out]; rfl
          have s9 : w6.cell? ⟨wr.heap.size, 9, none⟩ = some (.slice P1 P2 P3) := by rw [Lib.cell_of_heap H6.out]; rfl
          have HW6 : Hid (Below w.heap.size w w6) := HB.out.trans (HB6.out.mono hz0)
          go_wp2_with fail
          refine (CP.out _ HW6.out).mono ?_
          rintro e w7 ⟨y7, rfl, ⟨x0, x1, x2, x3, x4, X1, X2, X3, rfl, hl⟩, hb⟩
          have HLP := Lib.hid hl
          have H7 := Lib.hid (below_blk hb H6.out)
          have HB7 := Lib.hid hb
          clear hb hl s4 s5 s6 s7 s8 s9
          go_upto_region 12 with fail
          obtain ⟨w8, hw8⟩ : ∃ x, w7.alloc (.cells #[.int .i64 x0, .int .i64 x1, .string x2, .int .i64 x3, .int .i64 x4, .slice X1 X2 X3] 92) = x := ⟨_, rfl⟩
          have hb78 : Below w7.heap.size w7 w8 := by rw [← hw8]; exact (Below.refl _ _).alloc (Nat.le_refl _) _
          have E87 : Hid (∀ k, k < w7.heap.size → w8.heap[k]? = w7.heap[k]?) := fun k hk => hb78.block k hk
          have HX8 : Hid (w8.heap[w7.heap.size]? = some (.cells #[.int .i64 x0, .int .i64 x1, .string x2, .int .i64 x3, .int .i64 x4, .slice X1 X2 X3] 92 (0, 0))) := by rw [← hw8]; exact new_blk w7 _
          obtain ⟨np, hnp⟩ : ∃ x, w7.heap.size = x := ⟨_, rfl⟩
          have HNP := Lib.hid hnp
          rw [hnp] at HX8
          simp only [hw8, hnp]
          clear hw8 hnp
          have H8 := Lib.hid (below_blk hb78 H7.out)
          have HB8 := Lib.hid (HB7.out.trans (hb78.mono HB7.out.size))
          have HW8 : Hid (Below w.heap.size w w8) := HW6.out.trans (HB8.out.mono HW6.out.size)
          clear hb78
          have s10 : w8.cell? ⟨wr.heap.size, 10, none⟩ = some (.int .i64 v0) := by rw [Lib.cell_of_heap H8.out]; rfl
          have s11 : w8.cell? ⟨wr.heap.size, 11, none⟩ = some (.int .i64 v1) := by rw [Lib.cell_of_heap H8.out]; rfl
          have s12 : w8.cell? ⟨wr.heap.size, 12, none⟩ = some (.string v2) := by rw [Lib.cell_of_heap H8.out]; rfl
          have s13 : w8.cell? ⟨wr.heap.size, 13, none⟩ = some (.int .i64 v3) := by rw [Lib.cell_of_heap H8.out]; rfl
          have s14 : w8.cell? ⟨wr.heap.size, 14, none⟩ = some (.int .i64 v4) := by rw [Lib.cell_of_heap H8.out]; rfl
          have s15 : w8.cell? ⟨wr.heap.size, 15, none⟩ = some (.slice V1 V2 V3) := by rw [Lib.cell_of_heap H8.out]; rfl
          go_wp2_with fail
          refine (CV.out _ HW8.out).mono ?_
          rintro e w9 ⟨y9, rfl, ⟨z0, z1, z2, z3, z4, Z1, Z2, Z3, rfl, hl⟩, hb⟩
          have HLV := Lib.hid hl
          have H9 := Lib.hid (below_blk hb H8.out)
          have HX9 := Lib.hid (below_blk hb HX8.out)
          have HB9 := Lib.hid hb
          clear hb hl s10 s11 s12 s13 s14 s15
          go_upto_region 13 with fail
          obtain ⟨w10, hw10⟩ : ∃ x, w9.alloc (.cells #[.int .i64 z0, .int .i64 z1, .string z2, .int .i64 z3, .int .i64 z4, .slice Z1 Z2 Z3] 92) = x := ⟨_, rfl⟩
          have hb910 : Below w9.heap.size w9 w10 := by rw [← hw10]; exact (Below.refl _ _).alloc (Nat.le_refl _) _
          have E109 : Hid (∀ k, k < w9.heap.size → w10.heap[k]? = w9.heap[k]?) := fun k hk => hb910.block k hk
          have HZ10 : Hid (w10.heap[w9.heap.size]? = some (.cells #[.int .i64 z0, .int .i64 z1, .string z2, .int .i64 z3, .int .i64 z4, .slice Z1 Z2 Z3] 92 (0, 0))) := by rw [← hw10]; exact new_blk w9 _
          obtain ⟨nv, hnv⟩ : ∃ x, w9.heap.size = x := ⟨_, rfl⟩
          have HNV := Lib.hid hnv
          rw [hnv] at HZ10
          simp only [hw10, hnv]
          clear hw10 hnv
          have H10 := Lib.hid (below_blk hb910 H9.out)
          have HX10 := Lib.hid (below_blk hb910 HX9.out)
          have HB10 := Lib.hid (HB9.out.trans (hb910.mono HB9.out.size))
          have HW10 : Hid (Below w.heap.size w w10) := HW8.out.trans (HB10.out.mono HW8.out.size)
          clear hb910
          have s16 : w10.cell? ⟨wr.heap.size, 16, none⟩ = some (.slice A3 body.length c3) := by rw [Lib.cell_of_heap H10.out]; rfl
          go_wp2_with fail
          refine (CB.out _ HW10.out).mono ?_
          rintro e w11 ⟨y11, rfl, ⟨Ab, cb, rfl, hl, hr⟩, hb⟩
          have HLB := Lib.hid hl
          have HRB := Lib.hid hr
          have H11 := Lib.hid (below_blk hb H10.out)
          have HX11 := Lib.hid (below_blk hb HX10.out)
          have HZ11 := Lib.hid (below_blk hb HZ10.out)
          have HB11 := Lib.hid hb
          have HW11 : Hid (Below w.heap.size w w11) := HW10.out.trans (HB11.out.mono HW10.out.size)
          clear hb hl hr s16
          have s17 : w11.cell? ⟨wr.heap.size, 17, none⟩ = some (.slice A4 els.length c4) := by rw [Lib.cell_of_heap H11.out]; rfl
          go_wp2_with fail
          refine (CE.out _ HW11.out).mono ?_
          rintro e w12 ⟨y12, rfl, ⟨Ae, ce, rfl, hl, hr⟩, hb⟩
          have HLE := Lib.hid hl
          have HRE := Lib.hid hr
          have H12 := Lib.hid (below_blk hb H11.out)
          have HX12 := Lib.hid (below_blk hb HX11.out)
          have HZ12 := Lib.hid (below_blk hb HZ11.out)
          have HB12 := Lib.hid hb
          clear hb hl hr s17
          go_upto_region 15 with fail
          have hnp : np ≠ wr.heap.size := by have := HNP.out; have := HB6.out.size; have := HB7.out.size; have := lt_of_block H6.out; omega
          have hnv : nv ≠ wr.heap.size := by have := HNV.out; have := HB9.out.size; have := HB8.out.size; have := lt_of_block H6.out; omega
          have hS : w12.drew.heap[np]? = some (.cells #[.int .i64 x0, .int .i64 x1, .string x2, .int .i64 x3, .int .i64 x4, .slice X1 X2 X3] 92 (0, 0)) ∧ w12.drew.heap[nv]? = some (.cells #[.int .i64 z0, .int .i64 z1, .string z2, .int .i64 z3, .int .i64 z4, .slice Z1 Z2 Z3] 92 (0, 0)) := ⟨HX12.out, HZ12.out⟩
          obtain ⟨wd, hwd⟩ : ∃ x, w12.drew = x := ⟨_, rfl⟩
          have HD12 : Hid (wd.heap[wr.heap.size]? = some (.cells #[.int .i64 2, .string (strB name), .int .i64 L1, .int .i64 L2, .int .i64 p0, .int .i64 p1, .string p2, .int .i64 p3, .int .i64 p4, .slice P1 P2 P3, .int .i64 v0, .int .i64 v1, .string v2, .int .i64 v3, .int .i64 v4, .slice V1 V2 V3, .slice A3 body.length c3, .slice A4 els.length c4] 94 (0, 0)) ∧ Below w12.heap.size w12 wd) := by rw [← hwd]; exact ⟨H12.out, (Below.refl _ _).drew⟩
          refine wp_region_G [5, 7] (fun w' => w'.heap[np]? = some (.cells #[.int .i64 x0, .int .i64 x1, .string x2, .int .i64 x3, .int .i64 x4, .slice X1 X2 X3] 92 (0, 0)) ∧ w'.heap[nv]? = some (.cells #[.int .i64 z0, .int .i64 z1, .string z2, .int .i64 z3, .int .i64 z4, .slice Z1 Z2 Z3] 92 (0, 0))) (by kernel_rfl) ?_
          rw [hwd] at hS ⊢
          clear hwd
          have hS0 := hS
          refine' wpAnyG_take 5 (i := 0) (v := _) ?hi85 (by kernel_rfl) ?hQ85 (Or.inl ⟨?hw85, ?hy85⟩) hS ?rest85
          case hi85 => (simp only [List.getElem?_toArray, List.getElem?_cons_zero]; rfl)
          case hQ85 => exact fun _ _ _ h => h
          case hw85 => rfl
          case hy85 =>
            rintro w99 ⟨hx99, -⟩
            have d0 : w99.cell? ⟨np, 0, none⟩ = some (.int .i64 x0) := by rw [Lib.cell_of_heap hx99]; rfl
            have d1 : w99.cell? ⟨np, 1, none⟩ = some (.int .i64 x1) := by rw [Lib.cell_of_heap hx99]; rfl
            have d2 : w99.cell? ⟨np, 2, none⟩ = some (.string x2) := by rw [Lib.cell_of_heap hx99]; rfl
            have d3 : w99.cell? ⟨np, 3, none⟩ = some (.int .i64 x3) := by rw [Lib.cell_of_heap hx99]; rfl
            have d4 : w99.cell? ⟨np, 4, none⟩ = some (.int .i64 x4) := by rw [Lib.cell_of_heap hx99]; rfl
            have d5 : w99.cell? ⟨np, 5, none⟩ = some (.slice X1 X2 X3) := by rw [Lib.cell_of_heap hx99]; rfl
            go_simp
            with_reducible rfl
          try simp only [Act.put, List.setIfInBounds_toArray, List.set_cons_zero, List.set_cons_succ]
          refine' wpAnyG_take 7 (i := 1) (v := _) ?hi86 (by kernel_rfl) ?hQ86 (Or.inl ⟨?hw86, ?hy86⟩) hS ?rest86
          case hi86 => (simp only [List.getElem?_toArray, List.getElem?_cons_succ, List.getElem?_cons_zero]; rfl)
          case hQ86 => exact fun _ _ _ h => h
          case hw86 => rfl
          case hy86 =>
            rintro w99 ⟨-, hx99⟩
            have d0 : w99.cell? ⟨nv, 0, none⟩ = some (.int .i64 z0) := by rw [Lib.cell_of_heap hx99]; rfl
            have d1 : w99.cell? ⟨nv, 1, none⟩ = some (.int .i64 z1) := by rw [Lib.cell_of_heap hx99]; rfl
            have d2 : w99.cell? ⟨nv, 2, none⟩ = some (.string z2) := by rw [Lib.cell_of_heap hx99]; rfl
            have d3 : w99.cell? ⟨nv, 3, none⟩ = some (.int .i64 z3) := by rw [Lib.cell_of_heap hx99]; rfl
            have d4 : w99.cell? ⟨nv, 4, none⟩ = some (.int .i64 z4) := by rw [Lib.cell_of_heap hx99]; rfl
            have d5 : w99.cell? ⟨nv, 5, none⟩ = some (.slice Z1 Z2 Z3) := by rw [Lib.cell_of_heap hx99]; rfl
            go_simp
            with_reducible rfl
          try simp only [Act.put, List.setIfInBounds_toArray, List.set_cons_zero, List.set_cons_succ]
          refine' wpAnyG_step (i := 2) (v := _) ?hi87 (by kernel_rfl) ?hQ87 (Or.inl ⟨?hw87, ?hy87⟩) hS ?rest87
          case hi87 => (simp only [List.getElem?_toArray, List.getElem?_cons_succ, List.getElem?_cons_zero]; rfl)
          case hQ87 => exact fun _ _ _ h => h
          case hw87 => rfl
          case hy87 => (intro w99; go_simp; with_reducible rfl)
          try simp only [Act.put, List.setIfInBounds_toArray, List.set_cons_zero, List.set_cons_succ]
          refine' wpAnyG_step (i := 3) (v := _) ?hi88 (by kernel_rfl) ?hQ88 (Or.inl ⟨?hw88, ?hy88⟩) hS ?rest88
          case hi88 => (simp only [List.getElem?_toArray, List.getElem?_cons_succ, List.getElem?_cons_zero]; rfl)
          case hQ88 => exact fun _ _ _ h => h
          case hw88 => rfl
          case hy88 => (intro w99; go_simp; with_reducible rfl)
          try simp only [Act.put, List.setIfInBounds_toArray, List.set_cons_zero, List.set_cons_succ]
          refine' wpAnyG_step (i := 4) (v := _) ?hi89 (by kernel_rfl) ?hQ89 (Or.inl ⟨?hw89, ?hy89⟩) hS ?rest89
          case hi89 => (simp only [List.getElem?_toArray, List.getElem?_cons_succ, List.getElem?_cons_zero]; rfl)
          case hQ89 => exact fun _ _ _ h => h
          case hw89 => rfl
          case hy89 => (intro w99; go_simp; with_reducible rfl)
          try simp only [Act.put, List.setIfInBounds_toArray, List.set_cons_zero, List.set_cons_succ]
          have s4 : wd.cell? ⟨wr.heap.size, 4, none⟩ = some (.int .i64 p0) := by rw [Lib.cell_of_heap HD12.out.1]; rfl
          have sf4 : wd.frozen? ⟨wr.heap.size, 4, none⟩ = false := Lib.frozen_of_heap HD12.out.1 4
          have s5 : wd.cell? ⟨wr.heap.size, 5, none⟩ = some (.int .i64 p1) := by rw [Lib.cell_of_heap HD12.out.1]; rfl
          have sf5 : wd.frozen? ⟨wr.heap.size, 5, none⟩ = false := Lib.frozen_of_heap HD12.out.1 5
          have s6 : wd.cell? ⟨wr.heap.size, 6, none⟩ = some (.string p2) := by rw [Lib.cell_of_heap HD12.out.1]; rfl
          have sf6 : wd.frozen? ⟨wr.heap.size, 6, none⟩ = false := Lib.frozen_of_heap HD12.out.1 6
          have s7 : wd.cell? ⟨wr.heap.size, 7, none⟩ = some (.int .i64 p3) := by rw [Lib.cell_of_heap HD12.out.1]; rfl
          have sf7 : wd.frozen? ⟨wr.heap.size, 7, none⟩ = false := Lib.frozen_of_heap HD12.out.1 7
          have s8 : wd.cell? ⟨wr.heap.size, 8, none⟩ = some (.int .i64 p4) := by rw [Lib.cell_of_heap HD12.out.1]; rfl
          have sf8 : wd.frozen? ⟨wr.heap.size, 8, none⟩ = false := Lib.frozen_of_heap HD12.out.1 8
          have s9 : wd.cell? ⟨wr.heap.size, 9, none⟩ = some (.slice P1 P2 P3) := by rw [Lib.cell_of_heap HD12.out.1]; rfl
          have sf9 : wd.frozen? ⟨wr.heap.size, 9, none⟩ = false := Lib.frozen_of_heap HD12.out.1 9
          have s10 : wd.cell? ⟨wr.heap.size, 10, none⟩ = some (.int .i64 v0) := by rw [Lib.cell_of_heap HD12.out.1]; rfl
          have sf10 : wd.frozen? ⟨wr.heap.size, 10, none⟩ = false := Lib.frozen_of_heap HD12.out.1 10
          have s11 : wd.cell? ⟨wr.heap.size, 11, none⟩ = some (.int .i64 v1) := by rw [Lib.cell_of_heap HD12.out.1]; rfl
          have sf11 : wd.frozen? ⟨wr.heap.size, 11, none⟩ = false := Lib.frozen_of_heap HD12.out.1 11
          have s12 : wd.cell? ⟨wr.heap.size, 12, none⟩ = some (.string v2) := by rw [Lib.cell_of_heap HD12.out.1]; rfl
          have sf12 : wd.frozen? ⟨wr.heap.size, 12, none⟩ = false := Lib.frozen_of_heap HD12.out.1 12
          have s13 : wd.cell? ⟨wr.heap.size, 13, none⟩ = some (.int .i64 v3) := by rw [Lib.cell_of_heap HD12.out.1]; rfl
          have sf13 : wd.frozen? ⟨wr.heap.size, 13, none⟩ = false := Lib.frozen_of_heap HD12.out.1 13
          have s14 : wd.cell? ⟨wr.heap.size, 14, none⟩ = some (.int .i64 v4) := by rw [Lib.cell_of_heap HD12.out.1]; rfl
          have sf14 : wd.frozen? ⟨wr.heap.size, 14, none⟩ = false := Lib.frozen_of_heap HD12.out.1 14
          have s15 : wd.cell? ⟨wr.heap.size, 15, none⟩ = some (.slice V1 V2 V3) := by rw [Lib.cell_of_heap HD12.out.1]; rfl
          have sf15 : wd.frozen? ⟨wr.heap.size, 15, none⟩ = false := Lib.frozen_of_heap HD12.out.1 15
          have s16 : wd.cell? ⟨wr.heap.size, 16, none⟩ = some (.slice A3 body.length c3) := by rw [Lib.cell_of_heap HD12.out.1]; rfl
          have sf16 : wd.frozen? ⟨wr.heap.size, 16, none⟩ = false := Lib.frozen_of_heap HD12.out.1 16
          have s17 : wd.cell? ⟨wr.heap.size, 17, none⟩ = some (.slice A4 els.length c4) := by rw [Lib.cell_of_heap HD12.out.1]; rfl
          have sf17 : wd.frozen? ⟨wr.heap.size, 17, none⟩ = false := Lib.frozen_of_heap HD12.out.1 17
          refine' wpAnyG_one (i := 5) (by kernel_rfl) ?hi90 (fun K hK => ?rest90)
          case hi90 => (simp only [List.getElem?_toArray, List.getElem?_cons_succ, List.getElem?_cons_zero]; rfl)
          go_simp
          refine hK.out _ _ ⟨?_, ?_⟩ (fun hS => ?_)
          · repeat rw [Below.heap_setCell _ _ _ _ (show np ≠ wr.heap.size from hnp)]
            exact hS0.1
          · repeat rw [Below.heap_setCell _ _ _ _ (show nv ≠ wr.heap.size from hnv)]
            exact hS0.2
          clear hK K
          try simp only [Act.put, List.setIfInBounds_toArray, List.set_cons_zero, List.set_cons_succ]
          refine' wpAnyG_one (i := 6) (by kernel_rfl) ?hi91 (fun K hK => ?rest91)
          case hi91 => (simp only [List.getElem?_toArray, List.getElem?_cons_succ, List.getElem?_cons_zero]; rfl)
          go_simp
          refine hK.out _ _ ⟨?_, ?_⟩ (fun hS => ?_)
          · repeat rw [Below.heap_setCell _ _ _ _ (show np ≠ wr.heap.size from hnp)]
            exact hS0.1
          · repeat rw [Below.heap_setCell _ _ _ _ (show nv ≠ wr.heap.size from hnv)]
            exact hS0.2
          clear hK K
          try simp only [Act.put, List.setIfInBounds_toArray, List.set_cons_zero, List.set_cons_succ]
          refine' wpAnyG_one (i := 7) (by kernel_rfl) ?hi92 (fun K hK => ?rest92)
          case hi92 => (simp only [List.getElem?_toArray, List.getElem?_cons_succ, List.getElem?_cons_zero]; rfl)
          go_simp
          refine hK.out _ _ ⟨?_, ?_⟩ (fun hS => ?_)
          · repeat rw [Below.heap_setCell _ _ _ _ (show np ≠ wr.heap.size from hnp)]
            exact hS0.1
          · repeat rw [Below.heap_setCell _ _ _ _ (show nv ≠ wr.heap.size from hnv)]
            exact hS0.2
          clear hK K
          try simp only [Act.put, List.setIfInBounds_toArray, List.set_cons_zero, List.set_cons_succ]
          refine wpAnyG_rel (by kernel_rfl) ?_
          clear hS
          refine' wpAny_one (i := 8) (by kernel_rfl) ?hi93 (fun K hK => ?rest93)
          case hi93 => (simp only [List.getElem?_toArray, List.getElem?_cons_succ, List.getElem?_cons_zero]; rfl)
          go_simp
          refine hK.out _ _ ?_
          clear hK K
          try simp only [Act.put, List.setIfInBounds_toArray, List.set_cons_zero, List.set_cons_succ]
          refine' wpAny_one (i := 9) (by kernel_rfl) ?hi94 (fun K hK => ?rest94)
          case hi94 => (simp only [List.getElem?_toArray, List.getElem?_cons_succ, List.getElem?_cons_zero]; rfl)
          go_simp
          refine hK.out _ _ ?_
          clear hK K
          try simp only [Act.put, List.setIfInBounds_toArray, List.set_cons_zero, List.set_cons_succ]
          refine' wpAny_one (i := 10) (by kernel_rfl) ?hi95 (fun K hK => ?rest95)
          case hi95 => (simp only [List.getElem?_toArray, List.getElem?_cons_succ, List.getElem?_cons_zero]; rfl)
          go_simp
          refine hK.out _ _ ?_
          clear hK K
          try simp only [Act.put, List.setIfInBounds_toArray, List.set_cons_zero, List.set_cons_succ]
          refine' wpAny_one (i := 11) (by kernel_rfl) ?hi96 (fun K hK => ?rest96)
          case hi96 => (simp only [List.getElem?_toArray, List.getElem?_cons_succ, List.getElem?_cons_zero]; rfl)
          go_simp
          refine hK.out _ _ ?_
          clear hK K
          try simp only [Act.put, List.setIfInBounds_toArray, List.set_cons_zero, List.set_cons_succ]
          refine wpAny_done (by kernel_rfl) ?_ _
          obtain ⟨w13, hw13⟩ : ∃ x, ((((((((((((((wd.setCell ⟨wr.heap.size, 4, none⟩ (.int .i64 x0)).setCell ⟨wr.heap.size, 5, none⟩ (.int .i64 x1)).setCell ⟨wr.heap.size, 6, none⟩ (.string x2)).setCell ⟨wr.heap.size, 7, none⟩ (.int .i64 x3)).setCell ⟨wr.heap.size, 8, none⟩ (.int .i64 x4)).setCell ⟨wr.heap.size, 9, none⟩ (.slice X1 X2 X3)).setCell ⟨wr.heap.size, 10, none⟩ (.int .i64 z0)).setCell ⟨wr.heap.size, 11, none⟩ (.int .i64 z1)).setCell ⟨wr.heap.size, 12, none⟩ (.string z2)).setCell ⟨wr.heap.size, 13, none⟩ (.int .i64 z3)).setCell ⟨wr.heap.size, 14, none⟩ (.int .i64 z4)).setCell ⟨wr.heap.size, 15, none⟩ (.slice Z1 Z2 Z3)).setCell ⟨wr.heap.size, 16, none⟩ (.slice Ab (St.resL (plL vl) body).length cb)).setCell ⟨wr.heap.size, 17, none⟩ (.slice Ae (St.resL (plL vl) els).length ce)) = x := ⟨_, rfl⟩
          have H13 : Hid (w13.heap[wr.heap.size]? = some (.cells #[.int .i64 2, .string (strB name), .int .i64 L1, .int .i64 L2, .int .i64 x0, .int .i64 x1, .string x2, .int .i64 x3, .int .i64 x4, .slice X1 X2 X3, .int .i64 z0, .int .i64 z1, .string z2, .int .i64 z3, .int .i64 z4, .slice Z1 Z2 Z3, .slice Ab (St.resL (plL vl) body).length cb, .slice Ae (St.resL (plL vl) els).length ce] 94 (0, 0))) := by
            have h' := (blk_set (blk_set (blk_set (blk_set (blk_set (blk_set (blk_set (blk_set (blk_set (blk_set (blk_set (blk_set (blk_set (blk_set HD12.out.1 4 (.int .i64 x0)) 5 (.int .i64 x1)) 6 (.string x2)) 7 (.int .i64 x3)) 8 (.int .i64 x4)) 9 (.slice X1 X2 X3)) 10 (.int .i64 z0)) 11 (.int .i64 z1)) 12 (.string z2)) 13 (.int .i64 z3)) 14 (.int .i64 z4)) 15 (.slice Z1 Z2 Z3)) 16 (.slice Ab (St.resL (plL vl) body).length cb)) 17 (.slice Ae (St.resL (plL vl) els).length ce))
            rw [hw13] at h'
            simp only [List.setIfInBounds_toArray, List.set_cons_zero, List.set_cons_succ] at h'
            exact h'
          have HK13 : Hid (∀ k, k ≠ wr.heap.size → w13.heap[k]? = wd.heap[k]?) := fun k hk => by
            rw [← hw13]
            iterate 14 rw [Below.heap_setCell _ _ _ _ hk]
          have HB13 : Hid (Below wr.heap.size wd w13) := by rw [← hw13]; exact (((((((((((((((Below.refl _ _).setCell (p := ⟨wr.heap.size, 4, none⟩) (Nat.le_refl _) _).setCell (p := ⟨wr.heap.size, 5, none⟩) (Nat.le_refl _) _).setCell (p := ⟨wr.heap.size, 6, none⟩) (Nat.le_refl _) _).setCell (p := ⟨wr.heap.size, 7, none⟩) (Nat.le_refl _) _).setCell (p := ⟨wr.heap.size, 8, none⟩) (Nat.le_refl _) _).setCell (p := ⟨wr.heap.size, 9, none⟩) (Nat.le_refl _) _).setCell (p := ⟨wr.heap.size, 10, none⟩) (Nat.le_refl _) _).setCell (p := ⟨wr.heap.size, 11, none⟩) (Nat.le_refl _) _).setCell (p := ⟨wr.heap.size, 12, none⟩) (Nat.le_refl _) _).setCell (p := ⟨wr.heap.size, 13, none⟩) (Nat.le_refl _) _).setCell (p := ⟨wr.heap.size, 14, none⟩) (Nat.le_refl _) _).setCell (p := ⟨wr.heap.size, 15, none⟩) (Nat.le_refl _) _).setCell (p := ⟨wr.heap.size, 16, none⟩) (Nat.le_refl _) _).setCell (p := ⟨wr.heap.size, 17, none⟩) (Nat.le_refl _) _)
          simp only [hw13]
          clear hw13 s4 sf4 s5 sf5 s6 sf6 s7 sf7 s8 sf8 s9 sf9 s10 sf10 s11 sf11 s12 sf12 s13 sf13 s14 sf14 s15 sf15 s16 sf16 s17 sf17
          have hza : wr.heap.size < w6.heap.size := lt_of_block H6.out
          have hzb : w6.heap.size ≤ w7.heap.size := HB7.out.size
          have hzc : w7.heap.size ≤ w8.heap.size := by have := lt_of_block HX8.out; have := HNP.out; omega
          have hzd : w8.heap.size ≤ w9.heap.size := HB9.out.size
          have hze : w9.heap.size ≤ w10.heap.size := by have := lt_of_block HZ10.out; have := HNV.out; omega
          have hzf : w10.heap.size ≤ w11.heap.size := HB11.out.size
          have hzg : w11.heap.size ≤ w12.heap.size := HB12.out.size
          have hzh : w12.heap.size ≤ wd.heap.size := HD12.out.2.size
          have HW13 : Hid (Below wr.heap.size wr w13) := (((((HB6.out.trans (HB8.out.mono (by omega))).trans (HB10.out.mono (by omega))).trans (HB11.out.mono (by omega))).trans (HB12.out.mono (by omega))).trans (HD12.out.2.mono (by omega))).trans HB13.out
          have HS13 : Hid (StL (From wr.heap.size) w13 (St.res (plL vl) (.mk 2 name slot size place value body els)) [.int .i64 2, .string (strB name), .int .i64 L1, .int .i64 L2, .int .i64 x0, .int .i64 x1, .string x2, .int .i64 x3, .int .i64 x4, .slice X1 X2 X3, .int .i64 z0, .int .i64 z1, .string z2, .int .i64 z3, .int .i64 z4, .slice Z1 Z2 Z3, .slice Ab (St.resL (plL vl) body).length cb, .slice Ae (St.resL (plL vl) els).length ce]) := by
            have hres : St.res (plL vl) (.mk 2 name slot size place value body els) = .mk 2 name L1 L2 (place.res (plL vl)) (value.res (plL vl)) (St.resL (plL vl) body) (St.resL (plL vl) els) := HRES.out
            rw [hres]
            simp only [StL]
            refine ⟨[.int .i64 x0, .int .i64 x1, .string x2, .int .i64 x3, .int .i64 x4, .slice X1 X2 X3], [.int .i64 z0, .int .i64 z1, .string z2, .int .i64 z3, .int .i64 z4, .slice Z1 Z2 Z3], Ab, cb, Ae, ce, rfl, ?_, ?_, HLB.out, HLE.out, fun hne => ?_, fun hne => ?_⟩
            · exact ExL.still (fun k (h1 : w6.heap.size ≤ k) h2 => ⟨show wr.heap.size ≤ k by omega, (HK13.out k (by omega)).trans ((HD12.out.2.block k (by omega)).trans ((HB12.out.block k (by omega)).trans ((HB11.out.block k (by omega)).trans ((HB10.out.block k (by omega)).trans (E87.out k h2)))))⟩) _ _ HLP.out
            · exact ExL.still (fun k (h1 : w8.heap.size ≤ k) h2 => ⟨show wr.heap.size ≤ k by omega, (HK13.out k (by omega)).trans ((HD12.out.2.block k (by omega)).trans ((HB12.out.block k (by omega)).trans ((HB11.out.block k (by omega)).trans (E109.out k h2))))⟩) _ _ HLV.out
            · obtain ⟨b, o, hA, hS, hr⟩ := HRB.out hne
              exact ⟨b, o, hA, show wr.heap.size ≤ b from Nat.le_trans (by omega) (show w10.heap.size ≤ b from hS), StRow.still (fun k (h1 : w10.heap.size ≤ k) h2 => ⟨show wr.heap.size ≤ k by omega, (HK13.out k (by omega)).trans ((HD12.out.2.block k (by omega)).trans (HB12.out.block k h2))⟩) _ b o hS hr⟩
            · obtain ⟨b, o, hA, hS, hr⟩ := HRE.out hne
              exact ⟨b, o, hA, show wr.heap.size ≤ b from Nat.le_trans (by omega) (show w11.heap.size ≤ b from hS), StRow.still (fun k (h1 : w11.heap.size ≤ k) h2 => ⟨show wr.heap.size ≤ k by omega, (HK13.out k (by omega)).trans (HD12.out.2.block k h2)⟩) _ b o hS hr⟩
          clear hza hzb hzc hzd hze hzf hzg hzh hnp hnv
          go_wp2_with (first
            | (refine wpList_load_row rfl 94 _ rfl wr.heap.size rfl 94 _ (0, 0) _ H13.out Tryd.underlying94 rfl (by kernel_rfl) ?_)
            | (at_builtin; refine wpList_append_own_at _ rfl _ _ 27 rfl w.heap.size 94 i0 _ 18 232 Tryd.underlying27 HI.out HI0.out HI1.out HI2.out rfl (by decide) _ _ _ rfl ((own_bel HH.out.o HW13.out).alloc _) ⟨w13.heap.size, 0, none⟩ 1 1 [.int .i64 2, .string (strB name), .int .i64 L1, .int .i64 L2, .int .i64 x0, .int .i64 x1, .string x2, .int .i64 x3, .int .i64 x4, .slice X1 X2 X3, .int .i64 z0, .int .i64 z1, .string z2, .int .i64 z3, .int .i64 z4, .slice Z1 Z2 Z3, .slice Ab (St.resL (plL vl) body).length cb, .slice Ae (St.resL (plL vl) els).length ce] rfl rfl (ex_new _ _ _) (by simp [Value.oneCell']) (by rw [HLN.out]; unfold maxLen; omega) (by rw [HLN.out]; omega) (by rw [new_size]; have := HW13.out.size; omega) ?_))
          intro va wa hown hgrow _ hobl
          have HN := Lib.hid (RyHead.next HH.out HE1.out HW13.out HS13.out hown hgrow hobl)
          clear hown hgrow hobl
          go_wp2_with fail
          go_roundg g
          case rel => exact ⟨k + 1, _, _, by have := HG.out; omega, by go_num, rfl, HKO.out.symm.trans (by simp), HN⟩
          case measure => omega

      · have HRES : Hid (St.res (plL vl) (.mk kind name slot size place value body els) = .mk kind name slot size (place.res (plL vl)) (value.res (plL vl)) (St.resL (plL vl) body) (St.resL (plL vl) els)) := by show _ = _; simp at hn2 hn3; simp [St.res, hn2, hn3]
        have HKO : Hid (St.shpL (zL vl) (ls.take (k + 1)) = (okk && (true && (b1 && (b2 && (b3 && b4)))))) := by
          show _ = _
          rw [HTK.out, ← HOK.out]
          simp at hn2 hn3
          simp [hn2, hn3]
        have H6 : Hid (w5.heap[wr.heap.size]? = some (.cells #[.int .i64 kind, .string (strB name), .int .i64 slot, .int .i64 size, .int .i64 p0, .int .i64 p1, .string p2, .int .i64 p3, .int .i64 p4, .slice P1 P2 P3, .int .i64 v0, .int .i64 v1, .string v2, .int .i64 v3, .int .i64 v4, .slice V1 V2 V3, .slice A3 body.length c3, .slice A4 els.length c4] 94 (0, 0))) := H5.out
        have HB6 := HB5
        clear HTK
        go_upto_region 11 with fail
        clear q0
        obtain ⟨w6, hw6⟩ : ∃ x, w5 = x := ⟨_, rfl⟩
        rw [hw6] at H6 HB6 ⊢
        clear hw6
        have s4 : w6.cell? ⟨wr.heap.size, 4, none⟩ = some (.int .i64 p0) := by rw [Lib.cell_of_heap H6.out]; rfl
        have s5 : w6.cell? ⟨wr.heap.size, 5, none⟩ = some (.int .i64 p1) := by rw [Lib.cell_of_heap H6.out]; rfl
        have s6 : w6.cell? ⟨wr.heap.size, 6, none⟩ = some (.string p2) := by rw [Lib.cell_of_heap H6.out]; rfl
        have s7 : w6.cell? ⟨wr.heap.size, 7, none⟩ = some (.int .i64 p3) := by rw [Lib.cell_of_heap H6.out]; rfl
        have s8 : w6.cell? ⟨wr.heap.size, 8, none⟩ = some (.int .i64 p4) := by rw [Lib.cell_of_heap H6.out]; rfl
        have s9 : w6.cell? ⟨wr.heap.size, 9, none⟩ = some (.slice P1 P2 P3) := by rw [Lib.cell_of_heap H6.out]; rfl
        have HW6 : Hid (Below w.heap.size w w6) := HB.out.trans (HB6.out.mono hz0)
        go_wp2_with fail
        refine (CP.out _ HW6.out).mono ?_
        rintro e w7 ⟨y7, rfl, ⟨x0, x1, x2, x3, x4, X1, X2, X3, rfl, hl⟩, hb⟩
        have HLP := Lib.hid hl
        have H7 := Lib.hid (below_blk hb H6.out)
        have HB7 := Lib.hid hb
        clear hb hl s4 s5 s6 s7 s8 s9
        go_upto_region 12 with fail
        obtain ⟨w8, hw8⟩ : ∃ x, w7.alloc (.cells #[.int .i64 x0, .int .i64 x1, .string x2, .int .i64 x3, .int .i64 x4, .slice X1 X2 X3] 92) = x := ⟨_, rfl⟩
        have hb78 : Below w7.heap.size w7 w8 := by rw [← hw8]; exact (Below.refl _ _).alloc (Nat.le_refl _) _
        have E87 : Hid (∀ k, k < w7.heap.size → w8.heap[k]? = w7.heap[k]?) := fun k hk => hb78.block k hk
        have HX8 : Hid (w8.heap[w7.heap.size]? = some (.cells #[.int .i64 x0, .int .i64 x1, .string x2, .int .i64 x3, .int .i64 x4, .slice X1 X2 X3] 92 (0, 0))) := by rw [← hw8]; exact new_blk w7 _
        obtain ⟨np, hnp⟩ : ∃ x, w7.heap.size = x := ⟨_, rfl⟩
        have HNP := Lib.hid hnp
        rw [hnp] at HX8
        simp only [hw8, hnp]
        clear hw8 hnp
        have H8 := Lib.hid (below_blk hb78 H7.out)
        have HB8 := Lib.hid (HB7.out.trans (hb78.mono HB7.out.size))
        have HW8 : Hid (Below w.heap.size w w8) := HW6.out.trans (HB8.out.mono HW6.out.size)
        clear hb78
        have s10 : w8.cell? ⟨wr.heap.size, 10, none⟩ = some (.int .i64 v0) := by rw [Lib.cell_of_heap H8.out]; rfl
        have s11 : w8.cell? ⟨wr.heap.size, 11, none⟩ = some (.int .i64 v1) := by rw [Lib.cell_of_heap H8.out]; rfl
        have s12 : w8.cell? ⟨wr.heap.size, 12, none⟩ = some (.string v2) := by rw [Lib.cell_of_heap H8.out]; rfl
        have s13 : w8.cell? ⟨wr.heap.size, 13, none⟩ = some (.int .i64 v3) := by rw [Lib.cell_of_heap H8.out]; rfl
        have s14 : w8.cell? ⟨wr.heap.size, 14, none⟩ = some (.int .i64 v4) := by rw [Lib.cell_of_heap H8.out]; rfl
        have s15 : w8.cell? ⟨wr.heap.size, 15, none⟩ = some (.slice V1 V2 V3) := by rw [Lib.cell_of_heap H8.out]; rfl
        go_wp2_with fail
        refine (CV.out _ HW8.out).mono ?_
        rintro e w9 ⟨y9, rfl, ⟨z0, z1, z2, z3, z4, Z1, Z2, Z3, rfl, hl⟩, hb⟩
        have HLV := Lib.hid hl
        have H9 := Lib.hid (below_blk hb H8.out)
        have HX9 := Lib.hid (below_blk hb HX8.out)
        have HB9 := Lib.hid hb
        clear hb hl s10 s11 s12 s13 s14 s15
        go_upto_region 13 with fail
        obtain ⟨w10, hw10⟩ : ∃ x, w9.alloc (.cells #[.int .i64 z0, .int .i64 z1, .string z2, .int .i64 z3, .int .i64 z4, .slice Z1 Z2 Z3] 92) = x := ⟨_, rfl⟩
        have hb910 : Below w9.heap.size w9 w10 := by rw [← hw10]; exact (Below.refl _ _).alloc (Nat.le_refl _) _
        have E109 : Hid (∀ k, k < w9.heap.size → w10.heap[k]? = w9.heap[k]?) := fun k hk => hb910.block k hk
        have HZ10 : Hid (w10.heap[w9.heap.size]? = some (.cells #[.int .i64 z0, .int .i64 z1, .string z2, .int .i64 z3, .int .i64 z4, .slice Z1 Z2 Z3] 92 (0, 0))) := by rw [← hw10]; exact new_blk w9 _
        obtain ⟨nv, hnv⟩ : ∃ x, w9.heap.size = x := ⟨_, rfl⟩
        have HNV := Lib.hid hnv
        rw [hnv] at HZ10
        simp only [hw10, hnv]
        clear hw10 hnv
        have H10 := Lib.hid (below_blk hb910 H9.out)
        have HX10 := Lib.hid (below_blk hb910 HX9.out)
        have HB10 := Lib.hid (HB9.out.trans (hb910.mono HB9.out.size))
        have HW10 : Hid (Below w.heap.size w w10) := HW8.out.trans (HB10.out.mono HW8.out.size)
        clear hb910
        have s16 : w10.cell? ⟨wr.heap.size, 16, none⟩ = some (.slice A3 body.length c3) := by rw [Lib.cell_of_heap H10.out]; rfl
        go_wp2_with fail
        refine (CB.out _ HW10.out).mono ?_
        rintro e w11 ⟨y11, rfl, ⟨Ab, cb, rfl, hl, hr⟩, hb⟩
        have HLB := Lib.hid hl
        have HRB := Lib.hid hr
        have H11 := Lib.hid (below_blk hb H10.out)
        have HX11 := Lib.hid (below_blk hb HX10.out)
        have HZ11 := Lib.hid (below_blk hb HZ10.out)
        have HB11 := Lib.hid hb
        have HW11 : Hid (Below w.heap.size w w11) := HW10.out.trans (HB11.out.mono HW10.out.size)
        clear hb hl hr s16
        have s17 : w11.cell? ⟨wr.heap.size, 17, none⟩ = some (.slice A4 els.length c4) := by rw [Lib.cell_of_heap H11.out]; rfl
        go_wp2_with fail
        refine (CE.out _ HW11.out).mono ?_
        rintro e w12 ⟨y12, rfl, ⟨Ae, ce, rfl, hl, hr⟩, hb⟩
        have HLE := Lib.hid hl
        have HRE := Lib.hid hr
        have H12 := Lib.hid (below_blk hb H11.out)
        have HX12 := Lib.hid (below_blk hb HX11.out)
        have HZ12 := Lib.hid (below_blk hb HZ11.out)
        have HB12 := Lib.hid hb
        clear hb hl hr s17
        go_upto_region 15 with fail
        have hnp : np ≠ wr.heap.size := by have := HNP.out; have := HB6.out.size; have := HB7.out.size; have := lt_of_block H6.out; omega
        have hnv : nv ≠ wr.heap.size := by have := HNV.out; have := HB9.out.size; have := HB8.out.size; have := lt_of_block H6.out; omega
        have hS : w12.drew.heap[np]? = some (.cells #[.int .i64 x0, .int .i64 x1, .string x2, .int .i64 x3, .int .i64 x4, .slice X1 X2 X3] 92 (0, 0)) ∧ w12.drew.heap[nv]? = some (.cells #[.int .i64 z0, .int .i64 z1, .string z2, .int .i64 z3, .int .i64 z4, .slice Z1 Z2 Z3] 92 (0, 0)) := ⟨HX12.out, HZ12.out⟩
        obtain ⟨wd, hwd⟩ : ∃ x, w12.drew = x := ⟨_, rfl⟩
        have HD12 : Hid (wd.heap[wr.heap.size]? = some (.cells #[.int .i64 kind, .string (strB name), .int .i64 slot, .int .i64 size, .int .i64 p0, .int .i64 p1, .string p2, .int .i64 p3, .int .i64 p4, .slice P1 P2 P3, .int .i64 v0, .int .i64 v1, .string v2, .int .i64 v3, .int .i64 v4, .slice V1 V2 V3, .slice A3 body.length c3, .slice A4 els.length c4] 94 (0, 0)) ∧ Below w12.heap.size w12 wd) := by rw [← hwd]; exact ⟨H12.out, (Below.refl _ _).drew⟩
        refine wp_region_G [5, 7] (fun w' => w'.heap[np]? = some (.cells #[.int .i64 x0, .int .i64 x1, .string x2, .int .i64 x3, .int .i64 x4, .slice X1 X2 X3] 92 (0, 0)) ∧ w'.heap[nv]? = some (.cells #[.int .i64 z0, .int .i64 z1, .string z2, .int .i64 z3, .int .i64 z4, .slice Z1 Z2 Z3] 92 (0, 0))) (by kernel_rfl) ?_
        rw [hwd] at hS ⊢
        clear hwd
        have hS0 := hS
        refine' wpAnyG_take 5 (i := 0) (v := _) ?hi97 (by kernel_rfl) ?hQ97 (Or.inl ⟨?hw97, ?hy97⟩) hS ?rest97
        case hi97 => (simp only [List.getElem?_toArray, List.getElem?_cons_zero]; rfl)
        case hQ97 => exact fun _ _ _ h => h
        case hw97 => rfl
        case hy97 =>
          rintro w99 ⟨hx99, -⟩
          have d0 : w99.cell? ⟨np, 0, none⟩ = some (.int .i64 x0) := by rw [Lib.cell_of_heap hx99]; rfl
          have d1 : w99.cell? ⟨np, 1, none⟩ = some (.int .i64 x1) := by rw [Lib.cell_of_heap hx99]; rfl
          have d2 : w99.cell? ⟨np, 2, none⟩ = some (.string x2) := by rw [Lib.cell_of_heap hx99]; rfl
          have d3 : w99.cell? ⟨np, 3, none⟩ = some (.int .i64 x3) := by rw [Lib.cell_of_heap hx99]; rfl
          have d4 : w99.cell? ⟨np, 4, none⟩ = some (.int .i64 x4) := by rw [Lib.cell_of_heap hx99]; rfl
          have d5 : w99.cell? ⟨np, 5, none⟩ = some (.slice X1 X2 X3) := by rw [Lib.cell_of_heap hx99]; rfl
          go_simp
          with_reducible rfl
        try simp only [Act.put, List.setIfInBounds_toArray, List.set_cons_zero, List.set_cons_succ]
        refine' wpAnyG_take 7 (i := 1) (v := _) ?hi98 (by kernel_rfl) ?hQ98 (Or.inl ⟨?hw98, ?hy98⟩) hS ?rest98
        case hi98 => (simp only [List.getElem?_toArray, List.getElem?_cons_succ, List.getElem?_cons_zero]; rfl)
        case hQ98 => exact fun _ _ _ h => h
        case hw98 => rfl
        case hy98 =>
          rintro w99 ⟨-, hx99⟩
          have d0 : w99.cell? ⟨nv, 0, none⟩ = some (.int .i64 z0) := by rw [Lib.cell_of_heap hx99]; rfl
          have d1 : w99.cell? ⟨nv, 1, none⟩ = some (.int .i64 z1) := by rw [Lib.cell_of_heap hx99]; rfl
          have d2 : w99.cell? ⟨nv, 2, none⟩ = some (.string z2) := by rw [Lib.cell_of_heap hx99]; rfl
          have d3 : w99.cell? ⟨nv, 3, none⟩ = some (.int .i64 z3) := by rw [Lib.cell_of_heap hx99]; rfl
          have d4 : w99.cell? ⟨nv, 4, none⟩ = some (.int .i64 z4) := by rw [Lib.cell_of_heap hx99]; rfl
          have d5 : w99.cell? ⟨nv, 5, none⟩ = some (.slice Z1 Z2 Z3) := by rw [Lib.cell_of_heap hx99]; rfl
          go_simp
          with_reducible rfl
        try simp only [Act.put, List.setIfInBounds_toArray, List.set_cons_zero, List.set_cons_succ]
        refine' wpAnyG_step (i := 2) (v := _) ?hi99 (by kernel_rfl) ?hQ99 (Or.inl ⟨?hw99, ?hy99⟩) hS ?rest99
        case hi99 => (simp only [List.getElem?_toArray, List.getElem?_cons_succ, List.getElem?_cons_zero]; rfl)
        case hQ99 => exact fun _ _ _ h => h
        case hw99 => rfl
        case hy99 => (intro w99; go_simp; with_reducible rfl)
        try simp only [Act.put, List.setIfInBounds_toArray, List.set_cons_zero, List.set_cons_succ]
        refine' wpAnyG_step (i := 3) (v := _) ?hi100 (by kernel_rfl) ?hQ100 (Or.inl ⟨?hw100, ?hy100⟩) hS ?rest100
        case hi100 => (simp only [List.getElem?_toArray, List.getElem?_cons_succ, List.getElem?_cons_zero]; rfl)
        case hQ100 => exact fun _ _ _ h => h
        case hw100 => rfl
        case hy100 => (intro w99; go_simp; with_reducible rfl)
        try simp only [Act.put, List.setIfInBounds_toArray, List.set_cons_zero, List.set_cons_succ]
        refine' wpAnyG_step (i := 4) (v := _) ?hi101 (by kernel_rfl) ?hQ101 (Or.inl ⟨?hw101, ?hy101⟩) hS ?rest101
        case hi101 => (simp only [List.getElem?_toArray, List.getElem?_cons_succ, List.getElem?_cons_zero]; rfl)
        case hQ101 => exact fun _ _ _ h => h
        case hw101 => rfl
        case hy101 => (intro w99; go_simp; with_reducible rfl)
        try simp only [Act.put, List.setIfInBounds_toArray, List.set_cons_zero, List.set_cons_succ]
        have s4 : wd.cell? ⟨wr.heap.size, 4, none⟩ = some (.int .i64 p0) := by rw [Lib.cell_of_heap HD12.out.1]; rfl
        have sf4 : wd.frozen? ⟨wr.heap.size, 4, none⟩ = false := Lib.frozen_of_heap HD12.out.1 4
        have s5 : wd.cell? ⟨wr.heap.size, 5, none⟩ = some (.int .i64 p1) := by rw [Lib.cell_of_heap HD12.out.1]; rfl
        have sf5 : wd.frozen? ⟨wr.heap.size, 5, none⟩ = false := Lib.frozen_of_heap HD12.out.1 5
        have s6 : wd.cell? ⟨wr.heap.size, 6, none⟩ = some (.string p2) := by rw [Lib.cell_of_heap HD12.out.1]; rfl
        have sf6 : wd.frozen? ⟨wr.heap.size, 6, none⟩ = false := Lib.frozen_of_heap HD12.out.1 6
        have s7 : wd.cell? ⟨wr.heap.size, 7, none⟩ = some (.int .i64 p3) := by rw [Lib.cell_of_heap HD12.out.1]; rfl
        have sf7 : wd.frozen? ⟨wr.heap.size, 7, none⟩ = false := Lib.frozen_of_heap HD12.out.1 7
        have s8 : wd.cell? ⟨wr.heap.size, 8, none⟩ = some (.int .i64 p4) := by rw [Lib.cell_of_heap HD12.out.1]; rfl
        have sf8 : wd.frozen? ⟨wr.heap.size, 8, none⟩ = false := Lib.frozen_of_heap HD12.out.1 8
        have s9 : wd.cell? ⟨wr.heap.size, 9, none⟩ = some (.slice P1 P2 P3) := by rw [Lib.cell_of_heap HD12.out.1]; rfl
        have sf9 : wd.frozen? ⟨wr.heap.size, 9, none⟩ = false := Lib.frozen_of_heap HD12.out.1 9
        have s10 : wd.cell? ⟨wr.heap.size, 10, none⟩ = some (.int .i64 v0) := by rw [Lib.cell_of_heap HD12.out.1]; rfl
        have sf10 : wd.frozen? ⟨wr.heap.size, 10, none⟩ = false := Lib.frozen_of_heap HD12.out.1 10
        have s11 : wd.cell? ⟨wr.heap.size, 11, none⟩ = some (.int .i64 v1) := by rw [Lib.cell_of_heap HD12.out.1]; rfl
        have sf11 : wd.frozen? ⟨wr.heap.size, 11, none⟩ = false := Lib.frozen_of_heap HD12.out.1 11
        have s12 : wd.cell? ⟨wr.heap.size, 12, none⟩ = some (.string v2) := by rw [Lib.cell_of_heap HD12.out.1]; rfl
        have sf12 : wd.frozen? ⟨wr.heap.size, 12, none⟩ = false := Lib.frozen_of_heap HD12.out.1 12
        have s13 : wd.cell? ⟨wr.heap.size, 13, none⟩ = some (.int .i64 v3) := by rw [Lib.cell_of_heap HD12.out.1]; rfl
        have sf13 : wd.frozen? ⟨wr.heap.size, 13, none⟩ = false := Lib.frozen_of_heap HD12.out.1 13
        have s14 : wd.cell? ⟨wr.heap.size, 14, none⟩ = some (.int .i64 v4) := by rw [Lib.cell_of_heap HD12.out.1]; rfl
        have sf14 : wd.frozen? ⟨wr.heap.size, 14, none⟩ = false := Lib.frozen_of_heap HD12.out.1 14
        have s15 : wd.cell? ⟨wr.heap.size, 15, none⟩ = some (.slice V1 V2 V3) := by rw [Lib.cell_of_heap HD12.out.1]; rfl
        have sf15 : wd.frozen? ⟨wr.heap.size, 15, none⟩ = false := Lib.frozen_of_heap HD12.out.1 15
        have s16 : wd.cell? ⟨wr.heap.size, 16, none⟩ = some (.slice A3 body.length c3) := by rw [Lib.cell_of_heap HD12.out.1]; rfl
        have sf16 : wd.frozen? ⟨wr.heap.size, 16, none⟩ = false := Lib.frozen_of_heap HD12.out.1 16
        have s17 : wd.cell? ⟨wr.heap.size, 17, none⟩ = some (.slice A4 els.length c4) := by rw [Lib.cell_of_heap HD12.out.1]; rfl
        have sf17 : wd.frozen? ⟨wr.heap.size, 17, none⟩ = false := Lib.frozen_of_heap HD12.out.1 17
        refine' wpAnyG_one (i := 5) (by kernel_rfl) ?hi102 (fun K hK => ?rest102)
        case hi102 => (simp only [List.getElem?_toArray, List.getElem?_cons_succ, List.getElem?_cons_zero]; rfl)
        go_simp
        refine hK.out _ _ ⟨?_, ?_⟩ (fun hS => ?_)
        · repeat rw [Below.heap_setCell _ _ _ _ (show np ≠ wr.heap.size from hnp)]
          exact hS0.1
        · repeat rw [Below.heap_setCell _ _ _ _ (show nv ≠ wr.heap.size from hnv)]
          exact hS0.2
        clear hK K
        try simp only [Act.put, List.setIfInBounds_toArray, List.set_cons_zero, List.set_cons_succ]
        refine' wpAnyG_one (i := 6) (by kernel_rfl) ?hi103 (fun K hK => ?rest103)
        case hi103 => (simp only [List.getElem?_toArray, List.getElem?_cons_succ, List.getElem?_cons_zero]; rfl)
        go_simp
        refine hK.out _ _ ⟨?_, ?_⟩ (fun hS => ?_)
        · repeat rw [Below.heap_setCell _ _ _ _ (show np ≠ wr.heap.size from hnp)]
          exact hS0.1
        · repeat rw [Below.heap_setCell _ _ _ _ (show nv ≠ wr.heap.size from hnv)]
          exact hS0.2
        clear hK K
        try simp only [Act.put, List.setIfInBounds_toArray, List.set_cons_zero, List.set_cons_succ]
        refine' wpAnyG_one (i := 7) (by kernel_rfl) ?hi104 (fun K hK => ?rest104)
        case hi104 => (simp only [List.getElem?_toArray, List.getElem?_cons_succ, List.getElem?_cons_zero]; rfl)
        go_simp
        refine hK.out _ _ ⟨?_, ?_⟩ (fun hS => ?_)
        · repeat rw [Below.heap_setCell _ _ _ _ (show np ≠ wr.heap.size from hnp)]
          exact hS0.1
        · repeat rw [Below.heap_setCell _ _ _ _ (show nv ≠ wr.heap.size from hnv)]
          exact hS0.2
        clear hK K
        try simp only [Act.put, List.setIfInBounds_toArray, List.set_cons_zero, List.set_cons_succ]
        refine wpAnyG_rel (by kernel_rfl) ?_
        clear hS
        refine' wpAny_one (i := 8) (by kernel_rfl) ?hi105 (fun K hK => ?rest105)
        case hi105 => (simp only [List.getElem?_toArray, List.getElem?_cons_succ, List.getElem?_cons_zero]; rfl)
        go_simp
        refine hK.out _ _ ?_
        clear hK K
        try simp only [Act.put, List.setIfInBounds_toArray, List.set_cons_zero, List.set_cons_succ]
        refine' wpAny_one (i := 9) (by kernel_rfl) ?hi106 (fun K hK => ?rest106)
        case hi106 => (simp only [List.getElem?_toArray, List.getElem?_cons_succ, List.getElem?_cons_zero]; rfl)
        go_simp
        refine hK.out _ _ ?_
        clear hK K
        try simp only [Act.put, List.setIfInBounds_toArray, List.set_cons_zero, List.set_cons_succ]
        refine' wpAny_one (i := 10) (by kernel_rfl) ?hi107 (fun K hK => ?rest107)
        case hi107 => (simp only [List.getElem?_toArray, List.getElem?_cons_succ, List.getElem?_cons_zero]; rfl)
        go_simp
        refine hK.out _ _ ?_
        clear hK K
        try simp only [Act.put, List.setIfInBounds_toArray, List.set_cons_zero, List.set_cons_succ]
        refine' wpAny_one (i := 11) (by kernel_rfl) ?hi108 (fun K hK => ?rest108)
        case hi108 => (simp only [List.getElem?_toArray, List.getElem?_cons_succ, List.getElem?_cons_zero]; rfl)
        go_simp
        refine hK.out _ _ ?_
        clear hK K
        try simp only [Act.put, List.setIfInBounds_toArray, List.set_cons_zero, List.set_cons_succ]
        refine wpAny_done (by kernel_rfl) ?_ _
        obtain ⟨w13, hw13⟩ : ∃ x, ((((((((((((((wd.setCell ⟨wr.heap.size, 4, none⟩ (.int .i64 x0)).setCell ⟨wr.heap.size, 5, none⟩ (.int .i64 x1)).setCell ⟨wr.heap.size, 6, none⟩ (.string x2)).setCell ⟨wr.heap.size, 7, none⟩ (.int .i64 x3)).setCell ⟨wr.heap.size, 8, none⟩ (.int .i64 x4)).setCell ⟨wr.heap.size, 9, none⟩ (.slice X1 X2 X3)).setCell ⟨wr.heap.size, 10, none⟩ (.int .i64 z0)).setCell ⟨wr.heap.size, 11, none⟩ (.int .i64 z1)).setCell ⟨wr.heap.size, 12, none⟩ (.string z2)).setCell ⟨wr.heap.size, 13, none⟩ (.int .i64 z3)).setCell ⟨wr.heap.size, 14, none⟩ (.int .i64 z4)).setCell ⟨wr.heap.size, 15, none⟩ (.slice Z1 Z2 Z3)).setCell ⟨wr.heap.size, 16, none⟩ (.slice Ab (St.resL (plL vl) body).length cb)).setCell ⟨wr.heap.size, 17, none⟩ (.slice Ae (St.resL (plL vl) els).length ce)) = x := ⟨_, rfl⟩
        have H13 : Hid (w13.heap[wr.heap.size]? = some (.cells #[.int .i64 kind, .string (strB name), .int .i64 slot, .int .i64 size, .int .i64 x0, .int .i64 x1, .string x2, .int .i64 x3, .int .i64 x4, .slice X1 X2 X3, .int .i64 z0, .int .i64 z1, .string z2, .int .i64 z3, .int .i64 z4, .slice Z1 Z2 Z3, .slice Ab (St.resL (plL vl) body).length cb, .slice Ae (St.resL (plL vl) els).length ce] 94 (0, 0))) := by
          have h' := (blk_set (blk_set (blk_set (blk_set (blk_set (blk_set (blk_set (blk_set (blk_set (blk_set (blk_set (blk_set (blk_set (blk_set HD12.out.1 4 (.int .i64 x0)) 5 (.int .i64 x1)) 6 (.string x2)) 7 (.int .i64 x3)) 8 (.int .i64 x4)) 9 (.slice X1 X2 X3)) 10 (.int .i64 z0)) 11 (.int .i64 z1)) 12 (.string z2)) 13 (.int .i64 z3)) 14 (.int .i64 z4)) 15 (.slice Z1 Z2 Z3)) 16 (.slice Ab (St.resL (plL vl) body).length cb)) 17 (.slice Ae (St.resL (plL vl) els).length ce))
          rw [hw13] at h'
          simp only [List.setIfInBounds_toArray, List.set_cons_zero, List.set_cons_succ] at h'
          exact h'
        have HK13 : Hid (∀ k, k ≠ wr.heap.size → w13.heap[k]? = wd.heap[k]?) := fun k hk => by
          rw [← hw13]
          iterate 14 rw [Below.heap_setCell _ _ _ _ hk]
        have HB13 : Hid (Below wr.heap.size wd w13) := by rw [← hw13]; exact (((((((((((((((Below.refl _ _).setCell (p := ⟨wr.heap.size, 4, none⟩) (Nat.le_refl _) _).setCell (p := ⟨wr.heap.size, 5, none⟩) (Nat.le_refl _) _).setCell (p := ⟨wr.heap.size, 6, none⟩) (Nat.le_refl _) _).setCell (p := ⟨wr.heap.size, 7, none⟩) (Nat.le_refl _) _).setCell (p := ⟨wr.heap.size, 8, none⟩) (Nat.le_refl _) _).setCell (p := ⟨wr.heap.size, 9, none⟩) (Nat.le_refl _) _).setCell (p := ⟨wr.heap.size, 10, none⟩) (Nat.le_refl _) _).setCell (p := ⟨wr.heap.size, 11, none⟩) (Nat.le_refl _) _).setCell (p := ⟨wr.heap.size, 12, none⟩) (Nat.le_refl _) _).setCell (p := ⟨wr.heap.size, 13, none⟩) (Nat.le_refl _) _).setCell (p := ⟨wr.heap.size, 14, none⟩) (Nat.le_refl _) _).setCell (p := ⟨wr.heap.size, 15, none⟩) (Nat.le_refl _) _).setCell (p := ⟨wr.heap.size, 16, none⟩) (Nat.le_refl _) _).setCell (p := ⟨wr.heap.size, 17, none⟩) (Nat.le_refl _) _)
        simp only [hw13]
        clear hw13 s4 sf4 s5 sf5 s6 sf6 s7 sf7 s8 sf8 s9 sf9 s10 sf10 s11 sf11 s12 sf12 s13 sf13 s14 sf14 s15 sf15 s16 sf16 s17 sf17
        have hza : wr.heap.size < w6.heap.size := lt_of_block H6.out
        have hzb : w6.heap.size ≤ w7.heap.size := HB7.out.size
        have hzc : w7.heap.size ≤ w8.heap.size := by have := lt_of_block HX8.out; have := HNP.out; omega
        have hzd : w8.heap.size ≤ w9.heap.size := HB9.out.size
        have hze : w9.heap.size ≤ w10.heap.size := by have := lt_of_block HZ10.out; have := HNV.out; omega
        have hzf : w10.heap.size ≤ w11.heap.size := HB11.out.size
        have hzg : w11.heap.size ≤ w12.heap.size := HB12.out.size
        have hzh : w12.heap.size ≤ wd.heap.size := HD12.out.2.size
        have HW13 : Hid (Below wr.heap.size wr w13) := (((((HB6.out.trans (HB8.out.mono (by omega))).trans (HB10.out.mono (by omega))).trans (HB11.out.mono (by omega))).trans (HB12.out.mono (by omega))).trans (HD12.out.2.mono (by omega))).trans HB13.out
        have HS13 : Hid (StL (From wr.heap.size) w13 (St.res (plL vl) (.mk kind name slot size place value body els)) [.int .i64 kind, .string (strB name), .int .i64 slot, .int .i64 size, .int .i64 x0, .int .i64 x1, .string x2, .int .i64 x3, .int .i64 x4, .slice X1 X2 X3, .int .i64 z0, .int .i64 z1, .string z2, .int .i64 z3, .int .i64 z4, .slice Z1 Z2 Z3, .slice Ab (St.resL (plL vl) body).length cb, .slice Ae (St.resL (plL vl) els).length ce]) := by
          have hres : St.res (plL vl) (.mk kind name slot size place value body els) = .mk kind name slot size (place.res (plL vl)) (value.res (plL vl)) (St.resL (plL vl) body) (St.resL (plL vl) els) := HRES.out
          rw [hres]
          simp only [StL]
          refine ⟨[.int .i64 x0, .int .i64 x1, .string x2, .int .i64 x3, .int .i64 x4, .slice X1 X2 X3], [.int .i64 z0, .int .i64 z1, .string z2, .int .i64 z3, .int .i64 z4, .slice Z1 Z2 Z3], Ab, cb, Ae, ce, rfl, ?_, ?_, HLB.out, HLE.out, fun hne => ?_, fun hne => ?_⟩
          · exact ExL.still (fun k (h1 : w6.heap.size ≤ k) h2 => ⟨show wr.heap.size ≤ k by omega, (HK13.out k (by omega)).trans ((HD12.out.2.block k (by omega)).trans ((HB12.out.block k (by omega)).trans ((HB11.out.block k (by omega)).trans ((HB10.out.block k (by omega)).trans (E87.out k h2)))))⟩) _ _ HLP.out
          · exact ExL.still (fun k (h1 : w8.heap.size ≤ k) h2 => ⟨show wr.heap.size ≤ k by omega, (HK13.out k (by omega)).trans ((HD12.out.2.block k (by omega)).trans ((HB12.out.block k (by omega)).trans ((HB11.out.block k (by omega)).trans (E109.out k h2))))⟩) _ _ HLV.out
          · obtain ⟨b, o, hA, hS, hr⟩ := HRB.out hne
            exact ⟨b, o, hA, show wr.heap.size ≤ b from Nat.le_trans (by omega) (show w10.heap.size ≤ b from hS), StRow.still (fun k (h1 : w10.heap.size ≤ k) h2 => ⟨show wr.heap.size ≤ k by omega, (HK13.out k (by omega)).trans ((HD12.out.2.block k (by omega)).trans (HB12.out.block k h2))⟩) _ b o hS hr⟩
          · obtain ⟨b, o, hA, hS, hr⟩ := HRE.out hne
            exact ⟨b, o, hA, show wr.heap.size ≤ b from Nat.le_trans (by omega) (show w11.heap.size ≤ b from hS), StRow.still (fun k (h1 : w11.heap.size ≤ k) h2 => ⟨show wr.heap.size ≤ k by omega, (HK13.out k (by omega)).trans (HD12.out.2.block k h2)⟩) _ b o hS hr⟩
        clear hza hzb hzc hzd hze hzf hzg hzh hnp hnv
        go_wp2_with (first
          | (refine wpList_load_row rfl 94 _ rfl wr.heap.size rfl 94 _ (0, 0) _ H13.out Tryd.underlying94 rfl (by kernel_rfl) ?_)
          | (at_builtin; refine wpList_append_own_at _ rfl _ _ 27 rfl w.heap.size 94 i0 _ 18 232 Tryd.underlying27 HI.out HI0.out HI1.out HI2.out rfl (by decide) _ _ _ rfl ((own_bel HH.out.o HW13.out).alloc _) ⟨w13.heap.size, 0, none⟩ 1 1 [.int .i64 kind, .string (strB name), .int .i64 slot, .int .i64 size, .int .i64 x0, .int .i64 x1, .string x2, .int .i64 x3, .int .i64 x4, .slice X1 X2 X3, .int .i64 z0, .int .i64 z1, .string z2, .int .i64 z3, .int .i64 z4, .slice Z1 Z2 Z3, .slice Ab (St.resL (plL vl) body).length cb, .slice Ae (St.resL (plL vl) els).length ce] rfl rfl (ex_new _ _ _) (by simp [Value.oneCell']) (by rw [HLN.out]; unfold maxLen; omega) (by rw [HLN.out]; omega) (by rw [new_size]; have := HW13.out.size; omega) ?_))
        intro va wa hown hgrow _ hobl
        have HN := Lib.hid (RyHead.next HH.out HE1.out HW13.out HS13.out hown hgrow hobl)
        clear hown hgrow hobl
        cases okk with
        | false =>
          go_wp2_with fail
          go_roundg g
          case rel => exact ⟨k + 1, _, _, by have := HG.out; omega, by go_num, rfl, HKO.out.symm.trans (by simp), HN⟩
          case measure => omega
        | true =>
          cases b1 with
          | false =>
            go_wp2_with fail
            go_roundg g
            case rel => exact ⟨k + 1, _, _, by have := HG.out; omega, by go_num, rfl, HKO.out.symm.trans (by simp), HN⟩
            case measure => omega
          | true =>
            cases b2 with
            | false =>
              go_wp2_with fail
              go_roundg g
              case rel => exact ⟨k + 1, _, _, by have := HG.out; omega, by go_num, rfl, HKO.out.symm.trans (by simp), HN⟩
              case measure => omega
            | true =>
              cases b3 with
              | false =>
                go_wp2_with fail
                go_roundg g
                case rel => exact ⟨k + 1, _, _, by have := HG.out; omega, by go_num, rfl, HKO.out.symm.trans (by simp), HN⟩
                case measure => omega
              | true =>
                cases b4 with
                | false =>
                  go_wp2_with fail
                  go_roundg g
                  case rel => exact ⟨k + 1, _, _, by have := HG.out; omega, by go_num, rfl, HKO.out.symm.trans (by simp), HN⟩
                  case measure => omega
                | true =>
                  go_wp2_with fail
                  go_roundg g
                  case rel => exact ⟨k + 1, _, _, by have := HG.out; omega, by go_num, rfl, HKO.out.symm.trans (by simp), HN⟩
                  case measure => omega

end Go.Proofs.YtgblgkkbggdopaaDoor
