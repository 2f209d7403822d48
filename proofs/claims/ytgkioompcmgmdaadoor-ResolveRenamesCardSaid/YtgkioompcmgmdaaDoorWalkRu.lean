/-
  What stmts of package resolve's resolver does where all names are declared and stand for what they are declared as: a copy with all places filled in. Conditions: the resolver lies at block R; statements have at most 100000 parts.
-/
import Derived.Test.YtgkioompcmgmdaaDoorWalkRt
import Derived.Test.YtgkioompcmgmdaaDoorWalkAr
import Derived.Deep.DeepCutAuto
namespace Go.Proofs.YtgkioompcmgmdaaDoor
open Go.RowKit

def RyC (f : Pl) (n : Nat) : Prop := ∀ (l : List St), St.bigL l ≤ n → n ≤ 100000 → St.rokL f l → ∀ (R : Nat) (S : Nat → Prop) (w : World) (A : Option Addr) (m c : Nat), RSt R w f → StSlice S w l (.slice A m c) →
    Calls Tryd.prog 22 #[.pointer (some ⟨R, 0, none⟩), .slice A m c] w fun e' w' => ∃ v, e' = .returned v ∧ VSts w.heap.size w' (St.resL f l) v ∧ Below w.heap.size w w'

theorem vts_done {f : Pl} {w0 wr : World} {l : List St} {m : Nat} {v : Value} {css : List (List Value)} (hm : l.length = m) (h : RyHead f w0 m l v wr css) : VSts w0.heap.size wr (St.resL f l) v := by
  subst hm; exact h.done

/-- Cells 4 to 15 of a block have been written. -/
def wr12 (w : World) (n : Nat) (a0 a1 a2 a3 a4 a5 b0 b1 b2 b3 b4 b5 : Value) : World :=
  (((((((((((w.setCell ⟨n, 4, none⟩ a0).setCell ⟨n, 5, none⟩ a1).setCell ⟨n, 6, none⟩ a2).setCell ⟨n, 7, none⟩ a3).setCell ⟨n, 8, none⟩ a4).setCell ⟨n, 9, none⟩ a5).setCell ⟨n, 10, none⟩ b0).setCell ⟨n, 11, none⟩ b1).setCell ⟨n, 12, none⟩ b2).setCell ⟨n, 13, none⟩ b3).setCell ⟨n, 14, none⟩ b4).setCell ⟨n, 15, none⟩ b5
theorem wr12_other (w : World) (n : Nat) (a0 a1 a2 a3 a4 a5 b0 b1 b2 b3 b4 b5 : Value) {k : Nat} (h : k ≠ n) : (wr12 w n a0 a1 a2 a3 a4 a5 b0 b1 b2 b3 b4 b5).heap[k]? = w.heap[k]? := by
  unfold wr12
  iterate 12 rw [Below.heap_setCell _ _ _ _ h]
theorem wr12_below {B n : Nat} {a w : World} (h : Below B a w) (hn : B ≤ n) (a0 a1 a2 a3 a4 a5 b0 b1 b2 b3 b4 b5 : Value) : Below B a (wr12 w n a0 a1 a2 a3 a4 a5 b0 b1 b2 b3 b4 b5) :=
  (((((((((((h.setCell (p := ⟨n, 4, none⟩) hn _).setCell (p := ⟨n, 5, none⟩) hn _).setCell (p := ⟨n, 6, none⟩) hn _).setCell (p := ⟨n, 7, none⟩) hn _).setCell (p := ⟨n, 8, none⟩) hn _).setCell (p := ⟨n, 9, none⟩) hn _).setCell (p := ⟨n, 10, none⟩) hn _).setCell (p := ⟨n, 11, none⟩) hn _).setCell (p := ⟨n, 12, none⟩) hn _).setCell (p := ⟨n, 13, none⟩) hn _).setCell (p := ⟨n, 14, none⟩) hn _).setCell (p := ⟨n, 15, none⟩) hn _
theorem wr12_blk {w : World} {n : Nat} {kind : Int} {name : List UInt8} {slot size : Int} {p0 p1 p2 p3 p4 p5 v0 v1 v2 v3 v4 v5 b e : Value} {T : TypeId} (h : w.heap[n]? = some (.cells (stCells kind name slot size [p0, p1, p2, p3, p4, p5] [v0, v1, v2, v3, v4, v5] b e).toArray T (0, 0))) (a0 a1 a2 a3 a4 a5 b0 b1 b2 b3 b4 b5 : Value) :
    (wr12 w n a0 a1 a2 a3 a4 a5 b0 b1 b2 b3 b4 b5).heap[n]? = some (.cells (stCells kind name slot size [a0, a1, a2, a3, a4, a5] [b0, b1, b2, b3, b4, b5] b e).toArray T (0, 0)) := by
  have h' := blk_set (blk_set (blk_set (blk_set (blk_set (blk_set (blk_set (blk_set (blk_set (blk_set (blk_set (blk_set h 4 a0) 5 a1) 6 a2) 7 a3) 8 a4) 9 a5) 10 b0) 11 b1) 12 b2) 13 b3) 14 b4) 15 b5
  unfold wr12
  simp only [stCells, List.cons_append, List.nil_append, List.setIfInBounds_toArray, List.set_cons_zero, List.set_cons_succ] at h' ⊢
  exact h'

set_option maxHeartbeats 40000000 in
set_option maxRecDepth 100000 in
theorem rstmts_step (f : Pl) (n : Nat) (ih : RyC f n) : RyC f (n + 1) := by
  intro l h hn hok R S w A m c hr hl
  obtain ⟨A', c', e1, hc, hrw⟩ := hl
  simp only [Value.slice.injEq] at e1
  obtain ⟨rfl, rfl, rfl⟩ := e1
  have hlq : l.length ≤ 100000 := by have := St.len_big l; omega
  obtain ⟨i0, hi, hz0, hz1, hz2⟩ := info_parts infoSt3
  have HI := Lib.hid hi
  have HI0 := Lib.hid hz0
  have HI1 := Lib.hid hz1
  have HI2 := Lib.hid hz2
  clear hi hz0 hz1 hz2
  have IH := Lib.hid (fun l h1 h2 => ih l h1 (by omega) h2)
  have HRW := Lib.hid hrw
  have HD := Lib.hid h
  have HKA := Lib.hid hok
  have HRS := Lib.hid hr
  obtain ⟨m, hm⟩ : ∃ x, l.length = x := ⟨_, rfl⟩
  have HM := Lib.hid hm
  rw [hm] at hlq ⊢
  clear ih hrw hm h hc hok hr
  go_enter Tryd.func22, Tryd.ntmps22
  go_wp2_with fail
  go_loopg [5, 11] m (fun g v i wr => ∃ (k : Nat) (css : List (List Value)), k + g = m ∧ i = .int .i64 k ∧ RyHead f w k l v wr css)
  case atStart => exact ⟨0, [], by omega, rfl, RyHead.start f w l⟩
  case round =>
    obtain ⟨k, css, hkg, rfl, hh⟩ := hrel
    have HH := Lib.hid hh
    have hz0 := hh.b.size
    clear hh
    cases gk with
    | zero =>
      have hkm : k = m := by omega
      have hge : m ≤ k := by omega
      clear hkg
      go_wp2_with fail
      go_ret
      exact ⟨_, rfl, vts_done HM.out (hkm ▸ HH.out), HH.out.b⟩
    | succ g =>
      have hlt : k < m := by omega
      have HG := Lib.hid hkg
      clear hkg
      obtain ⟨e1, he1⟩ : ∃ e1, l[k]? = some e1 := ⟨_, List.getElem?_eq_getElem (by have := HM.out; omega)⟩
      have HE1 := Lib.hid he1
      have hk1 := srokL_at f l k e1 HKA.out he1
      have hbg := St.big_at l k e1 he1
      have hln : (St.resL f (l.take k)).length = k := ry_len (by have := HM.out; omega)
      have HLN := Lib.hid hln
      obtain ⟨bb, o, rfl, hS, hrow⟩ := HRW.out (fun e => by have := HM.out; rw [e] at this; simp at this; omega)
      obtain ⟨cs, hcs, hex⟩ := StRow.get l bb o k e1 hrow he1
      obtain ⟨kind, name, slot, size, place, value, body, els⟩ := e1
      simp only [St.big] at hbg
      simp only [St.rok] at hk1
      obtain ⟨ho1, ho2, hnm, hop, hov, hob, hoe⟩ := hk1
      have hex0 := hex
      simp only [StL] at hex
      obtain ⟨cp, cv, A3, c3, A4, c4, rfl, hp, hv, h3, h4, h5, h6⟩ := hex
      obtain ⟨p0, p1, p2, p3, p4, P1, P2, P3, rfl⟩ := hp.plain
      obtain ⟨v0, v1, v2, v3, v4, V1, V2, V3, rfl⟩ := hv.plain
      have hbb : bb < w.heap.size := hcs.lt
      have hw : ∀ j u, w.cell? ⟨bb, j, none⟩ = some u → wr.cell? ⟨bb, j, none⟩ = some u := fun j u hu => (HH.out.b.cell (p := ⟨bb, j, none⟩) hbb).trans hu
      have HRG : Hid (wr.rangeAt bb (o + k * 18) (stCells kind name slot size [.int .i64 p0, .int .i64 p1, .string p2, .int .i64 p3, .int .i64 p4, .slice P1 P2 P3] [.int .i64 v0, .int .i64 v1, .string v2, .int .i64 v3, .int .i64 v4, .slice V1 V2 V3] (.slice A3 body.length c3) (.slice A4 els.length c4))) := fun j v hv => hw _ _ (hcs j v hv)
      have HX := Lib.hid hex0
      have hd0 := HD.out
      have hpp := Ex.big_pos place
      have hpv := Ex.big_pos value
      have HCP := Lib.hid (fun (W : World) (hb : Below w.heap.size w W) => rexpr_good f place (by omega) hop R S W p0 p1 p2 p3 p4 P1 P2 P3 (HRS.out.below hb) (ExL.still (fun k h1 h2 => ⟨h1, hb.block k h2⟩) place _ hp))
      have HCV := Lib.hid (fun (W : World) (hb : Below w.heap.size w W) => rexpr_good f value (by omega) hov R S W v0 v1 v2 v3 v4 V1 V2 V3 (HRS.out.below hb) (ExL.still (fun k h1 h2 => ⟨h1, hb.block k h2⟩) value _ hv))
      have HCB := Lib.hid (fun (W : World) (hb : Below w.heap.size w W) => IH.out body (by omega) hob R S W A3 body.length c3 (HRS.out.below hb) (StSlice.still ⟨A3, c3, rfl, h3, h5⟩ (fun k h1 h2 => ⟨h1, hb.block k h2⟩)))
      have HCE := Lib.hid (fun (W : World) (hb : Below w.heap.size w W) => IH.out els (by omega) hoe R S W A4 els.length c4 (HRS.out.below hb) (StSlice.still ⟨A4, c4, rfl, h4, h6⟩ (fun k h1 h2 => ⟨h1, hb.block k h2⟩)))
      clear hw hcs hrow he1 hp hv h5 h6 hex0 hop hov hob hoe hbg hd0 hpp hpv h3 h4 hln hS
      go_upto_region 5 with (first | (refine wpList_load_mid rfl 58 _ rfl bb (o + k * 18) rfl _ _ HRG.out Tryd.underlying58 rfl (by kernel_rfl) ?_) | (refine wpList_store_row rfl 58 _ _ rfl wr.heap.size _ rfl rfl _ _ (new_blk wr stZ) HX.out.info HX.out.size18 HX.out.one ?_))
      have h5 : ((wr.alloc stZ).setRow wr.heap.size (stCells kind name slot size [.int .i64 p0, .int .i64 p1, .string p2, .int .i64 p3, .int .i64 p4, .slice P1 P2 P3] [.int .i64 v0, .int .i64 v1, .string v2, .int .i64 v3, .int .i64 v4, .slice V1 V2 V3] (.slice A3 body.length c3) (.slice A4 els.length c4)).toArray).heap[wr.heap.size]? = some (.cells (stCells kind name slot size [.int .i64 p0, .int .i64 p1, .string p2, .int .i64 p3, .int .i64 p4, .slice P1 P2 P3] [.int .i64 v0, .int .i64 v1, .string v2, .int .i64 v3, .int .i64 v4, .slice V1 V2 V3] (.slice A3 body.length c3) (.slice A4 els.length c4)).toArray 58 (0, 0)) := setRow_same (new_blk wr stZ)
      have HB5 : Hid (Below wr.heap.size wr ((wr.alloc stZ).setRow wr.heap.size (stCells kind name slot size [.int .i64 p0, .int .i64 p1, .string p2, .int .i64 p3, .int .i64 p4, .slice P1 P2 P3] [.int .i64 v0, .int .i64 v1, .string v2, .int .i64 v3, .int .i64 v4, .slice V1 V2 V3] (.slice A3 body.length c3) (.slice A4 els.length c4)).toArray)) := by
        have h1 : Below wr.heap.size wr (wr.alloc stZ) := (Below.refl _ _).alloc (Nat.le_refl _) stZ
        exact ⟨h1.os, h1.tape, h1.output, by simp, fun k hk => (setRow_blk (wr.alloc stZ) wr.heap.size _ (by omega)).trans (h1.block k hk)⟩
      obtain ⟨w5, hw5⟩ : ∃ x, (wr.alloc stZ).setRow wr.heap.size (stCells kind name slot size [.int .i64 p0, .int .i64 p1, .string p2, .int .i64 p3, .int .i64 p4, .slice P1 P2 P3] [.int .i64 v0, .int .i64 v1, .string v2, .int .i64 v3, .int .i64 v4, .slice V1 V2 V3] (.slice A3 body.length c3) (.slice A4 els.length c4)).toArray = x := ⟨_, rfl⟩
      rw [hw5] at h5 HB5 ⊢
      clear hw5
      have H5 := Lib.hid h5
      have q0 : w5.cell? ⟨wr.heap.size, 0, none⟩ = some (.int .i64 kind) := by rw [Lib.cell_of_heap H5.out]; rfl
      clear h5
      by_cases hk12 : kind = 1 ∨ kind = 2
      · rcases hk12 with rfl | rfl
        · obtain ⟨⟨xs, xz⟩, hfx, hpx⟩ := ho1 rfl
          have hres : St.res f (.mk 1 name slot size place value body els) = .mk 1 name xs xz (place.res f) (value.res f) (St.resL f body) (St.resL f els) := by simp [St.res, hfx]
          have q1 : w5.cell? ⟨wr.heap.size, 1, none⟩ = some (.string (strB name)) := by rw [Lib.cell_of_heap H5.out]; rfl
          have hf := find_good R f name false (xs, xz) w5 (HRS.out.below (HH.out.b.trans (HB5.out.mono hz0))) hnm hfx (by simp at hpx ⊢; omega)
          simp only [plV] at hf
          have HF := Lib.hid hf
          clear ho1 ho2 hfx hpx hf
          go_wp2_with fail
          refine HF.out.mono ?_
          rintro ef wf ⟨rfl, hb⟩
          have HBf := Lib.hid hb
          have Hf := Lib.hid (below_blk hb H5.out)
          have hnf := lt_of_block Hf.out
          have r2 : wf.cell? ⟨wr.heap.size, 2, none⟩ = some (.int .i64 slot) := by rw [Lib.cell_of_heap Hf.out]; rfl
          have r3 : wf.cell? ⟨wr.heap.size, 3, none⟩ = some (.int .i64 size) := by rw [Lib.cell_of_heap Hf.out]; rfl
          have rf2 : wf.frozen? ⟨wr.heap.size, 2, none⟩ = false := Lib.frozen_of_heap Hf.out 2
          have rf3 : wf.frozen? ⟨wr.heap.size, 3, none⟩ = false := Lib.frozen_of_heap Hf.out 3
          clear hb q1
          go_wp2_with fail
          go_region
          go_wp2_with fail
          obtain ⟨wb, hwb⟩ : ∃ x, (((wf.setCell ⟨wr.heap.size, 2, none⟩ (.int .i64 xs)).setCell ⟨wr.heap.size, 3, none⟩ (.int .i64 xz)).alloc (.cells #[.int .i64 xs, .int .i64 xz] 83)).drew = x := ⟨_, rfl⟩
          have hb5 := (alloc_blk ((wf.setCell ⟨wr.heap.size, 2, none⟩ (.int .i64 xs)).setCell ⟨wr.heap.size, 3, none⟩ (.int .i64 xz)) (.cells #[.int .i64 xs, .int .i64 xz] 83) (k := wr.heap.size) (by rw [set_size, set_size]; omega)).trans (blk_set (blk_set Hf.out 2 (.int .i64 xs)) 3 (.int .i64 xz))
          have H5b : Hid (wb.heap[wr.heap.size]? = some (.cells (stCells 1 name xs xz [.int .i64 p0, .int .i64 p1, .string p2, .int .i64 p3, .int .i64 p4, .slice P1 P2 P3] [.int .i64 v0, .int .i64 v1, .string v2, .int .i64 v3, .int .i64 v4, .slice V1 V2 V3] (.slice A3 body.length c3) (.slice A4 els.length c4)).toArray 58 (0, 0))) := by
            rw [← hwb]
            simp only [stCells, List.cons_append, List.nil_append, List.setIfInBounds_toArray, List.set_cons_zero, List.set_cons_succ] at hb5 ⊢
            exact hb5
          have HB5b : Hid (Below wr.heap.size wr wb) := by
            rw [← hwb]
            have hz5 := lt_of_block H5.out
            have h1 := HB5.out.trans (HBf.out.mono (show wr.heap.size ≤ w5.heap.size by omega))
            exact (((h1.setCell (p := ⟨wr.heap.size, 2, none⟩) (Nat.le_refl _) _).setCell (p := ⟨wr.heap.size, 3, none⟩) (Nat.le_refl _) _).alloc (by rw [set_size, set_size]; omega) _).drew
          rw [hwb]
          clear hwb hb5 r2 r3 rf2 rf3 HF HBf Hf hnf H5 HB5

          have HBd : Hid (Below w.heap.size w wb.drew) := (HH.out.b.trans (HB5b.out.mono hz0)).drew
          have s4 : wb.cell? ⟨wr.heap.size, 4, none⟩ = some (.int .i64 p0) := by rw [Lib.cell_of_heap H5b.out]; rfl
          have s5 : wb.cell? ⟨wr.heap.size, 5, none⟩ = some (.int .i64 p1) := by rw [Lib.cell_of_heap H5b.out]; rfl
          have s6 : wb.cell? ⟨wr.heap.size, 6, none⟩ = some (.string p2) := by rw [Lib.cell_of_heap H5b.out]; rfl
          have s7 : wb.cell? ⟨wr.heap.size, 7, none⟩ = some (.int .i64 p3) := by rw [Lib.cell_of_heap H5b.out]; rfl
          have s8 : wb.cell? ⟨wr.heap.size, 8, none⟩ = some (.int .i64 p4) := by rw [Lib.cell_of_heap H5b.out]; rfl
          have s9 : wb.cell? ⟨wr.heap.size, 9, none⟩ = some (.slice P1 P2 P3) := by rw [Lib.cell_of_heap H5b.out]; rfl
          have s10 : wb.cell? ⟨wr.heap.size, 10, none⟩ = some (.int .i64 v0) := by rw [Lib.cell_of_heap H5b.out]; rfl
          have s11 : wb.cell? ⟨wr.heap.size, 11, none⟩ = some (.int .i64 v1) := by rw [Lib.cell_of_heap H5b.out]; rfl
          have s12 : wb.cell? ⟨wr.heap.size, 12, none⟩ = some (.string v2) := by rw [Lib.cell_of_heap H5b.out]; rfl
          have s13 : wb.cell? ⟨wr.heap.size, 13, none⟩ = some (.int .i64 v3) := by rw [Lib.cell_of_heap H5b.out]; rfl
          have s14 : wb.cell? ⟨wr.heap.size, 14, none⟩ = some (.int .i64 v4) := by rw [Lib.cell_of_heap H5b.out]; rfl
          have s15 : wb.cell? ⟨wr.heap.size, 15, none⟩ = some (.slice V1 V2 V3) := by rw [Lib.cell_of_heap H5b.out]; rfl

          clear q0
          go_region_with (first
            | (go_at_call 37; ((with_reducible refine (HCP.out _ HBd.out).mono ?_)); rintro e6 w6 ⟨y6, rfl, ⟨x0, x1, x2, x3, x4, X1, X2, X3, rfl, hlp⟩, hb⟩; have HLP := Lib.hid hlp; have HB6 := Lib.hid hb; have H6 := Lib.hid ((hb.block (w := wb.drew) wr.heap.size (lt_of_block H5b.out)).trans H5b.out); (have t10 : w6.cell? ⟨wr.heap.size, 10, none⟩ = some (.int .i64 v0) := by rw [Lib.cell_of_heap H6.out]; rfl); (have t11 : w6.cell? ⟨wr.heap.size, 11, none⟩ = some (.int .i64 v1) := by rw [Lib.cell_of_heap H6.out]; rfl); (have t12 : w6.cell? ⟨wr.heap.size, 12, none⟩ = some (.string v2) := by rw [Lib.cell_of_heap H6.out]; rfl); (have t13 : w6.cell? ⟨wr.heap.size, 13, none⟩ = some (.int .i64 v3) := by rw [Lib.cell_of_heap H6.out]; rfl); (have t14 : w6.cell? ⟨wr.heap.size, 14, none⟩ = some (.int .i64 v4) := by rw [Lib.cell_of_heap H6.out]; rfl); (have t15 : w6.cell? ⟨wr.heap.size, 15, none⟩ = some (.slice V1 V2 V3) := by rw [Lib.cell_of_heap H6.out]; rfl); clear hb hlp)
            | (go_at_call 37; ((with_reducible refine (HCV.out _ (HBd.out.trans (HB6.out.mono HBd.out.size))).mono ?_)); rintro e7 w7 ⟨y7, rfl, ⟨z0, z1, z2, z3, z4, Z1, Z2, Z3, rfl, hlv⟩, hb⟩; have HLV := Lib.hid hlv; have HB7 := Lib.hid hb; have H7 := Lib.hid ((hb.block wr.heap.size (lt_of_block H6.out)).trans H6.out); (have u4 : w7.cell? ⟨wr.heap.size, 4, none⟩ = some (.int .i64 p0) := by rw [Lib.cell_of_heap H7.out]; rfl); (have uf4 : w7.frozen? ⟨wr.heap.size, 4, none⟩ = false := Lib.frozen_of_heap H7.out 4); (have u5 : w7.cell? ⟨wr.heap.size, 5, none⟩ = some (.int .i64 p1) := by rw [Lib.cell_of_heap H7.out]; rfl); (have uf5 : w7.frozen? ⟨wr.heap.size, 5, none⟩ = false := Lib.frozen_of_heap H7.out 5); (have u6 : w7.cell? ⟨wr.heap.size, 6, none⟩ = some (.string p2) := by rw [Lib.cell_of_heap H7.out]; rfl); (have uf6 : w7.frozen? ⟨wr.heap.size, 6, none⟩ = false := Lib.frozen_of_heap H7.out 6); (have u7 : w7.cell? ⟨wr.heap.size, 7, none⟩ = some (.int .i64 p3) := by rw [Lib.cell_of_heap H7.out]; rfl); (have uf7 : w7.frozen? ⟨wr.heap.size, 7, none⟩ = false := Lib.frozen_of_heap H7.out 7); (have u8 : w7.cell? ⟨wr.heap.size, 8, none⟩ = some (.int .i64 p4) := by rw [Lib.cell_of_heap H7.out]; rfl); (have uf8 : w7.frozen? ⟨wr.heap.size, 8, none⟩ = false := Lib.frozen_of_heap H7.out 8); (have u9 : w7.cell? ⟨wr.heap.size, 9, none⟩ = some (.slice P1 P2 P3) := by rw [Lib.cell_of_heap H7.out]; rfl); (have uf9 : w7.frozen? ⟨wr.heap.size, 9, none⟩ = false := Lib.frozen_of_heap H7.out 9); (have u10 : w7.cell? ⟨wr.heap.size, 10, none⟩ = some (.int .i64 v0) := by rw [Lib.cell_of_heap H7.out]; rfl); (have uf10 : w7.frozen? ⟨wr.heap.size, 10, none⟩ = false := Lib.frozen_of_heap H7.out 10); (have u11 : w7.cell? ⟨wr.heap.size, 11, none⟩ = some (.int .i64 v1) := by rw [Lib.cell_of_heap H7.out]; rfl); (have uf11 : w7.frozen? ⟨wr.heap.size, 11, none⟩ = false := Lib.frozen_of_heap H7.out 11); (have u12 : w7.cell? ⟨wr.heap.size, 12, none⟩ = some (.string v2) := by rw [Lib.cell_of_heap H7.out]; rfl); (have uf12 : w7.frozen? ⟨wr.heap.size, 12, none⟩ = false := Lib.frozen_of_heap H7.out 12); (have u13 : w7.cell? ⟨wr.heap.size, 13, none⟩ = some (.int .i64 v3) := by rw [Lib.cell_of_heap H7.out]; rfl); (have uf13 : w7.frozen? ⟨wr.heap.size, 13, none⟩ = false := Lib.frozen_of_heap H7.out 13); (have u14 : w7.cell? ⟨wr.heap.size, 14, none⟩ = some (.int .i64 v4) := by rw [Lib.cell_of_heap H7.out]; rfl); (have uf14 : w7.frozen? ⟨wr.heap.size, 14, none⟩ = false := Lib.frozen_of_heap H7.out 14); (have u15 : w7.cell? ⟨wr.heap.size, 15, none⟩ = some (.slice V1 V2 V3) := by rw [Lib.cell_of_heap H7.out]; rfl); (have uf15 : w7.frozen? ⟨wr.heap.size, 15, none⟩ = false := Lib.frozen_of_heap H7.out 15); clear hb hlv))
          all_goals
            obtain ⟨w8, hw8⟩ : ∃ x, wr12 w7 wr.heap.size (.int .i64 x0) (.int .i64 x1) (.string x2) (.int .i64 x3) (.int .i64 x4) (.slice X1 X2 X3) (.int .i64 z0) (.int .i64 z1) (.string z2) (.int .i64 z3) (.int .i64 z4) (.slice Z1 Z2 Z3) = x := ⟨_, rfl⟩
            have H8 := Lib.hid (wr12_blk H7.out (.int .i64 x0) (.int .i64 x1) (.string x2) (.int .i64 x3) (.int .i64 x4) (.slice X1 X2 X3) (.int .i64 z0) (.int .i64 z1) (.string z2) (.int .i64 z3) (.int .i64 z4) (.slice Z1 Z2 Z3))
            rw [hw8] at H8
            have HK8 : Hid (∀ k, k ≠ wr.heap.size → w8.heap[k]? = w7.heap[k]?) := fun k hk => by rw [← hw8]; exact wr12_other _ _ _ _ _ _ _ _ _ _ _ _ _ _ hk
            have HB8 : Hid (Below wr.heap.size w7 w8) := by rw [← hw8]; exact wr12_below (Below.refl _ _) (Nat.le_refl _) _ _ _ _ _ _ _ _ _ _ _ _
            unfold wr12 at hw8
            rw [hw8]
            clear hw8 s4 s5 s6 s7 s8 s9 s10 s11 s12 s13 s14 s15 t10 t11 t12 t13 t14 t15 u4 u5 u6 u7 u8 u9 u10 u11 u12 u13 u14 u15 uf4 uf5 uf6 uf7 uf8 uf9 uf10 uf11 uf12 uf13 uf14 uf15
            have HW8 : Hid (Below wr.heap.size wr w8) := (((HB5b.out.drew).trans (HB6.out.mono (show wr.heap.size ≤ wb.heap.size from HB5b.out.size))).trans (HB7.out.mono (Nat.le_trans (show wr.heap.size ≤ wb.heap.size from HB5b.out.size) HB6.out.size))).trans HB8.out
            have HW8d : Hid (Below w.heap.size w w8.drew) := (HH.out.b.trans (HW8.out.mono hz0)).drew
            have s16 : w8.cell? ⟨wr.heap.size, 16, none⟩ = some (.slice A3 body.length c3) := by rw [Lib.cell_of_heap H8.out]; rfl
            have s17 : w8.cell? ⟨wr.heap.size, 17, none⟩ = some (.slice A4 els.length c4) := by rw [Lib.cell_of_heap H8.out]; rfl
            go_wp2_with fail
            go_region_with (first
              | (go_at_call 22; ((with_reducible refine (HCB.out _ HW8d.out).mono ?_)); rintro e9 w9 ⟨y9, rfl, ⟨Ab, cb, rfl, hlb, hbr⟩, hb⟩; have HLB := Lib.hid hlb; have HRB := Lib.hid hbr; have HB9 := Lib.hid hb; have H9 := Lib.hid ((hb.block (w := w8.drew) wr.heap.size (lt_of_block H8.out)).trans H8.out); (have t17 : w9.cell? ⟨wr.heap.size, 17, none⟩ = some (.slice A4 els.length c4) := by rw [Lib.cell_of_heap H9.out]; rfl); clear hb hlb hbr)
              | (go_at_call 22; ((with_reducible refine (HCE.out _ (HW8d.out.trans (HB9.out.mono HW8d.out.size))).mono ?_)); rintro e10 w10 ⟨y10, rfl, ⟨Ae, ce, rfl, hle, her⟩, hb⟩; have HLE := Lib.hid hle; have HRE := Lib.hid her; have HB10 := Lib.hid hb; have H10 := Lib.hid ((hb.block wr.heap.size (lt_of_block H9.out)).trans H9.out); (have u16 : w10.cell? ⟨wr.heap.size, 16, none⟩ = some (.slice A3 body.length c3) := by rw [Lib.cell_of_heap H10.out]; rfl); (have u17 : w10.cell? ⟨wr.heap.size, 17, none⟩ = some (.slice A4 els.length c4) := by rw [Lib.cell_of_heap H10.out]; rfl); (have uf16 : w10.frozen? ⟨wr.heap.size, 16, none⟩ = false := Lib.frozen_of_heap H10.out 16); (have uf17 : w10.frozen? ⟨wr.heap.size, 17, none⟩ = false := Lib.frozen_of_heap H10.out 17); clear hb hle her))
            all_goals
              obtain ⟨w11, hw11⟩ : ∃ x, (w10.setCell ⟨wr.heap.size, 16, none⟩ (.slice Ab (St.resL f body).length cb)).setCell ⟨wr.heap.size, 17, none⟩ (.slice Ae (St.resL f els).length ce) = x := ⟨_, rfl⟩
              have H11 : Hid (w11.heap[wr.heap.size]? = some (.cells #[.int .i64 1, .string (strB name), .int .i64 xs, .int .i64 xz, .int .i64 x0, .int .i64 x1, .string x2, .int .i64 x3, .int .i64 x4, .slice X1 X2 X3, .int .i64 z0, .int .i64 z1, .string z2, .int .i64 z3, .int .i64 z4, .slice Z1 Z2 Z3, .slice Ab (St.resL f body).length cb, .slice Ae (St.resL f els).length ce] 58 (0, 0))) := by
                have h' := blk_set (blk_set H10.out 16 (.slice Ab (St.resL f body).length cb)) 17 (.slice Ae (St.resL f els).length ce)
                rw [hw11] at h'
                simp only [stCells, List.cons_append, List.nil_append, List.setIfInBounds_toArray, List.set_cons_zero, List.set_cons_succ] at h'
                exact h'
              have HK11 : Hid (∀ k, k ≠ wr.heap.size → w11.heap[k]? = w10.heap[k]?) := fun k hk => by rw [← hw11]; exact (Below.heap_setCell _ _ _ _ hk).trans (Below.heap_setCell _ _ _ _ hk)
              have HB11 : Hid (Below wr.heap.size w10 w11) := by rw [← hw11]; exact ((Below.refl _ _).setCell (p := ⟨wr.heap.size, 16, none⟩) (Nat.le_refl _) _).setCell (p := ⟨wr.heap.size, 17, none⟩) (Nat.le_refl _) _
              have hz11 : w11.heap.size = w10.heap.size := by rw [← hw11, set_size, set_size]
              rw [hw11]
              clear hw11 s16 s17 t17 u16 u17 uf16 uf17
              have hza : wr.heap.size < wb.heap.size := lt_of_block H5b.out
              have hzb : wb.heap.size ≤ w6.heap.size := HB6.out.size
              have hzc : w6.heap.size ≤ w7.heap.size := HB7.out.size
              have hzd : w7.heap.size ≤ w8.heap.size := HB8.out.size
              have hze : w8.heap.size ≤ w9.heap.size := HB9.out.size
              have hzf : w9.heap.size ≤ w10.heap.size := HB10.out.size
              have HW11 : Hid (Below wr.heap.size wr w11) := (((HW8.out.drew).trans (HB9.out.mono (show wr.heap.size ≤ w8.heap.size by omega))).trans (HB10.out.mono (by omega))).trans HB11.out
              have HS11 : Hid (StL (From wr.heap.size) w11 (St.res f (.mk 1 name slot size place value body els)) [.int .i64 1, .string (strB name), .int .i64 xs, .int .i64 xz, .int .i64 x0, .int .i64 x1, .string x2, .int .i64 x3, .int .i64 x4, .slice X1 X2 X3, .int .i64 z0, .int .i64 z1, .string z2, .int .i64 z3, .int .i64 z4, .slice Z1 Z2 Z3, .slice Ab (St.resL f body).length cb, .slice Ae (St.resL f els).length ce]) := by
                rw [hres]
                simp only [StL]
                refine ⟨[.int .i64 x0, .int .i64 x1, .string x2, .int .i64 x3, .int .i64 x4, .slice X1 X2 X3], [.int .i64 z0, .int .i64 z1, .string z2, .int .i64 z3, .int .i64 z4, .slice Z1 Z2 Z3], Ab, cb, Ae, ce, rfl, ?_, ?_, HLB.out, HLE.out, fun hne => ?_, fun hne => ?_⟩
                · exact ExL.still (fun k (h1 : wb.heap.size ≤ k) h2 => ⟨show wr.heap.size ≤ k by omega, (HK11.out k (by omega)).trans ((HB10.out.block k (by omega)).trans ((HB9.out.block k (show k < w8.heap.size by omega)).trans ((HK8.out k (by omega)).trans (HB7.out.block k h2))))⟩) _ _ HLP.out
                · exact ExL.still (fun k (h1 : w6.heap.size ≤ k) h2 => ⟨show wr.heap.size ≤ k by omega, (HK11.out k (by omega)).trans ((HB10.out.block k (by omega)).trans ((HB9.out.block k (show k < w8.heap.size by omega)).trans (HK8.out k (by omega))))⟩) _ _ HLV.out
                · obtain ⟨b, o, hA, hS, hr⟩ := HRB.out hne
                  exact ⟨b, o, hA, show wr.heap.size ≤ b from Nat.le_trans (by omega) (show w8.heap.size ≤ b from hS), StRow.still (fun k (h1 : w8.heap.size ≤ k) h2 => ⟨show wr.heap.size ≤ k by omega, (HK11.out k (by omega)).trans (HB10.out.block k h2)⟩) _ b o hS hr⟩
                · obtain ⟨b, o, hA, hS, hr⟩ := HRE.out hne
                  exact ⟨b, o, hA, show wr.heap.size ≤ b from Nat.le_trans (by omega) (show w9.heap.size ≤ b from hS), StRow.still (fun k (h1 : w9.heap.size ≤ k) h2 => ⟨show wr.heap.size ≤ k by omega, HK11.out k (by omega)⟩) _ b o hS hr⟩
              clear hza hzb hzc hzd hze hzf hz11
              go_wp2_with (first
                | (refine wpList_load_row rfl 58 _ rfl wr.heap.size rfl 58 _ (0, 0) _ H11.out Tryd.underlying58 rfl (by kernel_rfl) ?_)
                | (at_builtin; refine wpList_append_own_at _ rfl _ _ 27 rfl w.heap.size 58 i0 _ 18 232 Tryd.underlying27 HI.out HI0.out HI1.out HI2.out rfl (by decide) _ _ _ rfl ((own_bel HH.out.o HW11.out).alloc _) ⟨w11.heap.size, 0, none⟩ 1 1 [.int .i64 1, .string (strB name), .int .i64 xs, .int .i64 xz, .int .i64 x0, .int .i64 x1, .string x2, .int .i64 x3, .int .i64 x4, .slice X1 X2 X3, .int .i64 z0, .int .i64 z1, .string z2, .int .i64 z3, .int .i64 z4, .slice Z1 Z2 Z3, .slice Ab (St.resL f body).length cb, .slice Ae (St.resL f els).length ce] rfl rfl (ex_new _ _ _) (by simp [Value.oneCell']) (by rw [HLN.out]; unfold maxLen; omega) (by rw [HLN.out]; omega) (by rw [new_size]; have := HW11.out.size; omega) ?_))
              intro va wa hown hgrow _ hobl
              have HN := Lib.hid (RyHead.next HH.out HE1.out HW11.out HS11.out hown hgrow hobl)
              clear hown hgrow hobl
              go_wp2_with fail
              go_roundg g
              case rel => exact ⟨k + 1, _, by have := HG.out; omega, by go_num, HN.out⟩
              case measure => omega
        · obtain ⟨⟨xs, xz⟩, hfx, hpx⟩ := ho2 rfl
          have hres : St.res f (.mk 2 name slot size place value body els) = .mk 2 name xs xz (place.res f) (value.res f) (St.resL f body) (St.resL f els) := by simp [St.res, hfx]
          have q1 : w5.cell? ⟨wr.heap.size, 1, none⟩ = some (.string (strB name)) := by rw [Lib.cell_of_heap H5.out]; rfl
          have hf := find_good R f name true (xs, xz) w5 (HRS.out.below (HH.out.b.trans (HB5.out.mono hz0))) hnm hfx (by simp at hpx ⊢; omega)
          simp only [plV] at hf
          have HF := Lib.hid hf
          clear ho1 ho2 hfx hpx hf
          go_wp2_with fail
          refine HF.out.mono ?_
          rintro ef wf ⟨rfl, hb⟩
          have HBf := Lib.hid hb
          have Hf := Lib.hid (below_blk hb H5.out)
          have hnf := lt_of_block Hf.out
          have r2 : wf.cell? ⟨wr.heap.size, 2, none⟩ = some (.int .i64 slot) := by rw [Lib.cell_of_heap Hf.out]; rfl
          have r3 : wf.cell? ⟨wr.heap.size, 3, none⟩ = some (.int .i64 size) := by rw [Lib.cell_of_heap Hf.out]; rfl
          have rf2 : wf.frozen? ⟨wr.heap.size, 2, none⟩ = false := Lib.frozen_of_heap Hf.out 2
          have rf3 : wf.frozen? ⟨wr.heap.size, 3, none⟩ = false := Lib.frozen_of_heap Hf.out 3
          clear hb q1
          go_wp2_with fail
          go_region
          go_wp2_with fail
          obtain ⟨wb, hwb⟩ : ∃ x, (((wf.setCell ⟨wr.heap.size, 2, none⟩ (.int .i64 xs)).setCell ⟨wr.heap.size, 3, none⟩ (.int .i64 xz)).alloc (.cells #[.int .i64 xs, .int .i64 xz] 83)).drew = x := ⟨_, rfl⟩
          have hb5 := (alloc_blk ((wf.setCell ⟨wr.heap.size, 2, none⟩ (.int .i64 xs)).setCell ⟨wr.heap.size, 3, none⟩ (.int .i64 xz)) (.cells #[.int .i64 xs, .int .i64 xz] 83) (k := wr.heap.size) (by rw [set_size, set_size]; omega)).trans (blk_set (blk_set Hf.out 2 (.int .i64 xs)) 3 (.int .i64 xz))
          have H5b : Hid (wb.heap[wr.heap.size]? = some (.cells (stCells 2 name xs xz [.int .i64 p0, .int .i64 p1, .string p2, .int .i64 p3, .int .i64 p4, .slice P1 P2 P3] [.int .i64 v0, .int .i64 v1, .string v2, .int .i64 v3, .int .i64 v4, .slice V1 V2 V3] (.slice A3 body.length c3) (.slice A4 els.length c4)).toArray 58 (0, 0))) := by
            rw [← hwb]
            simp only [stCells, List.cons_append, List.nil_append, List.setIfInBounds_toArray, List.set_cons_zero, List.set_cons_succ] at hb5 ⊢
            exact hb5
          have HB5b : Hid (Below wr.heap.size wr wb) := by
            rw [← hwb]
            have hz5 := lt_of_block H5.out
            have h1 := HB5.out.trans (HBf.out.mono (show wr.heap.size ≤ w5.heap.size by omega))
            exact (((h1.setCell (p := ⟨wr.heap.size, 2, none⟩) (Nat.le_refl _) _).setCell (p := ⟨wr.heap.size, 3, none⟩) (Nat.le_refl _) _).alloc (by rw [set_size, set_size]; omega) _).drew
          rw [hwb]
          clear hwb hb5 r2 r3 rf2 rf3 HF HBf Hf hnf H5 HB5

          have HBd : Hid (Below w.heap.size w wb.drew) := (HH.out.b.trans (HB5b.out.mono hz0)).drew
          have s4 : wb.cell? ⟨wr.heap.size, 4, none⟩ = some (.int .i64 p0) := by rw [Lib.cell_of_heap H5b.out]; rfl
          have s5 : wb.cell? ⟨wr.heap.size, 5, none⟩ = some (.int .i64 p1) := by rw [Lib.cell_of_heap H5b.out]; rfl
          have s6 : wb.cell? ⟨wr.heap.size, 6, none⟩ = some (.string p2) := by rw [Lib.cell_of_heap H5b.out]; rfl
          have s7 : wb.cell? ⟨wr.heap.size, 7, none⟩ = some (.int .i64 p3) := by rw [Lib.cell_of_heap H5b.out]; rfl
          have s8 : wb.cell? ⟨wr.heap.size, 8, none⟩ = some (.int .i64 p4) := by rw [Lib.cell_of_heap H5b.out]; rfl
          have s9 : wb.cell? ⟨wr.heap.size, 9, none⟩ = some (.slice P1 P2 P3) := by rw [Lib.cell_of_heap H5b.out]; rfl
          have s10 : wb.cell? ⟨wr.heap.size, 10, none⟩ = some (.int .i64 v0) := by rw [Lib.cell_of_heap H5b.out]; rfl
          have s11 : wb.cell? ⟨wr.heap.size, 11, none⟩ = some (.int .i64 v1) := by rw [Lib.cell_of_heap H5b.out]; rfl
          have s12 : wb.cell? ⟨wr.heap.size, 12, none⟩ = some (.string v2) := by rw [Lib.cell_of_heap H5b.out]; rfl
          have s13 : wb.cell? ⟨wr.heap.size, 13, none⟩ = some (.int .i64 v3) := by rw [Lib.cell_of_heap H5b.out]; rfl
          have s14 : wb.cell? ⟨wr.heap.size, 14, none⟩ = some (.int .i64 v4) := by rw [Lib.cell_of_heap H5b.out]; rfl
          have s15 : wb.cell? ⟨wr.heap.size, 15, none⟩ = some (.slice V1 V2 V3) := by rw [Lib.cell_of_heap H5b.out]; rfl

          clear q0
          go_region_with (first
            | (go_at_call 37; ((with_reducible refine (HCP.out _ HBd.out).mono ?_)); rintro e6 w6 ⟨y6, rfl, ⟨x0, x1, x2, x3, x4, X1, X2, X3, rfl, hlp⟩, hb⟩; have HLP := Lib.hid hlp; have HB6 := Lib.hid hb; have H6 := Lib.hid ((hb.block (w := wb.drew) wr.heap.size (lt_of_block H5b.out)).trans H5b.out); (have t10 : w6.cell? ⟨wr.heap.size, 10, none⟩ = some (.int .i64 v0) := by rw [Lib.cell_of_heap H6.out]; rfl); (have t11 : w6.cell? ⟨wr.heap.size, 11, none⟩ = some (.int .i64 v1) := by rw [Lib.cell_of_heap H6.out]; rfl); (have t12 : w6.cell? ⟨wr.heap.size, 12, none⟩ = some (.string v2) := by rw [Lib.cell_of_heap H6.out]; rfl); (have t13 : w6.cell? ⟨wr.heap.size, 13, none⟩ = some (.int .i64 v3) := by rw [Lib.cell_of_heap H6.out]; rfl); (have t14 : w6.cell? ⟨wr.heap.size, 14, none⟩ = some (.int .i64 v4) := by rw [Lib.cell_of_heap H6.out]; rfl); (have t15 : w6.cell? ⟨wr.heap.size, 15, none⟩ = some (.slice V1 V2 V3) := by rw [Lib.cell_of_heap H6.out]; rfl); clear hb hlp)
            | (go_at_call 37; ((with_reducible refine (HCV.out _ (HBd.out.trans (HB6.out.mono HBd.out.size))).mono ?_)); rintro e7 w7 ⟨y7, rfl, ⟨z0, z1, z2, z3, z4, Z1, Z2, Z3, rfl, hlv⟩, hb⟩; have HLV := Lib.hid hlv; have HB7 := Lib.hid hb; have H7 := Lib.hid ((hb.block wr.heap.size (lt_of_block H6.out)).trans H6.out); (have u4 : w7.cell? ⟨wr.heap.size, 4, none⟩ = some (.int .i64 p0) := by rw [Lib.cell_of_heap H7.out]; rfl); (have uf4 : w7.frozen? ⟨wr.heap.size, 4, none⟩ = false := Lib.frozen_of_heap H7.out 4); (have u5 : w7.cell? ⟨wr.heap.size, 5, none⟩ = some (.int .i64 p1) := by rw [Lib.cell_of_heap H7.out]; rfl); (have uf5 : w7.frozen? ⟨wr.heap.size, 5, none⟩ = false := Lib.frozen_of_heap H7.out 5); (have u6 : w7.cell? ⟨wr.heap.size, 6, none⟩ = some (.string p2) := by rw [Lib.cell_of_heap H7.out]; rfl); (have uf6 : w7.frozen? ⟨wr.heap.size, 6, none⟩ = false := Lib.frozen_of_heap H7.out 6); (have u7 : w7.cell? ⟨wr.heap.size, 7, none⟩ = some (.int .i64 p3) := by rw [Lib.cell_of_heap H7.out]; rfl); (have uf7 : w7.frozen? ⟨wr.heap.size, 7, none⟩ = false := Lib.frozen_of_heap H7.out 7); (have u8 : w7.cell? ⟨wr.heap.size, 8, none⟩ = some (.int .i64 p4) := by rw [Lib.cell_of_heap H7.out]; rfl); (have uf8 : w7.frozen? ⟨wr.heap.size, 8, none⟩ = false := Lib.frozen_of_heap H7.out 8); (have u9 : w7.cell? ⟨wr.heap.size, 9, none⟩ = some (.slice P1 P2 P3) := by rw [Lib.cell_of_heap H7.out]; rfl); (have uf9 : w7.frozen? ⟨wr.heap.size, 9, none⟩ = false := Lib.frozen_of_heap H7.out 9); (have u10 : w7.cell? ⟨wr.heap.size, 10, none⟩ = some (.int .i64 v0) := by rw [Lib.cell_of_heap H7.out]; rfl); (have uf10 : w7.frozen? ⟨wr.heap.size, 10, none⟩ = false := Lib.frozen_of_heap H7.out 10); (have u11 : w7.cell? ⟨wr.heap.size, 11, none⟩ = some (.int .i64 v1) := by rw [Lib.cell_of_heap H7.out]; rfl); (have uf11 : w7.frozen? ⟨wr.heap.size, 11, none⟩ = false := Lib.frozen_of_heap H7.out 11); (have u12 : w7.cell? ⟨wr.heap.size, 12, none⟩ = some (.string v2) := by rw [Lib.cell_of_heap H7.out]; rfl); (have uf12 : w7.frozen? ⟨wr.heap.size, 12, none⟩ = false := Lib.frozen_of_heap H7.out 12); (have u13 : w7.cell? ⟨wr.heap.size, 13, none⟩ = some (.int .i64 v3) := by rw [Lib.cell_of_heap H7.out]; rfl); (have uf13 : w7.frozen? ⟨wr.heap.size, 13, none⟩ = false := Lib.frozen_of_heap H7.out 13); (have u14 : w7.cell? ⟨wr.heap.size, 14, none⟩ = some (.int .i64 v4) := by rw [Lib.cell_of_heap H7.out]; rfl); (have uf14 : w7.frozen? ⟨wr.heap.size, 14, none⟩ = false := Lib.frozen_of_heap H7.out 14); (have u15 : w7.cell? ⟨wr.heap.size, 15, none⟩ = some (.slice V1 V2 V3) := by rw [Lib.cell_of_heap H7.out]; rfl); (have uf15 : w7.frozen? ⟨wr.heap.size, 15, none⟩ = false := Lib.frozen_of_heap H7.out 15); clear hb hlv))
          all_goals
            obtain ⟨w8, hw8⟩ : ∃ x, wr12 w7 wr.heap.size (.int .i64 x0) (.int .i64 x1) (.string x2) (.int .i64 x3) (.int .i64 x4) (.slice X1 X2 X3) (.int .i64 z0) (.int .i64 z1) (.string z2) (.int .i64 z3) (.int .i64 z4) (.slice Z1 Z2 Z3) = x := ⟨_, rfl⟩
            have H8 := Lib.hid (wr12_blk H7.out (.int .i64 x0) (.int .i64 x1) (.string x2) (.int .i64 x3) (.int .i64 x4) (.slice X1 X2 X3) (.int .i64 z0) (.int .i64 z1) (.string z2) (.int .i64 z3) (.int .i64 z4) (.slice Z1 Z2 Z3))
            rw [hw8] at H8
            have HK8 : Hid (∀ k, k ≠ wr.heap.size → w8.heap[k]? = w7.heap[k]?) := fun k hk => by rw [← hw8]; exact wr12_other _ _ _ _ _ _ _ _ _ _ _ _ _ _ hk
            have HB8 : Hid (Below wr.heap.size w7 w8) := by rw [← hw8]; exact wr12_below (Below.refl _ _) (Nat.le_refl _) _ _ _ _ _ _ _ _ _ _ _ _
            unfold wr12 at hw8
            rw [hw8]
            clear hw8 s4 s5 s6 s7 s8 s9 s10 s11 s12 s13 s14 s15 t10 t11 t12 t13 t14 t15 u4 u5 u6 u7 u8 u9 u10 u11 u12 u13 u14 u15 uf4 uf5 uf6 uf7 uf8 uf9 uf10 uf11 uf12 uf13 uf14 uf15
            have HW8 : Hid (Below wr.heap.size wr w8) := (((HB5b.out.drew).trans (HB6.out.mono (show wr.heap.size ≤ wb.heap.size from HB5b.out.size))).trans (HB7.out.mono (Nat.le_trans (show wr.heap.size ≤ wb.heap.size from HB5b.out.size) HB6.out.size))).trans HB8.out
            have HW8d : Hid (Below w.heap.size w w8.drew) := (HH.out.b.trans (HW8.out.mono hz0)).drew
            have s16 : w8.cell? ⟨wr.heap.size, 16, none⟩ = some (.slice A3 body.length c3) := by rw [Lib.cell_of_heap H8.out]; rfl
            have s17 : w8.cell? ⟨wr.heap.size, 17, none⟩ = some (.slice A4 els.length c4) := by rw [Lib.cell_of_heap H8.out]; rfl
            go_wp2_with fail
            go_region_with (first
              | (go_at_call 22; ((with_reducible refine (HCB.out _ HW8d.out).mono ?_)); rintro e9 w9 ⟨y9, rfl, ⟨Ab, cb, rfl, hlb, hbr⟩, hb⟩; have HLB := Lib.hid hlb; have HRB := Lib.hid hbr; have HB9 := Lib.hid hb; have H9 := Lib.hid ((hb.block (w := w8.drew) wr.heap.size (lt_of_block H8.out)).trans H8.out); (have t17 : w9.cell? ⟨wr.heap.size, 17, none⟩ = some (.slice A4 els.length c4) := by rw [Lib.cell_of_heap H9.out]; rfl); clear hb hlb hbr)
              | (go_at_call 22; ((with_reducible refine (HCE.out _ (HW8d.out.trans (HB9.out.mono HW8d.out.size))).mono ?_)); rintro e10 w10 ⟨y10, rfl, ⟨Ae, ce, rfl, hle, her⟩, hb⟩; have HLE := Lib.hid hle; have HRE := Lib.hid her; have HB10 := Lib.hid hb; have H10 := Lib.hid ((hb.block wr.heap.size (lt_of_block H9.out)).trans H9.out); (have u16 : w10.cell? ⟨wr.heap.size, 16, none⟩ = some (.slice A3 body.length c3) := by rw [Lib.cell_of_heap H10.out]; rfl); (have u17 : w10.cell? ⟨wr.heap.size, 17, none⟩ = some (.slice A4 els.length c4) := by rw [Lib.cell_of_heap H10.out]; rfl); (have uf16 : w10.frozen? ⟨wr.heap.size, 16, none⟩ = false := Lib.frozen_of_heap H10.out 16); (have uf17 : w10.frozen? ⟨wr.heap.size, 17, none⟩ = false := Lib.frozen_of_heap H10.out 17); clear hb hle her))
            all_goals
              obtain ⟨w11, hw11⟩ : ∃ x, (w10.setCell ⟨wr.heap.size, 16, none⟩ (.slice Ab (St.resL f body).length cb)).setCell ⟨wr.heap.size, 17, none⟩ (.slice Ae (St.resL f els).length ce) = x := ⟨_, rfl⟩
              have H11 : Hid (w11.heap[wr.heap.size]? = some (.cells #[.int .i64 2, .string (strB name), .int .i64 xs, .int .i64 xz, .int .i64 x0, .int .i64 x1, .string x2, .int .i64 x3, .int .i64 x4, .slice X1 X2 X3, .int .i64 z0, .int .i64 z1, .string z2, .int .i64 z3, .int .i64 z4, .slice Z1 Z2 Z3, .slice Ab (St.resL f body).length cb, .slice Ae (St.resL f els).length ce] 58 (0, 0))) := by
                have h' := blk_set (blk_set H10.out 16 (.slice Ab (St.resL f body).length cb)) 17 (.slice Ae (St.resL f els).length ce)
                rw [hw11] at h'
                simp only [stCells, List.cons_append, List.nil_append, List.setIfInBounds_toArray, List.set_cons_zero, List.set_cons_succ] at h'
                exact h'
              have HK11 : Hid (∀ k, k ≠ wr.heap.size → w11.heap[k]? = w10.heap[k]?) := fun k hk => by rw [← hw11]; exact (Below.heap_setCell _ _ _ _ hk).trans (Below.heap_setCell _ _ _ _ hk)
              have HB11 : Hid (Below wr.heap.size w10 w11) := by rw [← hw11]; exact ((Below.refl _ _).setCell (p := ⟨wr.heap.size, 16, none⟩) (Nat.le_refl _) _).setCell (p := ⟨wr.heap.size, 17, none⟩) (Nat.le_refl _) _
              have hz11 : w11.heap.size = w10.heap.size := by rw [← hw11, set_size, set_size]
              rw [hw11]
              clear hw11 s16 s17 t17 u16 u17 uf16 uf17
              have hza : wr.heap.size < wb.heap.size := lt_of_block H5b.out
              have hzb : wb.heap.size ≤ w6.heap.size := HB6.out.size
              have hzc : w6.heap.size ≤ w7.heap.size := HB7.out.size
              have hzd : w7.heap.size ≤ w8.heap.size := HB8.out.size
              have hze : w8.heap.size ≤ w9.heap.size := HB9.out.size
              have hzf : w9.heap.size ≤ w10.heap.size := HB10.out.size
              have HW11 : Hid (Below wr.heap.size wr w11) := (((HW8.out.drew).trans (HB9.out.mono (show wr.heap.size ≤ w8.heap.size by omega))).trans (HB10.out.mono (by omega))).trans HB11.out
              have HS11 : Hid (StL (From wr.heap.size) w11 (St.res f (.mk 2 name slot size place value body els)) [.int .i64 2, .string (strB name), .int .i64 xs, .int .i64 xz, .int .i64 x0, .int .i64 x1, .string x2, .int .i64 x3, .int .i64 x4, .slice X1 X2 X3, .int .i64 z0, .int .i64 z1, .string z2, .int .i64 z3, .int .i64 z4, .slice Z1 Z2 Z3, .slice Ab (St.resL f body).length cb, .slice Ae (St.resL f els).length ce]) := by
                rw [hres]
                simp only [StL]
                refine ⟨[.int .i64 x0, .int .i64 x1, .string x2, .int .i64 x3, .int .i64 x4, .slice X1 X2 X3], [.int .i64 z0, .int .i64 z1, .string z2, .int .i64 z3, .int .i64 z4, .slice Z1 Z2 Z3], Ab, cb, Ae, ce, rfl, ?_, ?_, HLB.out, HLE.out, fun hne => ?_, fun hne => ?_⟩
                · exact ExL.still (fun k (h1 : wb.heap.size ≤ k) h2 => ⟨show wr.heap.size ≤ k by omega, (HK11.out k (by omega)).trans ((HB10.out.block k (by omega)).trans ((HB9.out.block k (show k < w8.heap.size by omega)).trans ((HK8.out k (by omega)).trans (HB7.out.block k h2))))⟩) _ _ HLP.out
                · exact ExL.still (fun k (h1 : w6.heap.size ≤ k) h2 => ⟨show wr.heap.size ≤ k by omega, (HK11.out k (by omega)).trans ((HB10.out.block k (by omega)).trans ((HB9.out.block k (show k < w8.heap.size by omega)).trans (HK8.out k (by omega))))⟩) _ _ HLV.out
                · obtain ⟨b, o, hA, hS, hr⟩ := HRB.out hne
                  exact ⟨b, o, hA, show wr.heap.size ≤ b from Nat.le_trans (by omega) (show w8.heap.size ≤ b from hS), StRow.still (fun k (h1 : w8.heap.size ≤ k) h2 => ⟨show wr.heap.size ≤ k by omega, (HK11.out k (by omega)).trans (HB10.out.block k h2)⟩) _ b o hS hr⟩
                · obtain ⟨b, o, hA, hS, hr⟩ := HRE.out hne
                  exact ⟨b, o, hA, show wr.heap.size ≤ b from Nat.le_trans (by omega) (show w9.heap.size ≤ b from hS), StRow.still (fun k (h1 : w9.heap.size ≤ k) h2 => ⟨show wr.heap.size ≤ k by omega, HK11.out k (by omega)⟩) _ b o hS hr⟩
              clear hza hzb hzc hzd hze hzf hz11
              go_wp2_with (first
                | (refine wpList_load_row rfl 58 _ rfl wr.heap.size rfl 58 _ (0, 0) _ H11.out Tryd.underlying58 rfl (by kernel_rfl) ?_)
                | (at_builtin; refine wpList_append_own_at _ rfl _ _ 27 rfl w.heap.size 58 i0 _ 18 232 Tryd.underlying27 HI.out HI0.out HI1.out HI2.out rfl (by decide) _ _ _ rfl ((own_bel HH.out.o HW11.out).alloc _) ⟨w11.heap.size, 0, none⟩ 1 1 [.int .i64 2, .string (strB name), .int .i64 xs, .int .i64 xz, .int .i64 x0, .int .i64 x1, .string x2, .int .i64 x3, .int .i64 x4, .slice X1 X2 X3, .int .i64 z0, .int .i64 z1, .string z2, .int .i64 z3, .int .i64 z4, .slice Z1 Z2 Z3, .slice Ab (St.resL f body).length cb, .slice Ae (St.resL f els).length ce] rfl rfl (ex_new _ _ _) (by simp [Value.oneCell']) (by rw [HLN.out]; unfold maxLen; omega) (by rw [HLN.out]; omega) (by rw [new_size]; have := HW11.out.size; omega) ?_))
              intro va wa hown hgrow _ hobl
              have HN := Lib.hid (RyHead.next HH.out HE1.out HW11.out HS11.out hown hgrow hobl)
              clear hown hgrow hobl
              go_wp2_with fail
              go_roundg g
              case rel => exact ⟨k + 1, _, by have := HG.out; omega, by go_num, HN.out⟩
              case measure => omega
      have hn1 : (kind == 1) = false := by simp; omega
      have hn2 : (kind == 2) = false := by simp; omega
      have hres : St.res f (.mk kind name slot size place value body els) = .mk kind name slot size (place.res f) (value.res f) (St.resL f body) (St.resL f els) := by simp only [St.res]; rw [if_neg hk12]
      clear ho1 ho2 hk12
      go_wp2_with fail

      have HBd : Hid (Below w.heap.size w w5.drew) := (HH.out.b.trans (HB5.out.mono hz0)).drew
      have s4 : w5.cell? ⟨wr.heap.size, 4, none⟩ = some (.int .i64 p0) := by rw [Lib.cell_of_heap H5.out]; rfl
      have s5 : w5.cell? ⟨wr.heap.size, 5, none⟩ = some (.int .i64 p1) := by rw [Lib.cell_of_heap H5.out]; rfl
      have s6 : w5.cell? ⟨wr.heap.size, 6, none⟩ = some (.string p2) := by rw [Lib.cell_of_heap H5.out]; rfl
      have s7 : w5.cell? ⟨wr.heap.size, 7, none⟩ = some (.int .i64 p3) := by rw [Lib.cell_of_heap H5.out]; rfl
      have s8 : w5.cell? ⟨wr.heap.size, 8, none⟩ = some (.int .i64 p4) := by rw [Lib.cell_of_heap H5.out]; rfl
      have s9 : w5.cell? ⟨wr.heap.size, 9, none⟩ = some (.slice P1 P2 P3) := by rw [Lib.cell_of_heap H5.out]; rfl
      have s10 : w5.cell? ⟨wr.heap.size, 10, none⟩ = some (.int .i64 v0) := by rw [Lib.cell_of_heap H5.out]; rfl
      have s11 : w5.cell? ⟨wr.heap.size, 11, none⟩ = some (.int .i64 v1) := by rw [Lib.cell_of_heap H5.out]; rfl
      have s12 : w5.cell? ⟨wr.heap.size, 12, none⟩ = some (.string v2) := by rw [Lib.cell_of_heap H5.out]; rfl
      have s13 : w5.cell? ⟨wr.heap.size, 13, none⟩ = some (.int .i64 v3) := by rw [Lib.cell_of_heap H5.out]; rfl
      have s14 : w5.cell? ⟨wr.heap.size, 14, none⟩ = some (.int .i64 v4) := by rw [Lib.cell_of_heap H5.out]; rfl
      have s15 : w5.cell? ⟨wr.heap.size, 15, none⟩ = some (.slice V1 V2 V3) := by rw [Lib.cell_of_heap H5.out]; rfl

      clear q0
      go_region_with (first
        | (go_at_call 37; ((with_reducible refine (HCP.out _ HBd.out).mono ?_)); rintro e6 w6 ⟨y6, rfl, ⟨x0, x1, x2, x3, x4, X1, X2, X3, rfl, hlp⟩, hb⟩; have HLP := Lib.hid hlp; have HB6 := Lib.hid hb; have H6 := Lib.hid ((hb.block (w := w5.drew) wr.heap.size (lt_of_block H5.out)).trans H5.out); (have t10 : w6.cell? ⟨wr.heap.size, 10, none⟩ = some (.int .i64 v0) := by rw [Lib.cell_of_heap H6.out]; rfl); (have t11 : w6.cell? ⟨wr.heap.size, 11, none⟩ = some (.int .i64 v1) := by rw [Lib.cell_of_heap H6.out]; rfl); (have t12 : w6.cell? ⟨wr.heap.size, 12, none⟩ = some (.string v2) := by rw [Lib.cell_of_heap H6.out]; rfl); (have t13 : w6.cell? ⟨wr.heap.size, 13, none⟩ = some (.int .i64 v3) := by rw [Lib.cell_of_heap H6.out]; rfl); (have t14 : w6.cell? ⟨wr.heap.size, 14, none⟩ = some (.int .i64 v4) := by rw [Lib.cell_of_heap H6.out]; rfl); (have t15 : w6.cell? ⟨wr.heap.size, 15, none⟩ = some (.slice V1 V2 V3) := by rw [Lib.cell_of_heap H6.out]; rfl); clear hb hlp)
        | (go_at_call 37; ((with_reducible refine (HCV.out _ (HBd.out.trans (HB6.out.mono HBd.out.size))).mono ?_)); rintro e7 w7 ⟨y7, rfl, ⟨z0, z1, z2, z3, z4, Z1, Z2, Z3, rfl, hlv⟩, hb⟩; have HLV := Lib.hid hlv; have HB7 := Lib.hid hb; have H7 := Lib.hid ((hb.block wr.heap.size (lt_of_block H6.out)).trans H6.out); (have u4 : w7.cell? ⟨wr.heap.size, 4, none⟩ = some (.int .i64 p0) := by rw [Lib.cell_of_heap H7.out]; rfl); (have uf4 : w7.frozen? ⟨wr.heap.size, 4, none⟩ = false := Lib.frozen_of_heap H7.out 4); (have u5 : w7.cell? ⟨wr.heap.size, 5, none⟩ = some (.int .i64 p1) := by rw [Lib.cell_of_heap H7.out]; rfl); (have uf5 : w7.frozen? ⟨wr.heap.size, 5, none⟩ = false := Lib.frozen_of_heap H7.out 5); (have u6 : w7.cell? ⟨wr.heap.size, 6, none⟩ = some (.string p2) := by rw [Lib.cell_of_heap H7.out]; rfl); (have uf6 : w7.frozen? ⟨wr.heap.size, 6, none⟩ = false := Lib.frozen_of_heap H7.out 6); (have u7 : w7.cell? ⟨wr.heap.size, 7, none⟩ = some (.int .i64 p3) := by rw [Lib.cell_of_heap H7.out]; rfl); (have uf7 : w7.frozen? ⟨wr.heap.size, 7, none⟩ = false := Lib.frozen_of_heap H7.out 7); (have u8 : w7.cell? ⟨wr.heap.size, 8, none⟩ = some (.int .i64 p4) := by rw [Lib.cell_of_heap H7.out]; rfl); (have uf8 : w7.frozen? ⟨wr.heap.size, 8, none⟩ = false := Lib.frozen_of_heap H7.out 8); (have u9 : w7.cell? ⟨wr.heap.size, 9, none⟩ = some (.slice P1 P2 P3) := by rw [Lib.cell_of_heap H7.out]; rfl); (have uf9 : w7.frozen? ⟨wr.heap.size, 9, none⟩ = false := Lib.frozen_of_heap H7.out 9); (have u10 : w7.cell? ⟨wr.heap.size, 10, none⟩ = some (.int .i64 v0) := by rw [Lib.cell_of_heap H7.out]; rfl); (have uf10 : w7.frozen? ⟨wr.heap.size, 10, none⟩ = false := Lib.frozen_of_heap H7.out 10); (have u11 : w7.cell? ⟨wr.heap.size, 11, none⟩ = some (.int .i64 v1) := by rw [Lib.cell_of_heap H7.out]; rfl); (have uf11 : w7.frozen? ⟨wr.heap.size, 11, none⟩ = false := Lib.frozen_of_heap H7.out 11); (have u12 : w7.cell? ⟨wr.heap.size, 12, none⟩ = some (.string v2) := by rw [Lib.cell_of_heap H7.out]; rfl); (have uf12 : w7.frozen? ⟨wr.heap.size, 12, none⟩ = false := Lib.frozen_of_heap H7.out 12); (have u13 : w7.cell? ⟨wr.heap.size, 13, none⟩ = some (.int .i64 v3) := by rw [Lib.cell_of_heap H7.out]; rfl); (have uf13 : w7.frozen? ⟨wr.heap.size, 13, none⟩ = false := Lib.frozen_of_heap H7.out 13); (have u14 : w7.cell? ⟨wr.heap.size, 14, none⟩ = some (.int .i64 v4) := by rw [Lib.cell_of_heap H7.out]; rfl); (have uf14 : w7.frozen? ⟨wr.heap.size, 14, none⟩ = false := Lib.frozen_of_heap H7.out 14); (have u15 : w7.cell? ⟨wr.heap.size, 15, none⟩ = some (.slice V1 V2 V3) := by rw [Lib.cell_of_heap H7.out]; rfl); (have uf15 : w7.frozen? ⟨wr.heap.size, 15, none⟩ = false := Lib.frozen_of_heap H7.out 15); clear hb hlv))
      all_goals
        obtain ⟨w8, hw8⟩ : ∃ x, wr12 w7 wr.heap.size (.int .i64 x0) (.int .i64 x1) (.string x2) (.int .i64 x3) (.int .i64 x4) (.slice X1 X2 X3) (.int .i64 z0) (.int .i64 z1) (.string z2) (.int .i64 z3) (.int .i64 z4) (.slice Z1 Z2 Z3) = x := ⟨_, rfl⟩
        have H8 := Lib.hid (wr12_blk H7.out (.int .i64 x0) (.int .i64 x1) (.string x2) (.int .i64 x3) (.int .i64 x4) (.slice X1 X2 X3) (.int .i64 z0) (.int .i64 z1) (.string z2) (.int .i64 z3) (.int .i64 z4) (.slice Z1 Z2 Z3))
        rw [hw8] at H8
        have HK8 : Hid (∀ k, k ≠ wr.heap.size → w8.heap[k]? = w7.heap[k]?) := fun k hk => by rw [← hw8]; exact wr12_other _ _ _ _ _ _ _ _ _ _ _ _ _ _ hk
        have HB8 : Hid (Below wr.heap.size w7 w8) := by rw [← hw8]; exact wr12_below (Below.refl _ _) (Nat.le_refl _) _ _ _ _ _ _ _ _ _ _ _ _
        unfold wr12 at hw8
        rw [hw8]
        clear hw8 s4 s5 s6 s7 s8 s9 s10 s11 s12 s13 s14 s15 t10 t11 t12 t13 t14 t15 u4 u5 u6 u7 u8 u9 u10 u11 u12 u13 u14 u15 uf4 uf5 uf6 uf7 uf8 uf9 uf10 uf11 uf12 uf13 uf14 uf15
        have HW8 : Hid (Below wr.heap.size wr w8) := (((HB5.out.drew).trans (HB6.out.mono (show wr.heap.size ≤ w5.heap.size from HB5.out.size))).trans (HB7.out.mono (Nat.le_trans (show wr.heap.size ≤ w5.heap.size from HB5.out.size) HB6.out.size))).trans HB8.out
        have HW8d : Hid (Below w.heap.size w w8.drew) := (HH.out.b.trans (HW8.out.mono hz0)).drew
        have s16 : w8.cell? ⟨wr.heap.size, 16, none⟩ = some (.slice A3 body.length c3) := by rw [Lib.cell_of_heap H8.out]; rfl
        have s17 : w8.cell? ⟨wr.heap.size, 17, none⟩ = some (.slice A4 els.length c4) := by rw [Lib.cell_of_heap H8.out]; rfl
        go_wp2_with fail
        go_region_with (first
          | (go_at_call 22; ((with_reducible refine (HCB.out _ HW8d.out).mono ?_)); rintro e9 w9 ⟨y9, rfl, ⟨Ab, cb, rfl, hlb, hbr⟩, hb⟩; have HLB := Lib.hid hlb; have HRB := Lib.hid hbr; have HB9 := Lib.hid hb; have H9 := Lib.hid ((hb.block (w := w8.drew) wr.heap.size (lt_of_block H8.out)).trans H8.out); (have t17 : w9.cell? ⟨wr.heap.size, 17, none⟩ = some (.slice A4 els.length c4) := by rw [Lib.cell_of_heap H9.out]; rfl); clear hb hlb hbr)
          | (go_at_call 22; ((with_reducible refine (HCE.out _ (HW8d.out.trans (HB9.out.mono HW8d.out.size))).mono ?_)); rintro e10 w10 ⟨y10, rfl, ⟨Ae, ce, rfl, hle, her⟩, hb⟩; have HLE := Lib.hid hle; have HRE := Lib.hid her; have HB10 := Lib.hid hb; have H10 := Lib.hid ((hb.block wr.heap.size (lt_of_block H9.out)).trans H9.out); (have u16 : w10.cell? ⟨wr.heap.size, 16, none⟩ = some (.slice A3 body.length c3) := by rw [Lib.cell_of_heap H10.out]; rfl); (have u17 : w10.cell? ⟨wr.heap.size, 17, none⟩ = some (.slice A4 els.length c4) := by rw [Lib.cell_of_heap H10.out]; rfl); (have uf16 : w10.frozen? ⟨wr.heap.size, 16, none⟩ = false := Lib.frozen_of_heap H10.out 16); (have uf17 : w10.frozen? ⟨wr.heap.size, 17, none⟩ = false := Lib.frozen_of_heap H10.out 17); clear hb hle her))
        all_goals
          obtain ⟨w11, hw11⟩ : ∃ x, (w10.setCell ⟨wr.heap.size, 16, none⟩ (.slice Ab (St.resL f body).length cb)).setCell ⟨wr.heap.size, 17, none⟩ (.slice Ae (St.resL f els).length ce) = x := ⟨_, rfl⟩
          have H11 : Hid (w11.heap[wr.heap.size]? = some (.cells #[.int .i64 kind, .string (strB name), .int .i64 slot, .int .i64 size, .int .i64 x0, .int .i64 x1, .string x2, .int .i64 x3, .int .i64 x4, .slice X1 X2 X3, .int .i64 z0, .int .i64 z1, .string z2, .int .i64 z3, .int .i64 z4, .slice Z1 Z2 Z3, .slice Ab (St.resL f body).length cb, .slice Ae (St.resL f els).length ce] 58 (0, 0))) := by
            have h' := blk_set (blk_set H10.out 16 (.slice Ab (St.resL f body).length cb)) 17 (.slice Ae (St.resL f els).length ce)
            rw [hw11] at h'
            simp only [stCells, List.cons_append, List.nil_append, List.setIfInBounds_toArray, List.set_cons_zero, List.set_cons_succ] at h'
            exact h'
          have HK11 : Hid (∀ k, k ≠ wr.heap.size → w11.heap[k]? = w10.heap[k]?) := fun k hk => by rw [← hw11]; exact (Below.heap_setCell _ _ _ _ hk).trans (Below.heap_setCell _ _ _ _ hk)
          have HB11 : Hid (Below wr.heap.size w10 w11) := by rw [← hw11]; exact ((Below.refl _ _).setCell (p := ⟨wr.heap.size, 16, none⟩) (Nat.le_refl _) _).setCell (p := ⟨wr.heap.size, 17, none⟩) (Nat.le_refl _) _
          have hz11 : w11.heap.size = w10.heap.size := by rw [← hw11, set_size, set_size]
          rw [hw11]
          clear hw11 s16 s17 t17 u16 u17 uf16 uf17
          have hza : wr.heap.size < w5.heap.size := lt_of_block H5.out
          have hzb : w5.heap.size ≤ w6.heap.size := HB6.out.size
          have hzc : w6.heap.size ≤ w7.heap.size := HB7.out.size
          have hzd : w7.heap.size ≤ w8.heap.size := HB8.out.size
          have hze : w8.heap.size ≤ w9.heap.size := HB9.out.size
          have hzf : w9.heap.size ≤ w10.heap.size := HB10.out.size
          have HW11 : Hid (Below wr.heap.size wr w11) := (((HW8.out.drew).trans (HB9.out.mono (show wr.heap.size ≤ w8.heap.size by omega))).trans (HB10.out.mono (by omega))).trans HB11.out
          have HS11 : Hid (StL (From wr.heap.size) w11 (St.res f (.mk kind name slot size place value body els)) [.int .i64 kind, .string (strB name), .int .i64 slot, .int .i64 size, .int .i64 x0, .int .i64 x1, .string x2, .int .i64 x3, .int .i64 x4, .slice X1 X2 X3, .int .i64 z0, .int .i64 z1, .string z2, .int .i64 z3, .int .i64 z4, .slice Z1 Z2 Z3, .slice Ab (St.resL f body).length cb, .slice Ae (St.resL f els).length ce]) := by
            rw [hres]
            simp only [StL]
            refine ⟨[.int .i64 x0, .int .i64 x1, .string x2, .int .i64 x3, .int .i64 x4, .slice X1 X2 X3], [.int .i64 z0, .int .i64 z1, .string z2, .int .i64 z3, .int .i64 z4, .slice Z1 Z2 Z3], Ab, cb, Ae, ce, rfl, ?_, ?_, HLB.out, HLE.out, fun hne => ?_, fun hne => ?_⟩
            · exact ExL.still (fun k (h1 : w5.heap.size ≤ k) h2 => ⟨show wr.heap.size ≤ k by omega, (HK11.out k (by omega)).trans ((HB10.out.block k (by omega)).trans ((HB9.out.block k (show k < w8.heap.size by omega)).trans ((HK8.out k (by omega)).trans (HB7.out.block k h2))))⟩) _ _ HLP.out
            · exact ExL.still (fun k (h1 : w6.heap.size ≤ k) h2 => ⟨show wr.heap.size ≤ k by omega, (HK11.out k (by omega)).trans ((HB10.out.block k (by omega)).trans ((HB9.out.block k (show k < w8.heap.size by omega)).trans (HK8.out k (by omega))))⟩) _ _ HLV.out
            · obtain ⟨b, o, hA, hS, hr⟩ := HRB.out hne
              exact ⟨b, o, hA, show wr.heap.size ≤ b from Nat.le_trans (by omega) (show w8.heap.size ≤ b from hS), StRow.still (fun k (h1 : w8.heap.size ≤ k) h2 => ⟨show wr.heap.size ≤ k by omega, (HK11.out k (by omega)).trans (HB10.out.block k h2)⟩) _ b o hS hr⟩
            · obtain ⟨b, o, hA, hS, hr⟩ := HRE.out hne
              exact ⟨b, o, hA, show wr.heap.size ≤ b from Nat.le_trans (by omega) (show w9.heap.size ≤ b from hS), StRow.still (fun k (h1 : w9.heap.size ≤ k) h2 => ⟨show wr.heap.size ≤ k by omega, HK11.out k (by omega)⟩) _ b o hS hr⟩
          clear hza hzb hzc hzd hze hzf hz11
          go_wp2_with (first
            | (refine wpList_load_row rfl 58 _ rfl wr.heap.size rfl 58 _ (0, 0) _ H11.out Tryd.underlying58 rfl (by kernel_rfl) ?_)
            | (at_builtin; refine wpList_append_own_at _ rfl _ _ 27 rfl w.heap.size 58 i0 _ 18 232 Tryd.underlying27 HI.out HI0.out HI1.out HI2.out rfl (by decide) _ _ _ rfl ((own_bel HH.out.o HW11.out).alloc _) ⟨w11.heap.size, 0, none⟩ 1 1 [.int .i64 kind, .string (strB name), .int .i64 slot, .int .i64 size, .int .i64 x0, .int .i64 x1, .string x2, .int .i64 x3, .int .i64 x4, .slice X1 X2 X3, .int .i64 z0, .int .i64 z1, .string z2, .int .i64 z3, .int .i64 z4, .slice Z1 Z2 Z3, .slice Ab (St.resL f body).length cb, .slice Ae (St.resL f els).length ce] rfl rfl (ex_new _ _ _) (by simp [Value.oneCell']) (by rw [HLN.out]; unfold maxLen; omega) (by rw [HLN.out]; omega) (by rw [new_size]; have := HW11.out.size; omega) ?_))
          intro va wa hown hgrow _ hobl
          have HN := Lib.hid (RyHead.next HH.out HE1.out HW11.out HS11.out hown hgrow hobl)
          clear hown hgrow hobl
          go_wp2_with fail
          go_roundg g
          case rel => exact ⟨k + 1, _, by have := HG.out; omega, by go_num, HN.out⟩
          case measure => omega
end Go.Proofs.YtgkioompcmgmdaaDoor
