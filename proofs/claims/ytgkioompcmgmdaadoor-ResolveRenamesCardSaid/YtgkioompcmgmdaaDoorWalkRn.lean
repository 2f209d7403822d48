/-
  What rename of package rollbacknetlaw03 does: a copy of statements with other names. Conditions: statements have at most 100000 parts and short names.
-/
import Derived.Test.YtgkioompcmgmdaaDoorWalkOt
import Derived.Test.YtgkioompcmgmdaaDoorWalkOr
import Derived.Test.YtgkioompcmgmdaaDoorWalkRt
import Derived.Deep.DeepCutAuto
namespace Go.Proofs.YtgkioompcmgmdaaDoor
open Go.RowKit

mutual
/-- A statement with other names. -/
def St.rnm : St → St
  | .mk kind nm sl sz p v b e => .mk kind (renN nm) sl sz p.ren v.ren (St.rnmL b) (St.rnmL e)
def St.rnmL : List St → List St
  | [] => []
  | s :: r => s.rnm :: St.rnmL r
end
theorem srnmL_take : ∀ (l : List St) (k : Nat) (s : St), l[k]? = some s → St.rnmL (l.take (k + 1)) = St.rnmL (l.take k) ++ [s.rnm]
  | [], _, _, h => by simp at h
  | x :: r, 0, s, h => by
    simp only [List.getElem?_cons_zero, Option.some.injEq] at h
    subst h
    simp [St.rnmL]
  | x :: r, k + 1, s, h => by
    simp only [List.getElem?_cons_succ] at h
    simp [St.rnmL, srnmL_take r k s h]
theorem srnmL_len : ∀ (l : List St), (St.rnmL l).length = l.length
  | [] => rfl
  | x :: r => by simp [St.rnmL, srnmL_len r]
theorem rz_len {l : List St} {k : Nat} (hk : k ≤ l.length) : (St.rnmL (l.take k)).length = k := by
  rw [srnmL_len, List.length_take]; omega

/-- The loop's head: k statements are copied. -/
structure RzHead (w0 : World) (k : Nat) (l : List St) (v : Value) (wr : World) (css : List (List Value)) : Prop where
  b : Below w0.heap.size w0 wr
  o : wr.ownsRow w0.heap.size 58 18 v (St.rnmL (l.take k)).length css.flatten
  a : StAll (Sv w0.heap.size v) wr (St.rnmL (l.take k)) css

theorem RzHead.start (w0 : World) (l : List St) : RzHead w0 0 l (.slice none 0 0) w0 [] := ⟨Below.refl _ _, World.ownsRow_nil _ _ _ _, trivial⟩

/-- A statement more. -/
theorem RzHead.next {k : Nat} {w0 wr w2 w3 : World} {l : List St} {v v' : Value} {css : List (List Value)} {s : St} {cs : List Value} {o : Obj} (h : RzHead w0 k l v wr css)
    (hk : l[k]? = some s) (hb : Below wr.heap.size wr w2) (hs : StL (From wr.heap.size) w2 (s.rnm) cs)
    (hown : w3.ownsRow w0.heap.size 58 18 v' ((St.rnmL (l.take k)).length + 1) (css.flatten ++ cs)) (hg : (w2.alloc o).grownBy w3 v.ownBlock) (hob : v'.ownBlock = v.ownBlock ∨ v'.ownBlock = some (w2.heap.size + 1)) :
    RzHead w0 (k + 1) l v' w3 (css ++ [cs]) := by
  have hz := hb.size
  have hob2 : ∀ b, v.ownBlock = some b → w0.heap.size ≤ b ∧ b < wr.heap.size := fun b hb => by
    rcases h.o.2 with ⟨rfl, _⟩ | ⟨g, cap, cur, rfl, h2, h3, _⟩
    · cases hb
    · simp only [Value.ownBlock, Option.some.injEq] at hb; subst hb; exact ⟨h2, lt_of_block h3⟩
  have hblk : ∀ k, k < w2.heap.size → v.ownBlock ≠ some k → w3.heap[k]? = w2.heap[k]? := fun k hk1 hk2 =>
    (hg.block k (by rw [new_size]; omega) (fun e => hk2 e.symm)).trans (alloc_blk w2 o hk1)
  have hnot : ∀ k, k < w2.heap.size → v.ownBlock ≠ some k → v'.ownBlock ≠ some k := fun k hk1 hk2 h => by
    rcases hob with h' | h'
    · exact hk2 (h' ▸ h)
    · rw [h'] at h; injection h with h; omega
  refine ⟨?_, ?_, ?_⟩
  · have hk2 := h.b.trans (hb.mono h.b.size)
    exact ⟨hg.os.trans hk2.os, hg.tape.trans hk2.tape, hg.output.trans hk2.output, by have := hg.size; rw [new_size] at this; have := hk2.size; omega, fun k hk1 =>
      (hblk k (by have := hk2.size; omega) (fun h => by have := (hob2 k h).1; omega)).trans (hk2.block k hk1)⟩
  · rw [srnmL_take l k s hk, List.length_append, List.flatten_append]; simpa using hown
  · rw [srnmL_take l k s hk]
    refine StAll.snoc ?_ _ css ?_
    · exact StL.still (fun k (hk1 : wr.heap.size ≤ k) hk2 => ⟨⟨by have := h.b.size; omega, hnot k hk2 (fun h => by have := (hob2 k h).2; omega)⟩, hblk k hk2 (fun h => by have := (hob2 k h).2; omega)⟩) (s.rnm) cs hs
    · exact StAll.still (fun k hk1 hk2 => ⟨⟨hk1.1, hnot k (by omega) hk1.2⟩, (hblk k (by omega) hk1.2).trans (hb.block k hk2)⟩) _ css h.a

/-- At the loop's end. -/
theorem RzHead.done {w0 wr : World} {l : List St} {v : Value} {css : List (List Value)} (h : RzHead w0 l.length l v wr css) : VSts w0.heap.size wr (St.rnmL l) v := by
  have h1 := own_sts h.o h.a
  rwa [List.take_length] at h1


def RzC (n : Nat) : Prop := ∀ (l : List St), St.bigL l ≤ n → n ≤ 100000 → St.shortRL l → ∀ (S : Nat → Prop) (w : World) (A : Option Addr) (m c : Nat), StSlice S w l (.slice A m c) →
    Calls Tryd.prog 12 #[.slice A m c] w fun e' w' => ∃ v, e' = .returned v ∧ VSts w.heap.size w' (St.rnmL l) v ∧ Below w.heap.size w w'

theorem vtz_done {w0 wr : World} {l : List St} {m : Nat} {v : Value} {css : List (List Value)} (hm : l.length = m) (h : RzHead w0 m l v wr css) : VSts w0.heap.size wr (St.rnmL l) v := by
  subst hm; exact h.done

set_option maxHeartbeats 40000000 in
set_option maxRecDepth 100000 in
theorem rename_step (n : Nat) (ih : RzC n) : RzC (n + 1) := by
  intro l h hn hok S w A m c hl
  obtain ⟨A', c', e1, hc, hrw⟩ := hl
  simp only [Value.slice.injEq] at e1
  obtain ⟨rfl, rfl, rfl⟩ := e1
  have hlq : l.length ≤ 100000 := by have := St.len_big l; omega
  obtain ⟨i0, hi, hz0, hz1, hz2⟩ := info_parts infoSt3
  have HI := Lib.hid hi
  have HI0 := Lib.hid hz0
  have HI1 := Lib.hid hz1
  have HI2 := Lib.hid hz2
  clear hi hz0 hz1 hz2
  have IH := Lib.hid (fun l h1 h2 => ih l h1 (by omega) h2)
  have HRW := Lib.hid hrw
  have HD := Lib.hid h
  have HKA := Lib.hid hok
  obtain ⟨m, hm⟩ : ∃ x, l.length = x := ⟨_, rfl⟩
  have HM := Lib.hid hm
  rw [hm] at hlq ⊢
  clear ih hrw hm h hc hok
  go_enter Tryd.func12, Tryd.ntmps12
  go_wp2_with fail
  go_loopg [3, 4, 8] m (fun g v _ i wr => ∃ (k : Nat) (css : List (List Value)), k + g = m ∧ i = .int .i64 k ∧ RzHead w k l v wr css)
  case atStart => exact ⟨0, [], by omega, rfl, RzHead.start w l⟩
  case round =>
    obtain ⟨k, css, hkg, rfl, hh⟩ := hrel
    have HH := Lib.hid hh
    have hz0 := hh.b.size
    clear hh
    cases gk with
    | zero =>
      have hkm : k = m := by omega
      have hge : m ≤ k := by omega
      clear hkg
      go_wp2_with fail
      go_ret
      exact ⟨_, rfl, vtz_done HM.out (hkm ▸ HH.out), HH.out.b⟩
    | succ g =>
      have hlt : k < m := by omega
      have HG := Lib.hid hkg
      clear hkg
      obtain ⟨e1, he1⟩ : ∃ e1, l[k]? = some e1 := ⟨_, List.getElem?_eq_getElem (by have := HM.out; omega)⟩
      have HE1 := Lib.hid he1
      have hk1 := shortRL_at l k e1 HKA.out he1
      have hbg := St.big_at l k e1 he1
      have hln : (St.rnmL (l.take k)).length = k := rz_len (by have := HM.out; omega)
      have HLN := Lib.hid hln
      obtain ⟨bb, o, rfl, hS, hrow⟩ := HRW.out (fun e => by have := HM.out; rw [e] at this; simp at this; omega)
      obtain ⟨cs, hcs, hex⟩ := StRow.get l bb o k e1 hrow he1
      obtain ⟨kind, name, slot, size, place, value, body, els⟩ := e1
      simp only [St.big] at hbg
      simp only [St.shortR, St.short1] at hk1
      obtain ⟨⟨hnl, hop, hov⟩, hob, hoe⟩ := hk1
      have hex0 := hex
      simp only [StL] at hex
      obtain ⟨cp, cv, A3, c3, A4, c4, rfl, hp, hv, h3, h4, h5, h6⟩ := hex
      obtain ⟨p0, p1, p2, p3, p4, P1, P2, P3, rfl⟩ := hp.plain
      obtain ⟨v0, v1, v2, v3, v4, V1, V2, V3, rfl⟩ := hv.plain
      have hbb : bb < w.heap.size := hcs.lt
      have hw : ∀ j u, w.cell? ⟨bb, j, none⟩ = some u → wr.cell? ⟨bb, j, none⟩ = some u := fun j u hu => (HH.out.b.cell (p := ⟨bb, j, none⟩) hbb).trans hu
      have HRG : Hid (wr.rangeAt bb (o + k * 18) (stCells kind name slot size [.int .i64 p0, .int .i64 p1, .string p2, .int .i64 p3, .int .i64 p4, .slice P1 P2 P3] [.int .i64 v0, .int .i64 v1, .string v2, .int .i64 v3, .int .i64 v4, .slice V1 V2 V3] (.slice A3 body.length c3) (.slice A4 els.length c4))) := fun j v hv => hw _ _ (hcs j v hv)
      have HX := Lib.hid hex0
      have hd0 := HD.out
      have hpp := Ex.big_pos place
      have hpv := Ex.big_pos value
      have HCP := Lib.hid (fun (W : World) (hb : Below w.heap.size w W) => other_all 100000 (by decide) place (by omega) hop S W p0 p1 p2 p3 p4 P1 P2 P3 (ExL.still (fun k h1 h2 => ⟨h1, hb.block k h2⟩) place _ hp))
      have HCV := Lib.hid (fun (W : World) (hb : Below w.heap.size w W) => other_all 100000 (by decide) value (by omega) hov S W v0 v1 v2 v3 v4 V1 V2 V3 (ExL.still (fun k h1 h2 => ⟨h1, hb.block k h2⟩) value _ hv))
      have HCB := Lib.hid (fun (W : World) (hb : Below w.heap.size w W) => IH.out body (by omega) hob S W A3 body.length c3 (StSlice.still ⟨A3, c3, rfl, h3, h5⟩ (fun k h1 h2 => ⟨h1, hb.block k h2⟩)))
      have HCE := Lib.hid (fun (W : World) (hb : Below w.heap.size w W) => IH.out els (by omega) hoe S W A4 els.length c4 (StSlice.still ⟨A4, c4, rfl, h4, h6⟩ (fun k h1 h2 => ⟨h1, hb.block k h2⟩)))
      clear hw hcs hrow he1 hp hv h5 h6 hex0 hop hov hob hoe hbg hd0 hpp hpv h3 h4 hln hS
      go_upto_region 6 with (first | (refine wpList_load_mid rfl 58 _ rfl bb (o + k * 18) rfl _ _ HRG.out Tryd.underlying58 rfl (by kernel_rfl) ?_) | (refine wpList_store_row rfl 58 _ _ rfl wr.heap.size _ rfl rfl _ _ (new_blk wr stZ) HX.out.info HX.out.size18 HX.out.one ?_))
      have h5 : ((wr.alloc stZ).setRow wr.heap.size (stCells kind name slot size [.int .i64 p0, .int .i64 p1, .string p2, .int .i64 p3, .int .i64 p4, .slice P1 P2 P3] [.int .i64 v0, .int .i64 v1, .string v2, .int .i64 v3, .int .i64 v4, .slice V1 V2 V3] (.slice A3 body.length c3) (.slice A4 els.length c4)).toArray).heap[wr.heap.size]? = some (.cells (stCells kind name slot size [.int .i64 p0, .int .i64 p1, .string p2, .int .i64 p3, .int .i64 p4, .slice P1 P2 P3] [.int .i64 v0, .int .i64 v1, .string v2, .int .i64 v3, .int .i64 v4, .slice V1 V2 V3] (.slice A3 body.length c3) (.slice A4 els.length c4)).toArray 58 (0, 0)) := setRow_same (new_blk wr stZ)
      have HB5 : Hid (Below wr.heap.size wr ((wr.alloc stZ).setRow wr.heap.size (stCells kind name slot size [.int .i64 p0, .int .i64 p1, .string p2, .int .i64 p3, .int .i64 p4, .slice P1 P2 P3] [.int .i64 v0, .int .i64 v1, .string v2, .int .i64 v3, .int .i64 v4, .slice V1 V2 V3] (.slice A3 body.length c3) (.slice A4 els.length c4)).toArray)) := by
        have h1 : Below wr.heap.size wr (wr.alloc stZ) := (Below.refl _ _).alloc (Nat.le_refl _) stZ
        exact ⟨h1.os, h1.tape, h1.output, by simp, fun k hk => (setRow_blk (wr.alloc stZ) wr.heap.size _ (by omega)).trans (h1.block k hk)⟩
      obtain ⟨w5, hw5⟩ : ∃ x, (wr.alloc stZ).setRow wr.heap.size (stCells kind name slot size [.int .i64 p0, .int .i64 p1, .string p2, .int .i64 p3, .int .i64 p4, .slice P1 P2 P3] [.int .i64 v0, .int .i64 v1, .string v2, .int .i64 v3, .int .i64 v4, .slice V1 V2 V3] (.slice A3 body.length c3) (.slice A4 els.length c4)).toArray = x := ⟨_, rfl⟩
      rw [hw5] at h5 HB5 ⊢
      clear hw5
      have H5 := Lib.hid h5
      obtain ⟨X, hX⟩ : ∃ X, strB name = X := ⟨_, rfl⟩
      obtain ⟨Y, hY⟩ : ∃ Y, strB (renN name) = Y := ⟨_, rfl⟩
      have HY := Lib.hid hY
      have H5r : Hid (w5.heap[wr.heap.size]? = some (.cells #[.int .i64 kind, .string X, .int .i64 slot, .int .i64 size, .int .i64 p0, .int .i64 p1, .string p2, .int .i64 p3, .int .i64 p4, .slice P1 P2 P3, .int .i64 v0, .int .i64 v1, .string v2, .int .i64 v3, .int .i64 v4, .slice V1 V2 V3, .slice A3 body.length c3, .slice A4 els.length c4] 58 (0, 0))) := by rw [← hX]; exact H5.out
      have q1 : w5.cell? ⟨wr.heap.size, 1, none⟩ = some (.string X) := by rw [Lib.cell_of_heap H5r.out]; rfl
      have f1 : w5.frozen? ⟨wr.heap.size, 1, none⟩ = false := Lib.frozen_of_heap H5r.out 1
      clear h5 H5
      by_cases hnm : name = []
      case' pos =>
        obtain rfl : Y = X := by rw [← hX, ← hY, hnm]; rfl
        have hq : Y.toList.isEmpty = true := by rw [← hX, str_emp, hnm]; rfl
        clear hnm hX hY
        go_upto_region 8 with fail
        clear q1 f1
        obtain ⟨w6, hw6⟩ : ∃ x, w5 = x := ⟨_, rfl⟩
        have H6 : Hid (w6.heap[wr.heap.size]? = some (.cells #[.int .i64 kind, .string Y, .int .i64 slot, .int .i64 size, .int .i64 p0, .int .i64 p1, .string p2, .int .i64 p3, .int .i64 p4, .slice P1 P2 P3, .int .i64 v0, .int .i64 v1, .string v2, .int .i64 v3, .int .i64 v4, .slice V1 V2 V3, .slice A3 body.length c3, .slice A4 els.length c4] 58 (0, 0))) := by rw [← hw6]; exact H5r.out
        have HB6 : Hid (Below wr.heap.size wr w6) := by rw [← hw6]; exact HB5.out
        simp only [hw6]
      case' neg =>
        have hq : X.toList.isEmpty = false := by rw [← hX, str_emp]; simpa using hnm
        have hsz : ¬ 9223372036854775807 < 2 + X.size := by rw [← hX, str_size]; omega
        have hcat : (⟨#[110, 95]⟩ : ByteArray) ++ X = Y := by rw [← hX, renN_cat hnm, hY]
        clear hnm hX hY
        go_upto_region 8 with fail
        clear q1 f1 hsz hcat
        obtain ⟨w6, hw6⟩ : ∃ x, w5.setCell ⟨wr.heap.size, 1, none⟩ (.string Y) = x := ⟨_, rfl⟩
        have H6 : Hid (w6.heap[wr.heap.size]? = some (.cells #[.int .i64 kind, .string Y, .int .i64 slot, .int .i64 size, .int .i64 p0, .int .i64 p1, .string p2, .int .i64 p3, .int .i64 p4, .slice P1 P2 P3, .int .i64 v0, .int .i64 v1, .string v2, .int .i64 v3, .int .i64 v4, .slice V1 V2 V3, .slice A3 body.length c3, .slice A4 els.length c4] 58 (0, 0))) := by
          rw [← hw6]
          have h' := blk_set H5r.out 1 (.string Y)
          simp only [List.setIfInBounds_toArray, List.set_cons_zero, List.set_cons_succ] at h'
          exact h'
        have HB6 : Hid (Below wr.heap.size wr w6) := by rw [← hw6]; exact HB5.out.setCell (p := ⟨wr.heap.size, 1, none⟩) (Nat.le_refl _) _
        simp only [hw6]
      case pos =>
        clear hq hw6 H5r HB5
        have hS : Below wr.heap.size wr w6.drew ∧ w6.drew.heap[wr.heap.size]? = some (.cells #[.int .i64 kind, .string Y, .int .i64 slot, .int .i64 size, .int .i64 p0, .int .i64 p1, .string p2, .int .i64 p3, .int .i64 p4, .slice P1 P2 P3, .int .i64 v0, .int .i64 v1, .string v2, .int .i64 v3, .int .i64 v4, .slice V1 V2 V3, .slice A3 body.length c3, .slice A4 els.length c4] 58 (0, 0)) := ⟨HB6.out.drew, H6.out⟩
        have hnn := lt_of_block H6.out
        have HWd : Hid (Below w.heap.size w wr) := HH.out.b
        refine wp_region_G [2, 5, 8, 11] (fun w' => Below wr.heap.size wr w' ∧ w'.heap[wr.heap.size]? = some (.cells #[.int .i64 kind, .string Y, .int .i64 slot, .int .i64 size, .int .i64 p0, .int .i64 p1, .string p2, .int .i64 p3, .int .i64 p4, .slice P1 P2 P3, .int .i64 v0, .int .i64 v1, .string v2, .int .i64 v3, .int .i64 v4, .slice V1 V2 V3, .slice A3 body.length c3, .slice A4 els.length c4] 58 (0, 0))) (by kernel_rfl) ?_
        refine' wpAnyG_step (i := 0) (v := _) ?hip0 (by kernel_rfl) ?hQp0 (Or.inl ⟨?hwp0, ?hyp0⟩) hS ?restp0
        case hip0 => (simp only [List.getElem?_toArray, List.getElem?_cons_zero]; rfl)
        case hQp0 => exact fun _ _ _ h => h
        case hwp0 => rfl
        case hyp0 => (intro w9; go_simp; with_reducible rfl)
        try simp only [Act.put, List.setIfInBounds_toArray, List.set_cons_zero, List.set_cons_succ]
        refine' wpAnyG_take 2 (i := 1) (v := _) ?hip1 (by kernel_rfl) ?hQp1 (Or.inl ⟨?hwp1, ?hyp1⟩) hS ?restp1
        case hip1 => (simp only [List.getElem?_toArray, List.getElem?_cons_succ, List.getElem?_cons_zero]; rfl)
        case hQp1 => exact fun _ _ _ h => h
        case hwp1 => rfl
        case hyp1 =>
          rintro w9 ⟨-, hx9⟩
          have d4 : w9.cell? ⟨wr.heap.size, 4, none⟩ = some (.int .i64 p0) := by rw [Lib.cell_of_heap hx9]; rfl
          have d5 : w9.cell? ⟨wr.heap.size, 5, none⟩ = some (.int .i64 p1) := by rw [Lib.cell_of_heap hx9]; rfl
          have d6 : w9.cell? ⟨wr.heap.size, 6, none⟩ = some (.string p2) := by rw [Lib.cell_of_heap hx9]; rfl
          have d7 : w9.cell? ⟨wr.heap.size, 7, none⟩ = some (.int .i64 p3) := by rw [Lib.cell_of_heap hx9]; rfl
          have d8 : w9.cell? ⟨wr.heap.size, 8, none⟩ = some (.int .i64 p4) := by rw [Lib.cell_of_heap hx9]; rfl
          have d9 : w9.cell? ⟨wr.heap.size, 9, none⟩ = some (.slice P1 P2 P3) := by rw [Lib.cell_of_heap hx9]; rfl
          have d10 : w9.cell? ⟨wr.heap.size, 10, none⟩ = some (.int .i64 v0) := by rw [Lib.cell_of_heap hx9]; rfl
          have d11 : w9.cell? ⟨wr.heap.size, 11, none⟩ = some (.int .i64 v1) := by rw [Lib.cell_of_heap hx9]; rfl
          have d12 : w9.cell? ⟨wr.heap.size, 12, none⟩ = some (.string v2) := by rw [Lib.cell_of_heap hx9]; rfl
          have d13 : w9.cell? ⟨wr.heap.size, 13, none⟩ = some (.int .i64 v3) := by rw [Lib.cell_of_heap hx9]; rfl
          have d14 : w9.cell? ⟨wr.heap.size, 14, none⟩ = some (.int .i64 v4) := by rw [Lib.cell_of_heap hx9]; rfl
          have d15 : w9.cell? ⟨wr.heap.size, 15, none⟩ = some (.slice V1 V2 V3) := by rw [Lib.cell_of_heap hx9]; rfl
          have d16 : w9.cell? ⟨wr.heap.size, 16, none⟩ = some (.slice A3 body.length c3) := by rw [Lib.cell_of_heap hx9]; rfl
          have d17 : w9.cell? ⟨wr.heap.size, 17, none⟩ = some (.slice A4 els.length c4) := by rw [Lib.cell_of_heap hx9]; rfl
          go_simp
          with_reducible rfl
        try simp only [Act.put, List.setIfInBounds_toArray, List.set_cons_zero, List.set_cons_succ]
        refine' wpAnyG_step (i := 3) (v := _) ?hip3 (by kernel_rfl) ?hQp3 (Or.inl ⟨?hwp3, ?hyp3⟩) hS ?restp3
        case hip3 => (simp only [List.getElem?_toArray, List.getElem?_cons_succ, List.getElem?_cons_zero]; rfl)
        case hQp3 => exact fun _ _ _ h => h
        case hwp3 => rfl
        case hyp3 => (intro w9; go_simp; with_reducible rfl)
        try simp only [Act.put, List.setIfInBounds_toArray, List.set_cons_zero, List.set_cons_succ]
        refine' wpAnyG_take 5 (i := 4) (v := _) ?hip4 (by kernel_rfl) ?hQp4 (Or.inl ⟨?hwp4, ?hyp4⟩) hS ?restp4
        case hip4 => (simp only [List.getElem?_toArray, List.getElem?_cons_succ, List.getElem?_cons_zero]; rfl)
        case hQp4 => exact fun _ _ _ h => h
        case hwp4 => rfl
        case hyp4 =>
          rintro w9 ⟨-, hx9⟩
          have d4 : w9.cell? ⟨wr.heap.size, 4, none⟩ = some (.int .i64 p0) := by rw [Lib.cell_of_heap hx9]; rfl
          have d5 : w9.cell? ⟨wr.heap.size, 5, none⟩ = some (.int .i64 p1) := by rw [Lib.cell_of_heap hx9]; rfl
          have d6 : w9.cell? ⟨wr.heap.size, 6, none⟩ = some (.string p2) := by rw [Lib.cell_of_heap hx9]; rfl
          have d7 : w9.cell? ⟨wr.heap.size, 7, none⟩ = some (.int .i64 p3) := by rw [Lib.cell_of_heap hx9]; rfl
          have d8 : w9.cell? ⟨wr.heap.size, 8, none⟩ = some (.int .i64 p4) := by rw [Lib.cell_of_heap hx9]; rfl
          have d9 : w9.cell? ⟨wr.heap.size, 9, none⟩ = some (.slice P1 P2 P3) := by rw [Lib.cell_of_heap hx9]; rfl
          have d10 : w9.cell? ⟨wr.heap.size, 10, none⟩ = some (.int .i64 v0) := by rw [Lib.cell_of_heap hx9]; rfl
          have d11 : w9.cell? ⟨wr.heap.size, 11, none⟩ = some (.int .i64 v1) := by rw [Lib.cell_of_heap hx9]; rfl
          have d12 : w9.cell? ⟨wr.heap.size, 12, none⟩ = some (.string v2) := by rw [Lib.cell_of_heap hx9]; rfl
          have d13 : w9.cell? ⟨wr.heap.size, 13, none⟩ = some (.int .i64 v3) := by rw [Lib.cell_of_heap hx9]; rfl
          have d14 : w9.cell? ⟨wr.heap.size, 14, none⟩ = some (.int .i64 v4) := by rw [Lib.cell_of_heap hx9]; rfl
          have d15 : w9.cell? ⟨wr.heap.size, 15, none⟩ = some (.slice V1 V2 V3) := by rw [Lib.cell_of_heap hx9]; rfl
          have d16 : w9.cell? ⟨wr.heap.size, 16, none⟩ = some (.slice A3 body.length c3) := by rw [Lib.cell_of_heap hx9]; rfl
          have d17 : w9.cell? ⟨wr.heap.size, 17, none⟩ = some (.slice A4 els.length c4) := by rw [Lib.cell_of_heap hx9]; rfl
          go_simp
          with_reducible rfl
        try simp only [Act.put, List.setIfInBounds_toArray, List.set_cons_zero, List.set_cons_succ]
        refine' wpAnyG_step (i := 6) (v := _) ?hip6 (by kernel_rfl) ?hQp6 (Or.inl ⟨?hwp6, ?hyp6⟩) hS ?restp6
        case hip6 => (simp only [List.getElem?_toArray, List.getElem?_cons_succ, List.getElem?_cons_zero]; rfl)
        case hQp6 => exact fun _ _ _ h => h
        case hwp6 => rfl
        case hyp6 => (intro w9; go_simp; with_reducible rfl)
        try simp only [Act.put, List.setIfInBounds_toArray, List.set_cons_zero, List.set_cons_succ]
        refine' wpAnyG_take 8 (i := 7) (v := _) ?hip7 (by kernel_rfl) ?hQp7 (Or.inl ⟨?hwp7, ?hyp7⟩) hS ?restp7
        case hip7 => (simp only [List.getElem?_toArray, List.getElem?_cons_succ, List.getElem?_cons_zero]; rfl)
        case hQp7 => exact fun _ _ _ h => h
        case hwp7 => rfl
        case hyp7 =>
          rintro w9 ⟨-, hx9⟩
          have d4 : w9.cell? ⟨wr.heap.size, 4, none⟩ = some (.int .i64 p0) := by rw [Lib.cell_of_heap hx9]; rfl
          have d5 : w9.cell? ⟨wr.heap.size, 5, none⟩ = some (.int .i64 p1) := by rw [Lib.cell_of_heap hx9]; rfl
          have d6 : w9.cell? ⟨wr.heap.size, 6, none⟩ = some (.string p2) := by rw [Lib.cell_of_heap hx9]; rfl
          have d7 : w9.cell? ⟨wr.heap.size, 7, none⟩ = some (.int .i64 p3) := by rw [Lib.cell_of_heap hx9]; rfl
          have d8 : w9.cell? ⟨wr.heap.size, 8, none⟩ = some (.int .i64 p4) := by rw [Lib.cell_of_heap hx9]; rfl
          have d9 : w9.cell? ⟨wr.heap.size, 9, none⟩ = some (.slice P1 P2 P3) := by rw [Lib.cell_of_heap hx9]; rfl
          have d10 : w9.cell? ⟨wr.heap.size, 10, none⟩ = some (.int .i64 v0) := by rw [Lib.cell_of_heap hx9]; rfl
          have d11 : w9.cell? ⟨wr.heap.size, 11, none⟩ = some (.int .i64 v1) := by rw [Lib.cell_of_heap hx9]; rfl
          have d12 : w9.cell? ⟨wr.heap.size, 12, none⟩ = some (.string v2) := by rw [Lib.cell_of_heap hx9]; rfl
          have d13 : w9.cell? ⟨wr.heap.size, 13, none⟩ = some (.int .i64 v3) := by rw [Lib.cell_of_heap hx9]; rfl
          have d14 : w9.cell? ⟨wr.heap.size, 14, none⟩ = some (.int .i64 v4) := by rw [Lib.cell_of_heap hx9]; rfl
          have d15 : w9.cell? ⟨wr.heap.size, 15, none⟩ = some (.slice V1 V2 V3) := by rw [Lib.cell_of_heap hx9]; rfl
          have d16 : w9.cell? ⟨wr.heap.size, 16, none⟩ = some (.slice A3 body.length c3) := by rw [Lib.cell_of_heap hx9]; rfl
          have d17 : w9.cell? ⟨wr.heap.size, 17, none⟩ = some (.slice A4 els.length c4) := by rw [Lib.cell_of_heap hx9]; rfl
          go_simp
          with_reducible rfl
        try simp only [Act.put, List.setIfInBounds_toArray, List.set_cons_zero, List.set_cons_succ]
        refine' wpAnyG_step (i := 9) (v := _) ?hip9 (by kernel_rfl) ?hQp9 (Or.inl ⟨?hwp9, ?hyp9⟩) hS ?restp9
        case hip9 => (simp only [List.getElem?_toArray, List.getElem?_cons_succ, List.getElem?_cons_zero]; rfl)
        case hQp9 => exact fun _ _ _ h => h
        case hwp9 => rfl
        case hyp9 => (intro w9; go_simp; with_reducible rfl)
        try simp only [Act.put, List.setIfInBounds_toArray, List.set_cons_zero, List.set_cons_succ]
        refine' wpAnyG_take 11 (i := 10) (v := _) ?hip10 (by kernel_rfl) ?hQp10 (Or.inl ⟨?hwp10, ?hyp10⟩) hS ?restp10
        case hip10 => (simp only [List.getElem?_toArray, List.getElem?_cons_succ, List.getElem?_cons_zero]; rfl)
        case hQp10 => exact fun _ _ _ h => h
        case hwp10 => rfl
        case hyp10 =>
          rintro w9 ⟨-, hx9⟩
          have d4 : w9.cell? ⟨wr.heap.size, 4, none⟩ = some (.int .i64 p0) := by rw [Lib.cell_of_heap hx9]; rfl
          have d5 : w9.cell? ⟨wr.heap.size, 5, none⟩ = some (.int .i64 p1) := by rw [Lib.cell_of_heap hx9]; rfl
          have d6 : w9.cell? ⟨wr.heap.size, 6, none⟩ = some (.string p2) := by rw [Lib.cell_of_heap hx9]; rfl
          have d7 : w9.cell? ⟨wr.heap.size, 7, none⟩ = some (.int .i64 p3) := by rw [Lib.cell_of_heap hx9]; rfl
          have d8 : w9.cell? ⟨wr.heap.size, 8, none⟩ = some (.int .i64 p4) := by rw [Lib.cell_of_heap hx9]; rfl
          have d9 : w9.cell? ⟨wr.heap.size, 9, none⟩ = some (.slice P1 P2 P3) := by rw [Lib.cell_of_heap hx9]; rfl
          have d10 : w9.cell? ⟨wr.heap.size, 10, none⟩ = some (.int .i64 v0) := by rw [Lib.cell_of_heap hx9]; rfl
          have d11 : w9.cell? ⟨wr.heap.size, 11, none⟩ = some (.int .i64 v1) := by rw [Lib.cell_of_heap hx9]; rfl
          have d12 : w9.cell? ⟨wr.heap.size, 12, none⟩ = some (.string v2) := by rw [Lib.cell_of_heap hx9]; rfl
          have d13 : w9.cell? ⟨wr.heap.size, 13, none⟩ = some (.int .i64 v3) := by rw [Lib.cell_of_heap hx9]; rfl
          have d14 : w9.cell? ⟨wr.heap.size, 14, none⟩ = some (.int .i64 v4) := by rw [Lib.cell_of_heap hx9]; rfl
          have d15 : w9.cell? ⟨wr.heap.size, 15, none⟩ = some (.slice V1 V2 V3) := by rw [Lib.cell_of_heap hx9]; rfl
          have d16 : w9.cell? ⟨wr.heap.size, 16, none⟩ = some (.slice A3 body.length c3) := by rw [Lib.cell_of_heap hx9]; rfl
          have d17 : w9.cell? ⟨wr.heap.size, 17, none⟩ = some (.slice A4 els.length c4) := by rw [Lib.cell_of_heap hx9]; rfl
          go_simp
          with_reducible rfl
        try simp only [Act.put, List.setIfInBounds_toArray, List.set_cons_zero, List.set_cons_succ]
        refine' wpAnyG_one (i := 2) (by kernel_rfl) ?hip2 (fun K hK => ?restp2)
        case hip2 => (simp only [List.getElem?_toArray, List.getElem?_cons_succ, List.getElem?_cons_zero]; rfl)
        go_simp
        go_at_call 27
        refine (HCP.out _ (HWd.out.trans (hS.1.mono hz0))).mono ?_
        rintro e9 w7 ⟨y9, rfl, ⟨x0, x1, x2, x3, x4, X1, X2, X3, rfl, hl⟩, hb⟩
        have hS9 : Below wr.heap.size wr w7 ∧ w7.heap[wr.heap.size]? = some (.cells #[.int .i64 kind, .string Y, .int .i64 slot, .int .i64 size, .int .i64 p0, .int .i64 p1, .string p2, .int .i64 p3, .int .i64 p4, .slice P1 P2 P3, .int .i64 v0, .int .i64 v1, .string v2, .int .i64 v3, .int .i64 v4, .slice V1 V2 V3, .slice A3 body.length c3, .slice A4 els.length c4] 58 (0, 0)) := ⟨hS.1.trans (hb.mono hS.1.size), below_blk hb hS.2⟩
        have HLP := Lib.hid hl
        have HB7 := Lib.hid hb
        clear hb hl
        refine hK.out _ _ hS9 (fun _ => ?_)
        clear hK K hS
        have hS := hS9
        clear hS9
        try simp only [Act.put, List.setIfInBounds_toArray, List.set_cons_zero, List.set_cons_succ]
        refine' wpAnyG_step (i := 12) (v := _) ?hip12 (by kernel_rfl) ?hQp12 (Or.inl ⟨?hwp12, ?hyp12⟩) hS ?restp12
        case hip12 => (simp only [List.getElem?_toArray, List.getElem?_cons_succ, List.getElem?_cons_zero]; rfl)
        case hQp12 => exact fun _ _ _ h => h
        case hwp12 => rfl
        case hyp12 => (intro w9; go_simp; with_reducible rfl)
        try simp only [Act.put, List.setIfInBounds_toArray, List.set_cons_zero, List.set_cons_succ]
        refine' wpAnyG_one (i := 5) (by kernel_rfl) ?hip5 (fun K hK => ?restp5)
        case hip5 => (simp only [List.getElem?_toArray, List.getElem?_cons_succ, List.getElem?_cons_zero]; rfl)
        go_simp
        go_at_call 27
        refine (HCV.out _ (HWd.out.trans (hS.1.mono hz0))).mono ?_
        rintro e9 w8 ⟨y9, rfl, ⟨z0, z1, z2, z3, z4, Z1, Z2, Z3, rfl, hl⟩, hb⟩
        have hS9 : Below wr.heap.size wr w8 ∧ w8.heap[wr.heap.size]? = some (.cells #[.int .i64 kind, .string Y, .int .i64 slot, .int .i64 size, .int .i64 p0, .int .i64 p1, .string p2, .int .i64 p3, .int .i64 p4, .slice P1 P2 P3, .int .i64 v0, .int .i64 v1, .string v2, .int .i64 v3, .int .i64 v4, .slice V1 V2 V3, .slice A3 body.length c3, .slice A4 els.length c4] 58 (0, 0)) := ⟨hS.1.trans (hb.mono hS.1.size), below_blk hb hS.2⟩
        have HLV := Lib.hid hl
        have HB8 := Lib.hid hb
        clear hb hl
        refine hK.out _ _ hS9 (fun _ => ?_)
        clear hK K hS
        have hS := hS9
        clear hS9
        try simp only [Act.put, List.setIfInBounds_toArray, List.set_cons_zero, List.set_cons_succ]
        refine' wpAnyG_one (i := 8) (by kernel_rfl) ?hip8 (fun K hK => ?restp8)
        case hip8 => (simp only [List.getElem?_toArray, List.getElem?_cons_succ, List.getElem?_cons_zero]; rfl)
        go_simp
        go_at_call 12
        refine (HCB.out _ (HWd.out.trans (hS.1.mono hz0))).mono ?_
        rintro e9 w9 ⟨y9, rfl, ⟨Ab, cb, rfl, hl, hr⟩, hb⟩
        have hS9 : Below wr.heap.size wr w9 ∧ w9.heap[wr.heap.size]? = some (.cells #[.int .i64 kind, .string Y, .int .i64 slot, .int .i64 size, .int .i64 p0, .int .i64 p1, .string p2, .int .i64 p3, .int .i64 p4, .slice P1 P2 P3, .int .i64 v0, .int .i64 v1, .string v2, .int .i64 v3, .int .i64 v4, .slice V1 V2 V3, .slice A3 body.length c3, .slice A4 els.length c4] 58 (0, 0)) := ⟨hS.1.trans (hb.mono hS.1.size), below_blk hb hS.2⟩
        have HLB := Lib.hid hl
        have HRB := Lib.hid hr
        have HB9 := Lib.hid hb
        clear hb hl hr
        refine hK.out _ _ hS9 (fun _ => ?_)
        clear hK K hS
        have hS := hS9
        clear hS9
        try simp only [Act.put, List.setIfInBounds_toArray, List.set_cons_zero, List.set_cons_succ]
        refine' wpAnyG_one (i := 11) (by kernel_rfl) ?hip11 (fun K hK => ?restp11)
        case hip11 => (simp only [List.getElem?_toArray, List.getElem?_cons_succ, List.getElem?_cons_zero]; rfl)
        go_simp
        go_at_call 12
        refine (HCE.out _ (HWd.out.trans (hS.1.mono hz0))).mono ?_
        rintro e9 w10 ⟨y9, rfl, ⟨Ae, ce, rfl, hl, hr⟩, hb⟩
        have hS9 : Below wr.heap.size wr w10 ∧ w10.heap[wr.heap.size]? = some (.cells #[.int .i64 kind, .string Y, .int .i64 slot, .int .i64 size, .int .i64 p0, .int .i64 p1, .string p2, .int .i64 p3, .int .i64 p4, .slice P1 P2 P3, .int .i64 v0, .int .i64 v1, .string v2, .int .i64 v3, .int .i64 v4, .slice V1 V2 V3, .slice A3 body.length c3, .slice A4 els.length c4] 58 (0, 0)) := ⟨hS.1.trans (hb.mono hS.1.size), below_blk hb hS.2⟩
        have HLE := Lib.hid hl
        have HRE := Lib.hid hr
        have HB10 := Lib.hid hb
        clear hb hl hr
        refine hK.out _ _ hS9 (fun _ => ?_)
        clear hK K hS
        have hS := hS9
        clear hS9
        try simp only [Act.put, List.setIfInBounds_toArray, List.set_cons_zero, List.set_cons_succ]
        refine wpAnyG_rel (by kernel_rfl) ?_
        have HS10 := Lib.hid hS
        have u4 : w10.cell? ⟨wr.heap.size, 4, none⟩ = some (.int .i64 p0) := by rw [Lib.cell_of_heap hS.2]; rfl
        have uf4 : w10.frozen? ⟨wr.heap.size, 4, none⟩ = false := Lib.frozen_of_heap hS.2 4
        have u5 : w10.cell? ⟨wr.heap.size, 5, none⟩ = some (.int .i64 p1) := by rw [Lib.cell_of_heap hS.2]; rfl
        have uf5 : w10.frozen? ⟨wr.heap.size, 5, none⟩ = false := Lib.frozen_of_heap hS.2 5
        have u6 : w10.cell? ⟨wr.heap.size, 6, none⟩ = some (.string p2) := by rw [Lib.cell_of_heap hS.2]; rfl
        have uf6 : w10.frozen? ⟨wr.heap.size, 6, none⟩ = false := Lib.frozen_of_heap hS.2 6
        have u7 : w10.cell? ⟨wr.heap.size, 7, none⟩ = some (.int .i64 p3) := by rw [Lib.cell_of_heap hS.2]; rfl
        have uf7 : w10.frozen? ⟨wr.heap.size, 7, none⟩ = false := Lib.frozen_of_heap hS.2 7
        have u8 : w10.cell? ⟨wr.heap.size, 8, none⟩ = some (.int .i64 p4) := by rw [Lib.cell_of_heap hS.2]; rfl
        have uf8 : w10.frozen? ⟨wr.heap.size, 8, none⟩ = false := Lib.frozen_of_heap hS.2 8
        have u9 : w10.cell? ⟨wr.heap.size, 9, none⟩ = some (.slice P1 P2 P3) := by rw [Lib.cell_of_heap hS.2]; rfl
        have uf9 : w10.frozen? ⟨wr.heap.size, 9, none⟩ = false := Lib.frozen_of_heap hS.2 9
        have u10 : w10.cell? ⟨wr.heap.size, 10, none⟩ = some (.int .i64 v0) := by rw [Lib.cell_of_heap hS.2]; rfl
        have uf10 : w10.frozen? ⟨wr.heap.size, 10, none⟩ = false := Lib.frozen_of_heap hS.2 10
        have u11 : w10.cell? ⟨wr.heap.size, 11, none⟩ = some (.int .i64 v1) := by rw [Lib.cell_of_heap hS.2]; rfl
        have uf11 : w10.frozen? ⟨wr.heap.size, 11, none⟩ = false := Lib.frozen_of_heap hS.2 11
        have u12 : w10.cell? ⟨wr.heap.size, 12, none⟩ = some (.string v2) := by rw [Lib.cell_of_heap hS.2]; rfl
        have uf12 : w10.frozen? ⟨wr.heap.size, 12, none⟩ = false := Lib.frozen_of_heap hS.2 12
        have u13 : w10.cell? ⟨wr.heap.size, 13, none⟩ = some (.int .i64 v3) := by rw [Lib.cell_of_heap hS.2]; rfl
        have uf13 : w10.frozen? ⟨wr.heap.size, 13, none⟩ = false := Lib.frozen_of_heap hS.2 13
        have u14 : w10.cell? ⟨wr.heap.size, 14, none⟩ = some (.int .i64 v4) := by rw [Lib.cell_of_heap hS.2]; rfl
        have uf14 : w10.frozen? ⟨wr.heap.size, 14, none⟩ = false := Lib.frozen_of_heap hS.2 14
        have u15 : w10.cell? ⟨wr.heap.size, 15, none⟩ = some (.slice V1 V2 V3) := by rw [Lib.cell_of_heap hS.2]; rfl
        have uf15 : w10.frozen? ⟨wr.heap.size, 15, none⟩ = false := Lib.frozen_of_heap hS.2 15
        have u16 : w10.cell? ⟨wr.heap.size, 16, none⟩ = some (.slice A3 body.length c3) := by rw [Lib.cell_of_heap hS.2]; rfl
        have uf16 : w10.frozen? ⟨wr.heap.size, 16, none⟩ = false := Lib.frozen_of_heap hS.2 16
        have u17 : w10.cell? ⟨wr.heap.size, 17, none⟩ = some (.slice A4 els.length c4) := by rw [Lib.cell_of_heap hS.2]; rfl
        have uf17 : w10.frozen? ⟨wr.heap.size, 17, none⟩ = false := Lib.frozen_of_heap hS.2 17
        refine' wpAny_one (i := 13) (by kernel_rfl) ?hip13 (fun K hK => ?restp13)
        case hip13 => (simp only [List.getElem?_toArray, List.getElem?_cons_succ, List.getElem?_cons_zero]; rfl)
        go_simp
        refine hK.out _ _ ?_
        clear hK K
        try simp only [Act.put, List.setIfInBounds_toArray, List.set_cons_zero, List.set_cons_succ]
        refine' wpAny_one (i := 14) (by kernel_rfl) ?hip14 (fun K hK => ?restp14)
        case hip14 => (simp only [List.getElem?_toArray, List.getElem?_cons_succ, List.getElem?_cons_zero]; rfl)
        go_simp
        refine hK.out _ _ ?_
        clear hK K
        try simp only [Act.put, List.setIfInBounds_toArray, List.set_cons_zero, List.set_cons_succ]
        refine' wpAny_one (i := 15) (by kernel_rfl) ?hip15 (fun K hK => ?restp15)
        case hip15 => (simp only [List.getElem?_toArray, List.getElem?_cons_succ, List.getElem?_cons_zero]; rfl)
        go_simp
        refine hK.out _ _ ?_
        clear hK K
        try simp only [Act.put, List.setIfInBounds_toArray, List.set_cons_zero, List.set_cons_succ]
        refine' wpAny_one (i := 16) (by kernel_rfl) ?hip16 (fun K hK => ?restp16)
        case hip16 => (simp only [List.getElem?_toArray, List.getElem?_cons_succ, List.getElem?_cons_zero]; rfl)
        go_simp
        refine hK.out _ _ ?_
        clear hK K
        try simp only [Act.put, List.setIfInBounds_toArray, List.set_cons_zero, List.set_cons_succ]
        refine' wpAny_one (i := 17) (by kernel_rfl) ?hip17 (fun K hK => ?restp17)
        case hip17 => (simp only [List.getElem?_toArray, List.getElem?_cons_succ, List.getElem?_cons_zero]; rfl)
        go_simp
        refine hK.out _ _ ?_
        clear hK K
        try simp only [Act.put, List.setIfInBounds_toArray, List.set_cons_zero, List.set_cons_succ]
        refine' wpAny_one (i := 18) (by kernel_rfl) ?hip18 (fun K hK => ?restp18)
        case hip18 => (simp only [List.getElem?_toArray, List.getElem?_cons_succ, List.getElem?_cons_zero]; rfl)
        go_simp
        refine hK.out _ _ ?_
        clear hK K
        try simp only [Act.put, List.setIfInBounds_toArray, List.set_cons_zero, List.set_cons_succ]
        refine' wpAny_one (i := 19) (by kernel_rfl) ?hip19 (fun K hK => ?restp19)
        case hip19 => (simp only [List.getElem?_toArray, List.getElem?_cons_succ, List.getElem?_cons_zero]; rfl)
        go_simp
        refine hK.out _ _ ?_
        clear hK K
        try simp only [Act.put, List.setIfInBounds_toArray, List.set_cons_zero, List.set_cons_succ]
        refine wpAny_done (by kernel_rfl) ?_ _
        obtain ⟨w11, hw11⟩ : ∃ x, ((((((((((((((w10.setCell ⟨wr.heap.size, 4, none⟩ (.int .i64 x0)).setCell ⟨wr.heap.size, 5, none⟩ (.int .i64 x1)).setCell ⟨wr.heap.size, 6, none⟩ (.string x2)).setCell ⟨wr.heap.size, 7, none⟩ (.int .i64 x3)).setCell ⟨wr.heap.size, 8, none⟩ (.int .i64 x4)).setCell ⟨wr.heap.size, 9, none⟩ (.slice X1 X2 X3)).setCell ⟨wr.heap.size, 10, none⟩ (.int .i64 z0)).setCell ⟨wr.heap.size, 11, none⟩ (.int .i64 z1)).setCell ⟨wr.heap.size, 12, none⟩ (.string z2)).setCell ⟨wr.heap.size, 13, none⟩ (.int .i64 z3)).setCell ⟨wr.heap.size, 14, none⟩ (.int .i64 z4)).setCell ⟨wr.heap.size, 15, none⟩ (.slice Z1 Z2 Z3)).setCell ⟨wr.heap.size, 16, none⟩ (.slice Ab (St.rnmL body).length cb)).setCell ⟨wr.heap.size, 17, none⟩ (.slice Ae (St.rnmL els).length ce)) = x := ⟨_, rfl⟩
        have H11 : Hid (w11.heap[wr.heap.size]? = some (.cells #[.int .i64 kind, .string Y, .int .i64 slot, .int .i64 size, .int .i64 x0, .int .i64 x1, .string x2, .int .i64 x3, .int .i64 x4, .slice X1 X2 X3, .int .i64 z0, .int .i64 z1, .string z2, .int .i64 z3, .int .i64 z4, .slice Z1 Z2 Z3, .slice Ab (St.rnmL body).length cb, .slice Ae (St.rnmL els).length ce] 58 (0, 0))) := by
          have h' := (blk_set (blk_set (blk_set (blk_set (blk_set (blk_set (blk_set (blk_set (blk_set (blk_set (blk_set (blk_set (blk_set (blk_set HS10.out.2 4 (.int .i64 x0)) 5 (.int .i64 x1)) 6 (.string x2)) 7 (.int .i64 x3)) 8 (.int .i64 x4)) 9 (.slice X1 X2 X3)) 10 (.int .i64 z0)) 11 (.int .i64 z1)) 12 (.string z2)) 13 (.int .i64 z3)) 14 (.int .i64 z4)) 15 (.slice Z1 Z2 Z3)) 16 (.slice Ab (St.rnmL body).length cb)) 17 (.slice Ae (St.rnmL els).length ce))
          rw [hw11] at h'
          simp only [List.setIfInBounds_toArray, List.set_cons_zero, List.set_cons_succ] at h'
          exact h'
        have HK11 : Hid (∀ k, k ≠ wr.heap.size → w11.heap[k]? = w10.heap[k]?) := fun k hk => by
          rw [← hw11]
          iterate 14 rw [Below.heap_setCell _ _ _ _ hk]
        have HB11 : Hid (Below wr.heap.size w10 w11) := by rw [← hw11]; exact (((((((((((((((Below.refl _ _).setCell (p := ⟨wr.heap.size, 4, none⟩) (Nat.le_refl _) _).setCell (p := ⟨wr.heap.size, 5, none⟩) (Nat.le_refl _) _).setCell (p := ⟨wr.heap.size, 6, none⟩) (Nat.le_refl _) _).setCell (p := ⟨wr.heap.size, 7, none⟩) (Nat.le_refl _) _).setCell (p := ⟨wr.heap.size, 8, none⟩) (Nat.le_refl _) _).setCell (p := ⟨wr.heap.size, 9, none⟩) (Nat.le_refl _) _).setCell (p := ⟨wr.heap.size, 10, none⟩) (Nat.le_refl _) _).setCell (p := ⟨wr.heap.size, 11, none⟩) (Nat.le_refl _) _).setCell (p := ⟨wr.heap.size, 12, none⟩) (Nat.le_refl _) _).setCell (p := ⟨wr.heap.size, 13, none⟩) (Nat.le_refl _) _).setCell (p := ⟨wr.heap.size, 14, none⟩) (Nat.le_refl _) _).setCell (p := ⟨wr.heap.size, 15, none⟩) (Nat.le_refl _) _).setCell (p := ⟨wr.heap.size, 16, none⟩) (Nat.le_refl _) _).setCell (p := ⟨wr.heap.size, 17, none⟩) (Nat.le_refl _) _)
        have hz11 : w11.heap.size = w10.heap.size := by rw [← hw11]; iterate 14 rw [set_size]
        rw [hw11]
        clear hw11 hS u4 uf4 u5 uf5 u6 uf6 u7 uf7 u8 uf8 u9 uf9 u10 uf10 u11 uf11 u12 uf12 u13 uf13 u14 uf14 u15 uf15 u16 uf16 u17 uf17
        have hza : wr.heap.size < w6.heap.size := hnn
        have hzb : w6.heap.size ≤ w7.heap.size := HB7.out.size
        have hzc : w7.heap.size ≤ w8.heap.size := HB8.out.size
        have hzd : w8.heap.size ≤ w9.heap.size := HB9.out.size
        have hze : w9.heap.size ≤ w10.heap.size := HB10.out.size
        have HW11 : Hid (Below wr.heap.size wr w11) := HS10.out.1.trans HB11.out
        have HS11 : Hid (StL (From wr.heap.size) w11 (St.rnm (.mk kind name slot size place value body els)) [.int .i64 kind, .string Y, .int .i64 slot, .int .i64 size, .int .i64 x0, .int .i64 x1, .string x2, .int .i64 x3, .int .i64 x4, .slice X1 X2 X3, .int .i64 z0, .int .i64 z1, .string z2, .int .i64 z3, .int .i64 z4, .slice Z1 Z2 Z3, .slice Ab (St.rnmL body).length cb, .slice Ae (St.rnmL els).length ce]) := by
          simp only [St.rnm, StL]
          refine ⟨[.int .i64 x0, .int .i64 x1, .string x2, .int .i64 x3, .int .i64 x4, .slice X1 X2 X3], [.int .i64 z0, .int .i64 z1, .string z2, .int .i64 z3, .int .i64 z4, .slice Z1 Z2 Z3], Ab, cb, Ae, ce, (by rw [← HY.out]; rfl), ?_, ?_, HLB.out, HLE.out, fun hne => ?_, fun hne => ?_⟩
          · exact ExL.still (fun k (h1 : w6.heap.size ≤ k) h2 => ⟨show wr.heap.size ≤ k by omega, (HK11.out k (by omega)).trans ((HB10.out.block k (by omega)).trans ((HB9.out.block k (by omega)).trans (HB8.out.block k h2)))⟩) _ _ HLP.out
          · exact ExL.still (fun k (h1 : w7.heap.size ≤ k) h2 => ⟨show wr.heap.size ≤ k by omega, (HK11.out k (by omega)).trans ((HB10.out.block k (by omega)).trans (HB9.out.block k h2))⟩) _ _ HLV.out
          · obtain ⟨b, o, hA, hS, hr⟩ := HRB.out hne
            exact ⟨b, o, hA, show wr.heap.size ≤ b from Nat.le_trans (by omega) (show w8.heap.size ≤ b from hS), StRow.still (fun k (h1 : w8.heap.size ≤ k) h2 => ⟨show wr.heap.size ≤ k by omega, (HK11.out k (by omega)).trans (HB10.out.block k h2)⟩) _ b o hS hr⟩
          · obtain ⟨b, o, hA, hS, hr⟩ := HRE.out hne
            exact ⟨b, o, hA, show wr.heap.size ≤ b from Nat.le_trans (by omega) (show w9.heap.size ≤ b from hS), StRow.still (fun k (h1 : w9.heap.size ≤ k) h2 => ⟨show wr.heap.size ≤ k by omega, HK11.out k (by omega)⟩) _ b o hS hr⟩
        clear hza hzb hzc hzd hze hz11
        go_wp2_with (first
          | (refine wpList_load_row rfl 58 _ rfl wr.heap.size rfl 58 _ (0, 0) _ H11.out Tryd.underlying58 rfl (by kernel_rfl) ?_)
          | (at_builtin; refine wpList_append_own_at _ rfl _ _ 27 rfl w.heap.size 58 i0 _ 18 232 Tryd.underlying27 HI.out HI0.out HI1.out HI2.out rfl (by decide) _ _ _ rfl ((own_bel HH.out.o HW11.out).alloc _) ⟨w11.heap.size, 0, none⟩ 1 1 [.int .i64 kind, .string Y, .int .i64 slot, .int .i64 size, .int .i64 x0, .int .i64 x1, .string x2, .int .i64 x3, .int .i64 x4, .slice X1 X2 X3, .int .i64 z0, .int .i64 z1, .string z2, .int .i64 z3, .int .i64 z4, .slice Z1 Z2 Z3, .slice Ab (St.rnmL body).length cb, .slice Ae (St.rnmL els).length ce] rfl rfl (ex_new _ _ _) (by simp [Value.oneCell']) (by rw [HLN.out]; unfold maxLen; omega) (by rw [HLN.out]; omega) (by rw [new_size]; have := HW11.out.size; omega) ?_))
        intro va wa hown hgrow _ hobl
        have HN := Lib.hid (RzHead.next HH.out HE1.out HW11.out HS11.out hown hgrow hobl)
        clear hown hgrow hobl
        go_wp2_with fail
        go_roundg g
        case rel => exact ⟨k + 1, _, by have := HG.out; omega, by go_num, HN.out⟩
        case measure => omega
      case neg =>
        clear hq hw6 H5r HB5
        have hS : Below wr.heap.size wr w6.drew ∧ w6.drew.heap[wr.heap.size]? = some (.cells #[.int .i64 kind, .string Y, .int .i64 slot, .int .i64 size, .int .i64 p0, .int .i64 p1, .string p2, .int .i64 p3, .int .i64 p4, .slice P1 P2 P3, .int .i64 v0, .int .i64 v1, .string v2, .int .i64 v3, .int .i64 v4, .slice V1 V2 V3, .slice A3 body.length c3, .slice A4 els.length c4] 58 (0, 0)) := ⟨HB6.out.drew, H6.out⟩
        have hnn := lt_of_block H6.out
        have HWd : Hid (Below w.heap.size w wr) := HH.out.b
        refine wp_region_G [2, 5, 8, 11] (fun w' => Below wr.heap.size wr w' ∧ w'.heap[wr.heap.size]? = some (.cells #[.int .i64 kind, .string Y, .int .i64 slot, .int .i64 size, .int .i64 p0, .int .i64 p1, .string p2, .int .i64 p3, .int .i64 p4, .slice P1 P2 P3, .int .i64 v0, .int .i64 v1, .string v2, .int .i64 v3, .int .i64 v4, .slice V1 V2 V3, .slice A3 body.length c3, .slice A4 els.length c4] 58 (0, 0))) (by kernel_rfl) ?_
        refine' wpAnyG_step (i := 0) (v := _) ?hin0 (by kernel_rfl) ?hQn0 (Or.inl ⟨?hwn0, ?hyn0⟩) hS ?restn0
        case hin0 => (simp only [List.getElem?_toArray, List.getElem?_cons_zero]; rfl)
        case hQn0 => exact fun _ _ _ h => h
        case hwn0 => rfl
        case hyn0 => (intro w9; go_simp; with_reducible rfl)
        try simp only [Act.put, List.setIfInBounds_toArray, List.set_cons_zero, List.set_cons_succ]
        refine' wpAnyG_take 2 (i := 1) (v := _) ?hin1 (by kernel_rfl) ?hQn1 (Or.inl ⟨?hwn1, ?hyn1⟩) hS ?restn1
        case hin1 => (simp only [List.getElem?_toArray, List.getElem?_cons_succ, List.getElem?_cons_zero]; rfl)
        case hQn1 => exact fun _ _ _ h => h
        case hwn1 => rfl
        case hyn1 =>
          rintro w9 ⟨-, hx9⟩
          have d4 : w9.cell? ⟨wr.heap.size, 4, none⟩ = some (.int .i64 p0) := by rw [Lib.cell_of_heap hx9]; rfl
          have d5 : w9.cell? ⟨wr.heap.size, 5, none⟩ = some (.int .i64 p1) := by rw [Lib.cell_of_heap hx9]; rfl
          have d6 : w9.cell? ⟨wr.heap.size, 6, none⟩ = some (.string p2) := by rw [Lib.cell_of_heap hx9]; rfl
          have d7 : w9.cell? ⟨wr.heap.size, 7, none⟩ = some (.int .i64 p3) := by rw [Lib.cell_of_heap hx9]; rfl
          have d8 : w9.cell? ⟨wr.heap.size, 8, none⟩ = some (.int .i64 p4) := by rw [Lib.cell_of_heap hx9]; rfl
          have d9 : w9.cell? ⟨wr.heap.size, 9, none⟩ = some (.slice P1 P2 P3) := by rw [Lib.cell_of_heap hx9]; rfl
          have d10 : w9.cell? ⟨wr.heap.size, 10, none⟩ = some (.int .i64 v0) := by rw [Lib.cell_of_heap hx9]; rfl
          have d11 : w9.cell? ⟨wr.heap.size, 11, none⟩ = some (.int .i64 v1) := by rw [Lib.cell_of_heap hx9]; rfl
          have d12 : w9.cell? ⟨wr.heap.size, 12, none⟩ = some (.string v2) := by rw [Lib.cell_of_heap hx9]; rfl
          have d13 : w9.cell? ⟨wr.heap.size, 13, none⟩ = some (.int .i64 v3) := by rw [Lib.cell_of_heap hx9]; rfl
          have d14 : w9.cell? ⟨wr.heap.size, 14, none⟩ = some (.int .i64 v4) := by rw [Lib.cell_of_heap hx9]; rfl
          have d15 : w9.cell? ⟨wr.heap.size, 15, none⟩ = some (.slice V1 V2 V3) := by rw [Lib.cell_of_heap hx9]; rfl
          have d16 : w9.cell? ⟨wr.heap.size, 16, none⟩ = some (.slice A3 body.length c3) := by rw [Lib.cell_of_heap hx9]; rfl
          have d17 : w9.cell? ⟨wr.heap.size, 17, none⟩ = some (.slice A4 els.length c4) := by rw [Lib.cell_of_heap hx9]; rfl
          go_simp
          with_reducible rfl
        try simp only [Act.put, List.setIfInBounds_toArray, List.set_cons_zero, List.set_cons_succ]
        refine' wpAnyG_step (i := 3) (v := _) ?hin3 (by kernel_rfl) ?hQn3 (Or.inl ⟨?hwn3, ?hyn3⟩) hS ?restn3
        case hin3 => (simp only [List.getElem?_toArray, List.getElem?_cons_succ, List.getElem?_cons_zero]; rfl)
        case hQn3 => exact fun _ _ _ h => h
        case hwn3 => rfl
        case hyn3 => (intro w9; go_simp; with_reducible rfl)
        try simp only [Act.put, List.setIfInBounds_toArray, List.set_cons_zero, List.set_cons_succ]
        refine' wpAnyG_take 5 (i := 4) (v := _) ?hin4 (by kernel_rfl) ?hQn4 (Or.inl ⟨?hwn4, ?hyn4⟩) hS ?restn4
        case hin4 => (simp only [List.getElem?_toArray, List.getElem?_cons_succ, List.getElem?_cons_zero]; rfl)
        case hQn4 => exact fun _ _ _ h => h
        case hwn4 => rfl
        case hyn4 =>
          rintro w9 ⟨-, hx9⟩
          have d4 : w9.cell? ⟨wr.heap.size, 4, none⟩ = some (.int .i64 p0) := by rw [Lib.cell_of_heap hx9]; rfl
          have d5 : w9.cell? ⟨wr.heap.size, 5, none⟩ = some (.int .i64 p1) := by rw [Lib.cell_of_heap hx9]; rfl
          have d6 : w9.cell? ⟨wr.heap.size, 6, none⟩ = some (.string p2) := by rw [Lib.cell_of_heap hx9]; rfl
          have d7 : w9.cell? ⟨wr.heap.size, 7, none⟩ = some (.int .i64 p3) := by rw [Lib.cell_of_heap hx9]; rfl
          have d8 : w9.cell? ⟨wr.heap.size, 8, none⟩ = some (.int .i64 p4) := by rw [Lib.cell_of_heap hx9]; rfl
          have d9 : w9.cell? ⟨wr.heap.size, 9, none⟩ = some (.slice P1 P2 P3) := by rw [Lib.cell_of_heap hx9]; rfl
          have d10 : w9.cell? ⟨wr.heap.size, 10, none⟩ = some (.int .i64 v0) := by rw [Lib.cell_of_heap hx9]; rfl
          have d11 : w9.cell? ⟨wr.heap.size, 11, none⟩ = some (.int .i64 v1) := by rw [Lib.cell_of_heap hx9]; rfl
          have d12 : w9.cell? ⟨wr.heap.size, 12, none⟩ = some (.string v2) := by rw [Lib.cell_of_heap hx9]; rfl
          have d13 : w9.cell? ⟨wr.heap.size, 13, none⟩ = some (.int .i64 v3) := by rw [Lib.cell_of_heap hx9]; rfl
          have d14 : w9.cell? ⟨wr.heap.size, 14, none⟩ = some (.int .i64 v4) := by rw [Lib.cell_of_heap hx9]; rfl
          have d15 : w9.cell? ⟨wr.heap.size, 15, none⟩ = some (.slice V1 V2 V3) := by rw [Lib.cell_of_heap hx9]; rfl
          have d16 : w9.cell? ⟨wr.heap.size, 16, none⟩ = some (.slice A3 body.length c3) := by rw [Lib.cell_of_heap hx9]; rfl
          have d17 : w9.cell? ⟨wr.heap.size, 17, none⟩ = some (.slice A4 els.length c4) := by rw [Lib.cell_of_heap hx9]; rfl
          go_simp
          with_reducible rfl
        try simp only [Act.put, List.setIfInBounds_toArray, List.set_cons_zero, List.set_cons_succ]
        refine' wpAnyG_step (i := 6) (v := _) ?hin6 (by kernel_rfl) ?hQn6 (Or.inl ⟨?hwn6, ?hyn6⟩) hS ?restn6
        case hin6 => (simp only [List.getElem?_toArray, List.getElem?_cons_succ, List.getElem?_cons_zero]; rfl)
        case hQn6 => exact fun _ _ _ h => h
        case hwn6 => rfl
        case hyn6 => (intro w9; go_simp; with_reducible rfl)
        try simp only [Act.put, List.setIfInBounds_toArray, List.set_cons_zero, List.set_cons_succ]
        refine' wpAnyG_take 8 (i := 7) (v := _) ?hin7 (by kernel_rfl) ?hQn7 (Or.inl ⟨?hwn7, ?hyn7⟩) hS ?restn7
        case hin7 => (simp only [List.getElem?_toArray, List.getElem?_cons_succ, List.getElem?_cons_zero]; rfl)
        case hQn7 => exact fun _ _ _ h => h
        case hwn7 => rfl
        case hyn7 =>
          rintro w9 ⟨-, hx9⟩
          have d4 : w9.cell? ⟨wr.heap.size, 4, none⟩ = some (.int .i64 p0) := by rw [Lib.cell_of_heap hx9]; rfl
          have d5 : w9.cell? ⟨wr.heap.size, 5, none⟩ = some (.int .i64 p1) := by rw [Lib.cell_of_heap hx9]; rfl
          have d6 : w9.cell? ⟨wr.heap.size, 6, none⟩ = some (.string p2) := by rw [Lib.cell_of_heap hx9]; rfl
          have d7 : w9.cell? ⟨wr.heap.size, 7, none⟩ = some (.int .i64 p3) := by rw [Lib.cell_of_heap hx9]; rfl
          have d8 : w9.cell? ⟨wr.heap.size, 8, none⟩ = some (.int .i64 p4) := by rw [Lib.cell_of_heap hx9]; rfl
          have d9 : w9.cell? ⟨wr.heap.size, 9, none⟩ = some (.slice P1 P2 P3) := by rw [Lib.cell_of_heap hx9]; rfl
          have d10 : w9.cell? ⟨wr.heap.size, 10, none⟩ = some (.int .i64 v0) := by rw [Lib.cell_of_heap hx9]; rfl
          have d11 : w9.cell? ⟨wr.heap.size, 11, none⟩ = some (.int .i64 v1) := by rw [Lib.cell_of_heap hx9]; rfl
          have d12 : w9.cell? ⟨wr.heap.size, 12, none⟩ = some (.string v2) := by rw [Lib.cell_of_heap hx9]; rfl
          have d13 : w9.cell? ⟨wr.heap.size, 13, none⟩ = some (.int .i64 v3) := by rw [Lib.cell_of_heap hx9]; rfl
          have d14 : w9.cell? ⟨wr.heap.size, 14, none⟩ = some (.int .i64 v4) := by rw [Lib.cell_of_heap hx9]; rfl
          have d15 : w9.cell? ⟨wr.heap.size, 15, none⟩ = some (.slice V1 V2 V3) := by rw [Lib.cell_of_heap hx9]; rfl
          have d16 : w9.cell? ⟨wr.heap.size, 16, none⟩ = some (.slice A3 body.length c3) := by rw [Lib.cell_of_heap hx9]; rfl
          have d17 : w9.cell? ⟨wr.heap.size, 17, none⟩ = some (.slice A4 els.length c4) := by rw [Lib.cell_of_heap hx9]; rfl
          go_simp
          with_reducible rfl
        try simp only [Act.put, List.setIfInBounds_toArray, List.set_cons_zero, List.set_cons_succ]
        refine' wpAnyG_step (i := 9) (v := _) ?hin9 (by kernel_rfl) ?hQn9 (Or.inl ⟨?hwn9, ?hyn9⟩) hS ?restn9
        case hin9 => (simp only [List.getElem?_toArray, List.getElem?_cons_succ, List.getElem?_cons_zero]; rfl)
        case hQn9 => exact fun _ _ _ h => h
        case hwn9 => rfl
        case hyn9 => (intro w9; go_simp; with_reducible rfl)
        try simp only [Act.put, List.setIfInBounds_toArray, List.set_cons_zero, List.set_cons_succ]
        refine' wpAnyG_take 11 (i := 10) (v := _) ?hin10 (by kernel_rfl) ?hQn10 (Or.inl ⟨?hwn10, ?hyn10⟩) hS ?restn10
        case hin10 => (simp only [List.getElem?_toArray, List.getElem?_cons_succ, List.getElem?_cons_zero]; rfl)
        case hQn10 => exact fun _ _ _ h => h
        case hwn10 => rfl
        case hyn10 =>
          rintro w9 ⟨-, hx9⟩
          have d4 : w9.cell? ⟨wr.heap.size, 4, none⟩ = some (.int .i64 p0) := by rw [Lib.cell_of_heap hx9]; rfl
          have d5 : w9.cell? ⟨wr.heap.size, 5, none⟩ = some (.int .i64 p1) := by rw [Lib.cell_of_heap hx9]; rfl
          have d6 : w9.cell? ⟨wr.heap.size, 6, none⟩ = some (.string p2) := by rw [Lib.cell_of_heap hx9]; rfl
          have d7 : w9.cell? ⟨wr.heap.size, 7, none⟩ = some (.int .i64 p3) := by rw [Lib.cell_of_heap hx9]; rfl
          have d8 : w9.cell? ⟨wr.heap.size, 8, none⟩ = some (.int .i64 p4) := by rw [Lib.cell_of_heap hx9]; rfl
          have d9 : w9.cell? ⟨wr.heap.size, 9, none⟩ = some (.slice P1 P2 P3) := by rw [Lib.cell_of_heap hx9]; rfl
          have d10 : w9.cell? ⟨wr.heap.size, 10, none⟩ = some (.int .i64 v0) := by rw [Lib.cell_of_heap hx9]; rfl
          have d11 : w9.cell? ⟨wr.heap.size, 11, none⟩ = some (.int .i64 v1) := by rw [Lib.cell_of_heap hx9]; rfl
          have d12 : w9.cell? ⟨wr.heap.size, 12, none⟩ = some (.string v2) := by rw [Lib.cell_of_heap hx9]; rfl
          have d13 : w9.cell? ⟨wr.heap.size, 13, none⟩ = some (.int .i64 v3) := by rw [Lib.cell_of_heap hx9]; rfl
          have d14 : w9.cell? ⟨wr.heap.size, 14, none⟩ = some (.int .i64 v4) := by rw [Lib.cell_of_heap hx9]; rfl
          have d15 : w9.cell? ⟨wr.heap.size, 15, none⟩ = some (.slice V1 V2 V3) := by rw [Lib.cell_of_heap hx9]; rfl
          have d16 : w9.cell? ⟨wr.heap.size, 16, none⟩ = some (.slice A3 body.length c3) := by rw [Lib.cell_of_heap hx9]; rfl
          have d17 : w9.cell? ⟨wr.heap.size, 17, none⟩ = some (.slice A4 els.length c4) := by rw [Lib.cell_of_heap hx9]; rfl
          go_simp
          with_reducible rfl
        try simp only [Act.put, List.setIfInBounds_toArray, List.set_cons_zero, List.set_cons_succ]
        refine' wpAnyG_one (i := 2) (by kernel_rfl) ?hin2 (fun K hK => ?restn2)
        case hin2 => (simp only [List.getElem?_toArray, List.getElem?_cons_succ, List.getElem?_cons_zero]; rfl)
        go_simp
        go_at_call 27
        refine (HCP.out _ (HWd.out.trans (hS.1.mono hz0))).mono ?_
        rintro e9 w7 ⟨y9, rfl, ⟨x0, x1, x2, x3, x4, X1, X2, X3, rfl, hl⟩, hb⟩
        have hS9 : Below wr.heap.size wr w7 ∧ w7.heap[wr.heap.size]? = some (.cells #[.int .i64 kind, .string Y, .int .i64 slot, .int .i64 size, .int .i64 p0, .int .i64 p1, .string p2, .int .i64 p3, .int .i64 p4, .slice P1 P2 P3, .int .i64 v0, .int .i64 v1, .string v2, .int .i64 v3, .int .i64 v4, .slice V1 V2 V3, .slice A3 body.length c3, .slice A4 els.length c4] 58 (0, 0)) := ⟨hS.1.trans (hb.mono hS.1.size), below_blk hb hS.2⟩
        have HLP := Lib.hid hl
        have HB7 := Lib.hid hb
        clear hb hl
        refine hK.out _ _ hS9 (fun _ => ?_)
        clear hK K hS
        have hS := hS9
        clear hS9
        try simp only [Act.put, List.setIfInBounds_toArray, List.set_cons_zero, List.set_cons_succ]
        refine' wpAnyG_step (i := 12) (v := _) ?hin12 (by kernel_rfl) ?hQn12 (Or.inl ⟨?hwn12, ?hyn12⟩) hS ?restn12
        case hin12 => (simp only [List.getElem?_toArray, List.getElem?_cons_succ, List.getElem?_cons_zero]; rfl)
        case hQn12 => exact fun _ _ _ h => h
        case hwn12 => rfl
        case hyn12 => (intro w9; go_simp; with_reducible rfl)
        try simp only [Act.put, List.setIfInBounds_toArray, List.set_cons_zero, List.set_cons_succ]
        refine' wpAnyG_one (i := 5) (by kernel_rfl) ?hin5 (fun K hK => ?restn5)
        case hin5 => (simp only [List.getElem?_toArray, List.getElem?_cons_succ, List.getElem?_cons_zero]; rfl)
        go_simp
        go_at_call 27
        refine (HCV.out _ (HWd.out.trans (hS.1.mono hz0))).mono ?_
        rintro e9 w8 ⟨y9, rfl, ⟨z0, z1, z2, z3, z4, Z1, Z2, Z3, rfl, hl⟩, hb⟩
        have hS9 : Below wr.heap.size wr w8 ∧ w8.heap[wr.heap.size]? = some (.cells #[.int .i64 kind, .string Y, .int .i64 slot, .int .i64 size, .int .i64 p0, .int .i64 p1, .string p2, .int .i64 p3, .int .i64 p4, .slice P1 P2 P3, .int .i64 v0, .int .i64 v1, .string v2, .int .i64 v3, .int .i64 v4, .slice V1 V2 V3, .slice A3 body.length c3, .slice A4 els.length c4] 58 (0, 0)) := ⟨hS.1.trans (hb.mono hS.1.size), below_blk hb hS.2⟩
        have HLV := Lib.hid hl
        have HB8 := Lib.hid hb
        clear hb hl
        refine hK.out _ _ hS9 (fun _ => ?_)
        clear hK K hS
        have hS := hS9
        clear hS9
        try simp only [Act.put, List.setIfInBounds_toArray, List.set_cons_zero, List.set_cons_succ]
        refine' wpAnyG_one (i := 8) (by kernel_rfl) ?hin8 (fun K hK => ?restn8)
        case hin8 => (simp only [List.getElem?_toArray, List.getElem?_cons_succ, List.getElem?_cons_zero]; rfl)
        go_simp
        go_at_call 12
        refine (HCB.out _ (HWd.out.trans (hS.1.mono hz0))).mono ?_
        rintro e9 w9 ⟨y9, rfl, ⟨Ab, cb, rfl, hl, hr⟩, hb⟩
        have hS9 : Below wr.heap.size wr w9 ∧ w9.heap[wr.heap.size]? = some (.cells #[.int .i64 kind, .string Y, .int .i64 slot, .int .i64 size, .int .i64 p0, .int .i64 p1, .string p2, .int .i64 p3, .int .i64 p4, .slice P1 P2 P3, .int .i64 v0, .int .i64 v1, .string v2, .int .i64 v3, .int .i64 v4, .slice V1 V2 V3, .slice A3 body.length c3, .slice A4 els.length c4] 58 (0, 0)) := ⟨hS.1.trans (hb.mono hS.1.size), below_blk hb hS.2⟩
        have HLB := Lib.hid hl
        have HRB := Lib.hid hr
        have HB9 := Lib.hid hb
        clear hb hl hr
        refine hK.out _ _ hS9 (fun _ => ?_)
        clear hK K hS
        have hS := hS9
        clear hS9
        try simp only [Act.put, List.setIfInBounds_toArray, List.set_cons_zero, List.set_cons_succ]
        refine' wpAnyG_one (i := 11) (by kernel_rfl) ?hin11 (fun K hK => ?restn11)
        case hin11 => (simp only [List.getElem?_toArray, List.getElem?_cons_succ, List.getElem?_cons_zero]; rfl)
        go_simp
        go_at_call 12
        refine (HCE.out _ (HWd.out.trans (hS.1.mono hz0))).mono ?_
        rintro e9 w10 ⟨y9, rfl, ⟨Ae, ce, rfl, hl, hr⟩, hb⟩
        have hS9 : Below wr.heap.size wr w10 ∧ w10.heap[wr.heap.size]? = some (.cells #[.int .i64 kind, .string Y, .int .i64 slot, .int .i64 size, .int .i64 p0, .int .i64 p1, .string p2, .int .i64 p3, .int .i64 p4, .slice P1 P2 P3, .int .i64 v0, .int .i64 v1, .string v2, .int .i64 v3, .int .i64 v4, .slice V1 V2 V3, .slice A3 body.length c3, .slice A4 els.length c4] 58 (0, 0)) := ⟨hS.1.trans (hb.mono hS.1.size), below_blk hb hS.2⟩
        have HLE := Lib.hid hl
        have HRE := Lib.hid hr
        have HB10 := Lib.hid hb
        clear hb hl hr
        refine hK.out _ _ hS9 (fun _ => ?_)
        clear hK K hS
        have hS := hS9
        clear hS9
        try simp only [Act.put, List.setIfInBounds_toArray, List.set_cons_zero, List.set_cons_succ]
        refine wpAnyG_rel (by kernel_rfl) ?_
        have HS10 := Lib.hid hS
        have u4 : w10.cell? ⟨wr.heap.size, 4, none⟩ = some (.int .i64 p0) := by rw [Lib.cell_of_heap hS.2]; rfl
        have uf4 : w10.frozen? ⟨wr.heap.size, 4, none⟩ = false := Lib.frozen_of_heap hS.2 4
        have u5 : w10.cell? ⟨wr.heap.size, 5, none⟩ = some (.int .i64 p1) := by rw [Lib.cell_of_heap hS.2]; rfl
        have uf5 : w10.frozen? ⟨wr.heap.size, 5, none⟩ = false := Lib.frozen_of_heap hS.2 5
        have u6 : w10.cell? ⟨wr.heap.size, 6, none⟩ = some (.string p2) := by rw [Lib.cell_of_heap hS.2]; rfl
        have uf6 : w10.frozen? ⟨wr.heap.size, 6, none⟩ = false := Lib.frozen_of_heap hS.2 6
        have u7 : w10.cell? ⟨wr.heap.size, 7, none⟩ = some (.int .i64 p3) := by rw [Lib.cell_of_heap hS.2]; rfl
        have uf7 : w10.frozen? ⟨wr.heap.size, 7, none⟩ = false := Lib.frozen_of_heap hS.2 7
        have u8 : w10.cell? ⟨wr.heap.size, 8, none⟩ = some (.int .i64 p4) := by rw [Lib.cell_of_heap hS.2]; rfl
        have uf8 : w10.frozen? ⟨wr.heap.size, 8, none⟩ = false := Lib.frozen_of_heap hS.2 8
        have u9 : w10.cell? ⟨wr.heap.size, 9, none⟩ = some (.slice P1 P2 P3) := by rw [Lib.cell_of_heap hS.2]; rfl
        have uf9 : w10.frozen? ⟨wr.heap.size, 9, none⟩ = false := Lib.frozen_of_heap hS.2 9
        have u10 : w10.cell? ⟨wr.heap.size, 10, none⟩ = some (.int .i64 v0) := by rw [Lib.cell_of_heap hS.2]; rfl
        have uf10 : w10.frozen? ⟨wr.heap.size, 10, none⟩ = false := Lib.frozen_of_heap hS.2 10
        have u11 : w10.cell? ⟨wr.heap.size, 11, none⟩ = some (.int .i64 v1) := by rw [Lib.cell_of_heap hS.2]; rfl
        have uf11 : w10.frozen? ⟨wr.heap.size, 11, none⟩ = false := Lib.frozen_of_heap hS.2 11
        have u12 : w10.cell? ⟨wr.heap.size, 12, none⟩ = some (.string v2) := by rw [Lib.cell_of_heap hS.2]; rfl
        have uf12 : w10.frozen? ⟨wr.heap.size, 12, none⟩ = false := Lib.frozen_of_heap hS.2 12
        have u13 : w10.cell? ⟨wr.heap.size, 13, none⟩ = some (.int .i64 v3) := by rw [Lib.cell_of_heap hS.2]; rfl
        have uf13 : w10.frozen? ⟨wr.heap.size, 13, none⟩ = false := Lib.frozen_of_heap hS.2 13
        have u14 : w10.cell? ⟨wr.heap.size, 14, none⟩ = some (.int .i64 v4) := by rw [Lib.cell_of_heap hS.2]; rfl
        have uf14 : w10.frozen? ⟨wr.heap.size, 14, none⟩ = false := Lib.frozen_of_heap hS.2 14
        have u15 : w10.cell? ⟨wr.heap.size, 15, none⟩ = some (.slice V1 V2 V3) := by rw [Lib.cell_of_heap hS.2]; rfl
        have uf15 : w10.frozen? ⟨wr.heap.size, 15, none⟩ = false := Lib.frozen_of_heap hS.2 15
        have u16 : w10.cell? ⟨wr.heap.size, 16, none⟩ = some (.slice A3 body.length c3) := by rw [Lib.cell_of_heap hS.2]; rfl
        have uf16 : w10.frozen? ⟨wr.heap.size, 16, none⟩ = false := Lib.frozen_of_heap hS.2 16
        have u17 : w10.cell? ⟨wr.heap.size, 17, none⟩ = some (.slice A4 els.length c4) := by rw [Lib.cell_of_heap hS.2]; rfl
        have uf17 : w10.frozen? ⟨wr.heap.size, 17, none⟩ = false := Lib.frozen_of_heap hS.2 17
        refine' wpAny_one (i := 13) (by kernel_rfl) ?hin13 (fun K hK => ?restn13)
        case hin13 => (simp only [List.getElem?_toArray, List.getElem?_cons_succ, List.getElem?_cons_zero]; rfl)
        go_simp
        refine hK.out _ _ ?_
        clear hK K
        try simp only [Act.put, List.setIfInBounds_toArray, List.set_cons_zero, List.set_cons_succ]
        refine' wpAny_one (i := 14) (by kernel_rfl) ?hin14 (fun K hK => ?restn14)
        case hin14 => (simp only [List.getElem?_toArray, List.getElem?_cons_succ, List.getElem?_cons_zero]; rfl)
        go_simp
        refine hK.out _ _ ?_
        clear hK K
        try simp only [Act.put, List.setIfInBounds_toArray, List.set_cons_zero, List.set_cons_succ]
        refine' wpAny_one (i := 15) (by kernel_rfl) ?hin15 (fun K hK => ?restn15)
        case hin15 => (simp only [List.getElem?_toArray, List.getElem?_cons_succ, List.getElem?_cons_zero]; rfl)
        go_simp
        refine hK.out _ _ ?_
        clear hK K
        try simp only [Act.put, List.setIfInBounds_toArray, List.set_cons_zero, List.set_cons_succ]
        refine' wpAny_one (i := 16) (by kernel_rfl) ?hin16 (fun K hK => ?restn16)
        case hin16 => (simp only [List.getElem?_toArray, List.getElem?_cons_succ, List.getElem?_cons_zero]; rfl)
        go_simp
        refine hK.out _ _ ?_
        clear hK K
        try simp only [Act.put, List.setIfInBounds_toArray, List.set_cons_zero, List.set_cons_succ]
        refine' wpAny_one (i := 17) (by kernel_rfl) ?hin17 (fun K hK => ?restn17)
        case hin17 => (simp only [List.getElem?_toArray, List.getElem?_cons_succ, List.getElem?_cons_zero]; rfl)
        go_simp
        refine hK.out _ _ ?_
        clear hK K
        try simp only [Act.put, List.setIfInBounds_toArray, List.set_cons_zero, List.set_cons_succ]
        refine' wpAny_one (i := 18) (by kernel_rfl) ?hin18 (fun K hK => ?restn18)
        case hin18 => (simp only [List.getElem?_toArray, List.getElem?_cons_succ, List.getElem?_cons_zero]; rfl)
        go_simp
        refine hK.out _ _ ?_
        clear hK K
        try simp only [Act.put, List.setIfInBounds_toArray, List.set_cons_zero, List.set_cons_succ]
        refine' wpAny_one (i := 19) (by kernel_rfl) ?hin19 (fun K hK => ?restn19)
        case hin19 => (simp only [List.getElem?_toArray, List.getElem?_cons_succ, List.getElem?_cons_zero]; rfl)
        go_simp
        refine hK.out _ _ ?_
        clear hK K
        try simp only [Act.put, List.setIfInBounds_toArray, List.set_cons_zero, List.set_cons_succ]
        refine wpAny_done (by kernel_rfl) ?_ _
        obtain ⟨w11, hw11⟩ : ∃ x, ((((((((((((((w10.setCell ⟨wr.heap.size, 4, none⟩ (.int .i64 x0)).setCell ⟨wr.heap.size, 5, none⟩ (.int .i64 x1)).setCell ⟨wr.heap.size, 6, none⟩ (.string x2)).setCell ⟨wr.heap.size, 7, none⟩ (.int .i64 x3)).setCell ⟨wr.heap.size, 8, none⟩ (.int .i64 x4)).setCell ⟨wr.heap.size, 9, none⟩ (.slice X1 X2 X3)).setCell ⟨wr.heap.size, 10, none⟩ (.int .i64 z0)).setCell ⟨wr.heap.size, 11, none⟩ (.int .i64 z1)).setCell ⟨wr.heap.size, 12, none⟩ (.string z2)).setCell ⟨wr.heap.size, 13, none⟩ (.int .i64 z3)).setCell ⟨wr.heap.size, 14, none⟩ (.int .i64 z4)).setCell ⟨wr.heap.size, 15, none⟩ (.slice Z1 Z2 Z3)).setCell ⟨wr.heap.size, 16, none⟩ (.slice Ab (St.rnmL body).length cb)).setCell ⟨wr.heap.size, 17, none⟩ (.slice Ae (St.rnmL els).length ce)) = x := ⟨_, rfl⟩
        have H11 : Hid (w11.heap[wr.heap.size]? = some (.cells #[.int .i64 kind, .string Y, .int .i64 slot, .int .i64 size, .int .i64 x0, .int .i64 x1, .string x2, .int .i64 x3, .int .i64 x4, .slice X1 X2 X3, .int .i64 z0, .int .i64 z1, .string z2, .int .i64 z3, .int .i64 z4, .slice Z1 Z2 Z3, .slice Ab (St.rnmL body).length cb, .slice Ae (St.rnmL els).length ce] 58 (0, 0))) := by
          have h' := (blk_set (blk_set (blk_set (blk_set (blk_set (blk_set (blk_set (blk_set (blk_set (blk_set (blk_set (blk_set (blk_set (blk_set HS10.out.2 4 (.int .i64 x0)) 5 (.int .i64 x1)) 6 (.string x2)) 7 (.int .i64 x3)) 8 (.int .i64 x4)) 9 (.slice X1 X2 X3)) 10 (.int .i64 z0)) 11 (.int .i64 z1)) 12 (.string z2)) 13 (.int .i64 z3)) 14 (.int .i64 z4)) 15 (.slice Z1 Z2 Z3)) 16 (.slice Ab (St.rnmL body).length cb)) 17 (.slice Ae (St.rnmL els).length ce))
          rw [hw11] at h'
          simp only [List.setIfInBounds_toArray, List.set_cons_zero, List.set_cons_succ] at h'
          exact h'
        have HK11 : Hid (∀ k, k ≠ wr.heap.size → w11.heap[k]? = w10.heap[k]?) := fun k hk => by
          rw [← hw11]
          iterate 14 rw [Below.heap_setCell _ _ _ _ hk]
        have HB11 : Hid (Below wr.heap.size w10 w11) := by rw [← hw11]; exact (((((((((((((((Below.refl _ _).setCell (p := ⟨wr.heap.size, 4, none⟩) (Nat.le_refl _) _).setCell (p := ⟨wr.heap.size, 5, none⟩) (Nat.le_refl _) _).setCell (p := ⟨wr.heap.size, 6, none⟩) (Nat.le_refl _) _).setCell (p := ⟨wr.heap.size, 7, none⟩) (Nat.le_refl _) _).setCell (p := ⟨wr.heap.size, 8, none⟩) (Nat.le_refl _) _).setCell (p := ⟨wr.heap.size, 9, none⟩) (Nat.le_refl _) _).setCell (p := ⟨wr.heap.size, 10, none⟩) (Nat.le_refl _) _).setCell (p := ⟨wr.heap.size, 11, none⟩) (Nat.le_refl _) _).setCell (p := ⟨wr.heap.size, 12, none⟩) (Nat.le_refl _) _).setCell (p := ⟨wr.heap.size, 13, none⟩) (Nat.le_refl _) _).setCell (p := ⟨wr.heap.size, 14, none⟩) (Nat.le_refl _) _).setCell (p := ⟨wr.heap.size, 15, none⟩) (Nat.le_refl _) _).setCell (p := ⟨wr.heap.size, 16, none⟩) (Nat.le_refl _) _).setCell (p := ⟨wr.heap.size, 17, none⟩) (Nat.le_refl _) _)
        have hz11 : w11.heap.size = w10.heap.size := by rw [← hw11]; iterate 14 rw [set_size]
        rw [hw11]
        clear hw11 hS u4 uf4 u5 uf5 u6 uf6 u7 uf7 u8 uf8 u9 uf9 u10 uf10 u11 uf11 u12 uf12 u13 uf13 u14 uf14 u15 uf15 u16 uf16 u17 uf17
        have hza : wr.heap.size < w6.heap.size := hnn
        have hzb : w6.heap.size ≤ w7.heap.size := HB7.out.size
        have hzc : w7.heap.size ≤ w8.heap.size := HB8.out.size
        have hzd : w8.heap.size ≤ w9.heap.size := HB9.out.size
        have hze : w9.heap.size ≤ w10.heap.size := HB10.out.size
        have HW11 : Hid (Below wr.heap.size wr w11) := HS10.out.1.trans HB11.out
        have HS11 : Hid (StL (From wr.heap.size) w11 (St.rnm (.mk kind name slot size place value body els)) [.int .i64 kind, .string Y, .int .i64 slot, .int .i64 size, .int .i64 x0, .int .i64 x1, .string x2, .int .i64 x3, .int .i64 x4, .slice X1 X2 X3, .int .i64 z0, .int .i64 z1, .string z2, .int .i64 z3, .int .i64 z4, .slice Z1 Z2 Z3, .slice Ab (St.rnmL body).length cb, .slice Ae (St.rnmL els).length ce]) := by
          simp only [St.rnm, StL]
          refine ⟨[.int .i64 x0, .int .i64 x1, .string x2, .int .i64 x3, .int .i64 x4, .slice X1 X2 X3], [.int .i64 z0, .int .i64 z1, .string z2, .int .i64 z3, .int .i64 z4, .slice Z1 Z2 Z3], Ab, cb, Ae, ce, (by rw [← HY.out]; rfl), ?_, ?_, HLB.out, HLE.out, fun hne => ?_, fun hne => ?_⟩
          · exact ExL.still (fun k (h1 : w6.heap.size ≤ k) h2 => ⟨show wr.heap.size ≤ k by omega, (HK11.out k (by omega)).trans ((HB10.out.block k (by omega)).trans ((HB9.out.block k (by omega)).trans (HB8.out.block k h2)))⟩) _ _ HLP.out
          · exact ExL.still (fun k (h1 : w7.heap.size ≤ k) h2 => ⟨show wr.heap.size ≤ k by omega, (HK11.out k (by omega)).trans ((HB10.out.block k (by omega)).trans (HB9.out.block k h2))⟩) _ _ HLV.out
          · obtain ⟨b, o, hA, hS, hr⟩ := HRB.out hne
            exact ⟨b, o, hA, show wr.heap.size ≤ b from Nat.le_trans (by omega) (show w8.heap.size ≤ b from hS), StRow.still (fun k (h1 : w8.heap.size ≤ k) h2 => ⟨show wr.heap.size ≤ k by omega, (HK11.out k (by omega)).trans (HB10.out.block k h2)⟩) _ b o hS hr⟩
          · obtain ⟨b, o, hA, hS, hr⟩ := HRE.out hne
            exact ⟨b, o, hA, show wr.heap.size ≤ b from Nat.le_trans (by omega) (show w9.heap.size ≤ b from hS), StRow.still (fun k (h1 : w9.heap.size ≤ k) h2 => ⟨show wr.heap.size ≤ k by omega, HK11.out k (by omega)⟩) _ b o hS hr⟩
        clear hza hzb hzc hzd hze hz11
        go_wp2_with (first
          | (refine wpList_load_row rfl 58 _ rfl wr.heap.size rfl 58 _ (0, 0) _ H11.out Tryd.underlying58 rfl (by kernel_rfl) ?_)
          | (at_builtin; refine wpList_append_own_at _ rfl _ _ 27 rfl w.heap.size 58 i0 _ 18 232 Tryd.underlying27 HI.out HI0.out HI1.out HI2.out rfl (by decide) _ _ _ rfl ((own_bel HH.out.o HW11.out).alloc _) ⟨w11.heap.size, 0, none⟩ 1 1 [.int .i64 kind, .string Y, .int .i64 slot, .int .i64 size, .int .i64 x0, .int .i64 x1, .string x2, .int .i64 x3, .int .i64 x4, .slice X1 X2 X3, .int .i64 z0, .int .i64 z1, .string z2, .int .i64 z3, .int .i64 z4, .slice Z1 Z2 Z3, .slice Ab (St.rnmL body).length cb, .slice Ae (St.rnmL els).length ce] rfl rfl (ex_new _ _ _) (by simp [Value.oneCell']) (by rw [HLN.out]; unfold maxLen; omega) (by rw [HLN.out]; omega) (by rw [new_size]; have := HW11.out.size; omega) ?_))
        intro va wa hown hgrow _ hobl
        have HN := Lib.hid (RzHead.next HH.out HE1.out HW11.out HS11.out hown hgrow hobl)
        clear hown hgrow hobl
        go_wp2_with fail
        go_roundg g
        case rel => exact ⟨k + 1, _, by have := HG.out; omega, by go_num, HN.out⟩
        case measure => omega

theorem rz_zero : RzC 0 := by
  intro l h hn hok S w A m c hl
  have hl0 : l = [] := by
    cases l with
    | nil => rfl
    | cons s r => have := St.big_pos s; simp only [St.bigL] at h; omega
  subst hl0
  obtain ⟨A', c', e1, hc, _⟩ := hl
  simp only [Value.slice.injEq, List.length_nil] at e1
  obtain ⟨rfl, rfl, rfl⟩ := e1
  go_enter Tryd.func12, Tryd.ntmps12
  go_wp2_with fail
  go_loopg [3, 4, 8] 0 (fun g v _ i wr => i = .int .i64 0 ∧ v = .slice none 0 0 ∧ wr = w)
  case atStart => exact ⟨rfl, rfl, rfl⟩
  case round =>
    obtain ⟨rfl, rfl, rfl⟩ := hrel
    go_wp2_with fail
    go_ret
    exact ⟨_, rfl, sts_nil _ _, Below.refl _ _⟩
theorem rename_all : ∀ n, RzC n
  | 0 => rz_zero
  | n + 1 => rename_step n (rename_all n)
end Go.Proofs.YtgkioompcmgmdaaDoor
