/-
  What within of package rollbacknetlaw03 returns where all places of the statements lie within the cells: true. Conditions: at most 100000 parts; at most 1000 cells.
-/
import Derived.Test.YtbnlgpihongegaaDoorWalkIn
import Derived.Test.YtbnlgpihongegaaDoorWalkAr
namespace Go.Proofs.YtbnlgpihongegaaDoor
open Go.RowKit

set_option maxHeartbeats 16000000 in
set_option maxRecDepth 100000 in
theorem within_all (t : Int) (ht : t ≤ 1000) : ∀ (n : Nat) (ls : List St), St.bigL ls ≤ n → n ≤ 100000 → witL t ls → ∀ (S : Nat → Prop) (w : World) (A : Option Addr) (l q : Nat), StSlice S w ls (.slice A l q) →
    Calls Tryd.prog 14 #[.slice A l q, .int .i64 t] w fun e' w' => e' = .returned (.bool true) ∧ Below w.heap.size w w' := by
  intro n
  induction n using Nat.strongRecOn with
  | ind n ih =>
  intro ls h hn hsh S w A l q hl
  have IH : Hid (∀ (ls' : List St), St.bigL ls' < n → witL t ls' → ∀ (S : Nat → Prop) (w : World) (A : Option Addr) (l q : Nat), StSlice S w ls' (.slice A l q) → Calls Tryd.prog 14 #[.slice A l q, .int .i64 t] w fun e' w' => e' = .returned (.bool true) ∧ Below w.heap.size w w') :=
    fun ls' h' h1 => ih _ h' ls' (Nat.le_refl _) (by omega) h1
  clear ih
  obtain ⟨A', c', e1, hc, hr⟩ := hl
  simp only [Value.slice.injEq] at e1
  obtain ⟨rfl, rfl, rfl⟩ := e1
  have hlq : ls.length ≤ 100000 := by have := St.len_big ls; omega
  have HR := Lib.hid hr
  have HD := Lib.hid h
  have HSH := Lib.hid hsh
  obtain ⟨m, hm⟩ : ∃ x, ls.length = x := ⟨_, rfl⟩
  have HM := Lib.hid hm
  rw [hm] at hlq ⊢
  clear hr hm h hc hsh
  go_enter Tryd.func14, Tryd.ntmps14
  go_wp2_with fail
  go_loopg [5, 9] m (fun g _ i wr => ∃ k : Nat, k + g = m ∧ i = .int .i64 k ∧ Hid (Below w.heap.size w wr))
  case atStart => exact ⟨0, by omega, rfl, Below.refl _ _⟩
  case round =>
    obtain ⟨k, hkg, rfl, HB⟩ := hrel
    cases gk with
    | zero =>
      have hge : m ≤ k := by omega
      clear hkg
      go_wp2_with fail
      go_ret
      exact ⟨rfl, HB.out⟩
    | succ g =>
      have hlt : k < m := by omega
      have HG := Lib.hid hkg
      clear hkg
      obtain ⟨e1, he1⟩ : ∃ e1, ls[k]? = some e1 := ⟨_, List.getElem?_eq_getElem (by have := HM.out; omega)⟩
      have hs1 := witL_at t ls k e1 HSH.out he1
      have hbg := St.big_at ls k e1 he1
      obtain ⟨bb, o, rfl, hS, hrow⟩ := HR.out (fun e => by have := HM.out; rw [e] at this; simp at this; omega)
      obtain ⟨cs, hcs, hex⟩ := StRow.get ls bb o k e1 hrow he1
      obtain ⟨kind, name, slot, size, place, value, body, els⟩ := e1
      simp only [St.big] at hbg
      simp only [witO] at hs1
      obtain ⟨hs0, hsp, hsv, hsb, hse⟩ := hs1
      have hex0 := hex
      simp only [StL] at hex
      obtain ⟨cp, cv, A3, c3, A4, c4, rfl, hp, hv, h3, h4, h5, h6⟩ := hex
      obtain ⟨p0, p1, p2, p3, p4, P1, P2, P3, rfl⟩ := hp.plain
      obtain ⟨v0, v1, v2, v3, v4, V1, V2, V3, rfl⟩ := hv.plain
      have hbb : bb < w.heap.size := hcs.lt
      have hw : ∀ j u, w.cell? ⟨bb, j, none⟩ = some u → wr.cell? ⟨bb, j, none⟩ = some u := fun j u hu => (HB.out.cell (p := ⟨bb, j, none⟩) hbb).trans hu
      have HRG : Hid (wr.rangeAt bb (o + k * 18) (stCells kind name slot size [.int .i64 p0, .int .i64 p1, .string p2, .int .i64 p3, .int .i64 p4, .slice P1 P2 P3] [.int .i64 v0, .int .i64 v1, .string v2, .int .i64 v3, .int .i64 v4, .slice V1 V2 V3] (.slice A3 body.length c3) (.slice A4 els.length c4))) := fun j v hv => hw _ _ (hcs j v hv)
      have HX := Lib.hid hex0
      have hd0 := HD.out
      have hpp := Ex.big_pos place
      have hpv := Ex.big_pos value
      have HPL := Lib.hid (fun (W : World) (hb : Below w.heap.size w W) => inside_all t ht place.big (by omega) place (Nat.le_refl _) hsp S W p0 p1 p2 p3 p4 P1 P2 P3 (ExL.still (fun k h1 h2 => ⟨h1, hb.block k h2⟩) place _ hp))
      have HVL := Lib.hid (fun (W : World) (hb : Below w.heap.size w W) => inside_all t ht value.big (by omega) value (Nat.le_refl _) hsv S W v0 v1 v2 v3 v4 V1 V2 V3 (ExL.still (fun k h1 h2 => ⟨h1, hb.block k h2⟩) value _ hv))
      have HBO := Lib.hid (fun (W : World) (hb : Below w.heap.size w W) => IH.out body (by omega) hsb S W A3 body.length c3 (StSlice.still ⟨A3, c3, rfl, h3, h5⟩ (fun k h1 h2 => ⟨h1, hb.block k h2⟩)))
      have HEL := Lib.hid (fun (W : World) (hb : Below w.heap.size w W) => IH.out els (by omega) hse S W A4 els.length c4 (StSlice.still ⟨A4, c4, rfl, h4, h6⟩ (fun k h1 h2 => ⟨h1, hb.block k h2⟩)))
      have hcase : ((kind = 1 ∨ kind = 2) ∧ 0 ≤ slot ∧ ((size < 1 ∧ slot + 1 ≤ t) ∨ (1 ≤ size ∧ slot + size ≤ t))) ∨ ((kind == 1) = false ∧ (kind == 2) = false) := by
        by_cases hk : kind = 1 ∨ kind = 2
        · obtain ⟨a1, a2⟩ := hs0 hk
          refine .inl ⟨hk, a1, ?_⟩
          by_cases hz : size < 1
          · exact .inl ⟨hz, by omega⟩
          · exact .inr ⟨by omega, by omega⟩
        · exact .inr ⟨by simp; omega, by simp; omega⟩
      have HCS := Lib.hid hcase
      clear hw hcs hrow he1 hp hv h5 h6 hex0 hs0 hsp hsv hsb hse hbg hd0 hpp hpv h3 h4 hcase hS
      go_upto_region 5 with (first | (refine wpList_load_mid rfl 59 _ rfl bb (o + k * 18) rfl _ _ HRG.out Tryd.underlying59 rfl (by kernel_rfl) ?_) | (refine wpList_store_row rfl 59 _ _ rfl wr.heap.size _ rfl rfl _ _ (new_blk wr stZ) HX.out.info HX.out.size18 HX.out.one ?_))
      have h5 : ((wr.alloc stZ).setRow wr.heap.size (stCells kind name slot size [.int .i64 p0, .int .i64 p1, .string p2, .int .i64 p3, .int .i64 p4, .slice P1 P2 P3] [.int .i64 v0, .int .i64 v1, .string v2, .int .i64 v3, .int .i64 v4, .slice V1 V2 V3] (.slice A3 body.length c3) (.slice A4 els.length c4)).toArray).heap[wr.heap.size]? = some (.cells (stCells kind name slot size [.int .i64 p0, .int .i64 p1, .string p2, .int .i64 p3, .int .i64 p4, .slice P1 P2 P3] [.int .i64 v0, .int .i64 v1, .string v2, .int .i64 v3, .int .i64 v4, .slice V1 V2 V3] (.slice A3 body.length c3) (.slice A4 els.length c4)).toArray 59 (0, 0)) := setRow_same (new_blk wr stZ)
      have HB5 : Hid (Below w.heap.size w ((wr.alloc stZ).setRow wr.heap.size (stCells kind name slot size [.int .i64 p0, .int .i64 p1, .string p2, .int .i64 p3, .int .i64 p4, .slice P1 P2 P3] [.int .i64 v0, .int .i64 v1, .string v2, .int .i64 v3, .int .i64 v4, .slice V1 V2 V3] (.slice A3 body.length c3) (.slice A4 els.length c4)).toArray)) := by
        have hz := HB.out.size
        have h1 := HB.out.alloc hz stZ
        exact ⟨h1.os, h1.tape, h1.output, by have := h1.size; simpa using this, fun k hk => (setRow_blk (wr.alloc stZ) wr.heap.size _ (by omega)).trans (h1.block k hk)⟩
      obtain ⟨w5, hw5⟩ : ∃ x, (wr.alloc stZ).setRow wr.heap.size (stCells kind name slot size [.int .i64 p0, .int .i64 p1, .string p2, .int .i64 p3, .int .i64 p4, .slice P1 P2 P3] [.int .i64 v0, .int .i64 v1, .string v2, .int .i64 v3, .int .i64 v4, .slice V1 V2 V3] (.slice A3 body.length c3) (.slice A4 els.length c4)).toArray = x := ⟨_, rfl⟩
      rw [hw5] at h5 HB5 ⊢
      clear hw5
      have H5 := Lib.hid h5
      clear h5
      have q0 : w5.cell? ⟨wr.heap.size, 0, none⟩ = some (.int .i64 kind) := by rw [Lib.cell_of_heap H5.out]; rfl
      have q2 : w5.cell? ⟨wr.heap.size, 2, none⟩ = some (.int .i64 slot) := by rw [Lib.cell_of_heap H5.out]; rfl
      have q3 : w5.cell? ⟨wr.heap.size, 3, none⟩ = some (.int .i64 size) := by rw [Lib.cell_of_heap H5.out]; rfl
      have q4 : w5.cell? ⟨wr.heap.size, 4, none⟩ = some (.int .i64 p0) := by rw [Lib.cell_of_heap H5.out]; rfl
      have q5 : w5.cell? ⟨wr.heap.size, 5, none⟩ = some (.int .i64 p1) := by rw [Lib.cell_of_heap H5.out]; rfl
      have q6 : w5.cell? ⟨wr.heap.size, 6, none⟩ = some (.string p2) := by rw [Lib.cell_of_heap H5.out]; rfl
      have q7 : w5.cell? ⟨wr.heap.size, 7, none⟩ = some (.int .i64 p3) := by rw [Lib.cell_of_heap H5.out]; rfl
      have q8 : w5.cell? ⟨wr.heap.size, 8, none⟩ = some (.int .i64 p4) := by rw [Lib.cell_of_heap H5.out]; rfl
      have q9 : w5.cell? ⟨wr.heap.size, 9, none⟩ = some (.slice P1 P2 P3) := by rw [Lib.cell_of_heap H5.out]; rfl
      rcases HCS.out with ⟨rfl | rfl, s0, ⟨s1, s2⟩ | ⟨s1, s2⟩⟩ | ⟨s1, s2⟩
      all_goals
        clear HCS
        go_wp2_with fail
        refine (HPL.out _ HB5.out).mono ?_
        rintro e w6 ⟨rfl, hb⟩
        have HB6 := Lib.hid (HB5.out.trans (hb.mono HB5.out.size))
        have H6 := Lib.hid (below_blk hb H5.out)
        have q10 : w6.cell? ⟨wr.heap.size, 10, none⟩ = some (.int .i64 v0) := by rw [Lib.cell_of_heap H6.out]; rfl
        have q11 : w6.cell? ⟨wr.heap.size, 11, none⟩ = some (.int .i64 v1) := by rw [Lib.cell_of_heap H6.out]; rfl
        have q12 : w6.cell? ⟨wr.heap.size, 12, none⟩ = some (.string v2) := by rw [Lib.cell_of_heap H6.out]; rfl
        have q13 : w6.cell? ⟨wr.heap.size, 13, none⟩ = some (.int .i64 v3) := by rw [Lib.cell_of_heap H6.out]; rfl
        have q14 : w6.cell? ⟨wr.heap.size, 14, none⟩ = some (.int .i64 v4) := by rw [Lib.cell_of_heap H6.out]; rfl
        have q15 : w6.cell? ⟨wr.heap.size, 15, none⟩ = some (.slice V1 V2 V3) := by rw [Lib.cell_of_heap H6.out]; rfl
        clear hb q0 q2 q3 q4 q5 q6 q7 q8 q9
        go_wp2_with fail
        refine (HVL.out _ HB6.out).mono ?_
        rintro e w7 ⟨rfl, hb⟩
        have HB7 := Lib.hid (HB6.out.trans (hb.mono HB6.out.size))
        have H7 := Lib.hid (below_blk hb H6.out)
        have q16 : w7.cell? ⟨wr.heap.size, 16, none⟩ = some (.slice A3 body.length c3) := by rw [Lib.cell_of_heap H7.out]; rfl
        clear hb q10 q11 q12 q13 q14 q15
        go_wp2_with fail
        refine (HBO.out _ HB7.out).mono ?_
        rintro e w8 ⟨rfl, hb⟩
        have HB8 := Lib.hid (HB7.out.trans (hb.mono HB7.out.size))
        have H8 := Lib.hid (below_blk hb H7.out)
        have q17 : w8.cell? ⟨wr.heap.size, 17, none⟩ = some (.slice A4 els.length c4) := by rw [Lib.cell_of_heap H8.out]; rfl
        clear hb q16
        go_wp2_with fail
        refine (HEL.out _ HB8.out).mono ?_
        rintro e w9 ⟨rfl, hb⟩
        have HB9 := Lib.hid (HB8.out.trans (hb.mono HB8.out.size))
        clear hb q17
        go_wp2_with fail
        go_roundg g
        case rel => exact ⟨k + 1, by have := HG.out; omega, by go_num, HB9.out⟩
        case measure => omega
end Go.Proofs.YtbnlgpihongegaaDoor
