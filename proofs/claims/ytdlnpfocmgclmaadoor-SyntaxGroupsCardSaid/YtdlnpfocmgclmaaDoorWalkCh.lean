/-
  What choice of a parser of package syntax does, as long as block does what it ought to at a lesser bound. Conditions: the parser lies at block R.
-/
import Derived.Test.YtdlnpfocmgclmaaDoorWalkG
namespace Go.Proofs.YtdlnpfocmgclmaaDoor
open Go.RowKit

set_option maxHeartbeats 2000000 in
set_option maxRecDepth 100000 in
theorem choice_any (f : Nat) (hB : BlkC f) (R en : Nat) (toks ts : List Tok) (w : World) (r : Res St) (hr : pChoice f ts = r) (hne : r ≠ .out) (h : PSt R toks en w ts) :
    Calls Tryd.prog 51 #[.pointer (some ⟨R, 0, none⟩)] w (PP R toks en (VSt w.heap.size) r w) := by
  have hR := h.lt
  have H := Lib.hid h
  have HNE := Lib.hid hne
  unfold pChoice at hr
  obtain ⟨r1, hr1⟩ : ∃ r1, pBin f 0 ts = r1 := ⟨_, rfl⟩
  rw [hr1] at hr
  have hne1 : r1 ≠ .out := fun e => by rw [e] at hr; exact hne hr.symm
  have HE : Hid (∀ w', PSt R toks en w' ts → Calls Tryd.prog 52 #[.pointer (some ⟨R, 0, none⟩)] w' (PP R toks en (VEx w'.heap.size) r1 w')) := fun w' h' => exp_all f R en toks ts w' r1 hr1 hne1 h'
  have HB : Hid (∀ t w' r', pBlock f t = r' → r' ≠ .out → PSt R toks en w' t → Calls Tryd.prog 38 #[.pointer (some ⟨R, 0, none⟩)] w' (PP R toks en (VSts w'.heap.size) r' w')) := fun t w' r' e n h' => hB R en toks t w' r' e n h'
  have HR := Lib.hid hr
  clear h hne hr hB hr1
  go_enter Tryd.func51, Tryd.ntmps51
  go_wp2_with fail
  refine (HE.out _ (H.out.more _)).mono ?_
  cases r1 with
  | out => exact absurd rfl hne1
  | fail t =>
    rintro e w1 ⟨rfl, hk⟩
    have HQ : Hid (r = .fail t) := HR.out.symm
    go_wp2_with fail
    rw [HQ.out]
    exact ⟨rfl, rfl, ((Keep.refl R w).alloc _).trans hk⟩
  | ok e1 t1 =>
    rintro e w1 ⟨v, rfl, ⟨a, b, s, c, d, A, l, q, rfl, hl⟩, hp, hk⟩
    have hz1 := hk.size
    rw [new_size] at hz1
    have HX := Lib.hid (PX.early (n0 := w.heap.size) hl (by rw [new_size]; omega) (.cells (stCells 3 [] 0 0 [.int .i64 0, .int .i64 0, .string ⟨#[]⟩, .int .i64 0, .int .i64 0, .slice none 0 0] [.int .i64 a, .int .i64 b, .string s, .int .i64 c, .int .i64 d, .slice A l q] (.slice none 0 0) (.slice none 0 0)).toArray 36))
    have HS := Lib.hid (SB.start hR hk hp (stCells 3 [] 0 0 [.int .i64 0, .int .i64 0, .string ⟨#[]⟩, .int .i64 0, .int .i64 0, .slice none 0 0] [.int .i64 a, .int .i64 b, .string s, .int .i64 c, .int .i64 d, .slice A l q] (.slice none 0 0) (.slice none 0 0)).toArray rfl)
    clear hl hp hk hne1
    go_wp2_with fail
    obtain ⟨r2, hr2⟩ : ∃ r2, pBlock f t1 = r2 := ⟨_, rfl⟩
    have HR1 : Hid (r2.bind (fun b t => if txt t = [101, 108, 115, 101] then (pBlock f t.tail).bind fun e t => .ok (.mk 3 [] 0 0 ex0 e1 b e) t else .ok (.mk 3 [] 0 0 ex0 e1 b []) t) = r) := by
      have := HR.out
      simp only [Res.bind] at this
      rw [← hr2]; exact this
    have hne2 : r2 ≠ .out := fun e => by have := HR1.out; rw [e] at this; exact HNE.out this.symm
    have HE2 := Lib.hid (HB.out t1 _ r2 hr2 hne2 HS.out.p)
    clear HR hr2
    refine HE2.out.mono ?_
    clear HE2
    cases r2 with
    | out => exact absurd rfl hne2
    | fail t =>
      rintro e w2 ⟨rfl, hk⟩
      have HQ : Hid (r = .fail t) := HR1.out.symm
      go_wp2_with fail
      rw [HQ.out]
      exact ⟨rfl, rfl, HS.out.k.trans hk⟩
    | ok b2 t2 =>
      rintro e w2 ⟨v, rfl, hv, hp, hk⟩
      have hz2 := hk.size
      rw [new_size] at hz2
      have HP2 := Lib.hid (PL.late (n0 := w.heap.size) (n1 := w1.heap.size) hv (by rw [new_size]; omega) (by omega))
      have HX2 := Lib.hid (HX.out.keep hk hR)
      have HS2 := Lib.hid (HS.out.keep hk hp)
      obtain ⟨A2, c2, rfl, _, _⟩ := hv
      have hc16 : w2.cell? ⟨w1.heap.size, 16, none⟩ = some (.slice none 0 0) := by rw [Lib.cell_of_heap HS2.out.h1]; rfl
      have hf16 : w2.frozen? ⟨w1.heap.size, 16, none⟩ = false := Lib.frozen_of_heap HS2.out.h1 16
      have hn1 : w1.heap.size < w2.heap.size := by omega
      clear hp hk hne2
      go_wp2_with fail
      clear hc16 hf16
      have HS3 : Hid (SB R en w.heap.size w1.heap.size toks w (w2.setCell ⟨w1.heap.size, 16, none⟩ (.slice A2 b2.length c2)) t2 (stCells 3 [] 0 0 [.int .i64 0, .int .i64 0, .string ⟨#[]⟩, .int .i64 0, .int .i64 0, .slice none 0 0] [.int .i64 a, .int .i64 b, .string s, .int .i64 c, .int .i64 d, .slice A l q] (.slice A2 b2.length c2) (.slice none 0 0))) := HS2.out.set 16 (.slice A2 b2.length c2)
      have HX3 := Lib.hid (HX2.out.set 16 (.slice A2 b2.length c2))
      have HP3 := Lib.hid (HP2.out.set 16 (.slice A2 b2.length c2))
      clear HS2 HX2 HP2 HS HX
      by_cases he : txt t2 = [101, 108, 115, 101]
      · have HT : Hid (txt t2 = (⟨#[101, 108, 115, 101]⟩ : ByteArray).data.toList) := he
        have HN : Hid (t2 ≠ []) := fun e => by rw [e] at he; simp [txt] at he
        obtain ⟨r3, hr3⟩ : ∃ r3, pBlock f t2.tail = r3 := ⟨_, rfl⟩
        have HR2 : Hid (r3.bind (fun e t => .ok (.mk 3 [] 0 0 ex0 e1 b2 e) t) = r) := by
          have := HR1.out
          simp only [Res.bind, if_pos he] at this
          rw [← hr3]; exact this
        have hne3 : r3 ≠ .out := fun e => by have := HR2.out; rw [e] at this; exact HNE.out this.symm
        clear he HR1
        refine (accept_yes _ _ _ _ _ _ HS3.out.p HT.out HN.out).mono ?_
        rintro e w3 ⟨rfl, hp, hk⟩
        have HS4 := Lib.hid (HS3.out.keep hk hp)
        have HX4 := Lib.hid (HX3.out.keep hk hR)
        have HP4 := Lib.hid (HP3.out.keep hk hR)
        have HE3 := Lib.hid (HB.out t2.tail w3 r3 hr3 hne3 hp)
        clear HS3 HX3 HP3 hp hk hr3
        go_wp2_with fail
        refine HE3.out.mono ?_
        clear HE3
        cases r3 with
        | out => exact absurd rfl hne3
        | fail t =>
          rintro e w4 ⟨rfl, hk⟩
          have HQ : Hid (r = .fail t) := HR2.out.symm
          go_wp2_with fail
          rw [HQ.out]
          exact ⟨rfl, rfl, HS4.out.k.trans hk⟩
        | ok b3 t3 =>
          rintro e w4 ⟨v, rfl, hv, hp, hk⟩
          have HQ : Hid (r = .ok (.mk 3 [] 0 0 ex0 e1 b2 b3) t3) := HR2.out.symm
          have HV5 := Lib.hid (PL.late (n0 := w.heap.size) (n1 := w1.heap.size) hv HS4.out.lt1 (by omega))
          have HX5 := Lib.hid (HX4.out.keep hk hR)
          have HP5 := Lib.hid (HP4.out.keep hk hR)
          have HS5 := Lib.hid (HS4.out.keep hk hp)
          obtain ⟨A3, c3, rfl, _, _⟩ := hv
          have hc17 : w4.cell? ⟨w1.heap.size, 17, none⟩ = some (.slice none 0 0) := by rw [Lib.cell_of_heap HS5.out.h1]; rfl
          have hf17 : w4.frozen? ⟨w1.heap.size, 17, none⟩ = false := Lib.frozen_of_heap HS5.out.h1 17
          have hn4 : w1.heap.size < w4.heap.size := HS5.out.lt1
          have HS6 : Hid (SB R en w.heap.size w1.heap.size toks w (w4.setCell ⟨w1.heap.size, 17, none⟩ (.slice A3 b3.length c3)) t3 (stCells 3 [] 0 0 [.int .i64 0, .int .i64 0, .string ⟨#[]⟩, .int .i64 0, .int .i64 0, .slice none 0 0] [.int .i64 a, .int .i64 b, .string s, .int .i64 c, .int .i64 d, .slice A l q] (.slice A2 b2.length c2) (.slice A3 b3.length c3))) := HS5.out.set 17 (.slice A3 b3.length c3)
          have HX6 := Lib.hid (HX5.out.set 17 (.slice A3 b3.length c3))
          have HP6 := Lib.hid (HP5.out.set 17 (.slice A3 b3.length c3))
          have HV6 := Lib.hid (HV5.out.set 17 (.slice A3 b3.length c3))
          clear HS5 HX5 HP5 HV5 hp hk HS4 HX4 HP4 HR2
          have HM := Lib.hid (st_mk (kind := 3) (name := []) PX.zero HX6.out HP6.out HV6.out)
          go_wp2_with (first | (refine wpList_load_row rfl 36 _ rfl w1.heap.size rfl 36 _ _ _ HS6.out.h1 Tryd.underlying36 rfl (by kernel_rfl) ?_) | (refine wpList_store_row rfl 36 _ _ rfl w.heap.size _ rfl rfl _ _ HS6.out.h0 HM.out.info HM.out.size18 HM.out.one ?_))
          rw [HQ.out]
          refine bodyPost_ret (results_cell_row rfl _ _ w.heap.size 36 _ _ _ rfl (setRow_same HS6.out.h0) Tryd.underlying36 rfl HM.out.info) rfl ?_
          exact HS6.out.fin HM.out
      · have HT : Hid (txt t2 ≠ (⟨#[101, 108, 115, 101]⟩ : ByteArray).data.toList) := he
        have HQ : Hid (r = .ok (.mk 3 [] 0 0 ex0 e1 b2 []) t2) := by
          have := HR1.out
          simp only [Res.bind, if_neg he] at this
          exact this.symm
        clear he HR1
        refine (accept_no _ _ _ _ _ _ HS3.out.p HT.out).mono ?_
        rintro e w3 ⟨rfl, hb⟩
        have HS6 := Lib.hid (HS3.out.below hb)
        have HX6 := Lib.hid (HX3.out.keep (Keep.of_below hb) hR)
        have HP6 := Lib.hid (HP3.out.keep (Keep.of_below hb) hR)
        clear HS3 HX3 HP3 hb
        have HM := Lib.hid (st_mk (kind := 3) (name := []) PX.zero HX6.out HP6.out PL.nil)
        go_wp2_with (first | (refine wpList_load_row rfl 36 _ rfl w1.heap.size rfl 36 _ _ _ HS6.out.h1 Tryd.underlying36 rfl (by kernel_rfl) ?_) | (refine wpList_store_row rfl 36 _ _ rfl w.heap.size _ rfl rfl _ _ HS6.out.h0 HM.out.info HM.out.size18 HM.out.one ?_))
        rw [HQ.out]
        refine bodyPost_ret (results_cell_row rfl _ _ w.heap.size 36 _ _ _ rfl (setRow_same HS6.out.h0) Tryd.underlying36 rfl HM.out.info) rfl ?_
        exact HS6.out.fin HM.out
end Go.Proofs.YtdlnpfocmgclmaaDoor
