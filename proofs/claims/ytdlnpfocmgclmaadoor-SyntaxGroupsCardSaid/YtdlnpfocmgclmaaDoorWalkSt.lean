/-
  What statement of a parser of package syntax does, as long as block does what it ought to at a lesser bound. Conditions: the parser lies at block R.
-/
import Derived.Test.YtdlnpfocmgclmaaDoorWalkAs
import Derived.Test.YtdlnpfocmgclmaaDoorWalkCh
namespace Go.Proofs.YtdlnpfocmgclmaaDoor
open Go.RowKit

set_option maxHeartbeats 4000000 in
set_option maxRecDepth 100000 in
theorem st_if (f : Nat) (hB : BlkC f) (R en : Nat) (toks ts : List Tok) (w : World) (r : Res St)  (h0 : txt ts = [105, 102]) (hr : pChoice f ts.tail = r) (hne : r ≠ .out) (h : PSt R toks en w ts) :
    Calls Tryd.prog 44 #[.pointer (some ⟨R, 0, none⟩)] w (PP R toks en (VSt w.heap.size) r w) := by
  have hR := h.lt
  have HNE := Lib.hid hne
  have HB := Lib.hid hB
  have HT0 : Hid (txt ts = (⟨#[105, 102]⟩ : ByteArray).data.toList) := h0
  have HN : Hid (ts ≠ []) := fun e => by rw [e] at h0; simp [txt] at h0
  have HR := Lib.hid hr
  have HPs := Lib.hid (h.more stZ)
  have HKs := Lib.hid (Keep.refl R (w.alloc stZ))
  clear h hne hr hB h0
  go_enter Tryd.func44, Tryd.ntmps44
  go_wp2_with fail
  refine (accept_yes _ _ _ _ _ _ HPs.out HT0.out HN.out).mono ?_
  rintro e wy ⟨rfl, hp, hk⟩
  have HPy := Lib.hid hp
  have HKy := Lib.hid (HKs.out.trans hk)
  clear hp hk HPs HKs
  go_wp2_with fail
  refine (choice_any f HB.out R en toks ts.tail _ r HR.out HNE.out HPy.out).mono ?_
  have HNE2 := HNE.out
  cases r with
  | out => exact absurd rfl HNE2
  | fail t' =>
    clear HNE2
    rintro e w9 ⟨rfl, hk⟩
    go_wp2_with fail
    exact ⟨rfl, rfl, ((Keep.refl R w).alloc stZ |>.trans HKy.out).trans hk⟩
  | ok s' t' =>
    clear HNE2
    rintro e w9 ⟨v, rfl, ⟨cs, rfl, hs⟩, hp, hk⟩
    have HX := Lib.hid (hk.blk (HKy.out.blk (new_blk w stZ) (by omega)) (by omega))
    have hz := HKy.out.size
    rw [new_size] at hz
    have HF := Lib.hid (finSt (n := w.heap.size) ((Keep.refl R w).alloc stZ |>.trans (HKy.out.trans hk)) rfl hR hp hs (by omega))
    have HM := Lib.hid hs
    clear hs hp hk hz
    go_wp2_with (refine wpList_store_row rfl 36 _ _ rfl w.heap.size _ rfl rfl _ _ HX.out HM.out.info HM.out.size18 HM.out.one ?_)
    refine bodyPost_ret (results_cell_row rfl _ _ w.heap.size 36 _ _ _ rfl (setRow_same HX.out) Tryd.underlying36 rfl HM.out.info) rfl ?_
    exact HF.out

set_option maxHeartbeats 4000000 in
set_option maxRecDepth 100000 in
theorem st_while (f : Nat) (hB : BlkC f) (R en : Nat) (toks ts : List Tok) (w : World) (r : Res St) (h0 : txt ts ≠ [105, 102]) (h1 : txt ts = [119, 104, 105, 108, 101]) (hr : ((pBin f 0 ts.tail).bind fun c t => (pBlock f t).bind fun b t => .ok (.mk 4 [] 0 0 ex0 c b []) t) = r) (hne : r ≠ .out) (h : PSt R toks en w ts) :
    Calls Tryd.prog 44 #[.pointer (some ⟨R, 0, none⟩)] w (PP R toks en (VSt w.heap.size) r w) := by
  have hR := h.lt
  have HNE := Lib.hid hne
  have HB := Lib.hid hB
  have HT0 : Hid (txt ts ≠ (⟨#[105, 102]⟩ : ByteArray).data.toList) := h0
  have HT1 : Hid (txt ts = (⟨#[119, 104, 105, 108, 101]⟩ : ByteArray).data.toList) := h1
  have HN : Hid (ts ≠ []) := fun e => by rw [e] at h1; simp [txt] at h1
  simp only [Res.bind] at hr
  have HR := Lib.hid hr
  have HPs := Lib.hid (h.more stZ)
  have HKs := Lib.hid (Keep.refl R (w.alloc stZ))
  clear h hne hr hB h0 h1
  go_enter Tryd.func44, Tryd.ntmps44
  go_wp2_with fail
  refine (accept_no _ _ _ _ _ _ HPs.out HT0.out).mono ?_
  rintro e wb0 ⟨rfl, hb⟩
  have HPb0 := Lib.hid (HPs.out.below hb)
  have HKb0 := Lib.hid (HKs.out.trans (Keep.of_below hb))
  clear hb HPs HKs
  go_wp2_with fail
  refine (accept_yes _ _ _ _ _ _ HPb0.out HT1.out HN.out).mono ?_
  rintro e wy ⟨rfl, hp, hk⟩
  have HPy := Lib.hid hp
  have HKy := Lib.hid (HKb0.out.trans hk)
  clear hp hk HPb0 HKb0
  go_wp2_with fail
  obtain ⟨r1, hr1⟩ : ∃ r', pBin f 0 ts.tail = r' := ⟨_, rfl⟩
  have hr := HR.out
  rw [hr1] at hr
  have hne1 : r1 ≠ .out := fun e => by rw [e] at hr; exact HNE.out hr.symm
  refine (exp_all f R en toks ts.tail _ r1 hr1 hne1 HPy.out).mono ?_
  clear HR hr1
  have HR := Lib.hid hr
  clear hr
  cases r1 with
  | out => exact absurd rfl hne1
  | fail t' =>
    rintro e w9 ⟨rfl, hk⟩
    go_wp2_with fail
    have hr := HR.out
    try simp only at hr
    rw [← hr]
    exact ⟨rfl, rfl, ((Keep.refl R w).alloc stZ |>.trans HKy.out).trans hk⟩
  | ok e1 t1 =>
    rintro e w1 ⟨v, rfl, ⟨a1, b1, s1, c1, d1, A1, l1, q1, rfl, hl⟩, hp, hk⟩
    have hr := HR.out
    simp only at hr
    clear HR hne1
    have HR := Lib.hid hr
    clear hr
    have hz := HKy.out.size
    rw [new_size] at hz
    have HPv00 := Lib.hid (PX.early (n0 := w.heap.size) hl (by omega) (.cells (stCells 4 [] 0 0 [.int .i64 0, .int .i64 0, .string ⟨#[]⟩, .int .i64 0, .int .i64 0, .slice none 0 0] [.int .i64 a1, .int .i64 b1, .string s1, .int .i64 c1, .int .i64 d1, .slice A1 l1 q1] (.slice none 0 0) (.slice none 0 0)).toArray 36))
    have HS00 := Lib.hid (SB.start hR (HKy.out.trans hk) hp (stCells 4 [] 0 0 [.int .i64 0, .int .i64 0, .string ⟨#[]⟩, .int .i64 0, .int .i64 0, .slice none 0 0] [.int .i64 a1, .int .i64 b1, .string s1, .int .i64 c1, .int .i64 d1, .slice A1 l1 q1] (.slice none 0 0) (.slice none 0 0)).toArray rfl)
    clear hl hp hk hz
    go_wp2_with fail
    obtain ⟨r2, hr2⟩ : ∃ r', pBlock f t1 = r' := ⟨_, rfl⟩
    have hr := HR.out
    rw [hr2] at hr
    have hne2 : r2 ≠ .out := fun e => by rw [e] at hr; exact HNE.out hr.symm
    refine (HB.out R en toks t1 _ r2 hr2 hne2 HS00.out.p).mono ?_
    clear HR hr2
    have HR := Lib.hid hr
    clear hr
    cases r2 with
    | out => exact absurd rfl hne2
    | fail t' =>
      rintro e w9 ⟨rfl, hk⟩
      go_wp2_with fail
      have hr := HR.out
      try simp only at hr
      rw [← hr]
      exact ⟨rfl, rfl, HS00.out.k.trans hk⟩
    | ok e2 t2 =>
      rintro e w2 ⟨v, rfl, hv, hp, hk⟩
      have hr := HR.out
      simp only at hr
      clear HR hne2
      have HR := Lib.hid hr
      clear hr
      have HPn2 := Lib.hid (PL.late (n0 := w.heap.size) (n1 := w1.heap.size) hv HS00.out.lt1 HS00.out.lt)
      obtain ⟨A2, c2, rfl, _, _⟩ := hv
      have HPv2 := Lib.hid (HPv00.out.keep hk hR)
      have HS2 := Lib.hid (HS00.out.keep hk hp)
      clear HS00 HPv00
      have hc : w2.cell? ⟨w1.heap.size, 16, none⟩ = some (.slice none 0 0) := by rw [Lib.cell_of_heap HS2.out.h1]; rfl
      have hf : w2.frozen? ⟨w1.heap.size, 16, none⟩ = false := Lib.frozen_of_heap HS2.out.h1 16
      have hn9 := HS2.out.lt1
      have HS3 : Hid (SB R en w.heap.size (w1.heap.size) toks w (w2.setCell ⟨w1.heap.size, 16, none⟩ (.slice A2 e2.length c2)) t2 (stCells 4 [] 0 0 [.int .i64 0, .int .i64 0, .string ⟨#[]⟩, .int .i64 0, .int .i64 0, .slice none 0 0] [.int .i64 a1, .int .i64 b1, .string s1, .int .i64 c1, .int .i64 d1, .slice A1 l1 q1] (.slice A2 e2.length c2) (.slice none 0 0))) := HS2.out.set 16 (.slice A2 e2.length c2)
      have HPv3 := Lib.hid (HPv2.out.set 16 (.slice A2 e2.length c2))
      have HPn3 := Lib.hid (HPn2.out.set 16 (.slice A2 e2.length c2))
      clear hp hk HS2 HPv2 HPn2
      have HM := Lib.hid (st_mk (kind := 4) (name := []) PX.zero HPv3.out HPn3.out PL.nil)
      go_wp2_with (first | (refine wpList_load_row rfl 36 _ rfl (w1.heap.size) rfl 36 _ _ _ HS3.out.h1 Tryd.underlying36 rfl (by kernel_rfl) ?_) | (refine wpList_store_row rfl 36 _ _ rfl w.heap.size _ rfl rfl _ _ HS3.out.h0 HM.out.info HM.out.size18 HM.out.one ?_))
      rw [← HR.out]
      refine bodyPost_ret (results_cell_row rfl _ _ w.heap.size 36 _ _ _ rfl (setRow_same HS3.out.h0) Tryd.underlying36 rfl HM.out.info) rfl ?_
      exact HS3.out.fin HM.out

set_option maxHeartbeats 4000000 in
set_option maxRecDepth 100000 in
theorem st_send (f : Nat) (hB : BlkC f) (R en : Nat) (toks ts : List Tok) (w : World) (r : Res St) (h0 : txt ts ≠ [105, 102]) (h1 : txt ts ≠ [119, 104, 105, 108, 101]) (h2 : txt ts = [115, 101, 110, 100]) (hr : ((pBin f 0 ts.tail).bind fun p t => (expectS [44] t).bind fun _ t => (pBin f 0 t).bind fun v t => (expectS [59] t).bind fun _ t => .ok (.mk 5 [] 0 0 p v [] []) t) = r) (hne : r ≠ .out) (h : PSt R toks en w ts) :
    Calls Tryd.prog 44 #[.pointer (some ⟨R, 0, none⟩)] w (PP R toks en (VSt w.heap.size) r w) := by
  have hR := h.lt
  have HNE := Lib.hid hne
  have HB := Lib.hid hB
  have HT0 : Hid (txt ts ≠ (⟨#[105, 102]⟩ : ByteArray).data.toList) := h0
  have HT1 : Hid (txt ts ≠ (⟨#[119, 104, 105, 108, 101]⟩ : ByteArray).data.toList) := h1
  have HT2 : Hid (txt ts = (⟨#[115, 101, 110, 100]⟩ : ByteArray).data.toList) := h2
  have HN : Hid (ts ≠ []) := fun e => by rw [e] at h2; simp [txt] at h2
  simp only [Res.bind] at hr
  have HR := Lib.hid hr
  have HPs := Lib.hid (h.more stZ)
  have HKs := Lib.hid (Keep.refl R (w.alloc stZ))
  clear h hne hr hB h0 h1 h2
  go_enter Tryd.func44, Tryd.ntmps44
  go_wp2_with fail
  refine (accept_no _ _ _ _ _ _ HPs.out HT0.out).mono ?_
  rintro e wb0 ⟨rfl, hb⟩
  have HPb0 := Lib.hid (HPs.out.below hb)
  have HKb0 := Lib.hid (HKs.out.trans (Keep.of_below hb))
  clear hb HPs HKs
  go_wp2_with fail
  refine (accept_no _ _ _ _ _ _ HPb0.out HT1.out).mono ?_
  rintro e wb1 ⟨rfl, hb⟩
  have HPb1 := Lib.hid (HPb0.out.below hb)
  have HKb1 := Lib.hid (HKb0.out.trans (Keep.of_below hb))
  clear hb HPb0 HKb0
  go_wp2_with fail
  refine (accept_yes _ _ _ _ _ _ HPb1.out HT2.out HN.out).mono ?_
  rintro e wy ⟨rfl, hp, hk⟩
  have HPy := Lib.hid hp
  have HKy := Lib.hid (HKb1.out.trans hk)
  clear hp hk HPb1 HKb1
  go_wp2_with fail
  obtain ⟨r1, hr1⟩ : ∃ r', pBin f 0 ts.tail = r' := ⟨_, rfl⟩
  have hr := HR.out
  rw [hr1] at hr
  have hne1 : r1 ≠ .out := fun e => by rw [e] at hr; exact HNE.out hr.symm
  refine (exp_all f R en toks ts.tail _ r1 hr1 hne1 HPy.out).mono ?_
  clear HR hr1
  have HR := Lib.hid hr
  clear hr
  cases r1 with
  | out => exact absurd rfl hne1
  | fail t' =>
    rintro e w9 ⟨rfl, hk⟩
    go_wp2_with fail
    have hr := HR.out
    try simp only at hr
    rw [← hr]
    exact ⟨rfl, rfl, ((Keep.refl R w).alloc stZ |>.trans HKy.out).trans hk⟩
  | ok e1 t1 =>
    rintro e w1 ⟨v, rfl, ⟨a1, b1, s1, c1, d1, A1, l1, q1, rfl, hl⟩, hp, hk⟩
    have hr := HR.out
    simp only at hr
    clear HR hne1
    have HR := Lib.hid hr
    clear hr
    have hz := HKy.out.size
    rw [new_size] at hz
    have HPp00 := Lib.hid (PX.early (n0 := w.heap.size) hl (by omega) (.cells (stCells 5 [] 0 0 [.int .i64 a1, .int .i64 b1, .string s1, .int .i64 c1, .int .i64 d1, .slice A1 l1 q1] [.int .i64 0, .int .i64 0, .string ⟨#[]⟩, .int .i64 0, .int .i64 0, .slice none 0 0] (.slice none 0 0) (.slice none 0 0)).toArray 36))
    have HS00 := Lib.hid (SB.start hR (HKy.out.trans hk) hp (stCells 5 [] 0 0 [.int .i64 a1, .int .i64 b1, .string s1, .int .i64 c1, .int .i64 d1, .slice A1 l1 q1] [.int .i64 0, .int .i64 0, .string ⟨#[]⟩, .int .i64 0, .int .i64 0, .slice none 0 0] (.slice none 0 0) (.slice none 0 0)).toArray rfl)
    clear hl hp hk hz
    go_wp2_with fail
    rcases expect_cases [44] t1 with hx | hx
    · refine (expect_any ⟨#[44]⟩ (by simp) _ _ _ _ _ HS00.out.p).mono ?_
      rw [show expectS (⟨#[44]⟩ : ByteArray).data.toList t1 = .fail t1 from hx]
      rintro e w9 ⟨rfl, hk⟩
      have hr := HR.out
      simp only [hx] at hr
      have HQ := Lib.hid hr
      clear hr hx
      go_wp2_with fail
      rw [← HQ.out]
      exact ⟨rfl, rfl, HS00.out.k.trans hk⟩
    refine (expect_any ⟨#[44]⟩ (by simp) _ _ _ _ _ HS00.out.p).mono ?_
    rw [show expectS (⟨#[44]⟩ : ByteArray).data.toList t1 = .ok () t1.tail from hx]
    rintro e w2 ⟨v, rfl, hv, hp, hk⟩
    unfold VUnit at hv
    subst hv
    have hr := HR.out
    simp only [hx] at hr
    clear HR
    have HR := Lib.hid hr
    clear hr hx
    have HPp2 := Lib.hid (HPp00.out.keep hk hR)
    have HS2 := Lib.hid (HS00.out.keep hk hp)
    clear HS00 HPp00
    clear hp hk
    go_wp2_with fail
    obtain ⟨r3, hr3⟩ : ∃ r', pBin f 0 t1.tail = r' := ⟨_, rfl⟩
    have hr := HR.out
    rw [hr3] at hr
    have hne3 : r3 ≠ .out := fun e => by rw [e] at hr; exact HNE.out hr.symm
    refine (exp_all f R en toks t1.tail _ r3 hr3 hne3 HS2.out.p).mono ?_
    clear HR hr3
    have HR := Lib.hid hr
    clear hr
    cases r3 with
    | out => exact absurd rfl hne3
    | fail t' =>
      rintro e w9 ⟨rfl, hk⟩
      go_wp2_with fail
      have hr := HR.out
      try simp only at hr
      rw [← hr]
      exact ⟨rfl, rfl, HS2.out.k.trans hk⟩
    | ok e3 t3 =>
      rintro e w3 ⟨v, rfl, ⟨a3, b3, s3, c3, d3, A3, l3, q3, rfl, hl⟩, hp, hk⟩
      have hr := HR.out
      simp only at hr
      clear HR hne3
      have HR := Lib.hid hr
      clear hr
      have HPn3 := Lib.hid (PX.late (n0 := w.heap.size) (n1 := w1.heap.size) hl HS2.out.lt1 HS2.out.lt)
      have HPp3 := Lib.hid (HPp2.out.keep hk hR)
      have HS3 := Lib.hid (HS2.out.keep hk hp)
      clear HS2 HPp2
      obtain ⟨y0, y1, y2, y3, y4, y5, z0, z1, z2, z3, z4, z5, hn9⟩ := sbV HS3.out.h1
      have HS4 : Hid (SB R en w.heap.size (w1.heap.size) toks w ((((((w3.setCell ⟨w1.heap.size, 10, none⟩ (.int .i64 a3)).setCell ⟨w1.heap.size, 11, none⟩ (.int .i64 b3)).setCell ⟨w1.heap.size, 12, none⟩ (.string s3)).setCell ⟨w1.heap.size, 13, none⟩ (.int .i64 c3)).setCell ⟨w1.heap.size, 14, none⟩ (.int .i64 d3)).setCell ⟨w1.heap.size, 15, none⟩ (.slice A3 l3 q3)) t3 (stCells 5 [] 0 0 [.int .i64 a1, .int .i64 b1, .string s1, .int .i64 c1, .int .i64 d1, .slice A1 l1 q1] [.int .i64 a3, .int .i64 b3, .string s3, .int .i64 c3, .int .i64 d3, .slice A3 l3 q3] (.slice none 0 0) (.slice none 0 0))) := ((((((HS3.out.set 10 (.int .i64 a3)).set 11 (.int .i64 b3)).set 12 (.string s3)).set 13 (.int .i64 c3)).set 14 (.int .i64 d3)).set 15 (.slice A3 l3 q3))
      have HPp4 := Lib.hid ((((((HPp3.out.set 10 (.int .i64 a3)).set 11 (.int .i64 b3)).set 12 (.string s3)).set 13 (.int .i64 c3)).set 14 (.int .i64 d3)).set 15 (.slice A3 l3 q3))
      have HPn4 := Lib.hid ((((((HPn3.out.set 10 (.int .i64 a3)).set 11 (.int .i64 b3)).set 12 (.string s3)).set 13 (.int .i64 c3)).set 14 (.int .i64 d3)).set 15 (.slice A3 l3 q3))
      clear hl hp hk HS3 HPp3 HPn3
      go_wp2_with fail
      clear y0 y1 y2 y3 y4 y5 z0 z1 z2 z3 z4 z5 hn9
      rcases expect_cases [59] t3 with hx | hx
      · refine (expect_any ⟨#[59]⟩ (by simp) _ _ _ _ _ HS4.out.p).mono ?_
        rw [show expectS (⟨#[59]⟩ : ByteArray).data.toList t3 = .fail t3 from hx]
        rintro e w9 ⟨rfl, hk⟩
        have hr := HR.out
        simp only [hx] at hr
        have HQ := Lib.hid hr
        clear hr hx
        go_wp2_with fail
        rw [← HQ.out]
        exact ⟨rfl, rfl, HS4.out.k.trans hk⟩
      refine (expect_any ⟨#[59]⟩ (by simp) _ _ _ _ _ HS4.out.p).mono ?_
      rw [show expectS (⟨#[59]⟩ : ByteArray).data.toList t3 = .ok () t3.tail from hx]
      rintro e w5 ⟨v, rfl, hv, hp, hk⟩
      unfold VUnit at hv
      subst hv
      have hr := HR.out
      simp only [hx] at hr
      clear HR
      have HR := Lib.hid hr
      clear hr hx
      have HPp5 := Lib.hid (HPp4.out.keep hk hR)
      have HPv5 := Lib.hid (HPn4.out.keep hk hR)
      have HS5 := Lib.hid (HS4.out.keep hk hp)
      clear HS4 HPp4 HPn4
      clear hp hk
      have hr := HR.out
      clear HR
      have HQ := Lib.hid hr
      clear hr
      have HM := Lib.hid (st_mk (kind := 5) (name := []) HPp5.out HPv5.out PL.nil PL.nil)
      go_wp2_with (first | (refine wpList_load_row rfl 36 _ rfl (w1.heap.size) rfl 36 _ _ _ HS5.out.h1 Tryd.underlying36 rfl (by kernel_rfl) ?_) | (refine wpList_store_row rfl 36 _ _ rfl w.heap.size _ rfl rfl _ _ HS5.out.h0 HM.out.info HM.out.size18 HM.out.one ?_))
      rw [← HQ.out]
      refine bodyPost_ret (results_cell_row rfl _ _ w.heap.size 36 _ _ _ rfl (setRow_same HS5.out.h0) Tryd.underlying36 rfl HM.out.info) rfl ?_
      exact HS5.out.fin HM.out

set_option maxHeartbeats 4000000 in
set_option maxRecDepth 100000 in
theorem st_output (f : Nat) (hB : BlkC f) (R en : Nat) (toks ts : List Tok) (w : World) (r : Res St) (h0 : txt ts ≠ [105, 102]) (h1 : txt ts ≠ [119, 104, 105, 108, 101]) (h2 : txt ts ≠ [115, 101, 110, 100]) (h3 : txt ts = [111, 117, 116, 112, 117, 116]) (hr : ((pBin f 0 ts.tail).bind fun v t => (expectS [59] t).bind fun _ t => .ok (.mk 6 [] 0 0 ex0 v [] []) t) = r) (hne : r ≠ .out) (h : PSt R toks en w ts) :
    Calls Tryd.prog 44 #[.pointer (some ⟨R, 0, none⟩)] w (PP R toks en (VSt w.heap.size) r w) := by
  have hR := h.lt
  have HNE := Lib.hid hne
  have HB := Lib.hid hB
  have HT0 : Hid (txt ts ≠ (⟨#[105, 102]⟩ : ByteArray).data.toList) := h0
  have HT1 : Hid (txt ts ≠ (⟨#[119, 104, 105, 108, 101]⟩ : ByteArray).data.toList) := h1
  have HT2 : Hid (txt ts ≠ (⟨#[115, 101, 110, 100]⟩ : ByteArray).data.toList) := h2
  have HT3 : Hid (txt ts = (⟨#[111, 117, 116, 112, 117, 116]⟩ : ByteArray).data.toList) := h3
  have HN : Hid (ts ≠ []) := fun e => by rw [e] at h3; simp [txt] at h3
  simp only [Res.bind] at hr
  have HR := Lib.hid hr
  have HPs := Lib.hid (h.more stZ)
  have HKs := Lib.hid (Keep.refl R (w.alloc stZ))
  clear h hne hr hB h0 h1 h2 h3
  go_enter Tryd.func44, Tryd.ntmps44
  go_wp2_with fail
  refine (accept_no _ _ _ _ _ _ HPs.out HT0.out).mono ?_
  rintro e wb0 ⟨rfl, hb⟩
  have HPb0 := Lib.hid (HPs.out.below hb)
  have HKb0 := Lib.hid (HKs.out.trans (Keep.of_below hb))
  clear hb HPs HKs
  go_wp2_with fail
  refine (accept_no _ _ _ _ _ _ HPb0.out HT1.out).mono ?_
  rintro e wb1 ⟨rfl, hb⟩
  have HPb1 := Lib.hid (HPb0.out.below hb)
  have HKb1 := Lib.hid (HKb0.out.trans (Keep.of_below hb))
  clear hb HPb0 HKb0
  go_wp2_with fail
  refine (accept_no _ _ _ _ _ _ HPb1.out HT2.out).mono ?_
  rintro e wb2 ⟨rfl, hb⟩
  have HPb2 := Lib.hid (HPb1.out.below hb)
  have HKb2 := Lib.hid (HKb1.out.trans (Keep.of_below hb))
  clear hb HPb1 HKb1
  go_wp2_with fail
  refine (accept_yes _ _ _ _ _ _ HPb2.out HT3.out HN.out).mono ?_
  rintro e wy ⟨rfl, hp, hk⟩
  have HPy := Lib.hid hp
  have HKy := Lib.hid (HKb2.out.trans hk)
  clear hp hk HPb2 HKb2
  go_wp2_with fail
  obtain ⟨r1, hr1⟩ : ∃ r', pBin f 0 ts.tail = r' := ⟨_, rfl⟩
  have hr := HR.out
  rw [hr1] at hr
  have hne1 : r1 ≠ .out := fun e => by rw [e] at hr; exact HNE.out hr.symm
  refine (exp_all f R en toks ts.tail _ r1 hr1 hne1 HPy.out).mono ?_
  clear HR hr1
  have HR := Lib.hid hr
  clear hr
  cases r1 with
  | out => exact absurd rfl hne1
  | fail t' =>
    rintro e w9 ⟨rfl, hk⟩
    go_wp2_with fail
    have hr := HR.out
    try simp only at hr
    rw [← hr]
    exact ⟨rfl, rfl, ((Keep.refl R w).alloc stZ |>.trans HKy.out).trans hk⟩
  | ok e1 t1 =>
    rintro e w1 ⟨v, rfl, ⟨a1, b1, s1, c1, d1, A1, l1, q1, rfl, hl⟩, hp, hk⟩
    have hr := HR.out
    simp only at hr
    clear HR hne1
    have HR := Lib.hid hr
    clear hr
    have hz := HKy.out.size
    rw [new_size] at hz
    have HPv00 := Lib.hid (PX.early (n0 := w.heap.size) hl (by omega) (.cells (stCells 6 [] 0 0 [.int .i64 0, .int .i64 0, .string ⟨#[]⟩, .int .i64 0, .int .i64 0, .slice none 0 0] [.int .i64 a1, .int .i64 b1, .string s1, .int .i64 c1, .int .i64 d1, .slice A1 l1 q1] (.slice none 0 0) (.slice none 0 0)).toArray 36))
    have HS00 := Lib.hid (SB.start hR (HKy.out.trans hk) hp (stCells 6 [] 0 0 [.int .i64 0, .int .i64 0, .string ⟨#[]⟩, .int .i64 0, .int .i64 0, .slice none 0 0] [.int .i64 a1, .int .i64 b1, .string s1, .int .i64 c1, .int .i64 d1, .slice A1 l1 q1] (.slice none 0 0) (.slice none 0 0)).toArray rfl)
    clear hl hp hk hz
    go_wp2_with fail
    rcases expect_cases [59] t1 with hx | hx
    · refine (expect_any ⟨#[59]⟩ (by simp) _ _ _ _ _ HS00.out.p).mono ?_
      rw [show expectS (⟨#[59]⟩ : ByteArray).data.toList t1 = .fail t1 from hx]
      rintro e w9 ⟨rfl, hk⟩
      have hr := HR.out
      simp only [hx] at hr
      have HQ := Lib.hid hr
      clear hr hx
      go_wp2_with fail
      rw [← HQ.out]
      exact ⟨rfl, rfl, HS00.out.k.trans hk⟩
    refine (expect_any ⟨#[59]⟩ (by simp) _ _ _ _ _ HS00.out.p).mono ?_
    rw [show expectS (⟨#[59]⟩ : ByteArray).data.toList t1 = .ok () t1.tail from hx]
    rintro e w2 ⟨v, rfl, hv, hp, hk⟩
    unfold VUnit at hv
    subst hv
    have hr := HR.out
    simp only [hx] at hr
    clear HR
    have HR := Lib.hid hr
    clear hr hx
    have HPv2 := Lib.hid (HPv00.out.keep hk hR)
    have HS2 := Lib.hid (HS00.out.keep hk hp)
    clear HS00 HPv00
    clear hp hk
    have hr := HR.out
    clear HR
    have HQ := Lib.hid hr
    clear hr
    have HM := Lib.hid (st_mk (kind := 6) (name := []) PX.zero HPv2.out PL.nil PL.nil)
    go_wp2_with (first | (refine wpList_load_row rfl 36 _ rfl (w1.heap.size) rfl 36 _ _ _ HS2.out.h1 Tryd.underlying36 rfl (by kernel_rfl) ?_) | (refine wpList_store_row rfl 36 _ _ rfl w.heap.size _ rfl rfl _ _ HS2.out.h0 HM.out.info HM.out.size18 HM.out.one ?_))
    rw [← HQ.out]
    refine bodyPost_ret (results_cell_row rfl _ _ w.heap.size 36 _ _ _ rfl (setRow_same HS2.out.h0) Tryd.underlying36 rfl HM.out.info) rfl ?_
    exact HS2.out.fin HM.out

set_option maxHeartbeats 4000000 in
set_option maxRecDepth 100000 in
theorem st_assign (f : Nat) (hB : BlkC f) (R en : Nat) (toks ts : List Tok) (w : World) (r : Res St) (h0 : txt ts ≠ [105, 102]) (h1 : txt ts ≠ [119, 104, 105, 108, 101]) (h2 : txt ts ≠ [115, 101, 110, 100]) (h3 : txt ts ≠ [111, 117, 116, 112, 117, 116]) (hr : pAssign f ts = r) (hne : r ≠ .out) (h : PSt R toks en w ts) :
    Calls Tryd.prog 44 #[.pointer (some ⟨R, 0, none⟩)] w (PP R toks en (VSt w.heap.size) r w) := by
  have hR := h.lt
  have HNE := Lib.hid hne
  have HB := Lib.hid hB
  have HT0 : Hid (txt ts ≠ (⟨#[105, 102]⟩ : ByteArray).data.toList) := h0
  have HT1 : Hid (txt ts ≠ (⟨#[119, 104, 105, 108, 101]⟩ : ByteArray).data.toList) := h1
  have HT2 : Hid (txt ts ≠ (⟨#[115, 101, 110, 100]⟩ : ByteArray).data.toList) := h2
  have HT3 : Hid (txt ts ≠ (⟨#[111, 117, 116, 112, 117, 116]⟩ : ByteArray).data.toList) := h3
  have HR := Lib.hid hr
  have HPs := Lib.hid (h.more stZ)
  have HKs := Lib.hid (Keep.refl R (w.alloc stZ))
  clear h hne hr hB h0 h1 h2 h3
  go_enter Tryd.func44, Tryd.ntmps44
  go_wp2_with fail
  refine (accept_no _ _ _ _ _ _ HPs.out HT0.out).mono ?_
  rintro e wb0 ⟨rfl, hb⟩
  have HPb0 := Lib.hid (HPs.out.below hb)
  have HKb0 := Lib.hid (HKs.out.trans (Keep.of_below hb))
  clear hb HPs HKs
  go_wp2_with fail
  refine (accept_no _ _ _ _ _ _ HPb0.out HT1.out).mono ?_
  rintro e wb1 ⟨rfl, hb⟩
  have HPb1 := Lib.hid (HPb0.out.below hb)
  have HKb1 := Lib.hid (HKb0.out.trans (Keep.of_below hb))
  clear hb HPb0 HKb0
  go_wp2_with fail
  refine (accept_no _ _ _ _ _ _ HPb1.out HT2.out).mono ?_
  rintro e wb2 ⟨rfl, hb⟩
  have HPb2 := Lib.hid (HPb1.out.below hb)
  have HKb2 := Lib.hid (HKb1.out.trans (Keep.of_below hb))
  clear hb HPb1 HKb1
  go_wp2_with fail
  refine (accept_no _ _ _ _ _ _ HPb2.out HT3.out).mono ?_
  rintro e wb3 ⟨rfl, hb⟩
  have HPb3 := Lib.hid (HPb2.out.below hb)
  have HKb3 := Lib.hid (HKb2.out.trans (Keep.of_below hb))
  clear hb HPb2 HKb2
  go_wp2_with fail
  refine (assign_any f R en toks ts _ r HR.out HNE.out HPb3.out).mono ?_
  have HNE2 := HNE.out
  cases r with
  | out => exact absurd rfl HNE2
  | fail t' =>
    clear HNE2
    rintro e w9 ⟨rfl, hk⟩
    go_wp2_with fail
    exact ⟨rfl, rfl, ((Keep.refl R w).alloc stZ |>.trans HKb3.out).trans hk⟩
  | ok s' t' =>
    clear HNE2
    rintro e w9 ⟨v, rfl, ⟨cs, rfl, hs⟩, hp, hk⟩
    have HX := Lib.hid (hk.blk (HKb3.out.blk (new_blk w stZ) (by omega)) (by omega))
    have hz := HKb3.out.size
    rw [new_size] at hz
    have HF := Lib.hid (finSt (n := w.heap.size) ((Keep.refl R w).alloc stZ |>.trans (HKb3.out.trans hk)) rfl hR hp hs (by omega))
    have HM := Lib.hid hs
    clear hs hp hk hz
    go_wp2_with (refine wpList_store_row rfl 36 _ _ rfl w.heap.size _ rfl rfl _ _ HX.out HM.out.info HM.out.size18 HM.out.one ?_)
    refine bodyPost_ret (results_cell_row rfl _ _ w.heap.size 36 _ _ _ rfl (setRow_same HX.out) Tryd.underlying36 rfl HM.out.info) rfl ?_
    exact HF.out

theorem stmt_step (f : Nat) (hB : BlkC f) : StmC (f + 1) := by
  intro R en toks ts w r hr hne h
  rw [pStmt] at hr
  by_cases h0 : txt ts = [105, 102]
  · rw [if_pos h0] at hr; exact st_if f hB R en toks ts w r h0 hr hne h
  · rw [if_neg h0] at hr
    by_cases h1 : txt ts = [119, 104, 105, 108, 101]
    · rw [if_pos h1] at hr; exact st_while f hB R en toks ts w r h0 h1 hr hne h
    · rw [if_neg h1] at hr
      by_cases h2 : txt ts = [115, 101, 110, 100]
      · rw [if_pos h2] at hr; exact st_send f hB R en toks ts w r h0 h1 h2 hr hne h
      · rw [if_neg h2] at hr
        by_cases h3 : txt ts = [111, 117, 116, 112, 117, 116]
        · rw [if_pos h3] at hr; exact st_output f hB R en toks ts w r h0 h1 h2 h3 hr hne h
        · rw [if_neg h3] at hr; exact st_assign f hB R en toks ts w r h0 h1 h2 h3 hr hne h
end Go.Proofs.YtdlnpfocmgclmaaDoor
