/-
  What assignment of a parser of package syntax does. Conditions: the parser lies at block R.
-/
import Derived.Test.YtdlnpfocmgclmaaDoorWalkG
namespace Go.Proofs.YtdlnpfocmgclmaaDoor
open Go.RowKit

theorem expect_cases (s : List UInt8) (t : List Tok) : expectS s t = .fail t ∨ expectS s t = .ok () t.tail := by
  unfold expectS; split
  · exact .inr rfl
  · exact .inl rfl

theorem sbP {w : World} {n1 : Nat} {kind : Int} {nm : List UInt8} {p0 p1 p2 p3 p4 p5 v0 v1 v2 v3 v4 v5 b e : Value} (h : w.heap[n1]? = some (.cells (stCells kind nm 0 0 [p0, p1, p2, p3, p4, p5] [v0, v1, v2, v3, v4, v5] b e).toArray 36 (0, 0))) :
    w.cell? ⟨n1, 4, none⟩ = some p0 ∧ w.cell? ⟨n1, 5, none⟩ = some p1 ∧ w.cell? ⟨n1, 6, none⟩ = some p2 ∧ w.cell? ⟨n1, 7, none⟩ = some p3 ∧ w.cell? ⟨n1, 8, none⟩ = some p4 ∧ w.cell? ⟨n1, 9, none⟩ = some p5 ∧
    w.frozen? ⟨n1, 4, none⟩ = false ∧ w.frozen? ⟨n1, 5, none⟩ = false ∧ w.frozen? ⟨n1, 6, none⟩ = false ∧ w.frozen? ⟨n1, 7, none⟩ = false ∧ w.frozen? ⟨n1, 8, none⟩ = false ∧ w.frozen? ⟨n1, 9, none⟩ = false ∧ n1 < w.heap.size :=
  ⟨by rw [Lib.cell_of_heap h]; rfl, by rw [Lib.cell_of_heap h]; rfl, by rw [Lib.cell_of_heap h]; rfl, by rw [Lib.cell_of_heap h]; rfl, by rw [Lib.cell_of_heap h]; rfl, by rw [Lib.cell_of_heap h]; rfl,
   Lib.frozen_of_heap h 4, Lib.frozen_of_heap h 5, Lib.frozen_of_heap h 6, Lib.frozen_of_heap h 7, Lib.frozen_of_heap h 8, Lib.frozen_of_heap h 9, lt_of_block h⟩
theorem sbV {w : World} {n1 : Nat} {kind : Int} {nm : List UInt8} {p0 p1 p2 p3 p4 p5 v0 v1 v2 v3 v4 v5 b e : Value} (h : w.heap[n1]? = some (.cells (stCells kind nm 0 0 [p0, p1, p2, p3, p4, p5] [v0, v1, v2, v3, v4, v5] b e).toArray 36 (0, 0))) :
    w.cell? ⟨n1, 10, none⟩ = some v0 ∧ w.cell? ⟨n1, 11, none⟩ = some v1 ∧ w.cell? ⟨n1, 12, none⟩ = some v2 ∧ w.cell? ⟨n1, 13, none⟩ = some v3 ∧ w.cell? ⟨n1, 14, none⟩ = some v4 ∧ w.cell? ⟨n1, 15, none⟩ = some v5 ∧
    w.frozen? ⟨n1, 10, none⟩ = false ∧ w.frozen? ⟨n1, 11, none⟩ = false ∧ w.frozen? ⟨n1, 12, none⟩ = false ∧ w.frozen? ⟨n1, 13, none⟩ = false ∧ w.frozen? ⟨n1, 14, none⟩ = false ∧ w.frozen? ⟨n1, 15, none⟩ = false ∧ n1 < w.heap.size :=
  ⟨by rw [Lib.cell_of_heap h]; rfl, by rw [Lib.cell_of_heap h]; rfl, by rw [Lib.cell_of_heap h]; rfl, by rw [Lib.cell_of_heap h]; rfl, by rw [Lib.cell_of_heap h]; rfl, by rw [Lib.cell_of_heap h]; rfl,
   Lib.frozen_of_heap h 10, Lib.frozen_of_heap h 11, Lib.frozen_of_heap h 12, Lib.frozen_of_heap h 13, Lib.frozen_of_heap h 14, Lib.frozen_of_heap h 15, lt_of_block h⟩

set_option maxHeartbeats 4000000 in
set_option maxRecDepth 100000 in
theorem assign_plain (f R en : Nat) (toks ts t0 : List Tok) (nm : List UInt8) (w : World) (r : Res St) (hr : pAssign f ts = r) (hne : r ≠ .out) (h : PSt R toks en w ts) (h3 : nameS ts = .ok nm t0) (h4 : txt t0 ≠ [91]) :
    Calls Tryd.prog 53 #[.pointer (some ⟨R, 0, none⟩)] w (PP R toks en (VSt w.heap.size) r w) := by
  have hR := h.lt
  have H := Lib.hid h
  have HNE := Lib.hid hne
  have HNM := Lib.hid h3
  have HT : Hid (txt t0 ≠ (⟨#[91]⟩ : ByteArray).data.toList) := h4
  
  unfold pAssign at hr
  rw [h3] at hr
  simp only [Res.bind, if_neg h4] at hr
  have HR := Lib.hid hr
  clear h hne h3 h4 hr
  go_enter Tryd.func53, Tryd.ntmps53
  go_wp2_with fail
  refine (name_any _ _ _ _ _ (H.out.more _)).mono ?_
  rw [HNM.out]
  rintro e w0 ⟨v, rfl, hv, hp, hk⟩
  unfold VStr at hv
  subst hv
  have HS0 := Lib.hid (SB.start hR hk hp (stCells 1 nm 0 0 [.int .i64 0, .int .i64 0, .string ⟨#[]⟩, .int .i64 0, .int .i64 0, .slice none 0 0] [.int .i64 0, .int .i64 0, .string ⟨#[]⟩, .int .i64 0, .int .i64 0, .slice none 0 0] (.slice none 0 0) (.slice none 0 0)).toArray rfl)
  clear hp hk
  go_wp2_with fail
  refine (accept_no _ _ _ _ _ _ HS0.out.p HT.out).mono ?_
  rintro e w00 ⟨rfl, hb⟩
  have HS00 := Lib.hid (HS0.out.below hb)
  clear hb HS0
  go_wp2_with fail
  rcases expect_cases [61] t0 with hx | hx
  · refine (expect_any ⟨#[61]⟩ (by simp) _ _ _ _ _ HS00.out.p).mono ?_
    rw [show expectS (⟨#[61]⟩ : ByteArray).data.toList t0 = .fail t0 from hx]
    rintro e w9 ⟨rfl, hk⟩
    have hr := HR.out
    simp only [hx] at hr
    have HQ := Lib.hid hr
    clear hr hx
    go_wp2_with fail
    rw [← HQ.out]
    exact ⟨rfl, rfl, HS00.out.k.trans hk⟩
  refine (expect_any ⟨#[61]⟩ (by simp) _ _ _ _ _ HS00.out.p).mono ?_
  rw [show expectS (⟨#[61]⟩ : ByteArray).data.toList t0 = .ok () t0.tail from hx]
  rintro e w1 ⟨v, rfl, hv, hp, hk⟩
  unfold VUnit at hv
  subst hv
  have hr := HR.out
  simp only [hx] at hr
  clear HR
  have HR := Lib.hid hr
  clear hr hx
  have HS1 := Lib.hid (HS00.out.keep hk hp)
  clear HS00 
  clear hp hk
  go_wp2_with fail
  obtain ⟨r2, hr2⟩ : ∃ r', pBin f 0 t0.tail = r' := ⟨_, rfl⟩
  have hr := HR.out
  rw [hr2] at hr
  have hne2 : r2 ≠ .out := fun e => by rw [e] at hr; exact HNE.out hr.symm
  refine (exp_all f R en toks t0.tail _ r2 hr2 hne2 HS1.out.p).mono ?_
  clear HR hr2
  have HR := Lib.hid hr
  clear hr
  cases r2 with
  | out => exact absurd rfl hne2
  | fail t' =>
    rintro e w9 ⟨rfl, hk⟩
    go_wp2_with fail
    have hr := HR.out
    try simp only at hr
    rw [← hr]
    exact ⟨rfl, rfl, HS1.out.k.trans hk⟩
  | ok e2 t2 =>
    rintro e w2 ⟨v, rfl, ⟨a2, b2, s2, c2, d2, A2, l2, q2, rfl, hl⟩, hp, hk⟩
    have hr := HR.out
    simp only at hr
    clear HR hne2
    have HR := Lib.hid hr
    clear hr
    have HPn2 := Lib.hid (PX.late (n0 := w.heap.size) (n1 := w0.heap.size) hl HS1.out.lt1 HS1.out.lt)
    have HS2 := Lib.hid (HS1.out.keep hk hp)
    clear HS1 
    obtain ⟨y0, y1, y2, y3, y4, y5, z0, z1, z2, z3, z4, z5, hn9⟩ := sbV HS2.out.h1
    have HS3 : Hid (SB R en w.heap.size (w0.heap.size) toks w ((((((w2.setCell ⟨w0.heap.size, 10, none⟩ (.int .i64 a2)).setCell ⟨w0.heap.size, 11, none⟩ (.int .i64 b2)).setCell ⟨w0.heap.size, 12, none⟩ (.string s2)).setCell ⟨w0.heap.size, 13, none⟩ (.int .i64 c2)).setCell ⟨w0.heap.size, 14, none⟩ (.int .i64 d2)).setCell ⟨w0.heap.size, 15, none⟩ (.slice A2 l2 q2)) t2 (stCells 1 nm 0 0 [.int .i64 0, .int .i64 0, .string ⟨#[]⟩, .int .i64 0, .int .i64 0, .slice none 0 0] [.int .i64 a2, .int .i64 b2, .string s2, .int .i64 c2, .int .i64 d2, .slice A2 l2 q2] (.slice none 0 0) (.slice none 0 0))) := ((((((HS2.out.set 10 (.int .i64 a2)).set 11 (.int .i64 b2)).set 12 (.string s2)).set 13 (.int .i64 c2)).set 14 (.int .i64 d2)).set 15 (.slice A2 l2 q2))
    have HPn3 := Lib.hid ((((((HPn2.out.set 10 (.int .i64 a2)).set 11 (.int .i64 b2)).set 12 (.string s2)).set 13 (.int .i64 c2)).set 14 (.int .i64 d2)).set 15 (.slice A2 l2 q2))
    clear hl hp hk HS2 HPn2
    go_wp2_with fail
    clear y0 y1 y2 y3 y4 y5 z0 z1 z2 z3 z4 z5 hn9
    rcases expect_cases [59] t2 with hx | hx
    · refine (expect_any ⟨#[59]⟩ (by simp) _ _ _ _ _ HS3.out.p).mono ?_
      rw [show expectS (⟨#[59]⟩ : ByteArray).data.toList t2 = .fail t2 from hx]
      rintro e w9 ⟨rfl, hk⟩
      have hr := HR.out
      simp only [hx] at hr
      have HQ := Lib.hid hr
      clear hr hx
      go_wp2_with fail
      rw [← HQ.out]
      exact ⟨rfl, rfl, HS3.out.k.trans hk⟩
    refine (expect_any ⟨#[59]⟩ (by simp) _ _ _ _ _ HS3.out.p).mono ?_
    rw [show expectS (⟨#[59]⟩ : ByteArray).data.toList t2 = .ok () t2.tail from hx]
    rintro e w4 ⟨v, rfl, hv, hp, hk⟩
    unfold VUnit at hv
    subst hv
    have hr := HR.out
    simp only [hx] at hr
    clear HR
    have HR := Lib.hid hr
    clear hr hx
    have HPv4 := Lib.hid (HPn3.out.keep hk hR)
    have HS4 := Lib.hid (HS3.out.keep hk hp)
    clear HS3 HPn3
    clear hp hk
    have hr := HR.out
    clear HR
    have HQ := Lib.hid hr
    clear hr
    have HM := Lib.hid (st_mk (kind := 1) (name := nm) PX.zero HPv4.out PL.nil PL.nil)
    go_wp2_with (first | (refine wpList_load_row rfl 36 _ rfl (w0.heap.size) rfl 36 _ _ _ HS4.out.h1 Tryd.underlying36 rfl (by kernel_rfl) ?_) | (refine wpList_store_row rfl 36 _ _ rfl w.heap.size _ rfl rfl _ _ HS4.out.h0 HM.out.info HM.out.size18 HM.out.one ?_))
    rw [← HQ.out]
    refine bodyPost_ret (results_cell_row rfl _ _ w.heap.size 36 _ _ _ rfl (setRow_same HS4.out.h0) Tryd.underlying36 rfl HM.out.info) rfl ?_
    exact HS4.out.fin HM.out

set_option maxHeartbeats 4000000 in
set_option maxRecDepth 100000 in
theorem assign_index (f R en : Nat) (toks ts t0 : List Tok) (nm : List UInt8) (w : World) (r : Res St) (hr : pAssign f ts = r) (hne : r ≠ .out) (h : PSt R toks en w ts) (h3 : nameS ts = .ok nm t0) (h4 : txt t0 = [91]) :
    Calls Tryd.prog 53 #[.pointer (some ⟨R, 0, none⟩)] w (PP R toks en (VSt w.heap.size) r w) := by
  have hR := h.lt
  have H := Lib.hid h
  have HNE := Lib.hid hne
  have HNM := Lib.hid h3
  have HT : Hid (txt t0 = (⟨#[91]⟩ : ByteArray).data.toList) := h4
  have HN : Hid (t0 ≠ []) := fun e => by rw [e] at h4; simp [txt] at h4
  unfold pAssign at hr
  rw [h3] at hr
  simp only [Res.bind, if_pos h4] at hr
  have HR := Lib.hid hr
  clear h hne h3 h4 hr
  go_enter Tryd.func53, Tryd.ntmps53
  go_wp2_with fail
  refine (name_any _ _ _ _ _ (H.out.more _)).mono ?_
  rw [HNM.out]
  rintro e w0 ⟨v, rfl, hv, hp, hk⟩
  unfold VStr at hv
  subst hv
  have HS0 := Lib.hid (SB.start hR hk hp (stCells 1 nm 0 0 [.int .i64 0, .int .i64 0, .string ⟨#[]⟩, .int .i64 0, .int .i64 0, .slice none 0 0] [.int .i64 0, .int .i64 0, .string ⟨#[]⟩, .int .i64 0, .int .i64 0, .slice none 0 0] (.slice none 0 0) (.slice none 0 0)).toArray rfl)
  clear hp hk
  go_wp2_with fail
  refine (accept_yes _ _ _ _ _ _ HS0.out.p HT.out HN.out).mono ?_
  rintro e w00 ⟨rfl, hp, hk⟩
  have HS00 := Lib.hid (HS0.out.keep hk hp)
  clear HS0 
  clear hp hk
  have hc0 : w00.cell? ⟨w0.heap.size, 0, none⟩ = some (.int .i64 1) := by rw [Lib.cell_of_heap HS00.out.h1]; rfl
  have hf0 : w00.frozen? ⟨w0.heap.size, 0, none⟩ = false := Lib.frozen_of_heap HS00.out.h1 0
  have hn9 := HS00.out.lt1
  go_wp2_with fail
  clear hc0 hf0 hn9
  have HS01 : Hid (SB R en w.heap.size (w0.heap.size) toks w (w00.setCell ⟨w0.heap.size, 0, none⟩ (.int .i64 2)) t0.tail (stCells 2 nm 0 0 [.int .i64 0, .int .i64 0, .string ⟨#[]⟩, .int .i64 0, .int .i64 0, .slice none 0 0] [.int .i64 0, .int .i64 0, .string ⟨#[]⟩, .int .i64 0, .int .i64 0, .slice none 0 0] (.slice none 0 0) (.slice none 0 0))) := HS00.out.set 0 (.int .i64 2)
  clear HS00
  obtain ⟨r1, hr1⟩ : ∃ r', pBin f 0 t0.tail = r' := ⟨_, rfl⟩
  have hr := HR.out
  rw [hr1] at hr
  have hne1 : r1 ≠ .out := fun e => by rw [e] at hr; exact HNE.out hr.symm
  refine (exp_all f R en toks t0.tail _ r1 hr1 hne1 HS01.out.p).mono ?_
  clear HR hr1
  have HR := Lib.hid hr
  clear hr
  cases r1 with
  | out => exact absurd rfl hne1
  | fail t' =>
    rintro e w9 ⟨rfl, hk⟩
    go_wp2_with fail
    have hr := HR.out
    try simp only at hr
    rw [← hr]
    exact ⟨rfl, rfl, HS01.out.k.trans hk⟩
  | ok e1 t1 =>
    rintro e w1 ⟨v, rfl, ⟨a1, b1, s1, c1, d1, A1, l1, q1, rfl, hl⟩, hp, hk⟩
    have hr := HR.out
    simp only at hr
    clear HR hne1
    have HR := Lib.hid hr
    clear hr
    have HPn1 := Lib.hid (PX.late (n0 := w.heap.size) (n1 := w0.heap.size) hl HS01.out.lt1 HS01.out.lt)
    have HS1 := Lib.hid (HS01.out.keep hk hp)
    clear HS01 
    obtain ⟨y0, y1, y2, y3, y4, y5, z0, z1, z2, z3, z4, z5, hn9⟩ := sbP HS1.out.h1
    have HS2 : Hid (SB R en w.heap.size (w0.heap.size) toks w ((((((w1.setCell ⟨w0.heap.size, 4, none⟩ (.int .i64 a1)).setCell ⟨w0.heap.size, 5, none⟩ (.int .i64 b1)).setCell ⟨w0.heap.size, 6, none⟩ (.string s1)).setCell ⟨w0.heap.size, 7, none⟩ (.int .i64 c1)).setCell ⟨w0.heap.size, 8, none⟩ (.int .i64 d1)).setCell ⟨w0.heap.size, 9, none⟩ (.slice A1 l1 q1)) t1 (stCells 2 nm 0 0 [.int .i64 a1, .int .i64 b1, .string s1, .int .i64 c1, .int .i64 d1, .slice A1 l1 q1] [.int .i64 0, .int .i64 0, .string ⟨#[]⟩, .int .i64 0, .int .i64 0, .slice none 0 0] (.slice none 0 0) (.slice none 0 0))) := ((((((HS1.out.set 4 (.int .i64 a1)).set 5 (.int .i64 b1)).set 6 (.string s1)).set 7 (.int .i64 c1)).set 8 (.int .i64 d1)).set 9 (.slice A1 l1 q1))
    have HPn2 := Lib.hid ((((((HPn1.out.set 4 (.int .i64 a1)).set 5 (.int .i64 b1)).set 6 (.string s1)).set 7 (.int .i64 c1)).set 8 (.int .i64 d1)).set 9 (.slice A1 l1 q1))
    clear hl hp hk HS1 HPn1
    go_wp2_with fail
    clear y0 y1 y2 y3 y4 y5 z0 z1 z2 z3 z4 z5 hn9
    rcases expect_cases [93] t1 with hx | hx
    · refine (expect_any ⟨#[93]⟩ (by simp) _ _ _ _ _ HS2.out.p).mono ?_
      rw [show expectS (⟨#[93]⟩ : ByteArray).data.toList t1 = .fail t1 from hx]
      rintro e w9 ⟨rfl, hk⟩
      have hr := HR.out
      simp only [hx] at hr
      have HQ := Lib.hid hr
      clear hr hx
      go_wp2_with fail
      rw [← HQ.out]
      exact ⟨rfl, rfl, HS2.out.k.trans hk⟩
    refine (expect_any ⟨#[93]⟩ (by simp) _ _ _ _ _ HS2.out.p).mono ?_
    rw [show expectS (⟨#[93]⟩ : ByteArray).data.toList t1 = .ok () t1.tail from hx]
    rintro e w3 ⟨v, rfl, hv, hp, hk⟩
    unfold VUnit at hv
    subst hv
    have hr := HR.out
    simp only [hx] at hr
    clear HR
    have HR := Lib.hid hr
    clear hr hx
    have HPp3 := Lib.hid (HPn2.out.keep hk hR)
    have HS3 := Lib.hid (HS2.out.keep hk hp)
    clear HS2 HPn2
    clear hp hk
    go_wp2_with fail
    rcases expect_cases [61] t1.tail with hx | hx
    · refine (expect_any ⟨#[61]⟩ (by simp) _ _ _ _ _ HS3.out.p).mono ?_
      rw [show expectS (⟨#[61]⟩ : ByteArray).data.toList t1.tail = .fail t1.tail from hx]
      rintro e w9 ⟨rfl, hk⟩
      have hr := HR.out
      simp only [hx] at hr
      have HQ := Lib.hid hr
      clear hr hx
      go_wp2_with fail
      rw [← HQ.out]
      exact ⟨rfl, rfl, HS3.out.k.trans hk⟩
    refine (expect_any ⟨#[61]⟩ (by simp) _ _ _ _ _ HS3.out.p).mono ?_
    rw [show expectS (⟨#[61]⟩ : ByteArray).data.toList t1.tail = .ok () t1.tail.tail from hx]
    rintro e w4 ⟨v, rfl, hv, hp, hk⟩
    unfold VUnit at hv
    subst hv
    have hr := HR.out
    simp only [hx] at hr
    clear HR
    have HR := Lib.hid hr
    clear hr hx
    have HPp4 := Lib.hid (HPp3.out.keep hk hR)
    have HS4 := Lib.hid (HS3.out.keep hk hp)
    clear HS3 HPp3
    clear hp hk
    go_wp2_with fail
    obtain ⟨r5, hr5⟩ : ∃ r', pBin f 0 t1.tail.tail = r' := ⟨_, rfl⟩
    have hr := HR.out
    rw [hr5] at hr
    have hne5 : r5 ≠ .out := fun e => by rw [e] at hr; exact HNE.out hr.symm
    refine (exp_all f R en toks t1.tail.tail _ r5 hr5 hne5 HS4.out.p).mono ?_
    clear HR hr5
    have HR := Lib.hid hr
    clear hr
    cases r5 with
    | out => exact absurd rfl hne5
    | fail t' =>
      rintro e w9 ⟨rfl, hk⟩
      go_wp2_with fail
      have hr := HR.out
      try simp only at hr
      rw [← hr]
      exact ⟨rfl, rfl, HS4.out.k.trans hk⟩
    | ok e5 t5 =>
      rintro e w5 ⟨v, rfl, ⟨a5, b5, s5, c5, d5, A5, l5, q5, rfl, hl⟩, hp, hk⟩
      have hr := HR.out
      simp only at hr
      clear HR hne5
      have HR := Lib.hid hr
      clear hr
      have HPn5 := Lib.hid (PX.late (n0 := w.heap.size) (n1 := w0.heap.size) hl HS4.out.lt1 HS4.out.lt)
      have HPp5 := Lib.hid (HPp4.out.keep hk hR)
      have HS5 := Lib.hid (HS4.out.keep hk hp)
      clear HS4 HPp4
      obtain ⟨y0, y1, y2, y3, y4, y5, z0, z1, z2, z3, z4, z5, hn9⟩ := sbV HS5.out.h1
      have HS6 : Hid (SB R en w.heap.size (w0.heap.size) toks w ((((((w5.setCell ⟨w0.heap.size, 10, none⟩ (.int .i64 a5)).setCell ⟨w0.heap.size, 11, none⟩ (.int .i64 b5)).setCell ⟨w0.heap.size, 12, none⟩ (.string s5)).setCell ⟨w0.heap.size, 13, none⟩ (.int .i64 c5)).setCell ⟨w0.heap.size, 14, none⟩ (.int .i64 d5)).setCell ⟨w0.heap.size, 15, none⟩ (.slice A5 l5 q5)) t5 (stCells 2 nm 0 0 [.int .i64 a1, .int .i64 b1, .string s1, .int .i64 c1, .int .i64 d1, .slice A1 l1 q1] [.int .i64 a5, .int .i64 b5, .string s5, .int .i64 c5, .int .i64 d5, .slice A5 l5 q5] (.slice none 0 0) (.slice none 0 0))) := ((((((HS5.out.set 10 (.int .i64 a5)).set 11 (.int .i64 b5)).set 12 (.string s5)).set 13 (.int .i64 c5)).set 14 (.int .i64 d5)).set 15 (.slice A5 l5 q5))
      have HPp6 := Lib.hid ((((((HPp5.out.set 10 (.int .i64 a5)).set 11 (.int .i64 b5)).set 12 (.string s5)).set 13 (.int .i64 c5)).set 14 (.int .i64 d5)).set 15 (.slice A5 l5 q5))
      have HPn6 := Lib.hid ((((((HPn5.out.set 10 (.int .i64 a5)).set 11 (.int .i64 b5)).set 12 (.string s5)).set 13 (.int .i64 c5)).set 14 (.int .i64 d5)).set 15 (.slice A5 l5 q5))
      clear hl hp hk HS5 HPp5 HPn5
      go_wp2_with fail
      clear y0 y1 y2 y3 y4 y5 z0 z1 z2 z3 z4 z5 hn9
      rcases expect_cases [59] t5 with hx | hx
      · refine (expect_any ⟨#[59]⟩ (by simp) _ _ _ _ _ HS6.out.p).mono ?_
        rw [show expectS (⟨#[59]⟩ : ByteArray).data.toList t5 = .fail t5 from hx]
        rintro e w9 ⟨rfl, hk⟩
        have hr := HR.out
        simp only [hx] at hr
        have HQ := Lib.hid hr
        clear hr hx
        go_wp2_with fail
        rw [← HQ.out]
        exact ⟨rfl, rfl, HS6.out.k.trans hk⟩
      refine (expect_any ⟨#[59]⟩ (by simp) _ _ _ _ _ HS6.out.p).mono ?_
      rw [show expectS (⟨#[59]⟩ : ByteArray).data.toList t5 = .ok () t5.tail from hx]
      rintro e w7 ⟨v, rfl, hv, hp, hk⟩
      unfold VUnit at hv
      subst hv
      have hr := HR.out
      simp only [hx] at hr
      clear HR
      have HR := Lib.hid hr
      clear hr hx
      have HPp7 := Lib.hid (HPp6.out.keep hk hR)
      have HPv7 := Lib.hid (HPn6.out.keep hk hR)
      have HS7 := Lib.hid (HS6.out.keep hk hp)
      clear HS6 HPp6 HPn6
      clear hp hk
      have hr := HR.out
      clear HR
      have HQ := Lib.hid hr
      clear hr
      have HM := Lib.hid (st_mk (kind := 2) (name := nm) HPp7.out HPv7.out PL.nil PL.nil)
      go_wp2_with (first | (refine wpList_load_row rfl 36 _ rfl (w0.heap.size) rfl 36 _ _ _ HS7.out.h1 Tryd.underlying36 rfl (by kernel_rfl) ?_) | (refine wpList_store_row rfl 36 _ _ rfl w.heap.size _ rfl rfl _ _ HS7.out.h0 HM.out.info HM.out.size18 HM.out.one ?_))
      rw [← HQ.out]
      refine bodyPost_ret (results_cell_row rfl _ _ w.heap.size 36 _ _ _ rfl (setRow_same HS7.out.h0) Tryd.underlying36 rfl HM.out.info) rfl ?_
      exact HS7.out.fin HM.out

theorem assign_any (f R en : Nat) (toks ts : List Tok) (w : World) (r : Res St) (hr : pAssign f ts = r) (hne : r ≠ .out) (h : PSt R toks en w ts) :
    Calls Tryd.prog 53 #[.pointer (some ⟨R, 0, none⟩)] w (PP R toks en (VSt w.heap.size) r w) := by
  cases h3 : nameS ts with
  | out => unfold pAssign at hr; rw [h3] at hr; exact absurd hr.symm hne
  | fail t =>
    have hr' := hr
    unfold pAssign at hr'
    rw [h3] at hr'
    have HQ : Hid (r = .fail t) := hr'.symm
    have HNM := Lib.hid h3
    have H := Lib.hid h
    clear hr hr' h3 h hne
    go_enter Tryd.func53, Tryd.ntmps53
    go_wp2_with fail
    refine (name_any _ _ _ _ _ (H.out.more _)).mono ?_
    rw [HNM.out]
    rintro e w0 ⟨rfl, hk⟩
    go_wp2_with fail
    rw [HQ.out]
    exact ⟨rfl, rfl, ((Keep.refl R w).alloc _).trans hk⟩
  | ok nm t =>
    by_cases h4 : txt t = [91]
    · exact assign_index f R en toks ts t nm w r hr hne h h3 h4
    · exact assign_plain f R en toks ts t nm w r hr hne h h3 h4
end Go.Proofs.YtdlnpfocmgclmaaDoor
