/-
  What primary of a parser of package syntax does with an element of an array. Conditions: the parser lies at block R.
-/
import Derived.Test.YtdlnpfocmgclmaaDoorWalkPr
namespace Go.Proofs.YtdlnpfocmgclmaaDoor
open Go.RowKit

set_option maxHeartbeats 1000000 in
set_option maxRecDepth 100000 in
theorem prim_e_fail (R en : Nat) (toks ts t t' : List Tok) (nm : List UInt8) (w : World) (h : PSt R toks en w ts) (h0 : symS 6 ts = 0) (h1 : txt ts ≠ [40]) (h2 : knd ts ≠ 2) (h3 : nameS ts = .ok nm t) (h4 : txt t = [91])
    (hE : ExpD R en toks t.tail (.fail t')) :
    Calls Tryd.prog 67 #[.pointer (some ⟨R, 0, none⟩)] w (PP R toks en (VEx w.heap.size) (.fail t') w) := by
  have H := Lib.hid h
  have H0 := Lib.hid h0
  have HT : Hid (txt ts ≠ (⟨#[40]⟩ : ByteArray).data.toList) := h1
  have hR := h.lt
  have HNM := Lib.hid h3
  have hk2 : (knd ts == 2) = false := by simp [h2]
  have hf := fld0
  have HT2 : Hid (txt t = (⟨#[91]⟩ : ByteArray).data.toList) := h4
  have HN : Hid (t ≠ []) := fun e => by rw [e] at h4; simp [txt] at h4
  have HE := Lib.hid hE
  clear h h0 h1 h2 h3 h4 hE
  go_enter Tryd.func67, Tryd.ntmps67
  go_wp2_with fail
  refine (sym6_no (H.out.more _) H0.out).mono ?_
  rintro e w1 ⟨rfl, hb⟩
  have H1 := Lib.hid ((H.out.more _).below hb)
  have HB1 := Lib.hid (((Keep.refl R w).alloc exZ).trans (Keep.of_below hb))
  have hz1 := hb.size
  simp only [new_size] at hz1
  have HX := Lib.hid (below_blk hb (new_blk w exZ))
  clear hb
  go_wp2_with fail
  refine (accept_no _ _ _ _ _ _ H1.out HT.out).mono ?_
  rintro e w2 ⟨rfl, hb⟩
  have H2 := Lib.hid (H1.out.below hb)
  have HB2 := Lib.hid (HB1.out.trans (Keep.of_below hb))
  have hz2 := hb.size
  have HX2 := Lib.hid (below_blk hb HX.out)
  clear hb
  go_wp2_with fail
  refine (next_any _ _ _ _ _ H2.out).mono ?_
  rintro e w3 ⟨rfl, hb⟩
  have H3 := Lib.hid (H2.out.below hb)
  have HB3 := Lib.hid (HB2.out.trans (Keep.of_below hb))
  have hz3 := hb.size
  have HX3 := Lib.hid (below_blk hb HX2.out)
  clear hb
  go_wp2_with fail
  refine (name_any _ _ _ _ _ H3.out).mono ?_
  rw [HNM.out]
  rintro e w4 ⟨v, rfl, hv, hp, hk⟩
  unfold VStr at hv
  subst hv
  have H4 := Lib.hid hp
  have HB4 := Lib.hid (HB3.out.trans hk)
  have hz4 := hk.size
  have HX4 := Lib.hid (hk.blk HX3.out (by omega))
  clear hp hk
  go_wp2_with fail
  refine (accept_yes _ _ _ _ _ _ (H4.out.more _) HT2.out HN.out).mono ?_
  rintro e w5 ⟨rfl, hp, hk⟩
  have hz5 := hk.size
  simp only [new_size] at hz5
  have HD := Lib.hid (hk.blk (new_blk w4 _) (by omega))
  have HX5 := Lib.hid (hk.blk ((alloc_blk w4 _ (by omega)).trans HX4.out) (by omega))
  have H5 := Lib.hid hp
  have HB5 := Lib.hid ((HB4.out.alloc _).trans hk)
  clear hp hk
  obtain ⟨d0, d1, d2, d3, d4, d5, g0, g1, g2, g3, g4, g5, hz⟩ := box6 HD.out
  go_wp2_with fail
  clear d0 d1 d2 d3 d4 d5 g0 g1 g2 g3 g4 g5
  have HS5 := Lib.hid (blk_set HD.out 0 (.int .i64 3))
  have HX5s := Lib.hid ((Below.heap_setCell w5 ⟨w4.heap.size, 0, none⟩ (.int .i64 3) w.heap.size (by show _ ≠ w4.heap.size; omega)).trans HX5.out)
  have H5s := Lib.hid (H5.out.up fun k hk => Below.heap_setCell w5 ⟨w4.heap.size, 0, none⟩ (.int .i64 3) k (by show _ ≠ w4.heap.size; omega))
  have HB5s := Lib.hid (HB5.out.setNew (p := ⟨w4.heap.size, 0, none⟩) (by show _ ≤ w4.heap.size; omega) (.int .i64 3))
  obtain ⟨w5s, hw5⟩ : ∃ x, w5.setCell ⟨w4.heap.size, 0, none⟩ (.int .i64 3) = x := ⟨_, rfl⟩
  have hz5s : w5s.heap.size = w5.heap.size := by rw [← hw5]; simp [World.setCell]
  rw [hw5] at HS5 HX5s H5s HB5s ⊢
  clear hw5
  refine (HE.out _ H5s.out).mono ?_
  rintro e w6 ⟨rfl, hk⟩
  go_wp2_with fail
  exact ⟨rfl, rfl, HB5s.out.trans hk⟩

set_option maxHeartbeats 1000000 in
set_option maxRecDepth 100000 in
theorem prim_e_ok (R en : Nat) (toks ts t t' t2 : List Tok) (nm : List UInt8) (e0 : Ex) (w : World) (h : PSt R toks en w ts) (h0 : symS 6 ts = 0) (h1 : txt ts ≠ [40]) (h2 : knd ts ≠ 2) (h3 : nameS ts = .ok nm t) (h4 : txt t = [91])
    (hE : ExpD R en toks t.tail (.ok e0 t')) (h6 : expectS [93] t' = .ok () t2) :
    Calls Tryd.prog 67 #[.pointer (some ⟨R, 0, none⟩)] w (PP R toks en (VEx w.heap.size) (.ok (.mk 3 0 nm 0 0 [e0]) t2) w) := by
  have H := Lib.hid h
  have H0 := Lib.hid h0
  have HT : Hid (txt ts ≠ (⟨#[40]⟩ : ByteArray).data.toList) := h1
  have hR := h.lt
  have HNM := Lib.hid h3
  have hk2 : (knd ts == 2) = false := by simp [h2]
  have hf := fld0
  have HT2 : Hid (txt t = (⟨#[91]⟩ : ByteArray).data.toList) := h4
  have HN : Hid (t ≠ []) := fun e => by rw [e] at h4; simp [txt] at h4
  have H93 := Lib.hid h6
  have HE := Lib.hid hE
  clear h h0 h1 h2 h3 h4 hE h6
  go_enter Tryd.func67, Tryd.ntmps67
  go_wp2_with fail
  refine (sym6_no (H.out.more _) H0.out).mono ?_
  rintro e w1 ⟨rfl, hb⟩
  have H1 := Lib.hid ((H.out.more _).below hb)
  have HB1 := Lib.hid (((Keep.refl R w).alloc exZ).trans (Keep.of_below hb))
  have hz1 := hb.size
  simp only [new_size] at hz1
  have HX := Lib.hid (below_blk hb (new_blk w exZ))
  clear hb
  go_wp2_with fail
  refine (accept_no _ _ _ _ _ _ H1.out HT.out).mono ?_
  rintro e w2 ⟨rfl, hb⟩
  have H2 := Lib.hid (H1.out.below hb)
  have HB2 := Lib.hid (HB1.out.trans (Keep.of_below hb))
  have hz2 := hb.size
  have HX2 := Lib.hid (below_blk hb HX.out)
  clear hb
  go_wp2_with fail
  refine (next_any _ _ _ _ _ H2.out).mono ?_
  rintro e w3 ⟨rfl, hb⟩
  have H3 := Lib.hid (H2.out.below hb)
  have HB3 := Lib.hid (HB2.out.trans (Keep.of_below hb))
  have hz3 := hb.size
  have HX3 := Lib.hid (below_blk hb HX2.out)
  clear hb
  go_wp2_with fail
  refine (name_any _ _ _ _ _ H3.out).mono ?_
  rw [HNM.out]
  rintro e w4 ⟨v, rfl, hv, hp, hk⟩
  unfold VStr at hv
  subst hv
  have H4 := Lib.hid hp
  have HB4 := Lib.hid (HB3.out.trans hk)
  have hz4 := hk.size
  have HX4 := Lib.hid (hk.blk HX3.out (by omega))
  clear hp hk
  go_wp2_with fail
  refine (accept_yes _ _ _ _ _ _ (H4.out.more _) HT2.out HN.out).mono ?_
  rintro e w5 ⟨rfl, hp, hk⟩
  have hz5 := hk.size
  simp only [new_size] at hz5
  have HD := Lib.hid (hk.blk (new_blk w4 _) (by omega))
  have HX5 := Lib.hid (hk.blk ((alloc_blk w4 _ (by omega)).trans HX4.out) (by omega))
  have H5 := Lib.hid hp
  have HB5 := Lib.hid ((HB4.out.alloc _).trans hk)
  clear hp hk
  obtain ⟨d0, d1, d2, d3, d4, d5, g0, g1, g2, g3, g4, g5, hz⟩ := box6 HD.out
  go_wp2_with fail
  clear d0 d1 d2 d3 d4 d5 g0 g1 g2 g3 g4 g5
  have HS5 := Lib.hid (blk_set HD.out 0 (.int .i64 3))
  have HX5s := Lib.hid ((Below.heap_setCell w5 ⟨w4.heap.size, 0, none⟩ (.int .i64 3) w.heap.size (by show _ ≠ w4.heap.size; omega)).trans HX5.out)
  have H5s := Lib.hid (H5.out.up fun k hk => Below.heap_setCell w5 ⟨w4.heap.size, 0, none⟩ (.int .i64 3) k (by show _ ≠ w4.heap.size; omega))
  have HB5s := Lib.hid (HB5.out.setNew (p := ⟨w4.heap.size, 0, none⟩) (by show _ ≤ w4.heap.size; omega) (.int .i64 3))
  obtain ⟨w5s, hw5⟩ : ∃ x, w5.setCell ⟨w4.heap.size, 0, none⟩ (.int .i64 3) = x := ⟨_, rfl⟩
  have hz5s : w5s.heap.size = w5.heap.size := by rw [← hw5]; simp [World.setCell]
  rw [hw5] at HS5 HX5s H5s HB5s ⊢
  clear hw5
  refine (HE.out _ H5s.out).mono ?_
  rintro e w6 ⟨v, rfl, ⟨a, b, s, c, d, A, l, q, rfl, hl⟩, hp, hk⟩
  have HL := Lib.hid hl
  have hz6 := hk.size
  have HD6 := Lib.hid (hk.blk HS5.out (by omega))
  have HX6 := Lib.hid (hk.blk HX5s.out (by omega))
  have H6 := Lib.hid hp
  have HB6 := Lib.hid (HB5s.out.trans hk)
  clear hp hk hl
  obtain ⟨d0, d1, d2, d3, d4, d5, g0, g1, g2, g3, g4, g5, hz'⟩ := box6 HD6.out
  go_wp2_with fail
  clear d0 d1 d2 d3 d4 d5 g0 g1 g2 g3 g4 g5
  have HD7 := Lib.hid ((alloc_blk (w6.setCell ⟨w4.heap.size, 5, none⟩ (.slice (some ⟨w6.heap.size, 0, none⟩) 1 1)) (.cells #[.int .i64 a, .int .i64 b, .string s, .int .i64 c, .int .i64 d, .slice A l q] 34) (by rw [set_size]; omega)).trans (blk_set HD6.out 5 (.slice (some ⟨w6.heap.size, 0, none⟩) 1 1)))
  have HX7 := Lib.hid ((alloc_blk (w6.setCell ⟨w4.heap.size, 5, none⟩ (.slice (some ⟨w6.heap.size, 0, none⟩) 1 1)) (.cells #[.int .i64 a, .int .i64 b, .string s, .int .i64 c, .int .i64 d, .slice A l q] 34) (by rw [set_size]; omega)).trans ((Below.heap_setCell w6 ⟨w4.heap.size, 5, none⟩ (.slice (some ⟨w6.heap.size, 0, none⟩) 1 1) w.heap.size (by show _ ≠ w4.heap.size; omega)).trans HX6.out))
  have H7 := Lib.hid ((H6.out.up fun k hk => Below.heap_setCell w6 ⟨w4.heap.size, 5, none⟩ (.slice (some ⟨w6.heap.size, 0, none⟩) 1 1) k (by show _ ≠ w4.heap.size; omega)).more (.cells #[.int .i64 a, .int .i64 b, .string s, .int .i64 c, .int .i64 d, .slice A l q] 34))
  have HB7 := Lib.hid ((HB6.out.setNew (p := ⟨w4.heap.size, 5, none⟩) (by show _ ≤ w4.heap.size; omega) (.slice (some ⟨w6.heap.size, 0, none⟩) 1 1)).alloc (.cells #[.int .i64 a, .int .i64 b, .string s, .int .i64 c, .int .i64 d, .slice A l q] 34))
  have HL7 : Hid (ExL (From (w.heap.size + 1)) ((w6.setCell ⟨w4.heap.size, 5, none⟩ (.slice (some ⟨w6.heap.size, 0, none⟩) 1 1)).alloc (.cells #[.int .i64 a, .int .i64 b, .string s, .int .i64 c, .int .i64 d, .slice A l q] 34)) (.mk 3 0 nm 0 0 [e0]) [.int .i64 3, .int .i64 0, .string (strB nm), .int .i64 0, .int .i64 0, .slice (some ⟨w6.heap.size, 0, none⟩) 1 1]) := by
    have hl := (HL.out.setCell (m := w5s.heap.size) (Nat.le_refl _) (p := ⟨w4.heap.size, 5, none⟩) (by show w4.heap.size < _; omega) (.slice (some ⟨w6.heap.size, 0, none⟩) 1 1))
    have hr := row1 hl (m := w.heap.size + 1) (by omega) 34
    rw [set_size] at hr
    simp only [ExL]
    exact ⟨_, 1, rfl, Nat.le_refl _, fun _ => ⟨_, _, rfl, (show w.heap.size + 1 ≤ w6.heap.size by omega), hr⟩⟩
  have hz7 : ((w6.setCell ⟨w4.heap.size, 5, none⟩ (.slice (some ⟨w6.heap.size, 0, none⟩) 1 1)).alloc (.cells #[.int .i64 a, .int .i64 b, .string s, .int .i64 c, .int .i64 d, .slice A l q] 34)).heap.size = w6.heap.size + 1 := by rw [new_size, set_size]
  obtain ⟨w7, hw7⟩ : ∃ x, (w6.setCell ⟨w4.heap.size, 5, none⟩ (.slice (some ⟨w6.heap.size, 0, none⟩) 1 1)).alloc (.cells #[.int .i64 a, .int .i64 b, .string s, .int .i64 c, .int .i64 d, .slice A l q] 34) = x := ⟨_, rfl⟩
  rw [hw7] at HD7 HX7 H7 HB7 HL7 hz7 ⊢
  clear hw7
  refine (expect_any ⟨#[93]⟩ (by simp) _ _ _ _ _ H7.out).mono ?_
  rw [show expectS (⟨#[93]⟩ : ByteArray).data.toList t' = .ok () t2 from H93.out]
  rintro e w8 ⟨v, rfl, hv, hp, hk⟩
  unfold VUnit at hv
  subst hv
  have hz8 := hk.size
  obtain ⟨d0, d1, d2, d3, d4, d5, g0, g1, g2, g3, g4, g5, hz''⟩ := box6 (a0 := .int .i64 3) (a1 := .int .i64 0) (a2 := .string (strB nm)) (a3 := .int .i64 0) (a4 := .int .i64 0) (a5 := .slice (some ⟨w6.heap.size, 0, none⟩) 1 1) (hk.blk HD7.out (by omega))
  obtain ⟨c0, c1, c2, c3, c4, c5, f0, f1, f2, f3, f4, f5, hz3'⟩ := box6 (hk.blk HX7.out (by omega))
  have HF := Lib.hid (fin6 (HB7.out.trans hk) rfl hR hp (HL7.out.keep (m := w.heap.size + 1) (Nat.le_refl _) hk (by omega)) (by omega))
  clear hp hk g0 g1 g2 g3 g4 g5
  go_wp2_with fail
  refine bodyPost_ret (v := .agg #[.int .i64 3, .int .i64 0, .string (strB nm), .int .i64 0, .int .i64 0, .slice (some ⟨w6.heap.size, 0, none⟩) 1 1]) ?_ rfl ?_
  · simp [results, Tryd.results67, go_sem, World.cell?_setCell_same, World.cell?_setCell_other, c0, c1, c2, c3, c4, c5]
  · exact HF.out

set_option maxHeartbeats 1000000 in
set_option maxRecDepth 100000 in
theorem prim_e_close (R en : Nat) (toks ts t t' : List Tok) (nm : List UInt8) (e0 : Ex) (w : World) (h : PSt R toks en w ts) (h0 : symS 6 ts = 0) (h1 : txt ts ≠ [40]) (h2 : knd ts ≠ 2) (h3 : nameS ts = .ok nm t) (h4 : txt t = [91])
    (hE : ExpD R en toks t.tail (.ok e0 t')) (h6 : expectS [93] t' = .fail t') :
    Calls Tryd.prog 67 #[.pointer (some ⟨R, 0, none⟩)] w (PP R toks en (VEx w.heap.size) (.fail t') w) := by
  have H := Lib.hid h
  have H0 := Lib.hid h0
  have HT : Hid (txt ts ≠ (⟨#[40]⟩ : ByteArray).data.toList) := h1
  have hR := h.lt
  have HNM := Lib.hid h3
  have hk2 : (knd ts == 2) = false := by simp [h2]
  have hf := fld0
  have HT2 : Hid (txt t = (⟨#[91]⟩ : ByteArray).data.toList) := h4
  have HN : Hid (t ≠ []) := fun e => by rw [e] at h4; simp [txt] at h4
  have H93 := Lib.hid h6
  have HE := Lib.hid hE
  clear h h0 h1 h2 h3 h4 hE h6
  go_enter Tryd.func67, Tryd.ntmps67
  go_wp2_with fail
  refine (sym6_no (H.out.more _) H0.out).mono ?_
  rintro e w1 ⟨rfl, hb⟩
  have H1 := Lib.hid ((H.out.more _).below hb)
  have HB1 := Lib.hid (((Keep.refl R w).alloc exZ).trans (Keep.of_below hb))
  have hz1 := hb.size
  simp only [new_size] at hz1
  have HX := Lib.hid (below_blk hb (new_blk w exZ))
  clear hb
  go_wp2_with fail
  refine (accept_no _ _ _ _ _ _ H1.out HT.out).mono ?_
  rintro e w2 ⟨rfl, hb⟩
  have H2 := Lib.hid (H1.out.below hb)
  have HB2 := Lib.hid (HB1.out.trans (Keep.of_below hb))
  have hz2 := hb.size
  have HX2 := Lib.hid (below_blk hb HX.out)
  clear hb
  go_wp2_with fail
  refine (next_any _ _ _ _ _ H2.out).mono ?_
  rintro e w3 ⟨rfl, hb⟩
  have H3 := Lib.hid (H2.out.below hb)
  have HB3 := Lib.hid (HB2.out.trans (Keep.of_below hb))
  have hz3 := hb.size
  have HX3 := Lib.hid (below_blk hb HX2.out)
  clear hb
  go_wp2_with fail
  refine (name_any _ _ _ _ _ H3.out).mono ?_
  rw [HNM.out]
  rintro e w4 ⟨v, rfl, hv, hp, hk⟩
  unfold VStr at hv
  subst hv
  have H4 := Lib.hid hp
  have HB4 := Lib.hid (HB3.out.trans hk)
  have hz4 := hk.size
  have HX4 := Lib.hid (hk.blk HX3.out (by omega))
  clear hp hk
  go_wp2_with fail
  refine (accept_yes _ _ _ _ _ _ (H4.out.more _) HT2.out HN.out).mono ?_
  rintro e w5 ⟨rfl, hp, hk⟩
  have hz5 := hk.size
  simp only [new_size] at hz5
  have HD := Lib.hid (hk.blk (new_blk w4 _) (by omega))
  have HX5 := Lib.hid (hk.blk ((alloc_blk w4 _ (by omega)).trans HX4.out) (by omega))
  have H5 := Lib.hid hp
  have HB5 := Lib.hid ((HB4.out.alloc _).trans hk)
  clear hp hk
  obtain ⟨d0, d1, d2, d3, d4, d5, g0, g1, g2, g3, g4, g5, hz⟩ := box6 HD.out
  go_wp2_with fail
  clear d0 d1 d2 d3 d4 d5 g0 g1 g2 g3 g4 g5
  have HS5 := Lib.hid (blk_set HD.out 0 (.int .i64 3))
  have HX5s := Lib.hid ((Below.heap_setCell w5 ⟨w4.heap.size, 0, none⟩ (.int .i64 3) w.heap.size (by show _ ≠ w4.heap.size; omega)).trans HX5.out)
  have H5s := Lib.hid (H5.out.up fun k hk => Below.heap_setCell w5 ⟨w4.heap.size, 0, none⟩ (.int .i64 3) k (by show _ ≠ w4.heap.size; omega))
  have HB5s := Lib.hid (HB5.out.setNew (p := ⟨w4.heap.size, 0, none⟩) (by show _ ≤ w4.heap.size; omega) (.int .i64 3))
  obtain ⟨w5s, hw5⟩ : ∃ x, w5.setCell ⟨w4.heap.size, 0, none⟩ (.int .i64 3) = x := ⟨_, rfl⟩
  have hz5s : w5s.heap.size = w5.heap.size := by rw [← hw5]; simp [World.setCell]
  rw [hw5] at HS5 HX5s H5s HB5s ⊢
  clear hw5
  refine (HE.out _ H5s.out).mono ?_
  rintro e w6 ⟨v, rfl, ⟨a, b, s, c, d, A, l, q, rfl, hl⟩, hp, hk⟩
  have HL := Lib.hid hl
  have hz6 := hk.size
  have HD6 := Lib.hid (hk.blk HS5.out (by omega))
  have HX6 := Lib.hid (hk.blk HX5s.out (by omega))
  have H6 := Lib.hid hp
  have HB6 := Lib.hid (HB5s.out.trans hk)
  clear hp hk hl
  obtain ⟨d0, d1, d2, d3, d4, d5, g0, g1, g2, g3, g4, g5, hz'⟩ := box6 HD6.out
  go_wp2_with fail
  clear d0 d1 d2 d3 d4 d5 g0 g1 g2 g3 g4 g5
  have HD7 := Lib.hid ((alloc_blk (w6.setCell ⟨w4.heap.size, 5, none⟩ (.slice (some ⟨w6.heap.size, 0, none⟩) 1 1)) (.cells #[.int .i64 a, .int .i64 b, .string s, .int .i64 c, .int .i64 d, .slice A l q] 34) (by rw [set_size]; omega)).trans (blk_set HD6.out 5 (.slice (some ⟨w6.heap.size, 0, none⟩) 1 1)))
  have HX7 := Lib.hid ((alloc_blk (w6.setCell ⟨w4.heap.size, 5, none⟩ (.slice (some ⟨w6.heap.size, 0, none⟩) 1 1)) (.cells #[.int .i64 a, .int .i64 b, .string s, .int .i64 c, .int .i64 d, .slice A l q] 34) (by rw [set_size]; omega)).trans ((Below.heap_setCell w6 ⟨w4.heap.size, 5, none⟩ (.slice (some ⟨w6.heap.size, 0, none⟩) 1 1) w.heap.size (by show _ ≠ w4.heap.size; omega)).trans HX6.out))
  have H7 := Lib.hid ((H6.out.up fun k hk => Below.heap_setCell w6 ⟨w4.heap.size, 5, none⟩ (.slice (some ⟨w6.heap.size, 0, none⟩) 1 1) k (by show _ ≠ w4.heap.size; omega)).more (.cells #[.int .i64 a, .int .i64 b, .string s, .int .i64 c, .int .i64 d, .slice A l q] 34))
  have HB7 := Lib.hid ((HB6.out.setNew (p := ⟨w4.heap.size, 5, none⟩) (by show _ ≤ w4.heap.size; omega) (.slice (some ⟨w6.heap.size, 0, none⟩) 1 1)).alloc (.cells #[.int .i64 a, .int .i64 b, .string s, .int .i64 c, .int .i64 d, .slice A l q] 34))
  have HL7 : Hid (ExL (From (w.heap.size + 1)) ((w6.setCell ⟨w4.heap.size, 5, none⟩ (.slice (some ⟨w6.heap.size, 0, none⟩) 1 1)).alloc (.cells #[.int .i64 a, .int .i64 b, .string s, .int .i64 c, .int .i64 d, .slice A l q] 34)) (.mk 3 0 nm 0 0 [e0]) [.int .i64 3, .int .i64 0, .string (strB nm), .int .i64 0, .int .i64 0, .slice (some ⟨w6.heap.size, 0, none⟩) 1 1]) := by
    have hl := (HL.out.setCell (m := w5s.heap.size) (Nat.le_refl _) (p := ⟨w4.heap.size, 5, none⟩) (by show w4.heap.size < _; omega) (.slice (some ⟨w6.heap.size, 0, none⟩) 1 1))
    have hr := row1 hl (m := w.heap.size + 1) (by omega) 34
    rw [set_size] at hr
    simp only [ExL]
    exact ⟨_, 1, rfl, Nat.le_refl _, fun _ => ⟨_, _, rfl, (show w.heap.size + 1 ≤ w6.heap.size by omega), hr⟩⟩
  have hz7 : ((w6.setCell ⟨w4.heap.size, 5, none⟩ (.slice (some ⟨w6.heap.size, 0, none⟩) 1 1)).alloc (.cells #[.int .i64 a, .int .i64 b, .string s, .int .i64 c, .int .i64 d, .slice A l q] 34)).heap.size = w6.heap.size + 1 := by rw [new_size, set_size]
  obtain ⟨w7, hw7⟩ : ∃ x, (w6.setCell ⟨w4.heap.size, 5, none⟩ (.slice (some ⟨w6.heap.size, 0, none⟩) 1 1)).alloc (.cells #[.int .i64 a, .int .i64 b, .string s, .int .i64 c, .int .i64 d, .slice A l q] 34) = x := ⟨_, rfl⟩
  rw [hw7] at HD7 HX7 H7 HB7 HL7 hz7 ⊢
  clear hw7
  refine (expect_any ⟨#[93]⟩ (by simp) _ _ _ _ _ H7.out).mono ?_
  rw [show expectS (⟨#[93]⟩ : ByteArray).data.toList t' = .fail t' from H93.out]
  rintro e w8 ⟨rfl, hk⟩
  go_wp2_with fail
  exact ⟨rfl, rfl, HB7.out.trans hk⟩

theorem prim_step (f : Nat) (hE : ExpC f) : PrimC (f + 1) := by
  intro R en toks ts w r hr hne h
  rw [pPrim] at hr
  by_cases h0 : symS 6 ts = 0
  · rw [if_neg (by simpa using h0)] at hr
    by_cases h1 : txt ts = [40]
    · rw [if_pos h1] at hr
      have hE1 : ∀ r1, pBin f 0 ts.tail = r1 → r1 ≠ .out → ExpD R en toks ts.tail r1 := fun r1 e1 n1 w' h' => hE R en toks ts.tail w' r1 e1 n1 h'
      cases e1 : pBin f 0 ts.tail with
      | out => rw [e1] at hr; exact absurd hr.symm hne
      | fail t => rw [e1] at hr; subst hr; exact prim_b_fail R en toks ts t w h h0 h1 (hE1 _ e1 (by simp))
      | ok e t =>
        rw [e1] at hr
        simp only [Res.bind] at hr
        cases e2 : expectS [41] t with
        | out => rw [e2] at hr; exact absurd hr.symm hne
        | fail t' =>
          have e3 : t' = t := by unfold expectS at e2; split at e2 <;> simp at e2; exact e2.symm
          subst e3
          rw [e2] at hr; subst hr; exact prim_b_close R en toks ts t' e w h h0 h1 (hE1 _ e1 (by simp)) e2
        | ok u t' => rw [e2] at hr; subst hr; exact prim_b_ok R en toks ts t t' e w h h0 h1 (hE1 _ e1 (by simp)) e2
    · rw [if_neg h1] at hr
      by_cases h2 : knd ts = 2
      · rw [if_pos h2] at hr
        have e2 : numS 0 ts = .ok (vlu ts) ts.tail := by unfold numS; rw [if_pos ⟨h2, h.vlu.1⟩]
        rw [e2] at hr; subst hr; exact prim_c R en toks ts w h h0 h1 h2
      · rw [if_neg h2] at hr
        cases e2 : nameS ts with
        | out => rw [e2] at hr; exact absurd hr.symm hne
        | fail t =>
          have e3 : t = ts := by unfold nameS at e2; split at e2 <;> simp at e2; exact e2.symm
          subst e3
          rw [e2] at hr; subst hr; exact prim_d_fail R en toks t w h h0 h1 h2 e2
        | ok nm t =>
          rw [e2] at hr
          simp only [Res.bind] at hr
          by_cases h4 : txt t = [91]
          · rw [if_pos h4] at hr
            have hE1 : ∀ r1, pBin f 0 t.tail = r1 → r1 ≠ .out → ExpD R en toks t.tail r1 := fun r1 e1 n1 w' h' => hE R en toks t.tail w' r1 e1 n1 h'
            cases e1 : pBin f 0 t.tail with
            | out => rw [e1] at hr; exact absurd hr.symm hne
            | fail t' => rw [e1] at hr; subst hr; exact prim_e_fail R en toks ts t t' nm w h h0 h1 h2 e2 h4 (hE1 _ e1 (by simp))
            | ok e t' =>
              rw [e1] at hr
              simp only at hr
              cases e5 : expectS [93] t' with
              | out => rw [e5] at hr; exact absurd hr.symm hne
              | fail t2 =>
                have e3 : t2 = t' := by unfold expectS at e5; split at e5 <;> simp at e5; exact e5.symm
                subst e3
                rw [e5] at hr; subst hr; exact prim_e_close R en toks ts t t2 nm e w h h0 h1 h2 e2 h4 (hE1 _ e1 (by simp)) e5
              | ok u t2 => rw [e5] at hr; subst hr; exact prim_e_ok R en toks ts t t' t2 nm e w h h0 h1 h2 e2 h4 (hE1 _ e1 (by simp)) e5
          · rw [if_neg h4] at hr
            subst hr
            exact prim_d_ok R en toks ts t nm w h h0 h1 h2 e2 h4
  · rw [if_pos (by simpa using h0)] at hr
    subst hr
    exact prim_a R en toks ts w h h0
end Go.Proofs.YtdlnpfocmgclmaaDoor
