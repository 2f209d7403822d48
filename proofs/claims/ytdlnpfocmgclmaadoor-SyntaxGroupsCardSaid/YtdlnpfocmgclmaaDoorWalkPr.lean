/-
  What primary of a parser of package syntax does, as long as expr does what it ought to at a lesser bound. Conditions: the parser lies at block R.
-/
import Derived.Test.YtdlnpfocmgclmaaDoorWalkU
namespace Go.Proofs.YtdlnpfocmgclmaaDoor
open Go.RowKit

theorem ex_plain (n : Nat) (w : World) (op v : Int) (nm : List UInt8) : ExL (From n) w (.mk op v nm 0 0 []) [.int .i64 op, .int .i64 v, .string (strB nm), .int .i64 0, .int .i64 0, .slice none 0 0] := by
  simp only [ExL]
  exact ⟨none, 0, rfl, Nat.le_refl _, fun h => absurd rfl h⟩

set_option maxHeartbeats 1000000 in
set_option maxRecDepth 100000 in
theorem prim_a (R en : Nat) (toks ts : List Tok) (w : World) (h : PSt R toks en w ts) (h0 : symS 6 ts ≠ 0) :
    Calls Tryd.prog 67 #[.pointer (some ⟨R, 0, none⟩)] w (PP R toks en (VEx w.heap.size) (.ok (.mk (symS 6 ts) 0 [] 0 0 []) ts.tail) w) := by
  have hR := h.lt
  have H := Lib.hid h
  have H0 := Lib.hid h0
  have hop : (symS 6 ts != 0) = true := by simpa using h0
  clear h h0
  obtain ⟨op, hop'⟩ : ∃ op, symS 6 ts = op := ⟨_, rfl⟩
  have HOP := Lib.hid hop'
  rw [hop'] at hop ⊢
  clear hop'
  go_enter Tryd.func67, Tryd.ntmps67
  go_wp2_with fail
  refine (symbol_any _ _ _ _ _ _ (H.out.more _)).mono ?_
  rintro e w1 (⟨hn, _⟩ | ⟨_, rfl, hp, hk⟩)
  · exact absurd hn H0.out
  · rw [HOP.out]
    obtain ⟨c0, c1, c2, c3, c4, c5, f0, f1, f2, f3, f4, f5, hz⟩ := box6 (hk.blk (new_blk w exZ) (by omega))
    have HF := Lib.hid (fin6 (((Keep.refl R w).alloc _).trans hk) rfl hR hp (ex_plain (w.heap.size + 1) w1 op 0 []) (by omega))
    clear hp hk
    go_wp2_with fail
    refine bodyPost_ret (v := .agg #[.int .i64 op, .int .i64 0, .string ⟨#[]⟩, .int .i64 0, .int .i64 0, .slice none 0 0]) ?_ rfl ?_
    · simp [results, Tryd.results67, go_sem, World.cell?_setCell_same, World.cell?_setCell_other, c0, c1, c2, c3, c4, c5]
    · exact HF.out

/-- The walk's beginning where no word makes an expression: nothing has been taken. -/
theorem sym6_no {R en : Nat} {toks ts : List Tok} {w : World} (h : PSt R toks en w ts) (h0 : symS 6 ts = 0) :
    Calls Tryd.prog 65 #[.pointer (some ⟨R, 0, none⟩), .int .i64 6] w fun e w' => e = .returned (.int .i64 0) ∧ Below w.heap.size w w' :=
  (symbol_any 6 R en toks ts w h).mono fun e w' hh => by
    rcases hh with ⟨_, he, hb⟩ | ⟨hn, _⟩
    · exact ⟨he, hb⟩
    · exact absurd h0 hn

def ExpD (R en : Nat) (toks ts : List Tok) (r : Res Ex) : Prop := ∀ w', PSt R toks en w' ts → Calls Tryd.prog 52 #[.pointer (some ⟨R, 0, none⟩)] w' (PP R toks en (VEx w'.heap.size) r w')

set_option maxHeartbeats 1000000 in
set_option maxRecDepth 100000 in
theorem prim_b_fail (R en : Nat) (toks ts t : List Tok) (w : World) (h : PSt R toks en w ts) (h0 : symS 6 ts = 0) (h1 : txt ts = [40]) (hE : ExpD R en toks ts.tail (.fail t)) :
    Calls Tryd.prog 67 #[.pointer (some ⟨R, 0, none⟩)] w (PP R toks en (VEx w.heap.size) (.fail t) w) := by
  have H := Lib.hid h
  have H0 := Lib.hid h0
  have HT : Hid (txt ts = (⟨#[40]⟩ : ByteArray).data.toList) := h1
  have HN : Hid (ts ≠ []) := fun e => by rw [e] at h1; simp [txt] at h1
  have HE := Lib.hid hE
  clear h h0 h1 hE
  go_enter Tryd.func67, Tryd.ntmps67
  go_wp2_with fail
  refine (sym6_no (H.out.more _) H0.out).mono ?_
  rintro e w1 ⟨rfl, hb⟩
  have H1 := Lib.hid ((H.out.more _).below hb)
  have HB := Lib.hid hb
  clear hb
  go_wp2_with fail
  refine (accept_yes _ _ _ _ _ _ H1.out HT.out HN.out).mono ?_
  rintro e w2 ⟨rfl, hp, hk⟩
  have H2 := Lib.hid hp
  have HK := Lib.hid hk
  clear hp hk
  go_wp2_with fail
  refine (HE.out _ H2.out).mono ?_
  rintro e w3 ⟨rfl, hk⟩
  go_wp2_with fail
  exact ⟨rfl, rfl, ((((Keep.refl R w).alloc _).trans (Keep.of_below HB.out)).trans HK.out).trans hk⟩
set_option maxHeartbeats 1000000 in
set_option maxRecDepth 100000 in
theorem prim_b_close (R en : Nat) (toks ts t : List Tok) (e0 : Ex) (w : World) (h : PSt R toks en w ts) (h0 : symS 6 ts = 0) (h1 : txt ts = [40]) (hE : ExpD R en toks ts.tail (.ok e0 t)) (h5 : expectS [41] t = .fail t) :
    Calls Tryd.prog 67 #[.pointer (some ⟨R, 0, none⟩)] w (PP R toks en (VEx w.heap.size) (.fail t) w) := by
  have H := Lib.hid h
  have H0 := Lib.hid h0
  have HT : Hid (txt ts = (⟨#[40]⟩ : ByteArray).data.toList) := h1
  have HN : Hid (ts ≠ []) := fun e => by rw [e] at h1; simp [txt] at h1
  have HE := Lib.hid hE
  have hR := h.lt
  have H5 := Lib.hid h5
  clear h h0 h1 hE h5
  go_enter Tryd.func67, Tryd.ntmps67
  go_wp2_with fail
  refine (sym6_no (H.out.more _) H0.out).mono ?_
  rintro e w1 ⟨rfl, hb⟩
  have H1 := Lib.hid ((H.out.more _).below hb)
  have HB := Lib.hid hb
  clear hb
  go_wp2_with fail
  refine (accept_yes _ _ _ _ _ _ H1.out HT.out HN.out).mono ?_
  rintro e w2 ⟨rfl, hp, hk⟩
  have H2 := Lib.hid hp
  have HK := Lib.hid hk
  clear hp hk
  go_wp2_with fail
  refine (HE.out _ H2.out).mono ?_
  rintro e w3 ⟨v, rfl, ⟨a, b, s, c, d, A, l, q, rfl, hl⟩, hp, hk⟩
  have HL := Lib.hid hl
  have H3 := Lib.hid hp
  have HK3 := Lib.hid hk
  clear hl hp hk
  have hz1 := HB.out.size
  have hz2 := HK.out.size
  have hz3 := HK3.out.size
  simp only [new_size] at hz1
  go_wp2_with fail
  refine (expect_any ⟨#[41]⟩ (by simp) _ _ _ _ _ (H3.out.more _)).mono ?_
  rw [show expectS (⟨#[41]⟩ : ByteArray).data.toList t = .fail t from H5.out]
  rintro e w4 ⟨rfl, hk⟩
  go_wp2_with fail
  exact ⟨rfl, rfl, ((((((Keep.refl R w).alloc _).trans (Keep.of_below HB.out)).trans HK.out).trans HK3.out).alloc _).trans hk⟩

set_option maxHeartbeats 1000000 in
set_option maxRecDepth 100000 in
theorem prim_b_ok (R en : Nat) (toks ts t t' : List Tok) (e0 : Ex) (w : World) (h : PSt R toks en w ts) (h0 : symS 6 ts = 0) (h1 : txt ts = [40]) (hE : ExpD R en toks ts.tail (.ok e0 t)) (h5 : expectS [41] t = .ok () t') :
    Calls Tryd.prog 67 #[.pointer (some ⟨R, 0, none⟩)] w (PP R toks en (VEx w.heap.size) (.ok e0 t') w) := by
  have H := Lib.hid h
  have H0 := Lib.hid h0
  have HT : Hid (txt ts = (⟨#[40]⟩ : ByteArray).data.toList) := h1
  have HN : Hid (ts ≠ []) := fun e => by rw [e] at h1; simp [txt] at h1
  have HE := Lib.hid hE
  have hR := h.lt
  have H5 := Lib.hid h5
  clear h h0 h1 hE h5
  go_enter Tryd.func67, Tryd.ntmps67
  go_wp2_with fail
  refine (sym6_no (H.out.more _) H0.out).mono ?_
  rintro e w1 ⟨rfl, hb⟩
  have H1 := Lib.hid ((H.out.more _).below hb)
  have HB := Lib.hid hb
  clear hb
  go_wp2_with fail
  refine (accept_yes _ _ _ _ _ _ H1.out HT.out HN.out).mono ?_
  rintro e w2 ⟨rfl, hp, hk⟩
  have H2 := Lib.hid hp
  have HK := Lib.hid hk
  clear hp hk
  go_wp2_with fail
  refine (HE.out _ H2.out).mono ?_
  rintro e w3 ⟨v, rfl, ⟨a, b, s, c, d, A, l, q, rfl, hl⟩, hp, hk⟩
  have HL := Lib.hid hl
  have H3 := Lib.hid hp
  have HK3 := Lib.hid hk
  clear hl hp hk
  have hz1 := HB.out.size
  have hz2 := HK.out.size
  have hz3 := HK3.out.size
  simp only [new_size] at hz1
  go_wp2_with fail
  refine (expect_any ⟨#[41]⟩ (by simp) _ _ _ _ _ (H3.out.more _)).mono ?_
  rw [show expectS (⟨#[41]⟩ : ByteArray).data.toList t = .ok () t' from H5.out]
  rintro e w4 ⟨v, rfl, hv, hp, hk⟩
  unfold VUnit at hv
  subst hv
  have hz4 := hk.size
  simp only [new_size] at hz4
  obtain ⟨d0, d1, d2, d3, d4, d5, g0, g1, g2, g3, g4, g5, hz⟩ := box6 (hk.blk (new_blk w3 _) (by omega))
  have HX := hk.blk ((alloc_blk w3 _ (by omega)).trans (HK3.out.blk (HK.out.blk (below_blk HB.out (new_blk w exZ)) (by omega)) (by omega))) (by omega)
  obtain ⟨c0, c1, c2, c3, c4, c5, f0, f1, f2, f3, f4, f5, hz'⟩ := box6 HX
  have HF := Lib.hid (fin6 (((((((Keep.refl R w).alloc _).trans (Keep.of_below HB.out)).trans HK.out).trans HK3.out).alloc _).trans hk) rfl hR hp ((HL.out.alloc (Nat.le_refl _) _).keep (Nat.le_refl _) hk (by omega)) (by omega))
  clear HX hp hk g0 g1 g2 g3 g4 g5
  go_wp2_with fail
  refine bodyPost_ret (v := .agg #[.int .i64 a, .int .i64 b, .string s, .int .i64 c, .int .i64 d, .slice A l q]) ?_ rfl ?_
  · simp [results, Tryd.results67, go_sem, World.cell?_setCell_same, World.cell?_setCell_other, c0, c1, c2, c3, c4, c5]
  · exact HF.out

set_option maxHeartbeats 1000000 in
set_option maxRecDepth 100000 in
theorem prim_c (R en : Nat) (toks ts : List Tok) (w : World) (h : PSt R toks en w ts) (h0 : symS 6 ts = 0) (h1 : txt ts ≠ [40]) (h2 : knd ts = 2) :
    Calls Tryd.prog 67 #[.pointer (some ⟨R, 0, none⟩)] w (PP R toks en (VEx w.heap.size) (.ok (.mk 1 (vlu ts) [] 0 0 []) ts.tail) w) := by
  have HV := Lib.hid h.vlu.1
  have H := Lib.hid h
  have H0 := Lib.hid h0
  have HT : Hid (txt ts ≠ (⟨#[40]⟩ : ByteArray).data.toList) := h1
  have hR := h.lt
  have HK2 := Lib.hid h2
  have hk2 : (knd ts == 2) = true := by simp [h2]
  have hf := fld0
  clear h h0 h1 h2
  go_enter Tryd.func67, Tryd.ntmps67
  go_wp2_with fail
  refine (sym6_no (H.out.more _) H0.out).mono ?_
  rintro e w1 ⟨rfl, hb⟩
  have H1 := Lib.hid ((H.out.more _).below hb)
  have HB1 := Lib.hid (((Keep.refl R w).alloc exZ).trans (Keep.of_below hb))
  have hz1 := hb.size
  simp only [new_size] at hz1
  have HX := Lib.hid (below_blk hb (new_blk w exZ))
  clear hb
  go_wp2_with fail
  refine (accept_no _ _ _ _ _ _ H1.out HT.out).mono ?_
  rintro e w2 ⟨rfl, hb⟩
  have H2 := Lib.hid (H1.out.below hb)
  have HB2 := Lib.hid (HB1.out.trans (Keep.of_below hb))
  have hz2 := hb.size
  have HX2 := Lib.hid (below_blk hb HX.out)
  clear hb
  go_wp2_with fail
  refine (next_any _ _ _ _ _ H2.out).mono ?_
  rintro e w3 ⟨rfl, hb⟩
  have H3 := Lib.hid (H2.out.below hb)
  have HB3 := Lib.hid (HB2.out.trans (Keep.of_below hb))
  have hz3 := hb.size
  have HX3 := Lib.hid (below_blk hb HX2.out)
  clear hb
  go_wp2_with fail
  refine (number_ok 0 _ _ _ _ _ H3.out HK2.out HV.out).mono ?_
  rintro e w4 ⟨v, rfl, hv, hp, hk⟩
  unfold VInt at hv
  subst hv
  have HX4 := hk.blk HX3.out (by omega)
  obtain ⟨c0, c1, c2, c3, c4, c5, f0, f1, f2, f3, f4, f5, hz'⟩ := box6 HX4
  have HF := Lib.hid (fin6 (HB3.out.trans hk) rfl hR hp (ex_plain (w.heap.size + 1) w4 1 (vlu ts) []) (by omega))
  clear HX4 hp hk
  go_wp2_with fail
  refine bodyPost_ret (v := .agg #[.int .i64 1, .int .i64 (vlu ts), .string ⟨#[]⟩, .int .i64 0, .int .i64 0, .slice none 0 0]) ?_ rfl ?_
  · simp [results, Tryd.results67, go_sem, World.cell?_setCell_same, World.cell?_setCell_other, c0, c1, c2, c3, c4, c5]
  · exact HF.out

set_option maxHeartbeats 1000000 in
set_option maxRecDepth 100000 in
theorem prim_d_fail (R en : Nat) (toks ts : List Tok) (w : World) (h : PSt R toks en w ts) (h0 : symS 6 ts = 0) (h1 : txt ts ≠ [40]) (h2 : knd ts ≠ 2) (h3 : nameS ts = .fail ts) :
    Calls Tryd.prog 67 #[.pointer (some ⟨R, 0, none⟩)] w (PP R toks en (VEx w.heap.size) (.fail ts) w) := by
  have H := Lib.hid h
  have H0 := Lib.hid h0
  have HT : Hid (txt ts ≠ (⟨#[40]⟩ : ByteArray).data.toList) := h1
  have hR := h.lt
  have HNM := Lib.hid h3
  have hk2 : (knd ts == 2) = false := by simp [h2]
  have hf := fld0
  clear h h0 h1 h2 h3
  go_enter Tryd.func67, Tryd.ntmps67
  go_wp2_with fail
  refine (sym6_no (H.out.more _) H0.out).mono ?_
  rintro e w1 ⟨rfl, hb⟩
  have H1 := Lib.hid ((H.out.more _).below hb)
  have HB1 := Lib.hid (((Keep.refl R w).alloc exZ).trans (Keep.of_below hb))
  have hz1 := hb.size
  simp only [new_size] at hz1
  have HX := Lib.hid (below_blk hb (new_blk w exZ))
  clear hb
  go_wp2_with fail
  refine (accept_no _ _ _ _ _ _ H1.out HT.out).mono ?_
  rintro e w2 ⟨rfl, hb⟩
  have H2 := Lib.hid (H1.out.below hb)
  have HB2 := Lib.hid (HB1.out.trans (Keep.of_below hb))
  have hz2 := hb.size
  have HX2 := Lib.hid (below_blk hb HX.out)
  clear hb
  go_wp2_with fail
  refine (next_any _ _ _ _ _ H2.out).mono ?_
  rintro e w3 ⟨rfl, hb⟩
  have H3 := Lib.hid (H2.out.below hb)
  have HB3 := Lib.hid (HB2.out.trans (Keep.of_below hb))
  have hz3 := hb.size
  have HX3 := Lib.hid (below_blk hb HX2.out)
  clear hb
  go_wp2_with fail
  refine (name_any _ _ _ _ _ H3.out).mono ?_
  rw [HNM.out]
  rintro e w4 ⟨rfl, hk⟩
  go_wp2_with fail
  exact ⟨rfl, rfl, HB3.out.trans hk⟩

set_option maxHeartbeats 1000000 in
set_option maxRecDepth 100000 in
theorem prim_d_ok (R en : Nat) (toks ts t : List Tok) (nm : List UInt8) (w : World) (h : PSt R toks en w ts) (h0 : symS 6 ts = 0) (h1 : txt ts ≠ [40]) (h2 : knd ts ≠ 2) (h3 : nameS ts = .ok nm t) (h4 : txt t ≠ [91]) :
    Calls Tryd.prog 67 #[.pointer (some ⟨R, 0, none⟩)] w (PP R toks en (VEx w.heap.size) (.ok (.mk 2 0 nm 0 0 []) t) w) := by
  have H := Lib.hid h
  have H0 := Lib.hid h0
  have HT : Hid (txt ts ≠ (⟨#[40]⟩ : ByteArray).data.toList) := h1
  have hR := h.lt
  have HNM := Lib.hid h3
  have hk2 : (knd ts == 2) = false := by simp [h2]
  have hf := fld0
  have HT2 : Hid (txt t ≠ (⟨#[91]⟩ : ByteArray).data.toList) := h4
  clear h h0 h1 h2 h3 h4
  go_enter Tryd.func67, Tryd.ntmps67
  go_wp2_with fail
  refine (sym6_no (H.out.more _) H0.out).mono ?_
  rintro e w1 ⟨rfl, hb⟩
  have H1 := Lib.hid ((H.out.more _).below hb)
  have HB1 := Lib.hid (((Keep.refl R w).alloc exZ).trans (Keep.of_below hb))
  have hz1 := hb.size
  simp only [new_size] at hz1
  have HX := Lib.hid (below_blk hb (new_blk w exZ))
  clear hb
  go_wp2_with fail
  refine (accept_no _ _ _ _ _ _ H1.out HT.out).mono ?_
  rintro e w2 ⟨rfl, hb⟩
  have H2 := Lib.hid (H1.out.below hb)
  have HB2 := Lib.hid (HB1.out.trans (Keep.of_below hb))
  have hz2 := hb.size
  have HX2 := Lib.hid (below_blk hb HX.out)
  clear hb
  go_wp2_with fail
  refine (next_any _ _ _ _ _ H2.out).mono ?_
  rintro e w3 ⟨rfl, hb⟩
  have H3 := Lib.hid (H2.out.below hb)
  have HB3 := Lib.hid (HB2.out.trans (Keep.of_below hb))
  have hz3 := hb.size
  have HX3 := Lib.hid (below_blk hb HX2.out)
  clear hb
  go_wp2_with fail
  refine (name_any _ _ _ _ _ H3.out).mono ?_
  rw [HNM.out]
  rintro e w4 ⟨v, rfl, hv, hp, hk⟩
  unfold VStr at hv
  subst hv
  have H4 := Lib.hid hp
  have HB4 := Lib.hid (HB3.out.trans hk)
  have hz4 := hk.size
  have HX4 := Lib.hid (hk.blk HX3.out (by omega))
  clear hp hk
  go_wp2_with fail
  refine (accept_no _ _ _ _ _ _ (H4.out.more _) HT2.out).mono ?_
  rintro e w5 ⟨rfl, hb⟩
  have hz5 := hb.size
  simp only [new_size] at hz5
  obtain ⟨d0, d1, d2, d3, d4, d5, g0, g1, g2, g3, g4, g5, hz⟩ := box6 (below_blk hb (new_blk w4 _))
  have HX5 := below_blk hb ((alloc_blk w4 _ (by omega)).trans HX4.out)
  obtain ⟨c0, c1, c2, c3, c4, c5, f0, f1, f2, f3, f4, f5, hz'⟩ := box6 HX5
  have HF := Lib.hid (fin6 ((HB4.out.alloc _).trans (Keep.of_below hb)) rfl hR ((H4.out.more _).below hb) (ex_plain (w.heap.size + 1) w5 2 0 nm) (by omega))
  clear HX5 hb g0 g1 g2 g3 g4 g5
  go_wp2_with fail
  refine bodyPost_ret (v := .agg #[.int .i64 2, .int .i64 0, .string (strB nm), .int .i64 0, .int .i64 0, .slice none 0 0]) ?_ rfl ?_
  · simp [results, Tryd.results67, go_sem, World.cell?_setCell_same, World.cell?_setCell_other, c0, c1, c2, c3, c4, c5]
  · exact HF.out

end Go.Proofs.YtdlnpfocmgclmaaDoor
