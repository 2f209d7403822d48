/-
  What Parse of package syntax returns: the program of a text, or the first error with its place. Conditions: the variables of the library and the table of symbols hold what start-up laid; the program that the tokens give has at most 100000 parts; the tokens are as scanning makes them.
-/
import Derived.Test.YtdlnpfocmgclmaaDoorWalkDq
import Derived.Test.YtdlnpfocmgclmaaDoorWalkT
namespace Go.Proofs.YtdlnpfocmgclmaaDoor
open Go.RowKit

/-- The table of symbols holds what start-up laid. -/
def SymAt (w : World) : Prop := ∃ T fr, w.heap[2]? = some (.cells symArr T fr)
theorem SymAt.below {w w' : World} (h : SymAt w) (hb : Below w.heap.size w w') : SymAt w' := by
  obtain ⟨T, fr, h⟩ := h; exact ⟨T, fr, below_blk hb h⟩

theorem pr0_at (S : Nat → Prop) (w : World) : PrAt S w pr0 (.slice none 0 0) (.slice none 0 0) (.slice none 0 0) (.slice none 0 0) (.slice none 0 0) :=
  ⟨⟨none, 0, rfl, Nat.le_refl _, fun h => absurd rfl h⟩, sts_nil _ _, sts_nil _ _, sts_nil _ _, sts_nil _ _⟩

/-- What Parse returns. -/
def PzPost (R : Pr × Nat × Int) (w : World) (e : Ending) (w' : World) : Prop :=
  ∃ v, e = .returned (.tuple #[v, .int .i64 R.2.1, .int .i64 R.2.2]) ∧ VPr w.heap.size w' R.1 v ∧ Below w.heap.size w w'

theorem set5_below {B n : Nat} {a w : World} (h : Below B a w) (hn : B ≤ n) (a0 a1 a2 a3 a4 : Value) : Below B a (set5 w n a0 a1 a2 a3 a4) :=
  ((((h.setCell (p := ⟨n, 0, none⟩) hn a0).setCell (p := ⟨n, 1, none⟩) hn a1).setCell (p := ⟨n, 2, none⟩) hn a2).setCell (p := ⟨n, 3, none⟩) hn a3).setCell (p := ⟨n, 4, none⟩) hn a4
theorem set5_size (w : World) (n : Nat) (a0 a1 a2 a3 a4 : Value) : (set5 w n a0 a1 a2 a3 a4).heap.size = w.heap.size := by simp [set5, World.setCell]
theorem pz_zero {w w' : World} {n : Nat} {er : Int} (hb : Below w.heap.size w w') : PzPost (pr0, n, er) w (.returned (.tuple #[.agg #[.slice none 0 0, .slice none 0 0, .slice none 0 0, .slice none 0 0, .slice none 0 0], .int .i64 n, .int .i64 er])) w' :=
  ⟨_, rfl, ⟨none, none, none, none, none, 0, 0, 0, 0, 0, 0, 0, 0, 0, 0, rfl, pr0_at _ _⟩, hb⟩

set_option maxHeartbeats 2000000 in
set_option maxRecDepth 100000 in
theorem Parse_any (s : ByteArray) (w : World) (hL : LW w) (hsym : SymAt w) (toks : List Tok) (off : Nat) (err : Int) (hsc : scanS s.data.toList = ⟨toks, off, err⟩) (hok : ∀ t ∈ toks, TokOK t)
    (hbig : ∀ p t, pProg (bigF toks) toks = .ok p t → p.big ≤ 100000) :
    Calls Tryd.prog 6 #[.string s] w (PzPost (parseS s.data.toList) w) := by
  have hlen := scan_len hsc
  have HL : Hid (LW (w.alloc prZ)) := hL.below ((Below.refl _ _).alloc (Nat.le_refl _) _) hL.big
  have HSY : Hid (SymAt (w.alloc prZ)) := hsym.below ((Below.refl _ _).alloc (Nat.le_refl _) _)
  have HSC := Lib.hid hsc
  have HOK := Lib.hid hok
  have HBG := Lib.hid hbig
  have HLN := Lib.hid hlen
  have HX := Lib.hid (new_blk w prZ)
  clear hL hsym hok hbig hlen
  unfold parseS
  rw [hsc]
  simp only
  clear hsc
  by_cases he : err = 0
  · rw [if_pos he]
    subst he
    have hin := pProg_in toks
    obtain ⟨r, hr⟩ : ∃ r, pProg (bigF toks) toks = r := ⟨_, rfl⟩
    have HR := Lib.hid hr
    have hbg := HBG.out
    rw [hr] at hin hbg ⊢
    have HNE := Lib.hid hin.ne
    clear hin hr HBG
    have HPA := Lib.hid (fun v w' (h1 : TokSlice w' v toks) (h2 : SymAt w') => parse_any (bigF toks) s.size toks v w' r HR.out HNE.out h1 HLN.out HOK.out h2)
    have HBG := Lib.hid hbg
    have hne := HNE.out
    clear hbg
    cases r with
    | out => exact absurd rfl hne
    | fail t =>
      clear hne
      go_enter Tryd.func6, Tryd.ntmps6
      go_wp2_with fail
      refine (scan_at s _ HL.out _ HSC.out).mono ?_
      rintro e w1 ⟨v, rfl, hsl, hb⟩
      have HB1 : Hid (Below w.heap.size w w1) := ((Below.refl _ _).alloc (Nat.le_refl _) _).trans (hb.mono (by simp only [new_size]; omega))
      have HX1 := Lib.hid (below_blk hb HX.out)
      have HC := Lib.hid (HPA.out v w1 hsl (HSY.out.below hb))
      clear hsl hb
      go_wp2_with fail
      refine HC.out.mono ?_
      rintro e w2 ⟨rfl, hb⟩
      have HB2 := Lib.hid (HB1.out.trans (hb.mono HB1.out.size))
      obtain ⟨d0, d1, d2, d3, d4, f0, f1, f2, f3, f4, hz⟩ := box5 (below_blk hb HX1.out)
      have hsz : w1.heap.size ≤ w2.heap.size := hb.size
      clear hb HC
      go_wp2_with fail
      refine bodyPost_ret (v := .tuple #[.agg #[.slice none 0 0, .slice none 0 0, .slice none 0 0, .slice none 0 0, .slice none 0 0], .int .i64 (posOf s.size t), .int .i64 1]) ?_ rfl ?_
      · simp [results, Tryd.results6, go_sem, World.cell?_setCell_same, World.cell?_setCell_other, d0, d1, d2, d3, d4, hz]
      · have hb2 := (set5_below (n := w.heap.size) HB2.out (Nat.le_refl _) (.slice none 0 0) (.slice none 0 0) (.slice none 0 0) (.slice none 0 0) (.slice none 0 0)).alloc (by rw [set5_size]; omega) (.cells #[.slice none 0 0, .slice none 0 0, .slice none 0 0, .slice none 0 0, .slice none 0 0] 28)
        have := pz_zero (n := posOf s.size t) (er := 1) hb2
        rwa [show s.data.toList.length = s.size from by simp]
    | ok p t =>
      clear hne
      have hbp := HBG.out p t rfl
      have HDP := Lib.hid (fun S w' (A0 A1 A2 A3 A4 : Option Addr) (l0 l1 l2 l3 l4 c0 c1 c2 c3 c4 : Nat) h => depth_any p hbp S w' A0 A1 A2 A3 A4 l0 l1 l2 l3 l4 c0 c1 c2 c3 c4 h)
      have hdb := deep_big p
      have hd64 : (p.deep : Int) ≤ 100000 := by omega
      clear hbp hdb
      simp only
      obtain ⟨RR, hRR⟩ : ∃ x, (if 16 < p.deep then (pr0, 0, 6) else (p, 0, 0) : Pr × Nat × Int) = x := ⟨_, rfl⟩
      have HRR := Lib.hid hRR
      rw [hRR]
      clear hRR
      go_enter Tryd.func6, Tryd.ntmps6
      go_wp2_with fail
      refine (scan_at s _ HL.out _ HSC.out).mono ?_
      rintro e w1 ⟨v, rfl, hsl, hb⟩
      have HB1 : Hid (Below w.heap.size w w1) := ((Below.refl _ _).alloc (Nat.le_refl _) _).trans (hb.mono (by simp only [new_size]; omega))
      have HX1 := Lib.hid (below_blk hb HX.out)
      have HC := Lib.hid (HPA.out v w1 hsl (HSY.out.below hb))
      clear hsl hb
      go_wp2_with fail
      refine HC.out.mono ?_
      rintro e w2 ⟨v, rfl, ⟨A0, A1, A2, A3, A4, l0, q0, l1, q1, l2, q2, l3, q3, l4, q4, rfl, hpr⟩, hb⟩
      have HB2 := Lib.hid (HB1.out.trans (hb.mono HB1.out.size))
      have HX2 := Lib.hid (below_blk hb HX1.out)
      have HPR := Lib.hid hpr
      have hsz1 : w.heap.size < w1.heap.size := lt_of_block HX1.out
      have hsz : w1.heap.size ≤ w2.heap.size := hb.size
      clear hb HC hpr
      go_wp2_with fail
      refine (HDP.out (From w1.heap.size) _ A0 A1 A2 A3 A4 l0 l1 l2 l3 l4 q0 q1 q2 q3 q4 (HPR.out.still fun k h1 h2 => ⟨h1, alloc_blk w2 _ h2⟩)).mono ?_
      rintro e w3 ⟨rfl, hb⟩
      have HB3 := Lib.hid ((HB2.out.alloc HB2.out.size (.cells #[.slice A0 l0 q0, .slice A1 l1 q1, .slice A2 l2 q2, .slice A3 l3 q3, .slice A4 l4 q4] 28)).trans (hb.mono (by rw [new_size]; have := HB2.out.size; omega)))
      obtain ⟨d0, d1, d2, d3, d4, f0, f1, f2, f3, f4, hz⟩ := box5 (below_blk hb ((alloc_blk w2 _ (by omega)).trans HX2.out))
      obtain ⟨g0, g1, g2, g3, g4, _, _, _, _, _, hz'⟩ := box5 (below_blk hb (new_blk w2 _))
      have HPR3 := Lib.hid ((HPR.out.still (S' := From w1.heap.size) (w' := w2.alloc (.cells #[.slice A0 l0 q0, .slice A1 l1 q1, .slice A2 l2 q2, .slice A3 l3 q3, .slice A4 l4 q4] 28)) fun k h1 h2 => ⟨h1, alloc_blk w2 _ h2⟩).still (S' := From w1.heap.size) (w' := w3) fun k h1 h2 => ⟨h1, hb.block k h2⟩)
      clear hb
      by_cases hdeep : 16 < p.deep
      · have hd1 : (16 : Int) < (p.deep : Int) := by omega
        have HE : Hid ((pr0, 0, 6) = RR) := by have := HRR.out; rw [if_pos hdeep] at this; exact this
        clear hdeep
        go_wp2_with fail
        refine bodyPost_ret (v := .tuple #[.agg #[.slice none 0 0, .slice none 0 0, .slice none 0 0, .slice none 0 0, .slice none 0 0], .int .i64 0, .int .i64 6]) ?_ rfl ?_
        · simp [results, Tryd.results6, go_sem, World.cell?_setCell_same, World.cell?_setCell_other, d0, d1, d2, d3, d4]
        · rw [← HE.out]
          exact pz_zero (n := 0) (set5_below (n := w.heap.size) HB3.out (Nat.le_refl _) _ _ _ _ _)
      · have hd1 : (p.deep : Int) ≤ 16 := by omega
        have HE : Hid ((p, 0, 0) = RR) := by have := HRR.out; rw [if_neg hdeep] at this; exact this
        clear hdeep
        go_wp2_with fail
        refine bodyPost_ret (v := .tuple #[.agg #[.slice A0 l0 q0, .slice A1 l1 q1, .slice A2 l2 q2, .slice A3 l3 q3, .slice A4 l4 q4], .int .i64 0, .int .i64 0]) ?_ rfl ?_
        · simp [results, Tryd.results6, go_sem, World.cell?_setCell_same, World.cell?_setCell_other, d0, d1, d2, d3, d4]
        · rw [← HE.out]
          exact ⟨_, rfl, ⟨A0, A1, A2, A3, A4, l0, q0, l1, q1, l2, q2, l3, q3, l4, q4, rfl, HPR3.out.still fun k (h1 : w1.heap.size ≤ k) _ => ⟨show w.heap.size ≤ k by omega, set5_blk w3 w.heap.size _ _ _ _ _ (by omega)⟩⟩, set5_below (n := w.heap.size) HB3.out (Nat.le_refl _) _ _ _ _ _⟩
  · rw [if_neg he]
    have he' : (err != 0) = true := by simpa using he
    clear he HBG
    go_enter Tryd.func6, Tryd.ntmps6
    go_wp2_with fail
    refine (scan_at s _ HL.out _ HSC.out).mono ?_
    rintro e w1 ⟨v, rfl, hsl, hb⟩
    have HB1 : Hid (Below w.heap.size w w1) := ((Below.refl _ _).alloc (Nat.le_refl _) _).trans (hb.mono (by simp only [new_size]; omega))
    obtain ⟨d0, d1, d2, d3, d4, f0, f1, f2, f3, f4, hz⟩ := box5 (below_blk hb HX.out)
    clear hsl hb
    go_wp2_with fail
    refine bodyPost_ret (v := .tuple #[.agg #[.slice none 0 0, .slice none 0 0, .slice none 0 0, .slice none 0 0, .slice none 0 0], .int .i64 off, .int .i64 err]) ?_ rfl ?_
    · simp [results, Tryd.results6, go_sem, World.cell?_setCell_same, World.cell?_setCell_other, d0, d1, d2, d3, d4]
    · exact pz_zero (n := off) (set5_below (n := w.heap.size) HB1.out (Nat.le_refl _) _ _ _ _ _)
end Go.Proofs.YtdlnpfocmgclmaaDoor
