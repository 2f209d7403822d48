/-
  What Resolve of package resolve returns for a program that checks and whose names are declared and stand for what they are declared as. Conditions: the table of operators lies where it lies at the start; at most 100000 parts.
-/
import Derived.Test.YtgkioompcmgmdaaDoorWalkRx
import Derived.Test.YtgkioompcmgmdaaDoorWalkRv
import Derived.Test.YtgkioompcmgmdaaDoorWalkAr
namespace Go.Proofs.YtgkioompcmgmdaaDoor
open Go.RowKit

theorem vs_less {n m : Nat} {w w' : World} {l : List St} {v : Value} (h : VSts n w l v) (hm : m ≤ n) (hb : Below w.heap.size w w') : VSts m w' l v :=
  StSlice.still h fun k (hk : n ≤ k) h2 => ⟨show m ≤ k by omega, hb.block k h2⟩

/-- stmts, called in a drawn region: what lay before stays, and lists that were made stay too. -/
theorem rg_stmts (f : Pl) (l : List St) (hb : St.bigL l ≤ 100000) (hok : St.rokL f l) (R : Nat) (S : Nat → Prop) (W0 : World) (n : Nat) (hn : n < W0.heap.size) (A : Option Addr) (m c : Nat) (hr : RSt R W0 f) (hl : StSlice S W0 l (.slice A m c)) (a1 a2 a3 a4 : Value) (W : World)
    (hs : Below W0.heap.size W0 W ∧ W.cell? ⟨n, 1, none⟩ = some a1 ∧ W.cell? ⟨n, 2, none⟩ = some a2 ∧ W.cell? ⟨n, 3, none⟩ = some a3 ∧ W.cell? ⟨n, 4, none⟩ = some a4) :
    Calls Tryd.prog 22 #[.pointer (some ⟨R, 0, none⟩), .slice A m c] W fun e' w' => (∃ B k, e' = .returned (.slice B m k) ∧ VSts W.heap.size w' (St.resL f l) (.slice B m k) ∧ Below W.heap.size W w') ∧
      (Below W0.heap.size W0 w' ∧ w'.cell? ⟨n, 1, none⟩ = some a1 ∧ w'.cell? ⟨n, 2, none⟩ = some a2 ∧ w'.cell? ⟨n, 3, none⟩ = some a3 ∧ w'.cell? ⟨n, 4, none⟩ = some a4) := by
  obtain ⟨h0, h1, h2, h3, h4⟩ := hs
  have hm : m = l.length := by obtain ⟨_, _, e, _⟩ := hl; injection e
  have hnW : n < W.heap.size := Nat.lt_of_lt_of_le hn h0.size
  refine (rstmts_all f 100000 l hb (Nat.le_refl _) hok R S W A m c (hr.below h0) (hl.still fun k hk hlt => ⟨hk, h0.block k hlt⟩)).mono ?_
  rintro e w' ⟨v, rfl, hv, hbw⟩
  have hz := h0.size
  obtain ⟨B, k, rfl, h5⟩ := hv
  have hv2 : VSts W.heap.size w' (St.resL f l) (.slice B (St.resL f l).length k) := ⟨B, k, rfl, h5⟩
  rw [sresL_len, ← hm] at hv2 ⊢
  refine ⟨⟨B, k, rfl, hv2, hbw⟩, h0.trans (hbw.mono hz), ?_, ?_, ?_, ?_⟩
  · exact (hbw.cell (p := ⟨n, 1, none⟩) hnW).trans h1
  · exact (hbw.cell (p := ⟨n, 2, none⟩) hnW).trans h2
  · exact (hbw.cell (p := ⟨n, 3, none⟩) hnW).trans h3
  · exact (hbw.cell (p := ⟨n, 4, none⟩) hnW).trans h4

theorem sg_alloc {W0 w : World} {n : Nat} {a1 a2 a3 a4 : Value} (hn : n < W0.heap.size) (o : Obj) (h : Below W0.heap.size W0 w ∧ w.cell? ⟨n, 1, none⟩ = some a1 ∧ w.cell? ⟨n, 2, none⟩ = some a2 ∧ w.cell? ⟨n, 3, none⟩ = some a3 ∧ w.cell? ⟨n, 4, none⟩ = some a4) :
    Below W0.heap.size W0 (w.alloc o) ∧ (w.alloc o).cell? ⟨n, 1, none⟩ = some a1 ∧ (w.alloc o).cell? ⟨n, 2, none⟩ = some a2 ∧ (w.alloc o).cell? ⟨n, 3, none⟩ = some a3 ∧ (w.alloc o).cell? ⟨n, 4, none⟩ = some a4 := by
  have hw : n < w.heap.size := Nat.lt_of_lt_of_le hn h.1.size
  have hb : Below w.heap.size w (w.alloc o) := (Below.refl _ _).alloc (Nat.le_refl _) o
  exact ⟨h.1.alloc h.1.size o, (hb.cell (p := ⟨n, 1, none⟩) hw).trans h.2.1, (hb.cell (p := ⟨n, 2, none⟩) hw).trans h.2.2.1, (hb.cell (p := ⟨n, 3, none⟩) hw).trans h.2.2.2.1, (hb.cell (p := ⟨n, 4, none⟩) hw).trans h.2.2.2.2⟩
theorem sg_set {W0 w : World} {n k i : Nat} {v a1 a2 a3 a4 : Value} (hn : n < W0.heap.size) (hk : W0.heap.size ≤ k) (h : Below W0.heap.size W0 w ∧ w.cell? ⟨n, 1, none⟩ = some a1 ∧ w.cell? ⟨n, 2, none⟩ = some a2 ∧ w.cell? ⟨n, 3, none⟩ = some a3 ∧ w.cell? ⟨n, 4, none⟩ = some a4) :
    Below W0.heap.size W0 (w.setCell ⟨k, i, none⟩ v) ∧ (w.setCell ⟨k, i, none⟩ v).cell? ⟨n, 1, none⟩ = some a1 ∧ (w.setCell ⟨k, i, none⟩ v).cell? ⟨n, 2, none⟩ = some a2 ∧ (w.setCell ⟨k, i, none⟩ v).cell? ⟨n, 3, none⟩ = some a3 ∧ (w.setCell ⟨k, i, none⟩ v).cell? ⟨n, 4, none⟩ = some a4 := by
  have hb : Below W0.heap.size w (w.setCell ⟨k, i, none⟩ v) := (Below.refl _ _).setCell (p := ⟨k, i, none⟩) hk v
  exact ⟨h.1.setCell (p := ⟨k, i, none⟩) hk v, (hb.cell (p := ⟨n, 1, none⟩) hn).trans h.2.1, (hb.cell (p := ⟨n, 2, none⟩) hn).trans h.2.2.1, (hb.cell (p := ⟨n, 3, none⟩) hn).trans h.2.2.2.1, (hb.cell (p := ⟨n, 4, none⟩) hn).trans h.2.2.2.2⟩

theorem sg_drew {W0 w : World} {n : Nat} {a1 a2 a3 a4 : Value} (h : Below W0.heap.size W0 w ∧ w.cell? ⟨n, 1, none⟩ = some a1 ∧ w.cell? ⟨n, 2, none⟩ = some a2 ∧ w.cell? ⟨n, 3, none⟩ = some a3 ∧ w.cell? ⟨n, 4, none⟩ = some a4) :
    Below W0.heap.size W0 w.drew ∧ w.drew.cell? ⟨n, 1, none⟩ = some a1 ∧ w.drew.cell? ⟨n, 2, none⟩ = some a2 ∧ w.drew.cell? ⟨n, 3, none⟩ = some a3 ∧ w.drew.cell? ⟨n, 4, none⟩ = some a4 := ⟨h.1.drew, h.2.1, h.2.2.1, h.2.2.2.1, h.2.2.2.2⟩

/-- What of a list of statements is asked ahead. -/
structure StGood (f : Pl) (l : List St) : Prop where
  short : St.shortRL l
  good : St.goodRL l = true
  rok : St.rokL f l

/-- What Resolve returns for a good program. -/
def RgPost (p : Pr) (w : World) (e : Ending) (w' : World) : Prop :=
  Below w.heap.size w w' ∧ ∃ (A B1 B2 B3 B4 : Option Addr) (c k1 k2 k3 k4 : Nat), e = .returned (.tuple #[.agg #[.slice A (declS p.vars).2.1.length c, .slice B1 p.start.length k1, .slice B2 p.message.length k2, .slice B3 p.tick.length k3, .slice B4 p.input.length k4], .int .i64 0]) ∧
    w'.ownsRow w.heap.size 3 1 (.slice A (declS p.vars).2.1.length c) (declS p.vars).2.1.length ((declS p.vars).2.1.map (Value.int .i64)) ∧
    VSts w.heap.size w' (St.resL (declS p.vars).2.2 p.start) (.slice B1 p.start.length k1) ∧ VSts w.heap.size w' (St.resL (declS p.vars).2.2 p.message) (.slice B2 p.message.length k2) ∧
    VSts w.heap.size w' (St.resL (declS p.vars).2.2 p.tick) (.slice B3 p.tick.length k3) ∧ VSts w.heap.size w' (St.resL (declS p.vars).2.2 p.input) (.slice B4 p.input.length k4)

/-- The end: the result's cells have been written. -/
theorem rg_end {p : Pr} {d : Int × List Int × Pl} {w w1 W0 WF : World} {L l1 l2 l3 l4 c k1 k2 k3 k4 : Nat} {A B1 B2 B3 B4 : Option Addr} (hls : l1 = p.start.length ∧ l2 = p.message.length ∧ l3 = p.tick.length ∧ l4 = p.input.length) (hd : declS p.vars = d) (hL : d.2.1.length = L)
    (hw : Below w.heap.size w WF) (h1 : w.heap.size + 1 < w1.heap.size) (h2 : w.heap.size + 1 < W0.heap.size) (f1 : VSts W0.heap.size WF (St.resL d.2.2 p.start) (.slice B1 l1 k1)) (f2 : VSts W0.heap.size WF (St.resL d.2.2 p.message) (.slice B2 l2 k2)) (f3 : VSts W0.heap.size WF (St.resL d.2.2 p.tick) (.slice B3 l3 k3)) (f4 : VSts W0.heap.size WF (St.resL d.2.2 p.input) (.slice B4 l4 k4))
    (ho : WF.ownsRow (w1.heap.size + 1) 3 1 (.slice A L c) L (d.2.1.map (Value.int .i64))) :
    RgPost p w (.returned (.tuple #[.agg #[.slice A L c, .slice B1 l1 k1, .slice B2 l2 k2, .slice B3 l3 k3, .slice B4 l4 k4], .int .i64 0])) (set5 WF (w.heap.size + 1) (.slice A L c) (.slice B1 l1 k1) (.slice B2 l2 k2) (.slice B3 l3 k3) (.slice B4 l4 k4)) := by
  obtain ⟨e1, e2, e3, e4⟩ := hls
  have hf : ∀ l v, VSts W0.heap.size WF l v → VSts w.heap.size (set5 WF (w.heap.size + 1) (.slice A L c) (.slice B1 l1 k1) (.slice B2 l2 k2) (.slice B3 l3 k3) (.slice B4 l4 k4)) l v := fun l v h =>
    StSlice.still h fun k (hk : W0.heap.size ≤ k) h3 => ⟨show w.heap.size ≤ k by omega, set5_blk WF (w.heap.size + 1) _ _ _ _ _ (by omega)⟩
  refine ⟨set5_below (n := w.heap.size + 1) hw (by omega) _ _ _ _ _, A, B1, B2, B3, B4, c, k1, k2, k3, k4, ?_⟩
  rw [hd, hL, ← e1, ← e2, ← e3, ← e4]
  exact ⟨rfl, own_blk ho (by omega) (fun g h2 h3 => set5_blk WF (w.heap.size + 1) _ _ _ _ _ (by omega)), hf _ _ f1, hf _ _ f2, hf _ _ f3, hf _ _ f4⟩

set_option maxHeartbeats 40000000 in
set_option maxRecDepth 100000 in
theorem resolve_good (p : Pr) (hbig : p.big ≤ 100000) (hvn : p.vars.length ≤ 100000) (hnm : ∀ v ∈ p.vars, v.name.length ≤ 4096) (hdp : p.deep ≤ 16) (hva : p.vars.all varOK = true) (hd0 : (declS p.vars).1 = 0)
    (g1 : StGood (declS p.vars).2.2 p.start) (g2 : StGood (declS p.vars).2.2 p.message) (g3 : StGood (declS p.vars).2.2 p.tick) (g4 : StGood (declS p.vars).2.2 p.input)
    (S : Nat → Prop) (w : World) (hsy : SymAt w) (A0 A1 A2 A3 A4 : Option Addr) (l0 l1 l2 l3 l4 c0 c1 c2 c3 c4 : Nat)
    (hp : PrAt S w p (.slice A0 l0 c0) (.slice A1 l1 c1) (.slice A2 l2 c2) (.slice A3 l3 c3) (.slice A4 l4 c4)) :
    Calls Tryd.prog 9 #[.agg #[.slice A0 l0 c0, .slice A1 l1 c1, .slice A2 l2 c2, .slice A3 l3 c3, .slice A4 l4 c4]] w (RgPost p w) := by
  have hbg : St.bigL p.start ≤ 100000 ∧ St.bigL p.message ≤ 100000 ∧ St.bigL p.tick ≤ 100000 ∧ St.bigL p.input ≤ 100000 := by unfold Pr.big at hbig; omega
  obtain ⟨b1, b2, b3, b4⟩ := hbg
  have HP := Lib.hid hp
  have HC : Hid (∀ w', Below w.heap.size w w' → Calls Tryd.prog 20 #[.agg #[.slice A0 l0 c0, .slice A1 l1 c1, .slice A2 l2 c2, .slice A3 l3 c3, .slice A4 l4 c4]] w' fun e w2 => e = .returned (.int .i64 0) ∧ Below w'.heap.size w' w2) := fun w' hb => by
    have hp' := HP.out.still (fun k h1 h2 => ⟨h1, hb.block k h2⟩)
    have h := check_any p hbig hvn (fun v hv => by have := hnm v hv; omega) S w' A0 A1 A2 A3 A4 l0 l1 l2 l3 l4 c0 c1 c2 c3 c4 hp' (fun _ => true) (fun k hk w2 hb2 => by
      have hsy2 : SymAt w2 := (hsy.below hb).below hb2
      have hp2 := hp'.still (fun k h1 h2 => ⟨h1, hb2.block k h2⟩)
      obtain ⟨_, q1, q2, q3, q4⟩ := hp2
      match k, hk with
      | 0, _ => exact areStmts_good _ p.start b1 (Nat.le_refl _) g1.short g1.good S w2 A1 l1 c1 hsy2 q1
      | 1, _ => exact areStmts_good _ p.message b2 (Nat.le_refl _) g2.short g2.good S w2 A2 l2 c2 hsy2 q2
      | 2, _ => exact areStmts_good _ p.tick b3 (Nat.le_refl _) g3.short g3.good S w2 A3 l3 c3 hsy2 q3
      | 3, _ => exact areStmts_good _ p.input b4 (Nat.le_refl _) g4.short g4.good S w2 A4 l4 c4 hsy2 q4)
    have e : chkS p (fun _ => true) = 0 := by
      unfold chkS
      rw [if_neg (by omega), if_neg (by simp [hva]), if_neg (by simp)]
    rw [e] at h
    exact h
  have HD : Hid (∀ w', Below w.heap.size w w' → Calls Tryd.prog 21 #[.slice A0 l0 c0] w' (DcPost (declS p.vars) w')) := fun w' hb => declare_any p.vars hnm hvn S w' A0 l0 c0 (HP.out.1.still (fun k h1 h2 => ⟨h1, hb.block k h2⟩))
  have HR1 := Lib.hid (fun R W0 n hn hr hl => rg_stmts (declS p.vars).2.2 p.start b1 g1.rok R S W0 n hn A1 l1 c1 hr hl (.slice A1 l1 c1) (.slice A2 l2 c2) (.slice A3 l3 c3) (.slice A4 l4 c4))
  have HR2 := Lib.hid (fun R W0 n hn hr hl => rg_stmts (declS p.vars).2.2 p.message b2 g2.rok R S W0 n hn A2 l2 c2 hr hl (.slice A1 l1 c1) (.slice A2 l2 c2) (.slice A3 l3 c3) (.slice A4 l4 c4))
  have HR3 := Lib.hid (fun R W0 n hn hr hl => rg_stmts (declS p.vars).2.2 p.tick b3 g3.rok R S W0 n hn A3 l3 c3 hr hl (.slice A1 l1 c1) (.slice A2 l2 c2) (.slice A3 l3 c3) (.slice A4 l4 c4))
  have HR4 := Lib.hid (fun R W0 n hn hr hl => rg_stmts (declS p.vars).2.2 p.input b4 g4.rok R S W0 n hn A4 l4 c4 hr hl (.slice A1 l1 c1) (.slice A2 l2 c2) (.slice A3 l3 c3) (.slice A4 l4 c4))
  have hl1 : l1 = p.start.length := by obtain ⟨_, ⟨_, _, e, _⟩, _⟩ := hp; injection e
  have hl2 : l2 = p.message.length := by obtain ⟨_, _, ⟨_, _, e, _⟩, _⟩ := hp; injection e
  have hl3 : l3 = p.tick.length := by obtain ⟨_, _, _, ⟨_, _, e, _⟩, _⟩ := hp; injection e
  have hl4 : l4 = p.input.length := by obtain ⟨_, _, _, _, ⟨_, _, e, _⟩⟩ := hp; injection e
  have HLS := Lib.hid (And.intro hl1 (And.intro hl2 (And.intro hl3 hl4)))
  obtain ⟨d, hd⟩ : ∃ d, declS p.vars = d := ⟨_, rfl⟩
  have HDD := Lib.hid hd
  rw [hd] at HD HR1 HR2 HR3 HR4 hd0
  have HD0 := Lib.hid hd0
  clear hl1 hl2 hl3 hl4 hp hbig hvn hnm hdp hva hd0 g1 g2 g3 g4 hsy b1 b2 b3 b4 hd
  go_enter Tryd.func9, Tryd.ntmps9
  go_wp2_with fail
  refine (HC.out _ (rv_below w _ _)).mono ?_
  rintro e w1 ⟨rfl, hb⟩
  have HB1 := Lib.hid ((rv_below w _ _).trans (hb.mono (by rw [new_size, new_size]; omega)))
  have HX1 := Lib.hid (below_blk hb (rv_prog w _ _))
  have HY1 := Lib.hid (below_blk hb (rv_code w _ _))
  obtain ⟨d0, d1, d2, d3, d4, f0, f1, f2, f3, f4, hz⟩ := box5 HX1.out
  clear hb HC f0 f1 f2 f3 f4 d1 d2 d3 d4
  go_wp2_with fail
  refine (HD.out _ HB1.out).mono ?_
  rintro e w2 ⟨hb, hcase⟩
  have HB2 := Lib.hid (HB1.out.trans (hb.mono HB1.out.size))
  have HX2 := Lib.hid (below_blk hb HX1.out)
  have HY2 := Lib.hid (below_blk hb HY1.out)
  have hw1 := hb.size
  have HYL := Lib.hid (lt_of_block HY1.out)
  clear hb HD d0
  rcases hcase with ⟨hd0, b, m, D, v, rfl, hbm, hmap, hpl, hown⟩ | ⟨hd0, rfl⟩
  case inr => exact absurd HD0.out hd0
  obtain ⟨Ai, qi, rfl⟩ := own_slice hown
  have HOW := Lib.hid hown
  have HMP := Lib.hid hmap
  have HPL := Lib.hid hpl
  obtain ⟨L, hL⟩ : ∃ L, d.2.1.length = L := ⟨_, rfl⟩
  rw [hL] at HOW ⊢
  have HLL := Lib.hid hL
  clear hown hmap hpl hd0 hbm hL
  go_wp2_with fail
  obtain ⟨W0, hW0⟩ : ∃ x, w2.alloc (.cells #[.map (some b), .bool false, .bool false] 65) = x := ⟨_, rfl⟩
  rw [hW0]
  have h0b : Below w2.heap.size w2 W0 := by rw [← hW0]; exact (Below.refl _ _).alloc (Nat.le_refl _) _
  have h0n : W0.heap[w2.heap.size]? = some (.cells #[.map (some b), .bool false, .bool false] 65 (0, 0)) := by rw [← hW0]; exact new_blk w2 _
  have HB0 := Lib.hid h0b
  have h0r : RSt w2.heap.size W0 d.2.2 := ⟨b, m, D, h0n, map_below HMP.out h0b, HPL.out⟩
  have h0z : W0.heap.size = w2.heap.size + 1 := by rw [← hW0, new_size]
  have HWB : Hid (Below w.heap.size w W0) := HB2.out.trans (h0b.mono HB2.out.size)
  have HX0 := Lib.hid (below_blk h0b HX2.out)
  have HY0 := Lib.hid (below_blk h0b HY2.out)
  have HN0 := Lib.hid h0n
  have HZ0 := Lib.hid h0z
  have HP0 := Lib.hid (HP.out.still (fun k h1 h2 => ⟨h1, HWB.out.block k h2⟩))
  obtain ⟨d0, d1, d2, d3, d4, _, _, _, _, _, hzx⟩ := box5 HX0.out
  have S1 := Lib.hid (HR1.out w2.heap.size W0 w.heap.size hzx h0r HP0.out.2.1)
  have S2 := Lib.hid (HR2.out w2.heap.size W0 w.heap.size hzx h0r HP0.out.2.2.1)
  have S3 := Lib.hid (HR3.out w2.heap.size W0 w.heap.size hzx h0r HP0.out.2.2.2.1)
  have S4 := Lib.hid (HR4.out w2.heap.size W0 w.heap.size hzx h0r HP0.out.2.2.2.2)
  have hAl : ∀ (W : World) (o : Obj), Below W0.heap.size W0 W → W0.heap.size ≤ W.heap.size → Below W0.heap.size W0 (W.alloc o) := fun W o h1 h2 => h1.alloc h2 o
  have hSt : ∀ (W : World) (k i : Nat) (v : Value), Below W0.heap.size W0 W → W0.heap.size ≤ k → Below W0.heap.size W0 (W.setCell ⟨k, i, none⟩ v) := fun W k i v h1 h2 => h1.setCell (p := ⟨k, i, none⟩) h2 v
  have hs0 : Below W0.heap.size W0 W0.drew := (Below.refl _ _).drew
  have hs00 : Below W0.heap.size W0 W0 ∧ W0.cell? ⟨w.heap.size, 1, none⟩ = some (.slice A1 l1 c1) ∧ W0.cell? ⟨w.heap.size, 2, none⟩ = some (.slice A2 l2 c2) ∧ W0.cell? ⟨w.heap.size, 3, none⟩ = some (.slice A3 l3 c3) ∧ W0.cell? ⟨w.heap.size, 4, none⟩ = some (.slice A4 l4 c4) := ⟨Below.refl _ _, d1, d2, d3, d4⟩
  clear hW0 h0b h0n h0r h0z d0 HR1 HR2 HR3 HR4 HX1 HY1 hw1 hz HX2 HY2 HP
  go_region_held3 (fun w' => Below W0.heap.size W0 w' ∧ w'.cell? ⟨w.heap.size, 1, none⟩ = some (.slice A1 l1 c1) ∧ w'.cell? ⟨w.heap.size, 2, none⟩ = some (.slice A2 l2 c2) ∧ w'.cell? ⟨w.heap.size, 3, none⟩ = some (.slice A3 l3 c3) ∧ w'.cell? ⟨w.heap.size, 4, none⟩ = some (.slice A4 l4 c4)) (first | assumption | ((repeat' first | assumption | (exact Below.size (And.left (by assumption))) | (refine sg_alloc hzx _ ?_) | (refine sg_set hzx ?_ ?_) | (refine sg_drew ?_)); done) | go_keep) (first
    | (go_at_call 22; ((with_reducible refine (S1.out _ ?_).mono ?_)); assumption; rintro e' w5 ⟨⟨B1, k1, rfl, hv, hb⟩, hs5⟩; (try replace HQ0 := Lib.hid (below_blk hb HQ0.out)); (try have HQ0 := Lib.hid (below_blk hb (new_blk W0 _))); have V1 := Lib.hid hv; have HB5 := Lib.hid hb; clear hv hb)
    | (go_at_call 22; ((with_reducible refine (S2.out _ ?_).mono ?_)); assumption; rintro e' w6 ⟨⟨B2, k2, rfl, hv, hb⟩, hs6⟩; (try replace HQ0 := Lib.hid (below_blk hb HQ0.out)); (try have HQ0 := Lib.hid (below_blk hb (new_blk w5 _))); have V2 := Lib.hid hv; have HB6 := Lib.hid hb; clear hv hb)
    | (go_at_call 22; ((with_reducible refine (S3.out _ ?_).mono ?_)); assumption; rintro e' w7 ⟨⟨B3, k3, rfl, hv, hb⟩, hs7⟩; (try replace HQ0 := Lib.hid (below_blk hb HQ0.out)); (try have HQ0 := Lib.hid (below_blk hb (new_blk w6 _))); have V3 := Lib.hid hv; have HB7 := Lib.hid hb; clear hv hb)
    | (go_at_call 22; ((with_reducible refine (S4.out _ ?_).mono ?_)); assumption; rintro e' w8 ⟨⟨B4, k4, rfl, hv, hb⟩, hs8⟩; (try replace HQ0 := Lib.hid (below_blk hb HQ0.out)); (try have HQ0 := Lib.hid (below_blk hb (new_blk w7 _))); have V4 := Lib.hid hv; have HB8 := Lib.hid hb; clear hv hb; have hq5 := Nat.lt_of_lt_of_le hzx hs8.1.size; have hq6 : W0.heap.size ≤ w8.heap.size := hs8.1.size; (try (have hq0 := HQ0.out; obtain ⟨e0, e1, e2, e3, e4, ef0, ef1, ef2, ef3, ef4, hqn⟩ := box5 hq0)))
    | fail)
  · obtain ⟨WF, hWF⟩ : ∃ x, w8.alloc (.cells #[.slice Ai L qi, .slice B1 l1 k1, .slice B2 l2 k2, .slice B3 l3 k3, .slice B4 l4 k4] 35) = x := ⟨_, rfl⟩
    have HF : Hid (WF.heap[w8.heap.size]? = some (.cells #[.slice Ai L qi, .slice B1 l1 k1, .slice B2 l2 k2, .slice B3 l3 k3, .slice B4 l4 k4] 35 (0, 0))) := by rw [← hWF]; exact new_blk w8 _
    have HKF : Hid (∀ k, k < w8.heap.size → k ≠ w8.heap.size → WF.heap[k]? = w8.heap[k]?) := fun k h1 h2 => by rw [← hWF]; exact alloc_blk w8 _ h1
    have hzF : w8.heap.size ≤ WF.heap.size := by rw [← hWF, new_size]; omega
    have z1 : W0.heap.size ≤ w5.heap.size := HB5.out.size
    have z2 : w5.heap.size ≤ w6.heap.size := HB6.out.size
    have z3 : w6.heap.size ≤ w7.heap.size := HB7.out.size
    have z4 : w7.heap.size ≤ w8.heap.size := HB8.out.size
    have C2 : Hid (∀ k, k < w5.heap.size → w6.heap[k]? = w5.heap[k]?) := fun k h => HB6.out.block k h
    have C3 : Hid (∀ k, k < w6.heap.size → w7.heap[k]? = w6.heap[k]?) := fun k h => HB7.out.block k h
    have C4 : Hid (∀ k, k < w7.heap.size → w8.heap[k]? = w7.heap[k]?) := fun k h => HB8.out.block k h
    have F1 : Hid (VSts W0.heap.size WF (St.resL d.2.2 p.start) (.slice B1 l1 k1)) := StSlice.still V1.out (fun k hk h2 => by
      have hk2 : W0.heap.size ≤ k := by exact hk
      exact ⟨show W0.heap.size ≤ k by omega, (((HKF.out k (by omega) (by omega)).trans (C4.out k (by omega))).trans (C3.out k (by omega))).trans (C2.out k (by omega))⟩)
    have F2 : Hid (VSts W0.heap.size WF (St.resL d.2.2 p.message) (.slice B2 l2 k2)) := StSlice.still V2.out (fun k hk h2 => by
      have hk2 : w5.heap.size ≤ k := by exact hk
      exact ⟨show W0.heap.size ≤ k by omega, ((HKF.out k (by omega) (by omega)).trans (C4.out k (by omega))).trans (C3.out k (by omega))⟩)
    have F3 : Hid (VSts W0.heap.size WF (St.resL d.2.2 p.tick) (.slice B3 l3 k3)) := StSlice.still V3.out (fun k hk h2 => by
      have hk2 : w6.heap.size ≤ k := by exact hk
      exact ⟨show W0.heap.size ≤ k by omega, (HKF.out k (by omega) (by omega)).trans (C4.out k (by omega))⟩)
    have F4 : Hid (VSts W0.heap.size WF (St.resL d.2.2 p.input) (.slice B4 l4 k4)) := StSlice.still V4.out (fun k hk h2 => by
      have hk2 : w7.heap.size ≤ k := by exact hk
      exact ⟨show W0.heap.size ≤ k by omega, HKF.out k (by omega) (by omega)⟩)
    have hnb : W0.heap.size ≤ w8.heap.size := by omega
    have HKG : Hid (∀ k, k < W0.heap.size → WF.heap[k]? = W0.heap[k]?) := fun k h => (HKF.out k (by omega) (by omega)).trans (hs8.1.block k h)
    have HWF : Hid (Below w.heap.size w WF) := by
      have h8 := HWB.out.trans (hs8.1.mono HWB.out.size)
      rw [← hWF]
      exact h8.alloc h8.size _
    obtain ⟨r0, r1, r2⟩ : WF.cell? ⟨w2.heap.size, 0, none⟩ = some (.map (some b)) ∧ WF.cell? ⟨w2.heap.size, 1, none⟩ = some (.bool false) ∧ WF.cell? ⟨w2.heap.size, 2, none⟩ = some (.bool false) := by
      have h := (HKG.out w2.heap.size (lt_of_block HN0.out)).trans HN0.out
      exact ⟨by rw [Lib.cell_of_heap h]; rfl, by rw [Lib.cell_of_heap h]; rfl, by rw [Lib.cell_of_heap h]; rfl⟩
    have HYF := Lib.hid ((HKG.out (w.heap.size + 1) (lt_of_block HY0.out)).trans HY0.out)
    have HZL := Lib.hid hzx
    have HZ8 := Lib.hid hs8
    have HWQ := Lib.hid hWF
    rw [hWF]
    have HNB := Lib.hid hnb
    have HOE : Hid (WF.ownsRow (w1.heap.size + 1) 3 1 (.slice Ai L qi) L (d.2.1.map (Value.int .i64))) := own_blk HOW.out (Nat.le_refl _) (fun g h1 h2 => (HKG.out g (by have := HB0.out.size; omega)).trans (HB0.out.block g h2))
    clear hWF hzF z1 z2 z3 z4 hnb hs8 hs0 hs00 hAl hSt d1 d2 d3 d4
    have HNE : Hid (w.heap.size + 1 ≠ w8.heap.size) := Nat.ne_of_lt (Nat.lt_of_lt_of_le (lt_of_block HY0.out) HNB.out)
    obtain ⟨nb, hnb⟩ : ∃ x, w8.heap.size = x := ⟨_, rfl⟩
    rw [hnb] at HF HNE ⊢
    clear hnb
    obtain ⟨e0, e1, e2, e3, e4, _, _, _, _, _, hqn⟩ := box5 HF.out
    obtain ⟨g0, g1, g2, g3, g4, y0, y1, y2, y3, y4, hyn⟩ := box5 HYF.out
    go_wp2_with fail
    refine bodyPost_ret (v := .tuple #[.agg #[.slice Ai L qi, .slice B1 l1 k1, .slice B2 l2 k2, .slice B3 l3 k3, .slice B4 l4 k4], .int .i64 0]) ?_ rfl ?_
    · have h := blk_set (blk_set (blk_set (blk_set (blk_set HYF.out 0 (.slice Ai L qi)) 1 (.slice B1 l1 k1)) 2 (.slice B2 l2 k2)) 3 (.slice B3 l3 k3)) 4 (.slice B4 l4 k4)
      simp [results, Tryd.results9, go_sem, Lib.cell_of_heap h]
    · exact rg_end HLS.out HDD.out HLL.out HWF.out HYL.out (lt_of_block HY0.out) F1.out F2.out F3.out F4.out HOE.out
  · obtain ⟨WF, hWF⟩ : ∃ x, set5 w8 w7.heap.size (.slice Ai L qi) (.slice B1 l1 k1) (.slice B2 l2 k2) (.slice B3 l3 k3) (.slice B4 l4 k4) = x := ⟨_, rfl⟩
    have HF : Hid (WF.heap[w7.heap.size]? = some (.cells #[.slice Ai L qi, .slice B1 l1 k1, .slice B2 l2 k2, .slice B3 l3 k3, .slice B4 l4 k4] 35 (0, 0))) := by
      have h := blk_set (blk_set (blk_set (blk_set (blk_set HQ0.out 0 (.slice Ai L qi)) 1 (.slice B1 l1 k1)) 2 (.slice B2 l2 k2)) 3 (.slice B3 l3 k3)) 4 (.slice B4 l4 k4)
      rw [← hWF]
      exact h
    have HKF : Hid (∀ k, k < w8.heap.size → k ≠ w7.heap.size → WF.heap[k]? = w8.heap[k]?) := fun k h1 h2 => by rw [← hWF]; exact set5_blk w8 _ _ _ _ _ _ h2
    have hzF : w8.heap.size ≤ WF.heap.size := by rw [← hWF, set5_size]; exact Nat.le_refl _
    unfold set5 at hWF
    have z1 : W0.heap.size ≤ w5.heap.size := HB5.out.size
    have z2 : w5.heap.size ≤ w6.heap.size := HB6.out.size
    have z3 : w6.heap.size ≤ w7.heap.size := HB7.out.size
    have z4 : w7.heap.size + 1 ≤ w8.heap.size := by
      have h : (w7.alloc _).heap.size ≤ w8.heap.size := HB8.out.size
      rw [new_size] at h
      exact h
    have C2 : Hid (∀ k, k < w5.heap.size → w6.heap[k]? = w5.heap[k]?) := fun k h => HB6.out.block k h
    have C3 : Hid (∀ k, k < w6.heap.size → w7.heap[k]? = w6.heap[k]?) := fun k h => HB7.out.block k h
    have C4 : Hid (∀ k, k < w7.heap.size → w8.heap[k]? = w7.heap[k]?) := fun k h => (HB8.out.block k (by rw [new_size]; omega)).trans (alloc_blk _ _ h)
    have F1 : Hid (VSts W0.heap.size WF (St.resL d.2.2 p.start) (.slice B1 l1 k1)) := StSlice.still V1.out (fun k hk h2 => by
      have hk2 : W0.heap.size ≤ k := by exact hk
      exact ⟨show W0.heap.size ≤ k by omega, (((HKF.out k (by omega) (by omega)).trans (C4.out k (by omega))).trans (C3.out k (by omega))).trans (C2.out k (by omega))⟩)
    have F2 : Hid (VSts W0.heap.size WF (St.resL d.2.2 p.message) (.slice B2 l2 k2)) := StSlice.still V2.out (fun k hk h2 => by
      have hk2 : w5.heap.size ≤ k := by exact hk
      exact ⟨show W0.heap.size ≤ k by omega, ((HKF.out k (by omega) (by omega)).trans (C4.out k (by omega))).trans (C3.out k (by omega))⟩)
    have F3 : Hid (VSts W0.heap.size WF (St.resL d.2.2 p.tick) (.slice B3 l3 k3)) := StSlice.still V3.out (fun k hk h2 => by
      have hk2 : w6.heap.size ≤ k := by exact hk
      exact ⟨show W0.heap.size ≤ k by omega, (HKF.out k (by omega) (by omega)).trans (C4.out k (by omega))⟩)
    have F4 : Hid (VSts W0.heap.size WF (St.resL d.2.2 p.input) (.slice B4 l4 k4)) := StSlice.still V4.out (fun k hk h2 => by
      have hk2 : w7.heap.size + 1 ≤ k := by (have h : (w7.alloc _).heap.size ≤ k := hk; rw [new_size] at h; exact h)
      exact ⟨show W0.heap.size ≤ k by omega, HKF.out k (by omega) (by omega)⟩)
    have hnb : W0.heap.size ≤ w7.heap.size := by omega
    have HKG : Hid (∀ k, k < W0.heap.size → WF.heap[k]? = W0.heap[k]?) := fun k h => (HKF.out k (by omega) (by omega)).trans (hs8.1.block k h)
    have HWF : Hid (Below w.heap.size w WF) := by
      have h8 := HWB.out.trans (hs8.1.mono HWB.out.size)
      rw [← hWF]
      exact set5_below h8 (show w.heap.size ≤ w7.heap.size by omega) _ _ _ _ _
    obtain ⟨r0, r1, r2⟩ : WF.cell? ⟨w2.heap.size, 0, none⟩ = some (.map (some b)) ∧ WF.cell? ⟨w2.heap.size, 1, none⟩ = some (.bool false) ∧ WF.cell? ⟨w2.heap.size, 2, none⟩ = some (.bool false) := by
      have h := (HKG.out w2.heap.size (lt_of_block HN0.out)).trans HN0.out
      exact ⟨by rw [Lib.cell_of_heap h]; rfl, by rw [Lib.cell_of_heap h]; rfl, by rw [Lib.cell_of_heap h]; rfl⟩
    have HYF := Lib.hid ((HKG.out (w.heap.size + 1) (lt_of_block HY0.out)).trans HY0.out)
    have HZL := Lib.hid hzx
    have HZ8 := Lib.hid hs8
    have HWQ := Lib.hid hWF
    rw [hWF]
    have HNB := Lib.hid hnb
    have HOE : Hid (WF.ownsRow (w1.heap.size + 1) 3 1 (.slice Ai L qi) L (d.2.1.map (Value.int .i64))) := own_blk HOW.out (Nat.le_refl _) (fun g h1 h2 => (HKG.out g (by have := HB0.out.size; omega)).trans (HB0.out.block g h2))
    clear hWF hzF z1 z2 z3 z4 hnb hs8 hs0 hs00 hAl hSt d1 d2 d3 d4
    have HNE : Hid (w.heap.size + 1 ≠ w7.heap.size) := Nat.ne_of_lt (Nat.lt_of_lt_of_le (lt_of_block HY0.out) HNB.out)
    obtain ⟨nb, hnb⟩ : ∃ x, w7.heap.size = x := ⟨_, rfl⟩
    rw [hnb] at HF HNE ⊢
    clear hnb
    obtain ⟨e0, e1, e2, e3, e4, _, _, _, _, _, hqn⟩ := box5 HF.out
    obtain ⟨g0, g1, g2, g3, g4, y0, y1, y2, y3, y4, hyn⟩ := box5 HYF.out
    go_wp2_with fail
    refine bodyPost_ret (v := .tuple #[.agg #[.slice Ai L qi, .slice B1 l1 k1, .slice B2 l2 k2, .slice B3 l3 k3, .slice B4 l4 k4], .int .i64 0]) ?_ rfl ?_
    · have h := blk_set (blk_set (blk_set (blk_set (blk_set HYF.out 0 (.slice Ai L qi)) 1 (.slice B1 l1 k1)) 2 (.slice B2 l2 k2)) 3 (.slice B3 l3 k3)) 4 (.slice B4 l4 k4)
      simp [results, Tryd.results9, go_sem, Lib.cell_of_heap h]
    · exact rg_end HLS.out HDD.out HLL.out HWF.out HYL.out (lt_of_block HY0.out) F1.out F2.out F3.out F4.out HOE.out
  · obtain ⟨WF, hWF⟩ : ∃ x, set5 w8 w6.heap.size (.slice Ai L qi) (.slice B1 l1 k1) (.slice B2 l2 k2) (.slice B3 l3 k3) (.slice B4 l4 k4) = x := ⟨_, rfl⟩
    have HF : Hid (WF.heap[w6.heap.size]? = some (.cells #[.slice Ai L qi, .slice B1 l1 k1, .slice B2 l2 k2, .slice B3 l3 k3, .slice B4 l4 k4] 35 (0, 0))) := by
      have h := blk_set (blk_set (blk_set (blk_set (blk_set HQ0.out 0 (.slice Ai L qi)) 1 (.slice B1 l1 k1)) 2 (.slice B2 l2 k2)) 3 (.slice B3 l3 k3)) 4 (.slice B4 l4 k4)
      rw [← hWF]
      exact h
    have HKF : Hid (∀ k, k < w8.heap.size → k ≠ w6.heap.size → WF.heap[k]? = w8.heap[k]?) := fun k h1 h2 => by rw [← hWF]; exact set5_blk w8 _ _ _ _ _ _ h2
    have hzF : w8.heap.size ≤ WF.heap.size := by rw [← hWF, set5_size]; exact Nat.le_refl _
    unfold set5 at hWF
    have z1 : W0.heap.size ≤ w5.heap.size := HB5.out.size
    have z2 : w5.heap.size ≤ w6.heap.size := HB6.out.size
    have z3 : w6.heap.size + 1 ≤ w7.heap.size := by
      have h : (w6.alloc _).heap.size ≤ w7.heap.size := HB7.out.size
      rw [new_size] at h
      exact h
    have z4 : w7.heap.size ≤ w8.heap.size := HB8.out.size
    have C2 : Hid (∀ k, k < w5.heap.size → w6.heap[k]? = w5.heap[k]?) := fun k h => HB6.out.block k h
    have C3 : Hid (∀ k, k < w6.heap.size → w7.heap[k]? = w6.heap[k]?) := fun k h => (HB7.out.block k (by rw [new_size]; omega)).trans (alloc_blk _ _ h)
    have C4 : Hid (∀ k, k < w7.heap.size → w8.heap[k]? = w7.heap[k]?) := fun k h => HB8.out.block k h
    have F1 : Hid (VSts W0.heap.size WF (St.resL d.2.2 p.start) (.slice B1 l1 k1)) := StSlice.still V1.out (fun k hk h2 => by
      have hk2 : W0.heap.size ≤ k := by exact hk
      exact ⟨show W0.heap.size ≤ k by omega, (((HKF.out k (by omega) (by omega)).trans (C4.out k (by omega))).trans (C3.out k (by omega))).trans (C2.out k (by omega))⟩)
    have F2 : Hid (VSts W0.heap.size WF (St.resL d.2.2 p.message) (.slice B2 l2 k2)) := StSlice.still V2.out (fun k hk h2 => by
      have hk2 : w5.heap.size ≤ k := by exact hk
      exact ⟨show W0.heap.size ≤ k by omega, ((HKF.out k (by omega) (by omega)).trans (C4.out k (by omega))).trans (C3.out k (by omega))⟩)
    have F3 : Hid (VSts W0.heap.size WF (St.resL d.2.2 p.tick) (.slice B3 l3 k3)) := StSlice.still V3.out (fun k hk h2 => by
      have hk2 : w6.heap.size + 1 ≤ k := by (have h : (w6.alloc _).heap.size ≤ k := hk; rw [new_size] at h; exact h)
      exact ⟨show W0.heap.size ≤ k by omega, (HKF.out k (by omega) (by omega)).trans (C4.out k (by omega))⟩)
    have F4 : Hid (VSts W0.heap.size WF (St.resL d.2.2 p.input) (.slice B4 l4 k4)) := StSlice.still V4.out (fun k hk h2 => by
      have hk2 : w7.heap.size ≤ k := by exact hk
      exact ⟨show W0.heap.size ≤ k by omega, HKF.out k (by omega) (by omega)⟩)
    have hnb : W0.heap.size ≤ w6.heap.size := by omega
    have HKG : Hid (∀ k, k < W0.heap.size → WF.heap[k]? = W0.heap[k]?) := fun k h => (HKF.out k (by omega) (by omega)).trans (hs8.1.block k h)
    have HWF : Hid (Below w.heap.size w WF) := by
      have h8 := HWB.out.trans (hs8.1.mono HWB.out.size)
      rw [← hWF]
      exact set5_below h8 (show w.heap.size ≤ w6.heap.size by omega) _ _ _ _ _
    obtain ⟨r0, r1, r2⟩ : WF.cell? ⟨w2.heap.size, 0, none⟩ = some (.map (some b)) ∧ WF.cell? ⟨w2.heap.size, 1, none⟩ = some (.bool false) ∧ WF.cell? ⟨w2.heap.size, 2, none⟩ = some (.bool false) := by
      have h := (HKG.out w2.heap.size (lt_of_block HN0.out)).trans HN0.out
      exact ⟨by rw [Lib.cell_of_heap h]; rfl, by rw [Lib.cell_of_heap h]; rfl, by rw [Lib.cell_of_heap h]; rfl⟩
    have HYF := Lib.hid ((HKG.out (w.heap.size + 1) (lt_of_block HY0.out)).trans HY0.out)
    have HZL := Lib.hid hzx
    have HZ8 := Lib.hid hs8
    have HWQ := Lib.hid hWF
    rw [hWF]
    have HNB := Lib.hid hnb
    have HOE : Hid (WF.ownsRow (w1.heap.size + 1) 3 1 (.slice Ai L qi) L (d.2.1.map (Value.int .i64))) := own_blk HOW.out (Nat.le_refl _) (fun g h1 h2 => (HKG.out g (by have := HB0.out.size; omega)).trans (HB0.out.block g h2))
    clear hWF hzF z1 z2 z3 z4 hnb hs8 hs0 hs00 hAl hSt d1 d2 d3 d4
    have HNE : Hid (w.heap.size + 1 ≠ w6.heap.size) := Nat.ne_of_lt (Nat.lt_of_lt_of_le (lt_of_block HY0.out) HNB.out)
    obtain ⟨nb, hnb⟩ : ∃ x, w6.heap.size = x := ⟨_, rfl⟩
    rw [hnb] at HF HNE ⊢
    clear hnb
    obtain ⟨e0, e1, e2, e3, e4, _, _, _, _, _, hqn⟩ := box5 HF.out
    obtain ⟨g0, g1, g2, g3, g4, y0, y1, y2, y3, y4, hyn⟩ := box5 HYF.out
    go_wp2_with fail
    refine bodyPost_ret (v := .tuple #[.agg #[.slice Ai L qi, .slice B1 l1 k1, .slice B2 l2 k2, .slice B3 l3 k3, .slice B4 l4 k4], .int .i64 0]) ?_ rfl ?_
    · have h := blk_set (blk_set (blk_set (blk_set (blk_set HYF.out 0 (.slice Ai L qi)) 1 (.slice B1 l1 k1)) 2 (.slice B2 l2 k2)) 3 (.slice B3 l3 k3)) 4 (.slice B4 l4 k4)
      simp [results, Tryd.results9, go_sem, Lib.cell_of_heap h]
    · exact rg_end HLS.out HDD.out HLL.out HWF.out HYL.out (lt_of_block HY0.out) F1.out F2.out F3.out F4.out HOE.out
  · obtain ⟨WF, hWF⟩ : ∃ x, set5 w8 w5.heap.size (.slice Ai L qi) (.slice B1 l1 k1) (.slice B2 l2 k2) (.slice B3 l3 k3) (.slice B4 l4 k4) = x := ⟨_, rfl⟩
    have HF : Hid (WF.heap[w5.heap.size]? = some (.cells #[.slice Ai L qi, .slice B1 l1 k1, .slice B2 l2 k2, .slice B3 l3 k3, .slice B4 l4 k4] 35 (0, 0))) := by
      have h := blk_set (blk_set (blk_set (blk_set (blk_set HQ0.out 0 (.slice Ai L qi)) 1 (.slice B1 l1 k1)) 2 (.slice B2 l2 k2)) 3 (.slice B3 l3 k3)) 4 (.slice B4 l4 k4)
      rw [← hWF]
      exact h
    have HKF : Hid (∀ k, k < w8.heap.size → k ≠ w5.heap.size → WF.heap[k]? = w8.heap[k]?) := fun k h1 h2 => by rw [← hWF]; exact set5_blk w8 _ _ _ _ _ _ h2
    have hzF : w8.heap.size ≤ WF.heap.size := by rw [← hWF, set5_size]; exact Nat.le_refl _
    unfold set5 at hWF
    have z1 : W0.heap.size ≤ w5.heap.size := HB5.out.size
    have z2 : w5.heap.size + 1 ≤ w6.heap.size := by
      have h : (w5.alloc _).heap.size ≤ w6.heap.size := HB6.out.size
      rw [new_size] at h
      exact h
    have z3 : w6.heap.size ≤ w7.heap.size := HB7.out.size
    have z4 : w7.heap.size ≤ w8.heap.size := HB8.out.size
    have C2 : Hid (∀ k, k < w5.heap.size → w6.heap[k]? = w5.heap[k]?) := fun k h => (HB6.out.block k (by rw [new_size]; omega)).trans (alloc_blk _ _ h)
    have C3 : Hid (∀ k, k < w6.heap.size → w7.heap[k]? = w6.heap[k]?) := fun k h => HB7.out.block k h
    have C4 : Hid (∀ k, k < w7.heap.size → w8.heap[k]? = w7.heap[k]?) := fun k h => HB8.out.block k h
    have F1 : Hid (VSts W0.heap.size WF (St.resL d.2.2 p.start) (.slice B1 l1 k1)) := StSlice.still V1.out (fun k hk h2 => by
      have hk2 : W0.heap.size ≤ k := by exact hk
      exact ⟨show W0.heap.size ≤ k by omega, (((HKF.out k (by omega) (by omega)).trans (C4.out k (by omega))).trans (C3.out k (by omega))).trans (C2.out k (by omega))⟩)
    have F2 : Hid (VSts W0.heap.size WF (St.resL d.2.2 p.message) (.slice B2 l2 k2)) := StSlice.still V2.out (fun k hk h2 => by
      have hk2 : w5.heap.size + 1 ≤ k := by (have h : (w5.alloc _).heap.size ≤ k := hk; rw [new_size] at h; exact h)
      exact ⟨show W0.heap.size ≤ k by omega, ((HKF.out k (by omega) (by omega)).trans (C4.out k (by omega))).trans (C3.out k (by omega))⟩)
    have F3 : Hid (VSts W0.heap.size WF (St.resL d.2.2 p.tick) (.slice B3 l3 k3)) := StSlice.still V3.out (fun k hk h2 => by
      have hk2 : w6.heap.size ≤ k := by exact hk
      exact ⟨show W0.heap.size ≤ k by omega, (HKF.out k (by omega) (by omega)).trans (C4.out k (by omega))⟩)
    have F4 : Hid (VSts W0.heap.size WF (St.resL d.2.2 p.input) (.slice B4 l4 k4)) := StSlice.still V4.out (fun k hk h2 => by
      have hk2 : w7.heap.size ≤ k := by exact hk
      exact ⟨show W0.heap.size ≤ k by omega, HKF.out k (by omega) (by omega)⟩)
    have hnb : W0.heap.size ≤ w5.heap.size := by omega
    have HKG : Hid (∀ k, k < W0.heap.size → WF.heap[k]? = W0.heap[k]?) := fun k h => (HKF.out k (by omega) (by omega)).trans (hs8.1.block k h)
    have HWF : Hid (Below w.heap.size w WF) := by
      have h8 := HWB.out.trans (hs8.1.mono HWB.out.size)
      rw [← hWF]
      exact set5_below h8 (show w.heap.size ≤ w5.heap.size by omega) _ _ _ _ _
    obtain ⟨r0, r1, r2⟩ : WF.cell? ⟨w2.heap.size, 0, none⟩ = some (.map (some b)) ∧ WF.cell? ⟨w2.heap.size, 1, none⟩ = some (.bool false) ∧ WF.cell? ⟨w2.heap.size, 2, none⟩ = some (.bool false) := by
      have h := (HKG.out w2.heap.size (lt_of_block HN0.out)).trans HN0.out
      exact ⟨by rw [Lib.cell_of_heap h]; rfl, by rw [Lib.cell_of_heap h]; rfl, by rw [Lib.cell_of_heap h]; rfl⟩
    have HYF := Lib.hid ((HKG.out (w.heap.size + 1) (lt_of_block HY0.out)).trans HY0.out)
    have HZL := Lib.hid hzx
    have HZ8 := Lib.hid hs8
    have HWQ := Lib.hid hWF
    rw [hWF]
    have HNB := Lib.hid hnb
    have HOE : Hid (WF.ownsRow (w1.heap.size + 1) 3 1 (.slice Ai L qi) L (d.2.1.map (Value.int .i64))) := own_blk HOW.out (Nat.le_refl _) (fun g h1 h2 => (HKG.out g (by have := HB0.out.size; omega)).trans (HB0.out.block g h2))
    clear hWF hzF z1 z2 z3 z4 hnb hs8 hs0 hs00 hAl hSt d1 d2 d3 d4
    have HNE : Hid (w.heap.size + 1 ≠ w5.heap.size) := Nat.ne_of_lt (Nat.lt_of_lt_of_le (lt_of_block HY0.out) HNB.out)
    obtain ⟨nb, hnb⟩ : ∃ x, w5.heap.size = x := ⟨_, rfl⟩
    rw [hnb] at HF HNE ⊢
    clear hnb
    obtain ⟨e0, e1, e2, e3, e4, _, _, _, _, _, hqn⟩ := box5 HF.out
    obtain ⟨g0, g1, g2, g3, g4, y0, y1, y2, y3, y4, hyn⟩ := box5 HYF.out
    go_wp2_with fail
    refine bodyPost_ret (v := .tuple #[.agg #[.slice Ai L qi, .slice B1 l1 k1, .slice B2 l2 k2, .slice B3 l3 k3, .slice B4 l4 k4], .int .i64 0]) ?_ rfl ?_
    · have h := blk_set (blk_set (blk_set (blk_set (blk_set HYF.out 0 (.slice Ai L qi)) 1 (.slice B1 l1 k1)) 2 (.slice B2 l2 k2)) 3 (.slice B3 l3 k3)) 4 (.slice B4 l4 k4)
      simp [results, Tryd.results9, go_sem, Lib.cell_of_heap h]
    · exact rg_end HLS.out HDD.out HLL.out HWF.out HYL.out (lt_of_block HY0.out) F1.out F2.out F3.out F4.out HOE.out
  · obtain ⟨WF, hWF⟩ : ∃ x, set5 w8 W0.heap.size (.slice Ai L qi) (.slice B1 l1 k1) (.slice B2 l2 k2) (.slice B3 l3 k3) (.slice B4 l4 k4) = x := ⟨_, rfl⟩
    have HF : Hid (WF.heap[W0.heap.size]? = some (.cells #[.slice Ai L qi, .slice B1 l1 k1, .slice B2 l2 k2, .slice B3 l3 k3, .slice B4 l4 k4] 35 (0, 0))) := by
      have h := blk_set (blk_set (blk_set (blk_set (blk_set HQ0.out 0 (.slice Ai L qi)) 1 (.slice B1 l1 k1)) 2 (.slice B2 l2 k2)) 3 (.slice B3 l3 k3)) 4 (.slice B4 l4 k4)
      rw [← hWF]
      exact h
    have HKF : Hid (∀ k, k < w8.heap.size → k ≠ W0.heap.size → WF.heap[k]? = w8.heap[k]?) := fun k h1 h2 => by rw [← hWF]; exact set5_blk w8 _ _ _ _ _ _ h2
    have hzF : w8.heap.size ≤ WF.heap.size := by rw [← hWF, set5_size]; exact Nat.le_refl _
    unfold set5 at hWF
    have z1 : W0.heap.size + 1 ≤ w5.heap.size := by
      have h : (W0.alloc _).heap.size ≤ w5.heap.size := HB5.out.size
      rw [new_size] at h
      exact h
    have z2 : w5.heap.size ≤ w6.heap.size := HB6.out.size
    have z3 : w6.heap.size ≤ w7.heap.size := HB7.out.size
    have z4 : w7.heap.size ≤ w8.heap.size := HB8.out.size
    have C2 : Hid (∀ k, k < w5.heap.size → w6.heap[k]? = w5.heap[k]?) := fun k h => HB6.out.block k h
    have C3 : Hid (∀ k, k < w6.heap.size → w7.heap[k]? = w6.heap[k]?) := fun k h => HB7.out.block k h
    have C4 : Hid (∀ k, k < w7.heap.size → w8.heap[k]? = w7.heap[k]?) := fun k h => HB8.out.block k h
    have F1 : Hid (VSts W0.heap.size WF (St.resL d.2.2 p.start) (.slice B1 l1 k1)) := StSlice.still V1.out (fun k hk h2 => by
      have hk2 : W0.heap.size + 1 ≤ k := by (have h : (W0.alloc _).heap.size ≤ k := hk; rw [new_size] at h; exact h)
      exact ⟨show W0.heap.size ≤ k by omega, (((HKF.out k (by omega) (by omega)).trans (C4.out k (by omega))).trans (C3.out k (by omega))).trans (C2.out k (by omega))⟩)
    have F2 : Hid (VSts W0.heap.size WF (St.resL d.2.2 p.message) (.slice B2 l2 k2)) := StSlice.still V2.out (fun k hk h2 => by
      have hk2 : w5.heap.size ≤ k := by exact hk
      exact ⟨show W0.heap.size ≤ k by omega, ((HKF.out k (by omega) (by omega)).trans (C4.out k (by omega))).trans (C3.out k (by omega))⟩)
    have F3 : Hid (VSts W0.heap.size WF (St.resL d.2.2 p.tick) (.slice B3 l3 k3)) := StSlice.still V3.out (fun k hk h2 => by
      have hk2 : w6.heap.size ≤ k := by exact hk
      exact ⟨show W0.heap.size ≤ k by omega, (HKF.out k (by omega) (by omega)).trans (C4.out k (by omega))⟩)
    have F4 : Hid (VSts W0.heap.size WF (St.resL d.2.2 p.input) (.slice B4 l4 k4)) := StSlice.still V4.out (fun k hk h2 => by
      have hk2 : w7.heap.size ≤ k := by exact hk
      exact ⟨show W0.heap.size ≤ k by omega, HKF.out k (by omega) (by omega)⟩)
    have hnb : W0.heap.size ≤ W0.heap.size := by omega
    have HKG : Hid (∀ k, k < W0.heap.size → WF.heap[k]? = W0.heap[k]?) := fun k h => (HKF.out k (by omega) (by omega)).trans (hs8.1.block k h)
    have HWF : Hid (Below w.heap.size w WF) := by
      have h8 := HWB.out.trans (hs8.1.mono HWB.out.size)
      rw [← hWF]
      exact set5_below h8 (show w.heap.size ≤ W0.heap.size by omega) _ _ _ _ _
    obtain ⟨r0, r1, r2⟩ : WF.cell? ⟨w2.heap.size, 0, none⟩ = some (.map (some b)) ∧ WF.cell? ⟨w2.heap.size, 1, none⟩ = some (.bool false) ∧ WF.cell? ⟨w2.heap.size, 2, none⟩ = some (.bool false) := by
      have h := (HKG.out w2.heap.size (lt_of_block HN0.out)).trans HN0.out
      exact ⟨by rw [Lib.cell_of_heap h]; rfl, by rw [Lib.cell_of_heap h]; rfl, by rw [Lib.cell_of_heap h]; rfl⟩
    have HYF := Lib.hid ((HKG.out (w.heap.size + 1) (lt_of_block HY0.out)).trans HY0.out)
    have HZL := Lib.hid hzx
    have HZ8 := Lib.hid hs8
    have HWQ := Lib.hid hWF
    rw [hWF]
    have HNB := Lib.hid hnb
    have HOE : Hid (WF.ownsRow (w1.heap.size + 1) 3 1 (.slice Ai L qi) L (d.2.1.map (Value.int .i64))) := own_blk HOW.out (Nat.le_refl _) (fun g h1 h2 => (HKG.out g (by have := HB0.out.size; omega)).trans (HB0.out.block g h2))
    clear hWF hzF z1 z2 z3 z4 hnb hs8 hs0 hs00 hAl hSt d1 d2 d3 d4
    have HNE : Hid (w.heap.size + 1 ≠ W0.heap.size) := Nat.ne_of_lt (Nat.lt_of_lt_of_le (lt_of_block HY0.out) HNB.out)
    obtain ⟨nb, hnb⟩ : ∃ x, W0.heap.size = x := ⟨_, rfl⟩
    rw [hnb] at HF HNE ⊢
    clear hnb
    obtain ⟨e0, e1, e2, e3, e4, _, _, _, _, _, hqn⟩ := box5 HF.out
    obtain ⟨g0, g1, g2, g3, g4, y0, y1, y2, y3, y4, hyn⟩ := box5 HYF.out
    go_wp2_with fail
    refine bodyPost_ret (v := .tuple #[.agg #[.slice Ai L qi, .slice B1 l1 k1, .slice B2 l2 k2, .slice B3 l3 k3, .slice B4 l4 k4], .int .i64 0]) ?_ rfl ?_
    · have h := blk_set (blk_set (blk_set (blk_set (blk_set HYF.out 0 (.slice Ai L qi)) 1 (.slice B1 l1 k1)) 2 (.slice B2 l2 k2)) 3 (.slice B3 l3 k3)) 4 (.slice B4 l4 k4)
      simp [results, Tryd.results9, go_sem, Lib.cell_of_heap h]
    · exact rg_end HLS.out HDD.out HLL.out HWF.out HYL.out (lt_of_block HY0.out) F1.out F2.out F3.out F4.out HOE.out
end Go.Proofs.YtgkioompcmgmdaaDoor
