/-
  The walk of the law EvalValues. Conditions: its first argument reads as a list of bytes, its second one as a list of 64-bit ints, its third one as four 64-bit ints; the tables of names hold what start-up laid.
-/
import Derived.Test.YtocebddhllfhpaaDoorEvPl
import Derived.Test.YtocebddhllfhpaaDoorEvRz
import Derived.Test.YtocebddhllfhpaaDoorEvAw
namespace Go.Proofs.YtocebddhllfhpaaDoor
open Go.RowKit

theorem drE_R : ∀ (d : Nat) (e : Ex), drE d e → exR e
  | 0, e, h => h.elim
  | d + 1, .mk op v nm sl sz args, h => by
    simp only [drE] at h
    obtain ⟨h1, h2, h⟩ := h
    subst h1 h2
    simp only [exR]
    have h0 : I64 0 := by decide
    rcases h with ⟨_, h1, h2, _, rfl⟩ | ⟨_, rfl, _, rfl⟩ | ⟨_, _, rfl, _, rfl⟩ | ⟨_, rfl, _, e, rfl, h1⟩ | ⟨_, _, rfl, _, e, rfl, h1⟩ | ⟨_, _, rfl, _, a, b, rfl, h1, h2⟩
    · exact ⟨by constructor <;> omega, h0, h0, by simp only [exRL]⟩
    · exact ⟨h0, h0, h0, by simp only [exRL]⟩
    · exact ⟨h0, h0, h0, by simp only [exRL]⟩
    · exact ⟨h0, h0, h0, by simp only [exRL, and_true]; exact drE_R d e h1⟩
    · exact ⟨h0, h0, h0, by simp only [exRL, and_true]; exact drE_R d e h1⟩
    · exact ⟨h0, h0, h0, by simp only [exRL, and_true]; exact ⟨drE_R d a h1, drE_R d b h2⟩⟩
theorem ex_low {n m : Nat} {w : World} {e : Ex} {cs : List Value} (h : ExL (From n) w e cs) (hm : m ≤ n) : ExL (From m) w e cs := ExL.still (fun k (h1 : n ≤ k) _ => ⟨Nat.le_trans hm h1, rfl⟩) e cs h

set_option maxHeartbeats 8000000 in
set_option maxRecDepth 100000 in
theorem evalValues_any (zs : List Int) (Z : Option Addr) (zn zc : Nat) (codes : Value) (self procs src va : Int) (w : World) (hcd : BytesIn w.heap.size w codes) (hz : ZsAt w zs Z zn) (hzr : ∀ z ∈ zs, I64 z) (hvr : I64 self ∧ I64 procs ∧ I64 src ∧ I64 va) (hg : GlAt w) (hgt : glTop ≤ w.heap.size) :
    Calls Tryd.prog 3 #[codes, .slice Z zn zc, .agg #[.int .i64 self, .int .i64 procs, .int .i64 src, .int .i64 va]] w fun e w' => e = .returned (.bool true) ∧ Below w.heap.size w w' := by
  have HCD := Lib.hid hcd
  have HZ := Lib.hid hz
  have HZR := Lib.hid hzr
  have HVR := Lib.hid hvr
  have HG := Lib.hid hg
  obtain ⟨ne, hne⟩ : ∃ x, w.heap.size = x := ⟨_, rfl⟩
  obtain ⟨W0, hW0⟩ : ∃ W0, w.alloc (.cells #[.int .i64 self, .int .i64 procs, .int .i64 src, .int .i64 va] 25) = W0 := ⟨_, rfl⟩
  have HB0 := Lib.hid (show Below w.heap.size w W0 by rw [← hW0]; exact rp_one1 w _)
  have HE0 := Lib.hid (show W0.heap[ne]? = some (.cells #[.int .i64 self, .int .i64 procs, .int .i64 src, .int .i64 va] 25 (0, 0)) by rw [← hW0, ← hne]; exact new_blk w _)
  clear hcd hz hzr hvr hg
  go_enter Tryd.func3, Tryd.ntmps3
  go_wp2_with fail
  refine (awake4_any _).mono ?_
  rintro e w1 ⟨rfl, hb⟩
  have HB1 := Lib.hid (HB0.out.trans (hb.mono HB0.out.size))
  have HE1 := Lib.hid (below_blk hb HE0.out)
  clear hb hW0
  go_wp2_with fail
  refine (new_any w.heap.size codes 200 w1 (HCD.out.below HB1.out) HB1.out.size (by decide)).mono ?_
  rintro e w2 ⟨cb, A, n, c, rfl, -, hcs, hcb1, hb⟩
  have HB2 := Lib.hid (HB1.out.trans (hb.mono HB1.out.size))
  have HE2 := Lib.hid (below_blk hb HE1.out)
  have HC2 : Hid (CodesIn w.heap.size w2 cb) := ⟨A, n, c, 0, hcs⟩
  have hne1 := lt_of_block HE1.out
  have hcb : w.heap.size ≤ cb := Nat.le_trans HB1.out.size hcb1
  have hnecb : ne < cb := Nat.lt_of_lt_of_le hne1 hcb1
  have hgt' : glTop ≤ cb := Nat.le_trans hgt hcb
  have hg2 : GlAt w2 := by
    obtain ⟨⟨T, fr, h1⟩, ⟨T', fr', h2⟩⟩ := HG.out
    exact ⟨⟨T, fr, below_blk HB2.out h1⟩, ⟨T', fr', below_blk HB2.out h2⟩⟩
  have HG2 := Lib.hid hg2
  clear hb hcs hcb1 HB1 hg2 hne1
  go_wp2_with fail
  refine (mx_all 5 (by decide) (by decide) w.heap.size cb w2 HC2.out HG2.out hgt').mono ?_
  rintro e w4 ⟨ex1, v1, rfl, ⟨x0, x1, x2, x3, x4, xA, xl, xq, rfl, hl⟩, hdr, hc, hk⟩
  have hbig := drE_big 5 ex1 hdr
  have hcb2 := HC2.out.lt
  have HK4 := Lib.hid hk
  have hsm := place_all 100000 (by decide) ex1 (by omega) (drE_R 5 ex1 hdr) w.heap.size cb (From w2.heap.size) (fun b (hb : w2.heap.size ≤ b) => by omega) w4 x0 x1 x2 x3 x4 xA xl xq hc hl
  have HSM := Lib.hid hsm
  clear hl hdr hc hk hbig hsm
  go_wp2_with fail
  refine HSM.out.mono ?_
  rintro e w6 ⟨exa, v1, rfl, ⟨a0, a1, a2, a3, a4, aA, al, aq, rfl, hl⟩, hr, hc, hk⟩
  have hz4 := HK4.out.size
  have hz6 := hk.size
  have HKw := Lib.hid (HK4.out.trans hk)
  have HLA := Lib.hid (ex_low hl (m := ne + 1) (by omega))
  have HRA := Lib.hid hr
  have HB6 := Lib.hid (HB2.out.trans (HKw.out.below HB2.out.size hcb))
  have HE6 := Lib.hid (HKw.out.blk HE2.out (by omega))
  clear hl hc hk hr HSM HK4 HC2 HG2 HB2 HKw
  go_upto_region 5 with fail
  obtain ⟨na, hna⟩ : ∃ x, w6.heap.size = x := ⟨_, rfl⟩
  obtain ⟨W7, hW7⟩ : ∃ W7, w6.alloc (.cells #[.int .i64 a0, .int .i64 a1, .string a2, .int .i64 a3, .int .i64 a4, .slice aA al aq] 31) = W7 := ⟨_, rfl⟩
  have HBA := Lib.hid (show Below w6.heap.size w6 W7 by rw [← hW7]; exact rp_one1 w6 _)
  have HXA := Lib.hid (show W7.heap[na]? = some (.cells #[.int .i64 a0, .int .i64 a1, .string a2, .int .i64 a3, .int .i64 a4, .slice aA al aq] 31 (0, 0)) by rw [← hW7, ← hna]; exact new_blk w6 _)
  have HXE := Lib.hid (below_blk HBA.out HE6.out)
  simp only [hW7, hna]
  clear hW7
  obtain ⟨R, hR⟩ : ∃ x, valS zs ⟨self, procs, src, va⟩ exa = x := ⟨_, rfl⟩
  have HVA : Hid (∀ wc, (Below w6.heap.size w6 wc ∧ wc.cell? ⟨na, 0, none⟩ = some (.int .i64 a0) ∧ wc.cell? ⟨na, 1, none⟩ = some (.int .i64 a1) ∧ wc.cell? ⟨na, 2, none⟩ = some (.string a2) ∧ wc.cell? ⟨na, 3, none⟩ = some (.int .i64 a3) ∧ wc.cell? ⟨na, 4, none⟩ = some (.int .i64 a4) ∧ wc.cell? ⟨na, 5, none⟩ = some (.slice aA al aq) ∧ wc.cell? ⟨ne, 0, none⟩ = some (.int .i64 self) ∧ wc.cell? ⟨ne, 1, none⟩ = some (.int .i64 procs) ∧ wc.cell? ⟨ne, 2, none⟩ = some (.int .i64 src) ∧ wc.cell? ⟨ne, 3, none⟩ = some (.int .i64 va)) → Calls Tryd.prog 10 #[.agg #[.int .i64 a0, .int .i64 a1, .string a2, .int .i64 a3, .int .i64 a4, .slice aA al aq], .slice Z zn zc, .agg #[.int .i64 self, .int .i64 procs, .int .i64 src, .int .i64 va]] wc fun e' w' => e' = .returned (.int .i64 R) ∧ (Below w6.heap.size w6 w' ∧ w'.cell? ⟨na, 0, none⟩ = some (.int .i64 a0) ∧ w'.cell? ⟨na, 1, none⟩ = some (.int .i64 a1) ∧ w'.cell? ⟨na, 2, none⟩ = some (.string a2) ∧ w'.cell? ⟨na, 3, none⟩ = some (.int .i64 a3) ∧ w'.cell? ⟨na, 4, none⟩ = some (.int .i64 a4) ∧ w'.cell? ⟨na, 5, none⟩ = some (.slice aA al aq) ∧ w'.cell? ⟨ne, 0, none⟩ = some (.int .i64 self) ∧ w'.cell? ⟨ne, 1, none⟩ = some (.int .i64 procs) ∧ w'.cell? ⟨ne, 2, none⟩ = some (.int .i64 src) ∧ w'.cell? ⟨ne, 3, none⟩ = some (.int .i64 va))) := fun wc hs => by
    obtain ⟨b0, r0, r1, r2, r3, r4, r5, r6, r7, r8, r9⟩ := hs
    have hl := ExL.still (S' := From (ne + 1)) (w' := wc) (fun j hj1 hj2 => ⟨hj1, b0.block j hj2⟩) exa _ HLA.out
    have h := value_any zs ⟨self, procs, src, va⟩ exa _ wc a0 a1 a2 a3 a4 aA al aq Z zn zc hl ((HZ.out.below HB6.out).below b0)
    rw [hR] at h
    refine h.mono ?_
    rintro e' w' ⟨he, hb⟩
    have hll : ∀ (p : Addr) u, wc.cell? p = some u → w'.cell? p = some u := fun p u hu => (hb.cell (p := p) (World.block_lt_of_cell? wc _ hu)).trans hu
    exact ⟨he, b0.trans (hb.mono b0.size), hll _ _ r0, hll _ _ r1, hll _ _ r2, hll _ _ r3, hll _ _ r4, hll _ _ r5, hll _ _ r6, hll _ _ r7, hll _ _ r8, hll _ _ r9⟩
  have HVB : Hid (∀ wc, (Below w6.heap.size w6 wc ∧ wc.cell? ⟨na, 0, none⟩ = some (.int .i64 a0) ∧ wc.cell? ⟨na, 1, none⟩ = some (.int .i64 a1) ∧ wc.cell? ⟨na, 2, none⟩ = some (.string a2) ∧ wc.cell? ⟨na, 3, none⟩ = some (.int .i64 a3) ∧ wc.cell? ⟨na, 4, none⟩ = some (.int .i64 a4) ∧ wc.cell? ⟨na, 5, none⟩ = some (.slice aA al aq) ∧ wc.cell? ⟨ne, 0, none⟩ = some (.int .i64 self) ∧ wc.cell? ⟨ne, 1, none⟩ = some (.int .i64 procs) ∧ wc.cell? ⟨ne, 2, none⟩ = some (.int .i64 src) ∧ wc.cell? ⟨ne, 3, none⟩ = some (.int .i64 va)) → Calls Tryd.prog 11 #[.agg #[.int .i64 a0, .int .i64 a1, .string a2, .int .i64 a3, .int .i64 a4, .slice aA al aq], .slice Z zn zc, .agg #[.int .i64 self, .int .i64 procs, .int .i64 src, .int .i64 va]] wc fun e' w' => e' = .returned (.int .i64 R) ∧ (Below w6.heap.size w6 w' ∧ w'.cell? ⟨na, 0, none⟩ = some (.int .i64 a0) ∧ w'.cell? ⟨na, 1, none⟩ = some (.int .i64 a1) ∧ w'.cell? ⟨na, 2, none⟩ = some (.string a2) ∧ w'.cell? ⟨na, 3, none⟩ = some (.int .i64 a3) ∧ w'.cell? ⟨na, 4, none⟩ = some (.int .i64 a4) ∧ w'.cell? ⟨na, 5, none⟩ = some (.slice aA al aq) ∧ w'.cell? ⟨ne, 0, none⟩ = some (.int .i64 self) ∧ w'.cell? ⟨ne, 1, none⟩ = some (.int .i64 procs) ∧ w'.cell? ⟨ne, 2, none⟩ = some (.int .i64 src) ∧ w'.cell? ⟨ne, 3, none⟩ = some (.int .i64 va))) := fun wc hs => by
    obtain ⟨b0, r0, r1, r2, r3, r4, r5, r6, r7, r8, r9⟩ := hs
    have hl := ExL.still (S' := From (ne + 1)) (w' := wc) (fun j hj1 hj2 => ⟨hj1, b0.block j hj2⟩) exa _ HLA.out
    have h := rvalue_all zs ⟨self, procs, src, va⟩ HZR.out HVR.out exa.big exa (Nat.le_refl _) HRA.out _ wc a0 a1 a2 a3 a4 aA al aq Z zn zc hl ((HZ.out.below HB6.out).below b0)
    rw [hR] at h
    refine h.mono ?_
    rintro e' w' ⟨he, hb⟩
    have hll : ∀ (p : Addr) u, wc.cell? p = some u → w'.cell? p = some u := fun p u hu => (hb.cell (p := p) (World.block_lt_of_cell? wc _ hu)).trans hu
    exact ⟨he, b0.trans (hb.mono b0.size), hll _ _ r0, hll _ _ r1, hll _ _ r2, hll _ _ r3, hll _ _ r4, hll _ _ r5, hll _ _ r6, hll _ _ r7, hll _ _ r8, hll _ _ r9⟩
  clear hR
  obtain ⟨s0, s1, s2, s3, s4, s5, _⟩ := box6 HXA.out
  obtain ⟨u0, u1, u2, u3⟩ := box4 HXE.out
  have hs0 : Below w6.heap.size w6 W7.drew ∧ W7.drew.cell? ⟨na, 0, none⟩ = some (.int .i64 a0) ∧ W7.drew.cell? ⟨na, 1, none⟩ = some (.int .i64 a1) ∧ W7.drew.cell? ⟨na, 2, none⟩ = some (.string a2) ∧ W7.drew.cell? ⟨na, 3, none⟩ = some (.int .i64 a3) ∧ W7.drew.cell? ⟨na, 4, none⟩ = some (.int .i64 a4) ∧ W7.drew.cell? ⟨na, 5, none⟩ = some (.slice aA al aq) ∧ W7.drew.cell? ⟨ne, 0, none⟩ = some (.int .i64 self) ∧ W7.drew.cell? ⟨ne, 1, none⟩ = some (.int .i64 procs) ∧ W7.drew.cell? ⟨ne, 2, none⟩ = some (.int .i64 src) ∧ W7.drew.cell? ⟨ne, 3, none⟩ = some (.int .i64 va) := ⟨HBA.out.drew, s0, s1, s2, s3, s4, s5, u0, u1, u2, u3⟩
  clear s0 s1 s2 s3 s4 s5 u0 u1 u2 u3
  go_region_held3 (fun w' => Below w6.heap.size w6 w' ∧ w'.cell? ⟨na, 0, none⟩ = some (.int .i64 a0) ∧ w'.cell? ⟨na, 1, none⟩ = some (.int .i64 a1) ∧ w'.cell? ⟨na, 2, none⟩ = some (.string a2) ∧ w'.cell? ⟨na, 3, none⟩ = some (.int .i64 a3) ∧ w'.cell? ⟨na, 4, none⟩ = some (.int .i64 a4) ∧ w'.cell? ⟨na, 5, none⟩ = some (.slice aA al aq) ∧ w'.cell? ⟨ne, 0, none⟩ = some (.int .i64 self) ∧ w'.cell? ⟨ne, 1, none⟩ = some (.int .i64 procs) ∧ w'.cell? ⟨ne, 2, none⟩ = some (.int .i64 src) ∧ w'.cell? ⟨ne, 3, none⟩ = some (.int .i64 va)) (assumption) (first | (go_at_call 10; ((with_reducible refine (HVA.out _ ?_).mono ?_)); assumption; rintro e' w9 ⟨rfl, hs9⟩) | (go_at_call 11; ((with_reducible refine (HVB.out _ ?_).mono ?_)); assumption; rintro e' w10 ⟨rfl, hs10⟩))
  have HB10 := Lib.hid hs10.1
  clear hs0 hs9 hs10
  go_wp2_with fail
  go_ret
  exact ⟨rfl, HB6.out.trans (HB10.out.mono HB6.out.size)⟩
end Go.Proofs.YtocebddhllfhpaaDoor
