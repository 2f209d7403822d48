/-
  The walk of the law EvalTree. Conditions: its first argument reads as a list of bytes, its second one as a list of ints; the tables of names hold what start-up laid.
-/
import Derived.Test.YtocebddhllfhpaaDoorEvIn
import Derived.Test.YtocebddhllfhpaaDoorEvSm
import Derived.Test.YtocebddhllfhpaaDoorEvAw
import Derived.Test.YtocebddhllfhpaaDoorWalkMod
namespace Go.Proofs.YtocebddhllfhpaaDoor
open Go.RowKit

theorem ex_low {n m : Nat} {w : World} {e : Ex} {cs : List Value} (h : ExL (From n) w e cs) (hm : m ≤ n) : ExL (From m) w e cs := ExL.still (fun k (h1 : n ≤ k) _ => ⟨Nat.le_trans hm h1, rfl⟩) e cs h
theorem val_tree (zs : List Int) (v : En) (k : Int) (a b : Ex) (hk : 8 ≤ k) : valS zs v (.mk k 0 [] 0 0 [a, b]) = apS k (valS zs v a) (valS zs v b) := by
  simp only [valS, argS]
  iterate 7 rw [if_neg (by omega)]

set_option maxHeartbeats 8000000 in
set_option maxRecDepth 100000 in
theorem evalTree_any (zs : List Int) (Z : Option Addr) (zn zc : Nat) (codes : Value) (op : Int) (w : World) (hcd : BytesIn w.heap.size w codes) (hz : ZsAt w zs Z zn) (hg : GlAt w) (hgt : glTop ≤ w.heap.size) :
    Calls Tryd.prog 5 #[codes, .slice Z zn zc, .int .i64 op] w fun e w' => e = .returned (.bool true) ∧ Below w.heap.size w w' := by
  have HCD := Lib.hid hcd
  have HZ := Lib.hid hz
  have HG := Lib.hid hg
  clear hcd hz hg
  go_enter Tryd.func5, Tryd.ntmps5
  go_wp2_with fail
  refine (awake4_any _).mono ?_
  rintro e w1 ⟨rfl, hb⟩
  have HB1 := Lib.hid hb
  clear hb
  go_wp2_with fail
  refine (new_any w.heap.size codes 160 w1 (HCD.out.below HB1.out) HB1.out.size (by decide)).mono ?_
  rintro e w2 ⟨cb, A, n, c, rfl, -, hcs, hcb1, hb⟩
  have HB2 := Lib.hid (HB1.out.trans (hb.mono HB1.out.size))
  have HC2 : Hid (CodesIn w.heap.size w2 cb) := ⟨A, n, c, 0, hcs⟩
  have hcb : w.heap.size ≤ cb := Nat.le_trans HB1.out.size hcb1
  have hgt' : glTop ≤ cb := Nat.le_trans hgt hcb
  have hg2 : GlAt w2 := by
    obtain ⟨⟨T, fr, h1⟩, ⟨T', fr', h2⟩⟩ := HG.out
    exact ⟨⟨T, fr, below_blk HB2.out h1⟩, ⟨T', fr', below_blk HB2.out h2⟩⟩
  have HG2 := Lib.hid hg2
  clear hb hcs hcb1 HB1 hg2
  go_wp2_with fail
  refine (int_any w.heap.size cb w2 HC2.out).mono ?_
  rintro e w3 ⟨z, rfl, -, hc, hk⟩
  have hcb3 := hc.lt
  have HB3 := Lib.hid (HB2.out.trans (hk.below HB2.out.size hcb))
  have HC3 := Lib.hid (hc.up (w' := w3.alloc (.cells #[.int .i64 1, .int .i64 3, .int .i64 2, .int .i64 z] 25)) fun j hj => alloc_blk _ _ (by omega))
  have HG3 := Lib.hid ((HG2.out.keep hk hgt').keep ((Keep.refl cb w3).alloc (.cells #[.int .i64 1, .int .i64 3, .int .i64 2, .int .i64 z] 25)) hgt')
  have HE3 := Lib.hid (new_blk w3 (.cells #[.int .i64 1, .int .i64 3, .int .i64 2, .int .i64 z] 25))
  obtain ⟨ne, hne⟩ : ∃ x, w3.heap.size = x := ⟨_, rfl⟩
  have HB3' := Lib.hid (HB3.out.alloc HB3.out.size (.cells #[.int .i64 1, .int .i64 3, .int .i64 2, .int .i64 z] 25))
  have hz3 : (w3.alloc (.cells #[.int .i64 1, .int .i64 3, .int .i64 2, .int .i64 z] 25)).heap.size = ne + 1 := by rw [new_size, hne]
  clear hc hk HC2 HG2 HB2 HB3
  go_upto_region 5 with fail
  obtain ⟨W3, hW3⟩ : ∃ W3, w3.alloc (.cells #[.int .i64 1, .int .i64 3, .int .i64 2, .int .i64 z] 25) = W3 := ⟨_, rfl⟩
  rw [hW3] at HC3 HG3 HE3 HB3' hz3
  rw [hne] at HE3 hcb3
  simp only [hW3]
  clear hW3 hne
  go_wp2_with fail
  refine (mx_all 4 (by decide) (by decide) w.heap.size cb W3 HC3.out HG3.out hgt').mono ?_
  rintro e w4 ⟨ex1, v1, rfl, ⟨x0, x1, x2, x3, x4, xA, xl, xq, rfl, hl⟩, hdr, hc, hk⟩
  have hbig := drE_big 4 ex1 hdr
  have HK4 := Lib.hid hk
  have hsm := small_all 100000 (by decide) ex1 (by omega) w.heap.size cb (From W3.heap.size) (fun b (hb : W3.heap.size ≤ b) => by omega) w4 x0 x1 x2 x3 x4 xA xl xq hc hl
  have HSM := Lib.hid hsm
  clear hl hdr hc hk hbig hsm
  go_wp2_with fail
  refine HSM.out.mono ?_
  rintro e w5 ⟨exa, v1, rfl, ⟨a0, a1, a2, a3, a4, aA, al, aq, rfl, hl⟩, -, -, hc, hk⟩
  have HL5 := Lib.hid hl
  have HK5 := Lib.hid (HK4.out.trans hk)
  have HC5 := Lib.hid hc
  have hz4 := HK4.out.size
  have hz5 := hk.size
  clear hl hc hk HSM HK4
  go_wp2_with fail
  refine (mx_all 4 (by decide) (by decide) w.heap.size cb w5 HC5.out (HG3.out.keep HK5.out hgt') hgt').mono ?_
  rintro e w6a ⟨ex2, v2, rfl, ⟨y0, y1, y2, y3, y4, yA, yl, yq, rfl, hl⟩, hdr, hc, hk⟩
  have hbig := drE_big 4 ex2 hdr
  have HK6a := Lib.hid hk
  have hsm := small_all 100000 (by decide) ex2 (by omega) w.heap.size cb (From w5.heap.size) (fun b (hb : w5.heap.size ≤ b) => by omega) w6a y0 y1 y2 y3 y4 yA yl yq hc hl
  have HSM := Lib.hid hsm
  clear hl hdr hc hk hbig hsm
  go_wp2_with fail
  refine HSM.out.mono ?_
  rintro e w6 ⟨exb, v2, rfl, ⟨a0', a1', a2', a3', a4', aA', al', aq', rfl, hl⟩, -, -, hc, hk⟩
  have HLB := Lib.hid (ex_low hl (m := ne + 1) (by have := HK6a.out.size; omega))
  have HKb := Lib.hid (HK6a.out.trans hk)
  have HLA := Lib.hid (HL5.out.keep (m := ne + 1) (by omega) HKb.out (by omega))
  have hz6 := HKb.out.size
  have HKw := Lib.hid (HK5.out.trans HKb.out)
  have HB6 := Lib.hid (HB3'.out.trans (HKw.out.below HB3'.out.size hcb))
  have HE6 := Lib.hid (HKw.out.blk HE3.out (by omega))
  clear hl hc hk HSM HK6a HL5 HK5 HC5 HC3 HG3 HE3 HB3' HKb HKw
  go_upto_region 6 with fail
  obtain ⟨na, hna⟩ : ∃ x, w6.heap.size = x := ⟨_, rfl⟩
  obtain ⟨W7, hW7⟩ : ∃ W7, (w6.alloc (.cells #[.int .i64 a0, .int .i64 a1, .string a2, .int .i64 a3, .int .i64 a4, .slice aA al aq] 31)).alloc (.cells #[.int .i64 a0', .int .i64 a1', .string a2', .int .i64 a3', .int .i64 a4', .slice aA' al' aq'] 31) = W7 := ⟨_, rfl⟩
  have HBA := Lib.hid (show Below w6.heap.size w6 W7 by rw [← hW7]; exact ((Below.refl _ _).alloc (Nat.le_refl _) _).alloc (by rw [new_size]; omega) _)
  have HXA := Lib.hid (show W7.heap[na]? = some (.cells #[.int .i64 a0, .int .i64 a1, .string a2, .int .i64 a3, .int .i64 a4, .slice aA al aq] 31 (0, 0)) by rw [← hW7, ← hna]; exact (alloc_blk _ _ (by rw [new_size]; omega)).trans (new_blk w6 _))
  have HXB := Lib.hid (show W7.heap[na + 1]? = some (.cells #[.int .i64 a0', .int .i64 a1', .string a2', .int .i64 a3', .int .i64 a4', .slice aA' al' aq'] 31 (0, 0)) by rw [← hW7, ← hna]; exact new_blk1 w6 _ _)
  have HXE := Lib.hid (below_blk HBA.out HE6.out)
  simp only [hW7, hna]
  clear hW7
  go_wp2_with fail
  refine (mod_any op 15 _ (by decide) (by decide)).mono ?_
  rintro e w8 ⟨k, hk, rfl, rfl⟩
  have hk' : (k : Int) < 15 := by omega
  obtain ⟨XA, hXA⟩ : ∃ x, valS zs ⟨1, 3, 2, z⟩ exa = x := ⟨_, rfl⟩
  obtain ⟨XB, hXB⟩ : ∃ x, valS zs ⟨1, 3, 2, z⟩ exb = x := ⟨_, rfl⟩
  obtain ⟨R, hR⟩ : ∃ x, apS (8 + (k : Int)) XA XB = x := ⟨_, rfl⟩
  have HVA : Hid (∀ wc, (Below w6.heap.size w6 wc ∧ wc.cell? ⟨na, 0, none⟩ = some (.int .i64 a0) ∧ wc.cell? ⟨na, 1, none⟩ = some (.int .i64 a1) ∧ wc.cell? ⟨na, 2, none⟩ = some (.string a2) ∧ wc.cell? ⟨na, 3, none⟩ = some (.int .i64 a3) ∧ wc.cell? ⟨na, 4, none⟩ = some (.int .i64 a4) ∧ wc.cell? ⟨na, 5, none⟩ = some (.slice aA al aq) ∧ wc.cell? ⟨na + 1, 0, none⟩ = some (.int .i64 a0') ∧ wc.cell? ⟨na + 1, 1, none⟩ = some (.int .i64 a1') ∧ wc.cell? ⟨na + 1, 2, none⟩ = some (.string a2') ∧ wc.cell? ⟨na + 1, 3, none⟩ = some (.int .i64 a3') ∧ wc.cell? ⟨na + 1, 4, none⟩ = some (.int .i64 a4') ∧ wc.cell? ⟨na + 1, 5, none⟩ = some (.slice aA' al' aq') ∧ wc.cell? ⟨ne, 0, none⟩ = some (.int .i64 1) ∧ wc.cell? ⟨ne, 1, none⟩ = some (.int .i64 3) ∧ wc.cell? ⟨ne, 2, none⟩ = some (.int .i64 2) ∧ wc.cell? ⟨ne, 3, none⟩ = some (.int .i64 z)) → Calls Tryd.prog 10 #[.agg #[.int .i64 a0, .int .i64 a1, .string a2, .int .i64 a3, .int .i64 a4, .slice aA al aq], .slice Z zn zc, .agg #[.int .i64 1, .int .i64 3, .int .i64 2, .int .i64 z]] wc fun e' w' => e' = .returned (.int .i64 XA) ∧ (Below w6.heap.size w6 w' ∧ w'.cell? ⟨na, 0, none⟩ = some (.int .i64 a0) ∧ w'.cell? ⟨na, 1, none⟩ = some (.int .i64 a1) ∧ w'.cell? ⟨na, 2, none⟩ = some (.string a2) ∧ w'.cell? ⟨na, 3, none⟩ = some (.int .i64 a3) ∧ w'.cell? ⟨na, 4, none⟩ = some (.int .i64 a4) ∧ w'.cell? ⟨na, 5, none⟩ = some (.slice aA al aq) ∧ w'.cell? ⟨na + 1, 0, none⟩ = some (.int .i64 a0') ∧ w'.cell? ⟨na + 1, 1, none⟩ = some (.int .i64 a1') ∧ w'.cell? ⟨na + 1, 2, none⟩ = some (.string a2') ∧ w'.cell? ⟨na + 1, 3, none⟩ = some (.int .i64 a3') ∧ w'.cell? ⟨na + 1, 4, none⟩ = some (.int .i64 a4') ∧ w'.cell? ⟨na + 1, 5, none⟩ = some (.slice aA' al' aq') ∧ w'.cell? ⟨ne, 0, none⟩ = some (.int .i64 1) ∧ w'.cell? ⟨ne, 1, none⟩ = some (.int .i64 3) ∧ w'.cell? ⟨ne, 2, none⟩ = some (.int .i64 2) ∧ w'.cell? ⟨ne, 3, none⟩ = some (.int .i64 z))) := fun wc hs => by
    obtain ⟨b0, r0, r1, r2, r3, r4, r5, r6, r7, r8, r9, r10, r11, r12, r13, r14, r15⟩ := hs
    have hl := ExL.still (S' := From (ne + 1)) (w' := wc) (fun j hj1 hj2 => ⟨hj1, b0.block j hj2⟩) exa _ HLA.out
    have h := value_any zs ⟨1, 3, 2, z⟩ exa _ wc a0 a1 a2 a3 a4 aA al aq Z zn zc hl ((HZ.out.below HB6.out).below b0)
    rw [hXA] at h
    refine h.mono ?_
    rintro e' w' ⟨he, hb⟩
    have hll : ∀ (p : Addr) u, wc.cell? p = some u → w'.cell? p = some u := fun p u hu => (hb.cell (p := p) (World.block_lt_of_cell? wc _ hu)).trans hu
    exact ⟨he, b0.trans (hb.mono b0.size), hll _ _ r0, hll _ _ r1, hll _ _ r2, hll _ _ r3, hll _ _ r4, hll _ _ r5, hll _ _ r6, hll _ _ r7, hll _ _ r8, hll _ _ r9, hll _ _ r10, hll _ _ r11, hll _ _ r12, hll _ _ r13, hll _ _ r14, hll _ _ r15⟩
  have HVB : Hid (∀ wc, (Below w6.heap.size w6 wc ∧ wc.cell? ⟨na, 0, none⟩ = some (.int .i64 a0) ∧ wc.cell? ⟨na, 1, none⟩ = some (.int .i64 a1) ∧ wc.cell? ⟨na, 2, none⟩ = some (.string a2) ∧ wc.cell? ⟨na, 3, none⟩ = some (.int .i64 a3) ∧ wc.cell? ⟨na, 4, none⟩ = some (.int .i64 a4) ∧ wc.cell? ⟨na, 5, none⟩ = some (.slice aA al aq) ∧ wc.cell? ⟨na + 1, 0, none⟩ = some (.int .i64 a0') ∧ wc.cell? ⟨na + 1, 1, none⟩ = some (.int .i64 a1') ∧ wc.cell? ⟨na + 1, 2, none⟩ = some (.string a2') ∧ wc.cell? ⟨na + 1, 3, none⟩ = some (.int .i64 a3') ∧ wc.cell? ⟨na + 1, 4, none⟩ = some (.int .i64 a4') ∧ wc.cell? ⟨na + 1, 5, none⟩ = some (.slice aA' al' aq') ∧ wc.cell? ⟨ne, 0, none⟩ = some (.int .i64 1) ∧ wc.cell? ⟨ne, 1, none⟩ = some (.int .i64 3) ∧ wc.cell? ⟨ne, 2, none⟩ = some (.int .i64 2) ∧ wc.cell? ⟨ne, 3, none⟩ = some (.int .i64 z)) → Calls Tryd.prog 10 #[.agg #[.int .i64 a0', .int .i64 a1', .string a2', .int .i64 a3', .int .i64 a4', .slice aA' al' aq'], .slice Z zn zc, .agg #[.int .i64 1, .int .i64 3, .int .i64 2, .int .i64 z]] wc fun e' w' => e' = .returned (.int .i64 XB) ∧ (Below w6.heap.size w6 w' ∧ w'.cell? ⟨na, 0, none⟩ = some (.int .i64 a0) ∧ w'.cell? ⟨na, 1, none⟩ = some (.int .i64 a1) ∧ w'.cell? ⟨na, 2, none⟩ = some (.string a2) ∧ w'.cell? ⟨na, 3, none⟩ = some (.int .i64 a3) ∧ w'.cell? ⟨na, 4, none⟩ = some (.int .i64 a4) ∧ w'.cell? ⟨na, 5, none⟩ = some (.slice aA al aq) ∧ w'.cell? ⟨na + 1, 0, none⟩ = some (.int .i64 a0') ∧ w'.cell? ⟨na + 1, 1, none⟩ = some (.int .i64 a1') ∧ w'.cell? ⟨na + 1, 2, none⟩ = some (.string a2') ∧ w'.cell? ⟨na + 1, 3, none⟩ = some (.int .i64 a3') ∧ w'.cell? ⟨na + 1, 4, none⟩ = some (.int .i64 a4') ∧ w'.cell? ⟨na + 1, 5, none⟩ = some (.slice aA' al' aq') ∧ w'.cell? ⟨ne, 0, none⟩ = some (.int .i64 1) ∧ w'.cell? ⟨ne, 1, none⟩ = some (.int .i64 3) ∧ w'.cell? ⟨ne, 2, none⟩ = some (.int .i64 2) ∧ w'.cell? ⟨ne, 3, none⟩ = some (.int .i64 z))) := fun wc hs => by
    obtain ⟨b0, r0, r1, r2, r3, r4, r5, r6, r7, r8, r9, r10, r11, r12, r13, r14, r15⟩ := hs
    have hl := ExL.still (S' := From (ne + 1)) (w' := wc) (fun j hj1 hj2 => ⟨hj1, b0.block j hj2⟩) exb _ HLB.out
    have h := value_any zs ⟨1, 3, 2, z⟩ exb _ wc a0' a1' a2' a3' a4' aA' al' aq' Z zn zc hl ((HZ.out.below HB6.out).below b0)
    rw [hXB] at h
    refine h.mono ?_
    rintro e' w' ⟨he, hb⟩
    have hll : ∀ (p : Addr) u, wc.cell? p = some u → w'.cell? p = some u := fun p u hu => (hb.cell (p := p) (World.block_lt_of_cell? wc _ hu)).trans hu
    exact ⟨he, b0.trans (hb.mono b0.size), hll _ _ r0, hll _ _ r1, hll _ _ r2, hll _ _ r3, hll _ _ r4, hll _ _ r5, hll _ _ r6, hll _ _ r7, hll _ _ r8, hll _ _ r9, hll _ _ r10, hll _ _ r11, hll _ _ r12, hll _ _ r13, hll _ _ r14, hll _ _ r15⟩
  have HVT : Hid (∀ (wc : World) (bb : Nat), Below w6.heap.size w6 wc → wc.heap[bb]? = some (.cells #[.int .i64 a0, .int .i64 a1, .string a2, .int .i64 a3, .int .i64 a4, .slice aA al aq, .int .i64 a0', .int .i64 a1', .string a2', .int .i64 a3', .int .i64 a4', .slice aA' al' aq'] 31 (0, 0)) → Calls Tryd.prog 10 #[.agg #[.int .i64 (8 + (k : Int)), .int .i64 0, .string ⟨#[]⟩, .int .i64 0, .int .i64 0, .slice (some ⟨bb, 0, none⟩) 2 2], .slice Z zn zc, .agg #[.int .i64 1, .int .i64 3, .int .i64 2, .int .i64 z]] wc fun e' w' => e' = .returned (.int .i64 R) ∧ Below wc.heap.size wc w') := fun wc bb b0 hbb => by
    have hla := ExL.still (S' := fun _ => True) (w' := wc) (fun j _ hj2 => ⟨trivial, b0.block j hj2⟩) exa _ HLA.out
    have hlb := ExL.still (S' := fun _ => True) (w' := wc) (fun j _ hj2 => ⟨trivial, b0.block j hj2⟩) exb _ HLB.out
    have h := value_any zs ⟨1, 3, 2, z⟩ (.mk (8 + (k : Int)) 0 [] 0 0 [exa, exb]) (fun _ => True) wc (8 + (k : Int)) 0 ⟨#[]⟩ 0 0 (some ⟨bb, 0, none⟩) 2 2 Z zn zc (by
      simp only [ExL]
      refine ⟨_, 2, rfl, Nat.le_refl _, fun _ => ⟨bb, 0, rfl, trivial, ?_⟩⟩
      simp only [ExRow, and_true]
      refine ⟨⟨_, fun j u hj => ?_, hla⟩, ⟨_, fun j u hj => ?_, hlb⟩⟩
      · rw [Lib.cell_of_heap hbb]
        match j, hj with
        | 0, hj => simpa using hj
        | 1, hj => simpa using hj
        | 2, hj => simpa using hj
        | 3, hj => simpa using hj
        | 4, hj => simpa using hj
        | 5, hj => simpa using hj
      · rw [Lib.cell_of_heap hbb]
        match j, hj with
        | 0, hj => simpa using hj
        | 1, hj => simpa using hj
        | 2, hj => simpa using hj
        | 3, hj => simpa using hj
        | 4, hj => simpa using hj
        | 5, hj => simpa using hj) ((HZ.out.below HB6.out).below b0)
    rw [val_tree _ _ _ _ _ (by omega), hXA, hXB, hR] at h
    exact h
  have HAP := Lib.hid (apply_any (8 + (k : Int)) XA XB)
  rw [hR] at HAP
  clear hXA hXB hR hk
  obtain ⟨s0, s1, s2, s3, s4, s5, _⟩ := box6 HXA.out
  obtain ⟨t0, t1, t2, t3, t4, t5, _⟩ := box6 HXB.out
  obtain ⟨u0, u1, u2, u3⟩ := box4 HXE.out
  have hs0 : Below w6.heap.size w6 w8.drew ∧ w8.drew.cell? ⟨na, 0, none⟩ = some (.int .i64 a0) ∧ w8.drew.cell? ⟨na, 1, none⟩ = some (.int .i64 a1) ∧ w8.drew.cell? ⟨na, 2, none⟩ = some (.string a2) ∧ w8.drew.cell? ⟨na, 3, none⟩ = some (.int .i64 a3) ∧ w8.drew.cell? ⟨na, 4, none⟩ = some (.int .i64 a4) ∧ w8.drew.cell? ⟨na, 5, none⟩ = some (.slice aA al aq) ∧ w8.drew.cell? ⟨na + 1, 0, none⟩ = some (.int .i64 a0') ∧ w8.drew.cell? ⟨na + 1, 1, none⟩ = some (.int .i64 a1') ∧ w8.drew.cell? ⟨na + 1, 2, none⟩ = some (.string a2') ∧ w8.drew.cell? ⟨na + 1, 3, none⟩ = some (.int .i64 a3') ∧ w8.drew.cell? ⟨na + 1, 4, none⟩ = some (.int .i64 a4') ∧ w8.drew.cell? ⟨na + 1, 5, none⟩ = some (.slice aA' al' aq') ∧ w8.drew.cell? ⟨ne, 0, none⟩ = some (.int .i64 1) ∧ w8.drew.cell? ⟨ne, 1, none⟩ = some (.int .i64 3) ∧ w8.drew.cell? ⟨ne, 2, none⟩ = some (.int .i64 2) ∧ w8.drew.cell? ⟨ne, 3, none⟩ = some (.int .i64 z) := ⟨HBA.out.drew, s0, s1, s2, s3, s4, s5, t0, t1, t2, t3, t4, t5, u0, u1, u2, u3⟩
  clear s0 s1 s2 s3 s4 s5 t0 t1 t2 t3 t4 t5 u0 u1 u2 u3
  go_upto_region 7 with fail
  go_region_held3 (fun w' => Below w6.heap.size w6 w' ∧ w'.cell? ⟨na, 0, none⟩ = some (.int .i64 a0) ∧ w'.cell? ⟨na, 1, none⟩ = some (.int .i64 a1) ∧ w'.cell? ⟨na, 2, none⟩ = some (.string a2) ∧ w'.cell? ⟨na, 3, none⟩ = some (.int .i64 a3) ∧ w'.cell? ⟨na, 4, none⟩ = some (.int .i64 a4) ∧ w'.cell? ⟨na, 5, none⟩ = some (.slice aA al aq) ∧ w'.cell? ⟨na + 1, 0, none⟩ = some (.int .i64 a0') ∧ w'.cell? ⟨na + 1, 1, none⟩ = some (.int .i64 a1') ∧ w'.cell? ⟨na + 1, 2, none⟩ = some (.string a2') ∧ w'.cell? ⟨na + 1, 3, none⟩ = some (.int .i64 a3') ∧ w'.cell? ⟨na + 1, 4, none⟩ = some (.int .i64 a4') ∧ w'.cell? ⟨na + 1, 5, none⟩ = some (.slice aA' al' aq') ∧ w'.cell? ⟨ne, 0, none⟩ = some (.int .i64 1) ∧ w'.cell? ⟨ne, 1, none⟩ = some (.int .i64 3) ∧ w'.cell? ⟨ne, 2, none⟩ = some (.int .i64 2) ∧ w'.cell? ⟨ne, 3, none⟩ = some (.int .i64 z)) (assumption) (first | (go_at_call 10; ((with_reducible refine (HVA.out _ ?_).mono ?_)); assumption; rintro e' w9 ⟨rfl, hs9⟩) | (go_at_call 10; ((with_reducible refine (HVB.out _ ?_).mono ?_)); assumption; rintro e' w10 ⟨rfl, hs10⟩))
  obtain ⟨b0, s0, s1, s2, s3, s4, s5, t0, t1, t2, t3, t4, t5, u0, u1, u2, u3⟩ := hs10
  have HB10 := Lib.hid b0
  have hne10 : ne < w10.heap.size := World.block_lt_of_cell? w10 _ u0
  clear b0 hs0 hs9
  go_wp2_with fail
  refine (HVT.out _ w10.heap.size (HB10.out.alloc HB10.out.size _) (new_blk w10 _)).mono ?_
  rintro e w11 ⟨rfl, hb⟩
  have HB11 := Lib.hid ((HB10.out.alloc HB10.out.size _).trans (hb.mono (by rw [new_size]; have := HB10.out.size; omega)))
  clear hb
  go_wp2_with fail
  refine (HAP.out _).mono ?_
  rintro e w12 ⟨rfl, hb⟩
  have HB12 := Lib.hid (HB11.out.trans (hb.mono HB11.out.size))
  clear hb
  go_wp2_with fail
  go_ret
  exact ⟨rfl, HB6.out.trans (HB12.out.mono HB6.out.size)⟩
end Go.Proofs.YtocebddhllfhpaaDoor
