/-
  The walk of the law EvalIgnores. Conditions: its first argument reads as a list of bytes, its second one as a list of ints that takes at most 2^47 - 4096 bytes; the tables of names hold what start-up laid.
-/
import Derived.Test.YtocebddhllfhpaaDoorEvMn
import Derived.Test.YtocebddhllfhpaaDoorEvIn
import Derived.Test.YtocebddhllfhpaaDoorEvAw
namespace Go.Proofs.YtocebddhllfhpaaDoor
open Go.RowKit

theorem ex_low {n m : Nat} {w : World} {e : Ex} {cs : List Value} (h : ExL (From n) w e cs) (hm : m ≤ n) : ExL (From m) w e cs := ExL.still (fun k (h1 : n ≤ k) _ => ⟨Nat.le_trans hm h1, rfl⟩) e cs h

set_option maxHeartbeats 400000 in
set_option maxRecDepth 100000 in
theorem mod_big (x : Int) (n : Nat) (w : World) (hn : 0 < n) (hn2 : n ≤ 1000000000000000000) :
    Calls Tryd.prog 14 #[.int .i64 x, .int .i64 n] w fun e w' => ∃ k : Nat, k < n ∧ e = .returned (.int .i64 k) ∧ w' = w := by
  have hq := Int.natAbs_tmod x n
  have hq2 : x.natAbs % (n : Int).natAbs < n := by rw [Int.natAbs_natCast]; exact Nat.mod_lt _ hn
  have hb1 : -(n : Int) < Int.tmod x n := by omega
  have hb2 : Int.tmod x n < n := by omega
  clear hq hq2
  go_enter Tryd.func14, Tryd.ntmps14
  have hz : ((n : Int) == 0) = false := beq_eq_false_iff_ne.2 (by omega)
  go_wp2
  · have h0 : x.tmod n < 0 := by assumption
    obtain ⟨k, hk⟩ := Int.eq_ofNat_of_zero_le (show 0 ≤ x.tmod n + n by omega)
    go_ret
    exact ⟨k, by omega, by rw [hk]; rfl, rfl⟩
  · have h0 : 0 ≤ x.tmod n := by assumption
    obtain ⟨k, hk⟩ := Int.eq_ofNat_of_zero_le h0
    go_ret
    exact ⟨k, by omega, by rw [hk]; rfl, rfl⟩

theorem infoI3 : (Tryd.prog.info? 3).map (fun i => (i.zero, i.size, i.bytes)) = some (some (.int .i64 0), 1, 8) := by kernel_rfl

/-- A list of ints with one cell written anew. -/
theorem zs_set {w : World} {zs : List Int} {g k n : Nat} {y : Int} (hn : n = zs.length) (hn2 : n ≤ 9223372036854775807) (hk : k < n) (hc : ∀ i, i < n → w.cell? ⟨g, i, none⟩ = some (.int .i64 (zs.getD i 0))) :
    ZsAt (w.setCell ⟨g, k, none⟩ (.int .i64 y)) (zs.set k y) (some ⟨g, 0, none⟩) n := by
  refine ⟨by rw [List.length_set]; exact hn, hn2, fun _ => ⟨g, 0, rfl, fun i hi => ?_⟩⟩
  rw [Nat.zero_add, List.getD_eq_getElem?_getD]
  by_cases h : i = k
  · subst h
    rw [World.cell?_setCell_same _ _ _ (hc i hi), List.getElem?_set_self (by omega)]
    rfl
  · rw [World.cell?_setCell_other _ _ _ _ (by intro e; injection e with _ e _; omega), hc i hi, List.getElem?_set_ne (by omega), List.getD_eq_getElem?_getD]

set_option maxHeartbeats 8000000 in
set_option maxRecDepth 100000 in
theorem evalIgnores_any (zs : List Int) (Z : Option Addr) (zn zc : Nat) (codes : Value) (t y : Int) (w : World) (hzn : zn * 8 ≤ 140737488351232) (hcd : BytesIn w.heap.size w codes) (hz : ZsAt w zs Z zn) (hg : GlAt w) (hgt : glTop ≤ w.heap.size) :
    Calls Tryd.prog 4 #[codes, .slice Z zn zc, .int .i64 t, .int .i64 y] w fun e w' => e = .returned (.bool true) ∧ Below w.heap.size w w' := by
  have HCD := Lib.hid hcd
  have HZ := Lib.hid hz
  have HG := Lib.hid hg
  obtain ⟨i0, hi, hz0, hz1, hz2⟩ := info_parts infoI3
  have HI := Lib.hid hi
  have HI0 := Lib.hid hz0
  have HI1 := Lib.hid hz1
  have HI2 := Lib.hid hz2
  clear hcd hz hg hi hz0 hz1 hz2
  go_enter Tryd.func4, Tryd.ntmps4
  go_wp2_with fail
  refine (awake4_any _).mono ?_
  rintro e w1 ⟨rfl, hb⟩
  have HB1 := Lib.hid hb
  clear hb
  go_wp2_with fail
  refine (new_any w.heap.size codes 160 w1 (HCD.out.below HB1.out) HB1.out.size (by decide)).mono ?_
  rintro e w2 ⟨cb, A, n, c, rfl, -, hcs, hcb1, hb⟩
  have HB2 := Lib.hid (HB1.out.trans (hb.mono HB1.out.size))
  have HC2 : Hid (CodesIn w.heap.size w2 cb) := ⟨A, n, c, 0, hcs⟩
  have hcb : w.heap.size ≤ cb := Nat.le_trans HB1.out.size hcb1
  have hgt' : glTop ≤ cb := Nat.le_trans hgt hcb
  have hg2 : GlAt w2 := by
    obtain ⟨⟨T, fr, h1⟩, ⟨T', fr', h2⟩⟩ := HG.out
    exact ⟨⟨T, fr, below_blk HB2.out h1⟩, ⟨T', fr', below_blk HB2.out h2⟩⟩
  have HG2 := Lib.hid hg2
  clear hb hcs hcb1 HB1 hg2
  go_wp2_with fail
  refine (mx_all 5 (by decide) (by decide) w.heap.size cb w2 HC2.out HG2.out hgt').mono ?_
  rintro e w4 ⟨ex1, v1, rfl, ⟨x0, x1, x2, x3, x4, xA, xl, xq, rfl, hl⟩, hdr, hc, hk⟩
  have hbig := drE_big 5 ex1 hdr
  have hcb2 := HC2.out.lt
  have HK4 := Lib.hid hk
  have HBG : Hid (ex1.big ≤ 100) := by show _ ≤ _; omega
  have hsm := small_all 100000 (by decide) ex1 (by omega) w.heap.size cb (From w2.heap.size) (fun b (hb : w2.heap.size ≤ b) => by omega) w4 x0 x1 x2 x3 x4 xA xl xq hc hl
  have HSM := Lib.hid hsm
  clear hl hdr hc hk hbig hsm
  go_wp2_with fail
  refine HSM.out.mono ?_
  rintro e w6 ⟨exa, v1, rfl, ⟨a0, a1, a2, a3, a4, aA, al, aq, rfl, hl⟩, hsm, hbg, hc, hk⟩
  have hz4 := HK4.out.size
  have hz6 := hk.size
  have HKw := Lib.hid (HK4.out.trans hk)
  have HLA := Lib.hid (ex_low hl (m := 0) (by omega))
  have HSA := Lib.hid hsm
  have HBG2 : Hid (exa.big ≤ 100) := Nat.le_trans hbg HBG.out
  have HB6 := Lib.hid (HB2.out.trans (HKw.out.below HB2.out.size hcb))
  clear hl hc hk hsm hbg HSM HK4 HC2 HG2 HB2 HKw HBG
  go_upto_region 6 with fail
  obtain ⟨na, hna⟩ : ∃ x, w6.heap.size = x := ⟨_, rfl⟩
  obtain ⟨W7, hW7⟩ : ∃ W7, (w6.alloc (.cells #[.int .i64 a0, .int .i64 a1, .string a2, .int .i64 a3, .int .i64 a4, .slice aA al aq] 31)).alloc (.cells #[.int .i64 1, .int .i64 3, .int .i64 2, .int .i64 y] 25) = W7 := ⟨_, rfl⟩
  have HBA := Lib.hid (show Below w6.heap.size w6 W7 by rw [← hW7]; exact ((Below.refl _ _).alloc (Nat.le_refl _) _).alloc (by rw [new_size]; omega) _)
  have HXA := Lib.hid (show W7.heap[na]? = some (.cells #[.int .i64 a0, .int .i64 a1, .string a2, .int .i64 a3, .int .i64 a4, .slice aA al aq] 31 (0, 0)) by rw [← hW7, ← hna]; exact (alloc_blk _ _ (by rw [new_size]; omega)).trans (new_blk w6 _))
  have HXE := Lib.hid (show W7.heap[na + 1]? = some (.cells #[.int .i64 1, .int .i64 3, .int .i64 2, .int .i64 y] 25 (0, 0)) by rw [← hW7, ← hna]; exact new_blk1 w6 _ _)
  simp only [hW7, hna]
  clear hW7
  obtain ⟨R, hR⟩ : ∃ x, valS zs ⟨1, 3, 2, y⟩ exa = x := ⟨_, rfl⟩
  have HVA : Hid (∀ wc, (Below w6.heap.size w6 wc ∧ wc.cell? ⟨na, 0, none⟩ = some (.int .i64 a0) ∧ wc.cell? ⟨na, 1, none⟩ = some (.int .i64 a1) ∧ wc.cell? ⟨na, 2, none⟩ = some (.string a2) ∧ wc.cell? ⟨na, 3, none⟩ = some (.int .i64 a3) ∧ wc.cell? ⟨na, 4, none⟩ = some (.int .i64 a4) ∧ wc.cell? ⟨na, 5, none⟩ = some (.slice aA al aq) ∧ wc.cell? ⟨na + 1, 0, none⟩ = some (.int .i64 1) ∧ wc.cell? ⟨na + 1, 1, none⟩ = some (.int .i64 3) ∧ wc.cell? ⟨na + 1, 2, none⟩ = some (.int .i64 2) ∧ wc.cell? ⟨na + 1, 3, none⟩ = some (.int .i64 y)) → Calls Tryd.prog 10 #[.agg #[.int .i64 a0, .int .i64 a1, .string a2, .int .i64 a3, .int .i64 a4, .slice aA al aq], .slice Z zn zc, .agg #[.int .i64 1, .int .i64 3, .int .i64 2, .int .i64 y]] wc fun e' w' => e' = .returned (.int .i64 R) ∧ (Below w6.heap.size w6 w' ∧ w'.cell? ⟨na, 0, none⟩ = some (.int .i64 a0) ∧ w'.cell? ⟨na, 1, none⟩ = some (.int .i64 a1) ∧ w'.cell? ⟨na, 2, none⟩ = some (.string a2) ∧ w'.cell? ⟨na, 3, none⟩ = some (.int .i64 a3) ∧ w'.cell? ⟨na, 4, none⟩ = some (.int .i64 a4) ∧ w'.cell? ⟨na, 5, none⟩ = some (.slice aA al aq) ∧ w'.cell? ⟨na + 1, 0, none⟩ = some (.int .i64 1) ∧ w'.cell? ⟨na + 1, 1, none⟩ = some (.int .i64 3) ∧ w'.cell? ⟨na + 1, 2, none⟩ = some (.int .i64 2) ∧ w'.cell? ⟨na + 1, 3, none⟩ = some (.int .i64 y))) := fun wc hs => by
    obtain ⟨b0, r0, r1, r2, r3, r4, r5, r6, r7, r8, r9⟩ := hs
    have hl := ExL.still (S' := From 0) (w' := wc) (fun j hj1 hj2 => ⟨hj1, b0.block j hj2⟩) exa _ HLA.out
    have h := value_any zs ⟨1, 3, 2, y⟩ exa _ wc a0 a1 a2 a3 a4 aA al aq Z zn zc hl ((HZ.out.below HB6.out).below b0)
    rw [hR] at h
    refine h.mono ?_
    rintro e' w' ⟨he, hb⟩
    have hll : ∀ (p : Addr) u, wc.cell? p = some u → w'.cell? p = some u := fun p u hu => (hb.cell (p := p) (World.block_lt_of_cell? wc _ hu)).trans hu
    exact ⟨he, b0.trans (hb.mono b0.size), hll _ _ r0, hll _ _ r1, hll _ _ r2, hll _ _ r3, hll _ _ r4, hll _ _ r5, hll _ _ r6, hll _ _ r7, hll _ _ r8, hll _ _ r9⟩
  have HRN : Hid (∀ wc, (Below w6.heap.size w6 wc ∧ wc.cell? ⟨na, 0, none⟩ = some (.int .i64 a0) ∧ wc.cell? ⟨na, 1, none⟩ = some (.int .i64 a1) ∧ wc.cell? ⟨na, 2, none⟩ = some (.string a2) ∧ wc.cell? ⟨na, 3, none⟩ = some (.int .i64 a3) ∧ wc.cell? ⟨na, 4, none⟩ = some (.int .i64 a4) ∧ wc.cell? ⟨na, 5, none⟩ = some (.slice aA al aq) ∧ wc.cell? ⟨na + 1, 0, none⟩ = some (.int .i64 1) ∧ wc.cell? ⟨na + 1, 1, none⟩ = some (.int .i64 3) ∧ wc.cell? ⟨na + 1, 2, none⟩ = some (.int .i64 2) ∧ wc.cell? ⟨na + 1, 3, none⟩ = some (.int .i64 y)) → Calls Tryd.prog 13 #[.agg #[.int .i64 a0, .int .i64 a1, .string a2, .int .i64 a3, .int .i64 a4, .slice aA al aq]] wc fun e' w' => (∃ v, e' = .returned v ∧ VEx wc.heap.size w' exa.ren v) ∧ (Below w6.heap.size w6 w' ∧ w'.cell? ⟨na, 0, none⟩ = some (.int .i64 a0) ∧ w'.cell? ⟨na, 1, none⟩ = some (.int .i64 a1) ∧ w'.cell? ⟨na, 2, none⟩ = some (.string a2) ∧ w'.cell? ⟨na, 3, none⟩ = some (.int .i64 a3) ∧ w'.cell? ⟨na, 4, none⟩ = some (.int .i64 a4) ∧ w'.cell? ⟨na, 5, none⟩ = some (.slice aA al aq) ∧ w'.cell? ⟨na + 1, 0, none⟩ = some (.int .i64 1) ∧ w'.cell? ⟨na + 1, 1, none⟩ = some (.int .i64 3) ∧ w'.cell? ⟨na + 1, 2, none⟩ = some (.int .i64 2) ∧ w'.cell? ⟨na + 1, 3, none⟩ = some (.int .i64 y))) := fun wc hs => by
    obtain ⟨b0, r0, r1, r2, r3, r4, r5, r6, r7, r8, r9⟩ := hs
    have hl := ExL.still (S' := From 0) (w' := wc) (fun j hj1 hj2 => ⟨hj1, b0.block j hj2⟩) exa _ HLA.out
    refine (renamed_all 100000 (by decide) exa (Nat.le_trans HBG2.out (by decide)) _ wc a0 a1 a2 a3 a4 aA al aq hl).mono ?_
    rintro e' w' ⟨v, he, hv, hb⟩
    have hll : ∀ (p : Addr) u, wc.cell? p = some u → w'.cell? p = some u := fun p u hu => (hb.cell (p := p) (World.block_lt_of_cell? wc _ hu)).trans hu
    exact ⟨⟨v, he, hv⟩, b0.trans (hb.mono b0.size), hll _ _ r0, hll _ _ r1, hll _ _ r2, hll _ _ r3, hll _ _ r4, hll _ _ r5, hll _ _ r6, hll _ _ r7, hll _ _ r8, hll _ _ r9⟩
  have HVR : Hid (∀ (wc : World) (n0 : Nat) (a b : Int) (s : ByteArray) (c d : Int) (A : Option Addr) (l q : Nat), ExL (From n0) wc exa.ren [.int .i64 a, .int .i64 b, .string s, .int .i64 c, .int .i64 d, .slice A l q] → (Below w6.heap.size w6 wc ∧ wc.cell? ⟨na, 0, none⟩ = some (.int .i64 a0) ∧ wc.cell? ⟨na, 1, none⟩ = some (.int .i64 a1) ∧ wc.cell? ⟨na, 2, none⟩ = some (.string a2) ∧ wc.cell? ⟨na, 3, none⟩ = some (.int .i64 a3) ∧ wc.cell? ⟨na, 4, none⟩ = some (.int .i64 a4) ∧ wc.cell? ⟨na, 5, none⟩ = some (.slice aA al aq) ∧ wc.cell? ⟨na + 1, 0, none⟩ = some (.int .i64 1) ∧ wc.cell? ⟨na + 1, 1, none⟩ = some (.int .i64 3) ∧ wc.cell? ⟨na + 1, 2, none⟩ = some (.int .i64 2) ∧ wc.cell? ⟨na + 1, 3, none⟩ = some (.int .i64 y)) → Calls Tryd.prog 10 #[.agg #[.int .i64 a, .int .i64 b, .string s, .int .i64 c, .int .i64 d, .slice A l q], .slice Z zn zc, .agg #[.int .i64 1, .int .i64 3, .int .i64 2, .int .i64 y]] wc fun e' w' => e' = .returned (.int .i64 R) ∧ (Below w6.heap.size w6 w' ∧ w'.cell? ⟨na, 0, none⟩ = some (.int .i64 a0) ∧ w'.cell? ⟨na, 1, none⟩ = some (.int .i64 a1) ∧ w'.cell? ⟨na, 2, none⟩ = some (.string a2) ∧ w'.cell? ⟨na, 3, none⟩ = some (.int .i64 a3) ∧ w'.cell? ⟨na, 4, none⟩ = some (.int .i64 a4) ∧ w'.cell? ⟨na, 5, none⟩ = some (.slice aA al aq) ∧ w'.cell? ⟨na + 1, 0, none⟩ = some (.int .i64 1) ∧ w'.cell? ⟨na + 1, 1, none⟩ = some (.int .i64 3) ∧ w'.cell? ⟨na + 1, 2, none⟩ = some (.int .i64 2) ∧ w'.cell? ⟨na + 1, 3, none⟩ = some (.int .i64 y))) := fun wc n0 a b s c d A l q hl hs => by
    obtain ⟨b0, r0, r1, r2, r3, r4, r5, r6, r7, r8, r9⟩ := hs
    have h := value_any zs ⟨1, 3, 2, y⟩ exa.ren _ wc a b s c d A l q Z zn zc hl ((HZ.out.below HB6.out).below b0)
    rw [val_ren, hR] at h
    refine h.mono ?_
    rintro e' w' ⟨he, hb⟩
    have hll : ∀ (p : Addr) u, wc.cell? p = some u → w'.cell? p = some u := fun p u hu => (hb.cell (p := p) (World.block_lt_of_cell? wc _ hu)).trans hu
    exact ⟨he, b0.trans (hb.mono b0.size), hll _ _ r0, hll _ _ r1, hll _ _ r2, hll _ _ r3, hll _ _ r4, hll _ _ r5, hll _ _ r6, hll _ _ r7, hll _ _ r8, hll _ _ r9⟩
  have HMN : Hid (∀ (k : Nat) wc, (Below w6.heap.size w6 wc ∧ wc.cell? ⟨na, 0, none⟩ = some (.int .i64 a0) ∧ wc.cell? ⟨na, 1, none⟩ = some (.int .i64 a1) ∧ wc.cell? ⟨na, 2, none⟩ = some (.string a2) ∧ wc.cell? ⟨na, 3, none⟩ = some (.int .i64 a3) ∧ wc.cell? ⟨na, 4, none⟩ = some (.int .i64 a4) ∧ wc.cell? ⟨na, 5, none⟩ = some (.slice aA al aq) ∧ wc.cell? ⟨na + 1, 0, none⟩ = some (.int .i64 1) ∧ wc.cell? ⟨na + 1, 1, none⟩ = some (.int .i64 3) ∧ wc.cell? ⟨na + 1, 2, none⟩ = some (.int .i64 2) ∧ wc.cell? ⟨na + 1, 3, none⟩ = some (.int .i64 y)) → Calls Tryd.prog 15 #[.agg #[.int .i64 a0, .int .i64 a1, .string a2, .int .i64 a3, .int .i64 a4, .slice aA al aq], .int .i64 k] wc fun e' w' => e' = .returned (.bool (menS k exa)) ∧ (Below w6.heap.size w6 w' ∧ w'.cell? ⟨na, 0, none⟩ = some (.int .i64 a0) ∧ w'.cell? ⟨na, 1, none⟩ = some (.int .i64 a1) ∧ w'.cell? ⟨na, 2, none⟩ = some (.string a2) ∧ w'.cell? ⟨na, 3, none⟩ = some (.int .i64 a3) ∧ w'.cell? ⟨na, 4, none⟩ = some (.int .i64 a4) ∧ w'.cell? ⟨na, 5, none⟩ = some (.slice aA al aq) ∧ w'.cell? ⟨na + 1, 0, none⟩ = some (.int .i64 1) ∧ w'.cell? ⟨na + 1, 1, none⟩ = some (.int .i64 3) ∧ w'.cell? ⟨na + 1, 2, none⟩ = some (.int .i64 2) ∧ w'.cell? ⟨na + 1, 3, none⟩ = some (.int .i64 y))) := fun k wc hs => by
    obtain ⟨b0, r0, r1, r2, r3, r4, r5, r6, r7, r8, r9⟩ := hs
    have hl := ExL.still (S' := From 0) (w' := wc) (fun j hj1 hj2 => ⟨hj1, b0.block j hj2⟩) exa _ HLA.out
    refine (mentions_all k 100000 (by decide) exa (Nat.le_trans HBG2.out (by decide)) HSA.out _ wc a0 a1 a2 a3 a4 aA al aq hl).mono ?_
    rintro e' w' ⟨he, hb⟩
    have hll : ∀ (p : Addr) u, wc.cell? p = some u → w'.cell? p = some u := fun p u hu => (hb.cell (p := p) (World.block_lt_of_cell? wc _ hu)).trans hu
    exact ⟨he, b0.trans (hb.mono b0.size), hll _ _ r0, hll _ _ r1, hll _ _ r2, hll _ _ r3, hll _ _ r4, hll _ _ r5, hll _ _ r6, hll _ _ r7, hll _ _ r8, hll _ _ r9⟩
  have HVS : Hid (∀ (k : Nat) (wc : World) (g cap : Nat), Below w6.heap.size w6 wc → ZsAt wc (zs.set k y) (some ⟨g, 0, none⟩) zn → menS k exa = false → Calls Tryd.prog 10 #[.agg #[.int .i64 a0, .int .i64 a1, .string a2, .int .i64 a3, .int .i64 a4, .slice aA al aq], .slice (some ⟨g, 0, none⟩) zn cap, .agg #[.int .i64 1, .int .i64 3, .int .i64 2, .int .i64 y]] wc fun e' w' => e' = .returned (.int .i64 R) ∧ Below wc.heap.size wc w') := fun k wc g cap b0 hzz hm => by
    have hl := ExL.still (S' := From 0) (w' := wc) (fun j hj1 hj2 => ⟨hj1, b0.block j hj2⟩) exa _ HLA.out
    have h := value_any (zs.set k y) ⟨1, 3, 2, y⟩ exa _ wc a0 a1 a2 a3 a4 aA al aq (some ⟨g, 0, none⟩) zn cap hl hzz
    rw [val_set zs k y _ exa HSA.out hm, hR] at h
    exact h
  clear hR
  obtain ⟨s0, s1, s2, s3, s4, s5, _⟩ := box6 HXA.out
  obtain ⟨u0, u1, u2, u3⟩ := box4 HXE.out
  have hs0 : Below w6.heap.size w6 W7 ∧ W7.cell? ⟨na, 0, none⟩ = some (.int .i64 a0) ∧ W7.cell? ⟨na, 1, none⟩ = some (.int .i64 a1) ∧ W7.cell? ⟨na, 2, none⟩ = some (.string a2) ∧ W7.cell? ⟨na, 3, none⟩ = some (.int .i64 a3) ∧ W7.cell? ⟨na, 4, none⟩ = some (.int .i64 a4) ∧ W7.cell? ⟨na, 5, none⟩ = some (.slice aA al aq) ∧ W7.cell? ⟨na + 1, 0, none⟩ = some (.int .i64 1) ∧ W7.cell? ⟨na + 1, 1, none⟩ = some (.int .i64 3) ∧ W7.cell? ⟨na + 1, 2, none⟩ = some (.int .i64 2) ∧ W7.cell? ⟨na + 1, 3, none⟩ = some (.int .i64 y) := ⟨HBA.out, s0, s1, s2, s3, s4, s5, u0, u1, u2, u3⟩
  go_wp2_with fail
  refine (HVA.out _ hs0).mono ?_
  rintro e w8 ⟨rfl, hs8⟩
  clear s0 s1 s2 s3 s4 s5 u0 u1 u2 u3 hs0
  obtain ⟨b8, s0, s1, s2, s3, s4, s5, u0, u1, u2, u3⟩ := hs8
  have hs0 : Below w6.heap.size w6 w8.drew ∧ w8.drew.cell? ⟨na, 0, none⟩ = some (.int .i64 a0) ∧ w8.drew.cell? ⟨na, 1, none⟩ = some (.int .i64 a1) ∧ w8.drew.cell? ⟨na, 2, none⟩ = some (.string a2) ∧ w8.drew.cell? ⟨na, 3, none⟩ = some (.int .i64 a3) ∧ w8.drew.cell? ⟨na, 4, none⟩ = some (.int .i64 a4) ∧ w8.drew.cell? ⟨na, 5, none⟩ = some (.slice aA al aq) ∧ w8.drew.cell? ⟨na + 1, 0, none⟩ = some (.int .i64 1) ∧ w8.drew.cell? ⟨na + 1, 1, none⟩ = some (.int .i64 3) ∧ w8.drew.cell? ⟨na + 1, 2, none⟩ = some (.int .i64 2) ∧ w8.drew.cell? ⟨na + 1, 3, none⟩ = some (.int .i64 y) := ⟨b8.drew, s0, s1, s2, s3, s4, s5, u0, u1, u2, u3⟩
  clear b8
  go_upto_region 7 with fail
  clear s0 s1 s2 s3 s4 s5 u0 u1 u2 u3
  go_region_held3 (fun w' => Below w6.heap.size w6 w' ∧ w'.cell? ⟨na, 0, none⟩ = some (.int .i64 a0) ∧ w'.cell? ⟨na, 1, none⟩ = some (.int .i64 a1) ∧ w'.cell? ⟨na, 2, none⟩ = some (.string a2) ∧ w'.cell? ⟨na, 3, none⟩ = some (.int .i64 a3) ∧ w'.cell? ⟨na, 4, none⟩ = some (.int .i64 a4) ∧ w'.cell? ⟨na, 5, none⟩ = some (.slice aA al aq) ∧ w'.cell? ⟨na + 1, 0, none⟩ = some (.int .i64 1) ∧ w'.cell? ⟨na + 1, 1, none⟩ = some (.int .i64 3) ∧ w'.cell? ⟨na + 1, 2, none⟩ = some (.int .i64 2) ∧ w'.cell? ⟨na + 1, 3, none⟩ = some (.int .i64 y)) (assumption) (first | (go_at_call 13; ((with_reducible refine (HRN.out _ ?_).mono ?_)); assumption; rintro e' w9 ⟨⟨v9, rfl, ⟨x0, x1, x2, x3, x4, xA, xl, xq, rfl, hl9⟩⟩, hs9⟩; have HL9 := Lib.hid hl9; clear hl9) | (go_at_call 10; ((with_reducible refine (HVR.out _ _ _ _ _ _ _ _ _ _ HL9.out ?_).mono ?_)); assumption; rintro e' w10 ⟨rfl, hs10⟩))
  clear hs0 hs9
  obtain ⟨b10, s0, s1, s2, s3, s4, s5, u0, u1, u2, u3⟩ := id hs10
  have HB10 := Lib.hid b10
  have HS10 := Lib.hid hs10
  have HZ10 := Lib.hid ((HZ.out.below HB6.out).below b10)
  clear b10 hs10
  by_cases hn0 : zn = 0
  · subst hn0
    go_wp2_with fail
    go_ret
    exact ⟨rfl, HB6.out.trans (HB10.out.mono HB6.out.size)⟩
  have hn0' : ((zn : Int) == 0) = false := beq_eq_false_iff_ne.2 (by omega)
  go_wp2_with fail
  refine (mod_big t zn _ (by omega) (by omega)).mono ?_
  rintro e w11 ⟨k, hk, rfl, rfl⟩
  have hk' : (k : Int) < (zn : Int) := by omega
  obtain ⟨Q, hQ⟩ : ∃ Q, menS k exa = Q := ⟨_, rfl⟩
  have HMK := Lib.hid (HMN.out k)
  rw [hQ] at HMK
  have HQ := Lib.hid hQ
  clear hQ
  go_wp2_with fail
  refine (HMK.out _ HS10.out).mono ?_
  rintro e w12 ⟨rfl, hs12⟩
  clear s0 s1 s2 s3 s4 s5 u0 u1 u2 u3 HS10
  obtain ⟨b12, s0, s1, s2, s3, s4, s5, u0, u1, u2, u3⟩ := hs12
  have HB12 := Lib.hid b12
  have HZ12 := Lib.hid ((HZ.out.below HB6.out).below b12)
  clear b12 HZ10
  cases Q with
  | true =>
    go_wp2_with fail
    go_ret
    exact ⟨rfl, HB6.out.trans (HB12.out.mono HB6.out.size)⟩
  | false =>
    obtain ⟨hzl, hz63, hzz⟩ := HZ12.out
    obtain ⟨bb, o, rfl, hcell⟩ := hzz (by omega)
    have HCL := Lib.hid hcell
    have HZL := Lib.hid hzl
    have hbn : bb < w12.heap.size := World.block_lt_of_cell? w12 _ (hcell 0 (by omega))
    have hbw : bb ≠ na ∧ bb ≠ na + 1 := by
      obtain ⟨_, _, h3⟩ := HZ.out
      obtain ⟨b', o', e, h3⟩ := h3 (by omega)
      injection e with e
      injection e with e _ _
      subst e
      have hb0 : bb < w.heap.size := World.block_lt_of_cell? w _ (h3 0 (by omega))
      have := HB6.out.size
      omega
    have hnaw : na + 1 < w12.heap.size := World.block_lt_of_cell? w12 _ u0
    clear hzl hzz hcell hbw
    go_wp2_with (at_builtin; refine wpList_append_own_at _ rfl _ _ 23 rfl w12.heap.size 3 i0 _ 1 8 Tryd.underlying23 HI.out HI0.out HI1.out HI2.out rfl (by decide) _ _ _ rfl (World.ownsRow_nil _ _ _ _) ⟨bb, o, none⟩ zn zc (zs.map (Value.int .i64)) rfl (by rw [List.length_map, Nat.mul_one]; exact HZL.out.symm) (fun j u hj => by
      rw [List.getElem?_map] at hj
      cases hzj : zs[j]? with
      | none => rw [hzj] at hj; cases hj
      | some z =>
        rw [hzj] at hj
        have hjl : j < zn := by have := (List.getElem?_eq_some_iff.1 hzj).1; have := HZL.out; omega
        have h := HCL.out j hjl
        rw [List.getD_eq_getElem?_getD, hzj] at h
        rw [Addr.add_lit, h]
        exact hj) (fun u hu => by obtain ⟨z, _, rfl⟩ := List.mem_map.1 hu; rfl) (by unfold maxLen; omega) (by omega) (Nat.le_refl _) ?_)
    intro v9 w13 hown hgrow hx1 hx2
    clear hx1 hx2
    have hxs := hown
    obtain ⟨_, ⟨_, h0⟩ | ⟨g, cap, cur, rfl, hg0, hgh, hle, hcap, hsz, htk⟩⟩ := hown
    · omega
    have hb13 : Below w12.heap.size w12 w13 := ⟨hgrow.os, hgrow.tape, hgrow.output, hgrow.size, fun j hj => hgrow.block j hj (by simp [Value.ownBlock])⟩
    have hcs : ∀ i, i < zn → w13.cell? ⟨g, i, none⟩ = some (.int .i64 (zs.getD i 0)) := fun i hi => by
      have hlt : i < zs.length := by have := HZL.out; omega
      have h := hxs.cells (g := g) rfl i (.int .i64 (zs.getD i 0)) (by rw [List.getElem?_map, List.getElem?_eq_getElem hlt, List.getD_eq_getElem?_getD, List.getElem?_eq_getElem hlt]; rfl)
      rwa [Addr.add_lit, Nat.zero_add] at h
    have ck := hcs k hk
    have fk : w13.frozen? ⟨g, k, none⟩ = false := Lib.frozen_of_heap hgh k
    have HCS := Lib.hid hcs
    have HB13 := Lib.hid hb13
    have hgna : na + 1 < g := by omega
    have hgna0 : na < g := by omega
    have hw6 := HB12.out.size
    have hl : ∀ (p : Addr) u, w12.cell? p = some u → w13.cell? p = some u := fun p u hu => (hb13.cell (p := p) (World.block_lt_of_cell? w12 _ hu)).trans hu
    have s0' := hl _ _ s0
    have s1' := hl _ _ s1
    have s2' := hl _ _ s2
    have s3' := hl _ _ s3
    have s4' := hl _ _ s4
    have s5' := hl _ _ s5
    have u0' := hl _ _ u0
    have u1' := hl _ _ u1
    have u2' := hl _ _ u2
    have u3' := hl _ _ u3
    have hgl := lt_of_block hgh
    clear s0 s1 s2 s3 s4 s5 u0 u1 u2 u3 hl hxs hgh hsz htk hcs hb13 hgrow
    go_wp2_with fail
    refine (HVS.out k _ g cap ((HB12.out.trans (HB13.out.mono hw6)).setCell (p := ⟨g, k, none⟩) (show w6.heap.size ≤ g by omega) _) (zs_set HZL.out hz63 hk HCS.out) HQ.out).mono ?_
    rintro e w14 ⟨rfl, hb⟩
    have HB14 := Lib.hid (((HB12.out.trans (HB13.out.mono hw6)).setCell (p := ⟨g, k, none⟩) (show w6.heap.size ≤ g by omega) (.int .i64 y)).trans (hb.mono (by rw [set_size]; have := HB13.out.size; omega)))
    clear hb
    go_wp2_with fail
    go_ret
    exact ⟨rfl, HB6.out.trans (HB14.out.mono HB6.out.size)⟩
end Go.Proofs.YtocebddhllfhpaaDoor
