/-
  Texts of a walk, laid together by a program of the prover's own (merge.py). No conditions beyond those that each text names.
-/
import Derived.Test.YtgblgkkbggdopaaDoorZai
import Derived.Test.YtgblgkkbggdopaaDoorZab
import Derived.Deep.LoopGhost
import Derived.Test.YtgblgkkbggdopaaDoorZaf
/-
  What deep, nested and Depth of the document's answer return. Condition: at most 100000 parts.
-/
namespace Go.Proofs.YtgblgkkbggdopaaDoor
open Go.RowKit

set_option maxHeartbeats 4000000 in
set_option maxRecDepth 100000 in
theorem rdeep_all : ∀ (n : Nat) (e : Ex), e.big ≤ n → n ≤ 100000 → ∀ (S : Nat → Prop) (w : World) (a b : Int) (s : ByteArray) (c d : Int) (A : Option Addr) (l q : Nat), ExL S w e [.int .i64 a, .int .i64 b, .string s, .int .i64 c, .int .i64 d, .slice A l q] →
    Calls Tryd.prog 81 #[.agg #[.int .i64 a, .int .i64 b, .string s, .int .i64 c, .int .i64 d, .slice A l q]] w fun e' w' => e' = .returned (.int .i64 e.deep) ∧ Below w.heap.size w w'
  | 0, .mk _ _ _ _ _ _, h, _ => by simp only [Ex.big] at h; omega
  | n + 1, .mk op value name slot size args, h, hn => by
    intro S w a b s c d A l q hl
    have ih := rdeep_all n
    simp only [Ex.big] at h
    simp only [Ex.deep]
    have hlq : args.length ≤ 100000 := by have := Ex.len_big args; omega
    have hdb := Ex.deepL_big args
    simp only [ExL] at hl
    obtain ⟨A', c', e1, hc, hr⟩ := hl
    simp only [exCells, List.cons.injEq, Value.slice.injEq, and_true] at e1
    obtain ⟨e1, e2, e3, e4, e5, rfl, rfl, rfl⟩ := e1
    injection e1 with _ e1
    injection e2 with _ e2
    injection e3 with e3
    injection e4 with _ e4
    injection e5 with _ e5
    subst e1 e2 e3 e4 e5
    have IH := Lib.hid ih
    have HR := Lib.hid hr
    have HD := Lib.hid h
    have HDB := Lib.hid hdb
    obtain ⟨m, hm⟩ : ∃ x, args.length = x := ⟨_, rfl⟩
    have HM := Lib.hid hm
    rw [hm] at hlq ⊢
    clear ih hr hm h hc hdb
    go_enter Tryd.func81, Tryd.ntmps81
    go_wp2_with fail
    go_loopg [3, 4] m (fun g dv i wr => ∃ k : Nat, k + g = m ∧ i = .int .i64 k ∧ dv = .int .i64 (Ex.deepL (args.take k)) ∧ Hid (Below w.heap.size w wr) ∧ Hid (wr.cell? ⟨w.heap.size, 5, none⟩ = some (.slice A m q)))
    case atStart => exact ⟨0, by omega, rfl, by simp [Ex.deepL], (Below.refl _ _).alloc (Nat.le_refl _) _, new_cell _ _ _ 5 _ rfl⟩
    case round =>
      obtain ⟨k, hkg, rfl, rfl, HB, HC⟩ := hrel
      have x5 := HC.out
      have hle := deepL_take_le args k
      have hdd := HD.out
      have hdb2 := HDB.out
      cases gk with
      | zero =>
        have hge : m ≤ k := by omega
        have HT : Hid (args.take k = args) := List.take_of_length_le (by have := HM.out; omega)
        rw [HT.out]
        clear hkg hle
        have h63 : (Ex.deepL args : Int) ≤ 100000 := by omega
        clear hdd hdb2
        go_wp2_with fail
        go_ret
        exact ⟨ret_int (by omega), HB.out⟩
      | succ g =>
        have hlt : k < m := by omega
        have HG := Lib.hid hkg
        clear hkg
        obtain ⟨e1, he1⟩ : ∃ e1, args[k]? = some e1 := ⟨_, List.getElem?_eq_getElem (by have := HM.out; omega)⟩
        have HE1 := Lib.hid he1
        have hbg := Ex.big_at args k e1 he1
        obtain ⟨bb, o, rfl, hS, hrow⟩ := HR.out (fun e => by have := HM.out; rw [e] at this; simp at this; omega)
        obtain ⟨cs, hcs, hex⟩ := ExRow.get args bb o k e1 hrow he1
        obtain ⟨a1, b1, s1, c1, d1, A1, l1, q1, rfl⟩ := hex.plain
        have hbb : bb < w.heap.size := hcs.lt
        have hw : ∀ j u, w.cell? ⟨bb, j, none⟩ = some u → wr.cell? ⟨bb, j, none⟩ = some u := fun j u hu => (HB.out.cell (p := ⟨bb, j, none⟩) hbb).trans hu
        have y0 := hw _ _ (hcs 0 _ rfl)
        have y1 := hw _ _ (hcs 1 _ rfl)
        have y2 := hw _ _ (hcs 2 _ rfl)
        have y3 := hw _ _ (hcs 3 _ rfl)
        have y4 := hw _ _ (hcs 4 _ rfl)
        have y5 := hw _ _ (hcs 5 _ rfl)
        rw [Nat.add_zero] at y0
        have HEX := Lib.hid hex
        clear hw hcs hrow he1 hex hS
        have HT := Lib.hid (deepL_take args k e1 HE1.out)
        have hle1 := deepL_le args k e1 HE1.out
        go_wp2_with fail
        refine (IH.out e1 (by omega) (by omega) S _ _ _ _ _ _ _ _ _ (ExL.still (fun k hk1 hk2 => ⟨hk1, HB.out.block k hk2⟩) e1 _ HEX.out)).mono ?_
        rintro e' w2 ⟨rfl, hb⟩
        have HB2 := Lib.hid (HB.out.trans (hb.mono HB.out.size))
        have HC2 : Hid (w2.cell? ⟨w.heap.size, 5, none⟩ = some (.slice (some ⟨bb, o, none⟩) m q)) := (hb.cell (p := ⟨w.heap.size, 5, none⟩) (World.block_lt_of_cell? _ _ x5)).trans x5
        clear hb y0 y1 y2 y3 y4 y5 x5
        go_wp2_with fail
        all_goals
          go_roundg g
          case rel => exact ⟨k + 1, by have := HG.out; omega, by go_num, congrArg (Value.int .i64) (by rw [HT.out]; omega), HB2, HC2⟩
          case measure => omega

set_option maxHeartbeats 4000000 in
set_option maxRecDepth 100000 in
theorem rnested_all : ∀ (n : Nat) (ls : List St), St.bigL ls ≤ n → n ≤ 100000 → ∀ (S : Nat → Prop) (w : World) (A : Option Addr) (l q : Nat), StSlice S w ls (.slice A l q) →
    Calls Tryd.prog 70 #[.slice A l q] w fun e' w' => e' = .returned (.int .i64 (St.deepL ls)) ∧ Below w.heap.size w w' := by
  intro n
  induction n using Nat.strongRecOn with
  | ind n ih =>
  intro ls h hn S w A l q hl
  have IH : Hid (∀ (ls' : List St), St.bigL ls' < n → ∀ (S : Nat → Prop) (w : World) (A : Option Addr) (l q : Nat), StSlice S w ls' (.slice A l q) → Calls Tryd.prog 70 #[.slice A l q] w fun e' w' => e' = .returned (.int .i64 (St.deepL ls')) ∧ Below w.heap.size w w') :=
    fun ls' h' => ih _ h' ls' (Nat.le_refl _) (by omega)
  clear ih
  obtain ⟨A', c', e1, hc, hr⟩ := hl
  simp only [Value.slice.injEq] at e1
  obtain ⟨rfl, rfl, rfl⟩ := e1
  have hlq : ls.length ≤ 100000 := by have := St.len_big ls; omega
  have hdb := St.deepL_big ls
  have HR := Lib.hid hr
  have HD := Lib.hid h
  have HDB := Lib.hid hdb
  obtain ⟨m, hm⟩ : ∃ x, ls.length = x := ⟨_, rfl⟩
  have HM := Lib.hid hm
  rw [hm] at hlq ⊢
  clear hr hm h hc hdb
  go_enter Tryd.func70, Tryd.ntmps70
  go_wp2_with fail
  go_loopg [3, 4] m (fun g dv i wr => ∃ k : Nat, k + g = m ∧ i = .int .i64 k ∧ dv = .int .i64 (St.deepL (ls.take k)) ∧ Hid (Below w.heap.size w wr))
  case atStart => exact ⟨0, by omega, rfl, by simp [St.deepL], Below.refl _ _⟩
  case round =>
    obtain ⟨k, hkg, rfl, rfl, HB⟩ := hrel
    have hle := sdeepL_take_le ls k
    have hdd := HD.out
    have hdb2 := HDB.out
    cases gk with
    | zero =>
      have hge : m ≤ k := by omega
      have HT : Hid (ls.take k = ls) := List.take_of_length_le (by have := HM.out; omega)
      rw [HT.out]
      clear hkg hle hdd hdb2
      go_wp2_with fail
      go_ret
      exact ⟨rfl, HB.out⟩
    | succ g =>
      have hlt : k < m := by omega
      have hk0 : (0 : Int) ≤ (k : Int) := by omega
      have hk1 : (k : Int) < (m : Int) := by omega
      have HG := Lib.hid hkg
      clear hkg
      obtain ⟨e1, he1⟩ : ∃ e1, ls[k]? = some e1 := ⟨_, List.getElem?_eq_getElem (by have := HM.out; omega)⟩
      have HE1 := Lib.hid he1
      have hbg := St.big_at ls k e1 he1
      obtain ⟨bb, o, rfl, hS, hrow⟩ := HR.out (fun e => by have := HM.out; rw [e] at this; simp at this; omega)
      obtain ⟨cs, hcs, hex⟩ := StRow.get ls bb o k e1 hrow he1
      obtain ⟨kind, name, slot, size, place, value, body, els⟩ := e1
      simp only [St.big] at hbg
      have HX := Lib.hid hex
      simp only [StL] at hex
      obtain ⟨cp, cv, A3, c3, A4, c4, rfl, hp, hv, h3, h4, h5, h6⟩ := hex
      obtain ⟨p0, p1, p2, p3, p4, P1, P2, P3, rfl⟩ := hp.plain
      obtain ⟨v0, v1, v2, v3, v4, V1, V2, V3, rfl⟩ := hv.plain
      have hbb : bb < w.heap.size := hcs.lt
      have hw : ∀ j u, w.cell? ⟨bb, j, none⟩ = some u → wr.cell? ⟨bb, j, none⟩ = some u := fun j u hu => (HB.out.cell (p := ⟨bb, j, none⟩) hbb).trans hu
      have hcs' : ∀ j u, (stCells kind name slot size [.int .i64 p0, .int .i64 p1, .string p2, .int .i64 p3, .int .i64 p4, .slice P1 P2 P3] [.int .i64 v0, .int .i64 v1, .string v2, .int .i64 v3, .int .i64 v4, .slice V1 V2 V3] (.slice A3 body.length c3) (.slice A4 els.length c4))[j]? = some u → wr.cell? ⟨bb, o + k * 18 + j, none⟩ = some u := fun j u hu => hw _ _ (hcs j u hu)
      have HRG : Hid (wr.rangeAt bb (o + k * 18) (stCells kind name slot size [.int .i64 p0, .int .i64 p1, .string p2, .int .i64 p3, .int .i64 p4, .slice P1 P2 P3] [.int .i64 v0, .int .i64 v1, .string v2, .int .i64 v3, .int .i64 v4, .slice V1 V2 V3] (.slice A3 body.length c3) (.slice A4 els.length c4))) := fun j v hv => hw _ _ (hcs j v hv)
      have HP := Lib.hid hp
      have HV := Lib.hid hv
      have HBO : Hid (StSlice S w body (.slice A3 body.length c3)) := ⟨A3, c3, rfl, h3, h5⟩
      have HEL : Hid (StSlice S w els (.slice A4 els.length c4)) := ⟨A4, c4, rfl, h4, h6⟩
      have y4 := hcs' 4 _ rfl
      have y5 := hcs' 5 _ rfl
      have y6 := hcs' 6 _ rfl
      have y7 := hcs' 7 _ rfl
      have y8 := hcs' 8 _ rfl
      have y9 := hcs' 9 _ rfl
      have y10 := hcs' 10 _ rfl
      have y11 := hcs' 11 _ rfl
      have y12 := hcs' 12 _ rfl
      have y13 := hcs' 13 _ rfl
      have y14 := hcs' 14 _ rfl
      have y15 := hcs' 15 _ rfl
      have y16 := hcs' 16 _ rfl
      have y17 := hcs' 17 _ rfl
      clear hw hcs hcs' hrow he1 hp hv h3 h4 h5 h6 hS
      have HT := Lib.hid (sdeepL_take ls k _ HE1.out)
      have hle1 := sdeepL_le ls k _ HE1.out
      simp only [St.deep] at HT hle1
      have hpp := Ex.big_pos place
      have HN : Hid (∀ wc w', (Below wr.heap.size wr wc ∧ wc.cell? ⟨bb, o + k * 18 + 4, none⟩ = some (.int .i64 p0) ∧ wc.cell? ⟨bb, o + k * 18 + 5, none⟩ = some (.int .i64 p1) ∧ wc.cell? ⟨bb, o + k * 18 + 6, none⟩ = some (.string p2) ∧ wc.cell? ⟨bb, o + k * 18 + 7, none⟩ = some (.int .i64 p3) ∧ wc.cell? ⟨bb, o + k * 18 + 8, none⟩ = some (.int .i64 p4) ∧ wc.cell? ⟨bb, o + k * 18 + 9, none⟩ = some (.slice P1 P2 P3) ∧ wc.cell? ⟨bb, o + k * 18 + 10, none⟩ = some (.int .i64 v0) ∧ wc.cell? ⟨bb, o + k * 18 + 11, none⟩ = some (.int .i64 v1) ∧ wc.cell? ⟨bb, o + k * 18 + 12, none⟩ = some (.string v2) ∧ wc.cell? ⟨bb, o + k * 18 + 13, none⟩ = some (.int .i64 v3) ∧ wc.cell? ⟨bb, o + k * 18 + 14, none⟩ = some (.int .i64 v4) ∧ wc.cell? ⟨bb, o + k * 18 + 15, none⟩ = some (.slice V1 V2 V3) ∧ wc.cell? ⟨bb, o + k * 18 + 16, none⟩ = some (.slice A3 body.length c3) ∧ wc.cell? ⟨bb, o + k * 18 + 17, none⟩ = some (.slice A4 els.length c4)) → Below wc.heap.size wc w' → (Below wr.heap.size wr w' ∧ w'.cell? ⟨bb, o + k * 18 + 4, none⟩ = some (.int .i64 p0) ∧ w'.cell? ⟨bb, o + k * 18 + 5, none⟩ = some (.int .i64 p1) ∧ w'.cell? ⟨bb, o + k * 18 + 6, none⟩ = some (.string p2) ∧ w'.cell? ⟨bb, o + k * 18 + 7, none⟩ = some (.int .i64 p3) ∧ w'.cell? ⟨bb, o + k * 18 + 8, none⟩ = some (.int .i64 p4) ∧ w'.cell? ⟨bb, o + k * 18 + 9, none⟩ = some (.slice P1 P2 P3) ∧ w'.cell? ⟨bb, o + k * 18 + 10, none⟩ = some (.int .i64 v0) ∧ w'.cell? ⟨bb, o + k * 18 + 11, none⟩ = some (.int .i64 v1) ∧ w'.cell? ⟨bb, o + k * 18 + 12, none⟩ = some (.string v2) ∧ w'.cell? ⟨bb, o + k * 18 + 13, none⟩ = some (.int .i64 v3) ∧ w'.cell? ⟨bb, o + k * 18 + 14, none⟩ = some (.int .i64 v4) ∧ w'.cell? ⟨bb, o + k * 18 + 15, none⟩ = some (.slice V1 V2 V3) ∧ w'.cell? ⟨bb, o + k * 18 + 16, none⟩ = some (.slice A3 body.length c3) ∧ w'.cell? ⟨bb, o + k * 18 + 17, none⟩ = some (.slice A4 els.length c4))) := fun wc w' hs hb => by
        obtain ⟨b0, q4, q5, q6, q7, q8, q9, q10, q11, q12, q13, q14, q15, q16, q17⟩ := hs
        have hl : ∀ (p : Addr) u, wc.cell? p = some u → w'.cell? p = some u := fun p u hu => (hb.cell (p := p) (World.block_lt_of_cell? wc _ hu)).trans hu
        exact ⟨b0.trans (hb.mono b0.size), hl _ _ q4, hl _ _ q5, hl _ _ q6, hl _ _ q7, hl _ _ q8, hl _ _ q9, hl _ _ q10, hl _ _ q11, hl _ _ q12, hl _ _ q13, hl _ _ q14, hl _ _ q15, hl _ _ q16, hl _ _ q17⟩
      have hst : ∀ wc, Below wr.heap.size wr wc → Still S S w wc := fun wc hb b hSb hlt => ⟨hSb, (hb.block b (Nat.lt_of_lt_of_le hlt HB.out.size)).trans (HB.out.block b hlt)⟩
      have CP : Hid (∀ wc, (Below wr.heap.size wr wc ∧ wc.cell? ⟨bb, o + k * 18 + 4, none⟩ = some (.int .i64 p0) ∧ wc.cell? ⟨bb, o + k * 18 + 5, none⟩ = some (.int .i64 p1) ∧ wc.cell? ⟨bb, o + k * 18 + 6, none⟩ = some (.string p2) ∧ wc.cell? ⟨bb, o + k * 18 + 7, none⟩ = some (.int .i64 p3) ∧ wc.cell? ⟨bb, o + k * 18 + 8, none⟩ = some (.int .i64 p4) ∧ wc.cell? ⟨bb, o + k * 18 + 9, none⟩ = some (.slice P1 P2 P3) ∧ wc.cell? ⟨bb, o + k * 18 + 10, none⟩ = some (.int .i64 v0) ∧ wc.cell? ⟨bb, o + k * 18 + 11, none⟩ = some (.int .i64 v1) ∧ wc.cell? ⟨bb, o + k * 18 + 12, none⟩ = some (.string v2) ∧ wc.cell? ⟨bb, o + k * 18 + 13, none⟩ = some (.int .i64 v3) ∧ wc.cell? ⟨bb, o + k * 18 + 14, none⟩ = some (.int .i64 v4) ∧ wc.cell? ⟨bb, o + k * 18 + 15, none⟩ = some (.slice V1 V2 V3) ∧ wc.cell? ⟨bb, o + k * 18 + 16, none⟩ = some (.slice A3 body.length c3) ∧ wc.cell? ⟨bb, o + k * 18 + 17, none⟩ = some (.slice A4 els.length c4)) → Calls Tryd.prog 81 #[.agg #[.int .i64 p0, .int .i64 p1, .string p2, .int .i64 p3, .int .i64 p4, .slice P1 P2 P3]] wc fun e' w' => e' = .returned (.int .i64 place.deep) ∧ (Below wr.heap.size wr w' ∧ w'.cell? ⟨bb, o + k * 18 + 4, none⟩ = some (.int .i64 p0) ∧ w'.cell? ⟨bb, o + k * 18 + 5, none⟩ = some (.int .i64 p1) ∧ w'.cell? ⟨bb, o + k * 18 + 6, none⟩ = some (.string p2) ∧ w'.cell? ⟨bb, o + k * 18 + 7, none⟩ = some (.int .i64 p3) ∧ w'.cell? ⟨bb, o + k * 18 + 8, none⟩ = some (.int .i64 p4) ∧ w'.cell? ⟨bb, o + k * 18 + 9, none⟩ = some (.slice P1 P2 P3) ∧ w'.cell? ⟨bb, o + k * 18 + 10, none⟩ = some (.int .i64 v0) ∧ w'.cell? ⟨bb, o + k * 18 + 11, none⟩ = some (.int .i64 v1) ∧ w'.cell? ⟨bb, o + k * 18 + 12, none⟩ = some (.string v2) ∧ w'.cell? ⟨bb, o + k * 18 + 13, none⟩ = some (.int .i64 v3) ∧ w'.cell? ⟨bb, o + k * 18 + 14, none⟩ = some (.int .i64 v4) ∧ w'.cell? ⟨bb, o + k * 18 + 15, none⟩ = some (.slice V1 V2 V3) ∧ w'.cell? ⟨bb, o + k * 18 + 16, none⟩ = some (.slice A3 body.length c3) ∧ w'.cell? ⟨bb, o + k * 18 + 17, none⟩ = some (.slice A4 els.length c4))) := fun wc hs => by
        have hb := hs.1
        refine (rdeep_all place.big place (Nat.le_refl _) (by omega) S wc _ _ _ _ _ _ _ _ (ExL.still (hst wc hb) place _ HP.out)).mono ?_
        rintro e' w' ⟨he, hb2⟩
        exact ⟨he, HN.out _ _ hs hb2⟩
      have CV : Hid (∀ wc, (Below wr.heap.size wr wc ∧ wc.cell? ⟨bb, o + k * 18 + 4, none⟩ = some (.int .i64 p0) ∧ wc.cell? ⟨bb, o + k * 18 + 5, none⟩ = some (.int .i64 p1) ∧ wc.cell? ⟨bb, o + k * 18 + 6, none⟩ = some (.string p2) ∧ wc.cell? ⟨bb, o + k * 18 + 7, none⟩ = some (.int .i64 p3) ∧ wc.cell? ⟨bb, o + k * 18 + 8, none⟩ = some (.int .i64 p4) ∧ wc.cell? ⟨bb, o + k * 18 + 9, none⟩ = some (.slice P1 P2 P3) ∧ wc.cell? ⟨bb, o + k * 18 + 10, none⟩ = some (.int .i64 v0) ∧ wc.cell? ⟨bb, o + k * 18 + 11, none⟩ = some (.int .i64 v1) ∧ wc.cell? ⟨bb, o + k * 18 + 12, none⟩ = some (.string v2) ∧ wc.cell? ⟨bb, o + k * 18 + 13, none⟩ = some (.int .i64 v3) ∧ wc.cell? ⟨bb, o + k * 18 + 14, none⟩ = some (.int .i64 v4) ∧ wc.cell? ⟨bb, o + k * 18 + 15, none⟩ = some (.slice V1 V2 V3) ∧ wc.cell? ⟨bb, o + k * 18 + 16, none⟩ = some (.slice A3 body.length c3) ∧ wc.cell? ⟨bb, o + k * 18 + 17, none⟩ = some (.slice A4 els.length c4)) → Calls Tryd.prog 81 #[.agg #[.int .i64 v0, .int .i64 v1, .string v2, .int .i64 v3, .int .i64 v4, .slice V1 V2 V3]] wc fun e' w' => e' = .returned (.int .i64 value.deep) ∧ (Below wr.heap.size wr w' ∧ w'.cell? ⟨bb, o + k * 18 + 4, none⟩ = some (.int .i64 p0) ∧ w'.cell? ⟨bb, o + k * 18 + 5, none⟩ = some (.int .i64 p1) ∧ w'.cell? ⟨bb, o + k * 18 + 6, none⟩ = some (.string p2) ∧ w'.cell? ⟨bb, o + k * 18 + 7, none⟩ = some (.int .i64 p3) ∧ w'.cell? ⟨bb, o + k * 18 + 8, none⟩ = some (.int .i64 p4) ∧ w'.cell? ⟨bb, o + k * 18 + 9, none⟩ = some (.slice P1 P2 P3) ∧ w'.cell? ⟨bb, o + k * 18 + 10, none⟩ = some (.int .i64 v0) ∧ w'.cell? ⟨bb, o + k * 18 + 11, none⟩ = some (.int .i64 v1) ∧ w'.cell? ⟨bb, o + k * 18 + 12, none⟩ = some (.string v2) ∧ w'.cell? ⟨bb, o + k * 18 + 13, none⟩ = some (.int .i64 v3) ∧ w'.cell? ⟨bb, o + k * 18 + 14, none⟩ = some (.int .i64 v4) ∧ w'.cell? ⟨bb, o + k * 18 + 15, none⟩ = some (.slice V1 V2 V3) ∧ w'.cell? ⟨bb, o + k * 18 + 16, none⟩ = some (.slice A3 body.length c3) ∧ w'.cell? ⟨bb, o + k * 18 + 17, none⟩ = some (.slice A4 els.length c4))) := fun wc hs => by
        have hb := hs.1
        refine (rdeep_all value.big value (Nat.le_refl _) (by omega) S wc _ _ _ _ _ _ _ _ (ExL.still (hst wc hb) value _ HV.out)).mono ?_
        rintro e' w' ⟨he, hb2⟩
        exact ⟨he, HN.out _ _ hs hb2⟩
      have CB : Hid (∀ wc, (Below wr.heap.size wr wc ∧ wc.cell? ⟨bb, o + k * 18 + 4, none⟩ = some (.int .i64 p0) ∧ wc.cell? ⟨bb, o + k * 18 + 5, none⟩ = some (.int .i64 p1) ∧ wc.cell? ⟨bb, o + k * 18 + 6, none⟩ = some (.string p2) ∧ wc.cell? ⟨bb, o + k * 18 + 7, none⟩ = some (.int .i64 p3) ∧ wc.cell? ⟨bb, o + k * 18 + 8, none⟩ = some (.int .i64 p4) ∧ wc.cell? ⟨bb, o + k * 18 + 9, none⟩ = some (.slice P1 P2 P3) ∧ wc.cell? ⟨bb, o + k * 18 + 10, none⟩ = some (.int .i64 v0) ∧ wc.cell? ⟨bb, o + k * 18 + 11, none⟩ = some (.int .i64 v1) ∧ wc.cell? ⟨bb, o + k * 18 + 12, none⟩ = some (.string v2) ∧ wc.cell? ⟨bb, o + k * 18 + 13, none⟩ = some (.int .i64 v3) ∧ wc.cell? ⟨bb, o + k * 18 + 14, none⟩ = some (.int .i64 v4) ∧ wc.cell? ⟨bb, o + k * 18 + 15, none⟩ = some (.slice V1 V2 V3) ∧ wc.cell? ⟨bb, o + k * 18 + 16, none⟩ = some (.slice A3 body.length c3) ∧ wc.cell? ⟨bb, o + k * 18 + 17, none⟩ = some (.slice A4 els.length c4)) → Calls Tryd.prog 70 #[.slice A3 body.length c3] wc fun e' w' => e' = .returned (.int .i64 (St.deepL body)) ∧ (Below wr.heap.size wr w' ∧ w'.cell? ⟨bb, o + k * 18 + 4, none⟩ = some (.int .i64 p0) ∧ w'.cell? ⟨bb, o + k * 18 + 5, none⟩ = some (.int .i64 p1) ∧ w'.cell? ⟨bb, o + k * 18 + 6, none⟩ = some (.string p2) ∧ w'.cell? ⟨bb, o + k * 18 + 7, none⟩ = some (.int .i64 p3) ∧ w'.cell? ⟨bb, o + k * 18 + 8, none⟩ = some (.int .i64 p4) ∧ w'.cell? ⟨bb, o + k * 18 + 9, none⟩ = some (.slice P1 P2 P3) ∧ w'.cell? ⟨bb, o + k * 18 + 10, none⟩ = some (.int .i64 v0) ∧ w'.cell? ⟨bb, o + k * 18 + 11, none⟩ = some (.int .i64 v1) ∧ w'.cell? ⟨bb, o + k * 18 + 12, none⟩ = some (.string v2) ∧ w'.cell? ⟨bb, o + k * 18 + 13, none⟩ = some (.int .i64 v3) ∧ w'.cell? ⟨bb, o + k * 18 + 14, none⟩ = some (.int .i64 v4) ∧ w'.cell? ⟨bb, o + k * 18 + 15, none⟩ = some (.slice V1 V2 V3) ∧ w'.cell? ⟨bb, o + k * 18 + 16, none⟩ = some (.slice A3 body.length c3) ∧ w'.cell? ⟨bb, o + k * 18 + 17, none⟩ = some (.slice A4 els.length c4))) := fun wc hs => by
        have hb := hs.1
        refine (IH.out body (by omega) S wc _ _ _ (StSlice.still HBO.out (hst wc hb))).mono ?_
        rintro e' w' ⟨he, hb2⟩
        exact ⟨he, HN.out _ _ hs hb2⟩
      have CE : Hid (∀ wc, (Below wr.heap.size wr wc ∧ wc.cell? ⟨bb, o + k * 18 + 4, none⟩ = some (.int .i64 p0) ∧ wc.cell? ⟨bb, o + k * 18 + 5, none⟩ = some (.int .i64 p1) ∧ wc.cell? ⟨bb, o + k * 18 + 6, none⟩ = some (.string p2) ∧ wc.cell? ⟨bb, o + k * 18 + 7, none⟩ = some (.int .i64 p3) ∧ wc.cell? ⟨bb, o + k * 18 + 8, none⟩ = some (.int .i64 p4) ∧ wc.cell? ⟨bb, o + k * 18 + 9, none⟩ = some (.slice P1 P2 P3) ∧ wc.cell? ⟨bb, o + k * 18 + 10, none⟩ = some (.int .i64 v0) ∧ wc.cell? ⟨bb, o + k * 18 + 11, none⟩ = some (.int .i64 v1) ∧ wc.cell? ⟨bb, o + k * 18 + 12, none⟩ = some (.string v2) ∧ wc.cell? ⟨bb, o + k * 18 + 13, none⟩ = some (.int .i64 v3) ∧ wc.cell? ⟨bb, o + k * 18 + 14, none⟩ = some (.int .i64 v4) ∧ wc.cell? ⟨bb, o + k * 18 + 15, none⟩ = some (.slice V1 V2 V3) ∧ wc.cell? ⟨bb, o + k * 18 + 16, none⟩ = some (.slice A3 body.length c3) ∧ wc.cell? ⟨bb, o + k * 18 + 17, none⟩ = some (.slice A4 els.length c4)) → Calls Tryd.prog 70 #[.slice A4 els.length c4] wc fun e' w' => e' = .returned (.int .i64 (St.deepL els)) ∧ (Below wr.heap.size wr w' ∧ w'.cell? ⟨bb, o + k * 18 + 4, none⟩ = some (.int .i64 p0) ∧ w'.cell? ⟨bb, o + k * 18 + 5, none⟩ = some (.int .i64 p1) ∧ w'.cell? ⟨bb, o + k * 18 + 6, none⟩ = some (.string p2) ∧ w'.cell? ⟨bb, o + k * 18 + 7, none⟩ = some (.int .i64 p3) ∧ w'.cell? ⟨bb, o + k * 18 + 8, none⟩ = some (.int .i64 p4) ∧ w'.cell? ⟨bb, o + k * 18 + 9, none⟩ = some (.slice P1 P2 P3) ∧ w'.cell? ⟨bb, o + k * 18 + 10, none⟩ = some (.int .i64 v0) ∧ w'.cell? ⟨bb, o + k * 18 + 11, none⟩ = some (.int .i64 v1) ∧ w'.cell? ⟨bb, o + k * 18 + 12, none⟩ = some (.string v2) ∧ w'.cell? ⟨bb, o + k * 18 + 13, none⟩ = some (.int .i64 v3) ∧ w'.cell? ⟨bb, o + k * 18 + 14, none⟩ = some (.int .i64 v4) ∧ w'.cell? ⟨bb, o + k * 18 + 15, none⟩ = some (.slice V1 V2 V3) ∧ w'.cell? ⟨bb, o + k * 18 + 16, none⟩ = some (.slice A3 body.length c3) ∧ w'.cell? ⟨bb, o + k * 18 + 17, none⟩ = some (.slice A4 els.length c4))) := fun wc hs => by
        have hb := hs.1
        refine (IH.out els (by omega) S wc _ _ _ (StSlice.still HEL.out (hst wc hb))).mono ?_
        rintro e' w' ⟨he, hb2⟩
        exact ⟨he, HN.out _ _ hs hb2⟩
      have hs0 : Below wr.heap.size wr wr.drew ∧ wr.drew.cell? ⟨bb, o + k * 18 + 4, none⟩ = some (.int .i64 p0) ∧ wr.drew.cell? ⟨bb, o + k * 18 + 5, none⟩ = some (.int .i64 p1) ∧ wr.drew.cell? ⟨bb, o + k * 18 + 6, none⟩ = some (.string p2) ∧ wr.drew.cell? ⟨bb, o + k * 18 + 7, none⟩ = some (.int .i64 p3) ∧ wr.drew.cell? ⟨bb, o + k * 18 + 8, none⟩ = some (.int .i64 p4) ∧ wr.drew.cell? ⟨bb, o + k * 18 + 9, none⟩ = some (.slice P1 P2 P3) ∧ wr.drew.cell? ⟨bb, o + k * 18 + 10, none⟩ = some (.int .i64 v0) ∧ wr.drew.cell? ⟨bb, o + k * 18 + 11, none⟩ = some (.int .i64 v1) ∧ wr.drew.cell? ⟨bb, o + k * 18 + 12, none⟩ = some (.string v2) ∧ wr.drew.cell? ⟨bb, o + k * 18 + 13, none⟩ = some (.int .i64 v3) ∧ wr.drew.cell? ⟨bb, o + k * 18 + 14, none⟩ = some (.int .i64 v4) ∧ wr.drew.cell? ⟨bb, o + k * 18 + 15, none⟩ = some (.slice V1 V2 V3) ∧ wr.drew.cell? ⟨bb, o + k * 18 + 16, none⟩ = some (.slice A3 body.length c3) ∧ wr.drew.cell? ⟨bb, o + k * 18 + 17, none⟩ = some (.slice A4 els.length c4) := ⟨(Below.refl _ _).drew, y4, y5, y6, y7, y8, y9, y10, y11, y12, y13, y14, y15, y16, y17⟩
      have HLE := Lib.hid hle1
      have HLE0 := Lib.hid hle
      clear hst hpp hle1 hle hdd hdb2 hbg y4 y5 y6 y7 y8 y9 y10 y11 y12 y13 y14 y15 y16 y17
      go_upto_region 5 with fail
      go_region_held3 (fun w' => Below wr.heap.size wr w' ∧ w'.cell? ⟨bb, o + k * 18 + 4, none⟩ = some (.int .i64 p0) ∧ w'.cell? ⟨bb, o + k * 18 + 5, none⟩ = some (.int .i64 p1) ∧ w'.cell? ⟨bb, o + k * 18 + 6, none⟩ = some (.string p2) ∧ w'.cell? ⟨bb, o + k * 18 + 7, none⟩ = some (.int .i64 p3) ∧ w'.cell? ⟨bb, o + k * 18 + 8, none⟩ = some (.int .i64 p4) ∧ w'.cell? ⟨bb, o + k * 18 + 9, none⟩ = some (.slice P1 P2 P3) ∧ w'.cell? ⟨bb, o + k * 18 + 10, none⟩ = some (.int .i64 v0) ∧ w'.cell? ⟨bb, o + k * 18 + 11, none⟩ = some (.int .i64 v1) ∧ w'.cell? ⟨bb, o + k * 18 + 12, none⟩ = some (.string v2) ∧ w'.cell? ⟨bb, o + k * 18 + 13, none⟩ = some (.int .i64 v3) ∧ w'.cell? ⟨bb, o + k * 18 + 14, none⟩ = some (.int .i64 v4) ∧ w'.cell? ⟨bb, o + k * 18 + 15, none⟩ = some (.slice V1 V2 V3) ∧ w'.cell? ⟨bb, o + k * 18 + 16, none⟩ = some (.slice A3 body.length c3) ∧ w'.cell? ⟨bb, o + k * 18 + 17, none⟩ = some (.slice A4 els.length c4)) (assumption) (first | (go_at_call 81; ((with_reducible refine (CP.out _ ?_).mono ?_)); assumption; rintro e' w3 ⟨rfl, hs3⟩) | (go_at_call 81; ((with_reducible refine (CV.out _ ?_).mono ?_)); assumption; rintro e' w4 ⟨rfl, hs4⟩) | (go_at_call 70; ((with_reducible refine (CB.out _ ?_).mono ?_)); assumption; rintro e' w5 ⟨rfl, hs5⟩) | (go_at_call 70; ((with_reducible refine (CE.out _ ?_).mono ?_)); assumption; rintro e' w6 ⟨rfl, hs6⟩; have hm1 := HLE.out; have hm2 := HLE0.out; have hm3 := HDB.out; have hm4 := HD.out; have hx1 : (max (place.deep : Int) (max (value.deep : Int) (max (St.deepL body : Int) (St.deepL els : Int)))) ≤ 100000 := (by omega); have hx0 : 0 ≤ (max (place.deep : Int) (max (value.deep : Int) (max (St.deepL body : Int) (St.deepL els : Int)))) := (by omega); have hwr : IntKind.i64.wrap (1 + (max (place.deep : Int) (max (value.deep : Int) (max (St.deepL body : Int) (St.deepL els : Int))))) = 1 + (max (place.deep : Int) (max (value.deep : Int) (max (St.deepL body : Int) (St.deepL els : Int)))) := (by rw [IntKind.wrap_i64]; omega); clear hm1 hm2 hm3 hm4) | (refine step_max4 rfl _ _ _ _ _ rfl _ _ _ _ rfl rfl rfl rfl ?_))
      have HB6 := Lib.hid (HB.out.trans (hs6.1.mono HB.out.size))
      clear hs3 hs4 hs5 hs6 hs0 hx0 hx1
      go_wp2_with fail
      all_goals
        go_roundg g
        case rel => exact ⟨k + 1, by have := HG.out; omega, by go_num, congrArg (Value.int .i64) (by rw [HT.out]; omega), HB6⟩
        case measure => omega

set_option maxHeartbeats 4000000 in
set_option maxRecDepth 100000 in
theorem rdepth_any (p : Pr) (hbig : p.big ≤ 100000) (S : Nat → Prop) (w : World) (A0 A1 A2 A3 A4 : Option Addr) (l0 l1 l2 l3 l4 c0 c1 c2 c3 c4 : Nat) (hp : PrAt S w p (.slice A0 l0 c0) (.slice A1 l1 c1) (.slice A2 l2 c2) (.slice A3 l3 c3) (.slice A4 l4 c4)) :
    Calls Tryd.prog 60 #[.agg #[.slice A0 l0 c0, .slice A1 l1 c1, .slice A2 l2 c2, .slice A3 l3 c3, .slice A4 l4 c4]] w fun e w' => e = .returned (.int .i64 p.deep) ∧ Below w.heap.size w w' := by
  obtain ⟨_, h1, h2, h3, h4⟩ := hp
  have hbg : St.bigL p.start ≤ 100000 ∧ St.bigL p.message ≤ 100000 ∧ St.bigL p.tick ≤ 100000 ∧ St.bigL p.input ≤ 100000 := by unfold Pr.big at hbig; omega
  have hx : (p.deep : Int) = max (St.deepL p.start : Int) (max (St.deepL p.message : Int) (max (St.deepL p.tick : Int) (St.deepL p.input : Int))) := by unfold Pr.deep; omega
  have HX := Lib.hid hx
  obtain ⟨W, hW⟩ : ∃ x, w.alloc (.cells #[.slice A0 l0 c0, .slice A1 l1 c1, .slice A2 l2 c2, .slice A3 l3 c3, .slice A4 l4 c4] 74) = x := ⟨_, rfl⟩
  have hb : Below w.heap.size w W := by rw [← hW]; exact (Below.refl _ _).alloc (Nat.le_refl _) _
  have hx0 : W.heap[w.heap.size]? = some (.cells #[.slice A0 l0 c0, .slice A1 l1 c1, .slice A2 l2 c2, .slice A3 l3 c3, .slice A4 l4 c4] 74 (0, 0)) := by rw [← hW]; exact new_blk w _
  have HBW := Lib.hid hb
  obtain ⟨d0, d1, d2, d3, d4, _, _, _, _, _, _⟩ := box5 hx0
  have C0 : Hid (∀ wc, (Below w.heap.size w wc ∧ wc.cell? ⟨w.heap.size, 1, none⟩ = some (.slice A1 l1 c1) ∧ wc.cell? ⟨w.heap.size, 2, none⟩ = some (.slice A2 l2 c2) ∧ wc.cell? ⟨w.heap.size, 3, none⟩ = some (.slice A3 l3 c3) ∧ wc.cell? ⟨w.heap.size, 4, none⟩ = some (.slice A4 l4 c4)) → Calls Tryd.prog 70 #[.slice A1 l1 c1] wc fun e' w' => e' = .returned (.int .i64 (St.deepL p.start)) ∧ (Below w.heap.size w w' ∧ w'.cell? ⟨w.heap.size, 1, none⟩ = some (.slice A1 l1 c1) ∧ w'.cell? ⟨w.heap.size, 2, none⟩ = some (.slice A2 l2 c2) ∧ w'.cell? ⟨w.heap.size, 3, none⟩ = some (.slice A3 l3 c3) ∧ w'.cell? ⟨w.heap.size, 4, none⟩ = some (.slice A4 l4 c4))) := fun wc hs => by
    obtain ⟨b0, q1, q2, q3, q4⟩ := hs
    refine (rnested_all 100000 p.start (by omega) (Nat.le_refl _) S wc _ _ _ (StSlice.still h1 fun k hk hlt => ⟨hk, b0.block k hlt⟩)).mono ?_
    rintro e' w' ⟨he, hb⟩
    have hl : ∀ (p : Addr) u, wc.cell? p = some u → w'.cell? p = some u := fun p u hu => (hb.cell (p := p) (World.block_lt_of_cell? wc _ hu)).trans hu
    exact ⟨he, b0.trans (hb.mono b0.size), hl _ _ q1, hl _ _ q2, hl _ _ q3, hl _ _ q4⟩
  have C1 : Hid (∀ wc, (Below w.heap.size w wc ∧ wc.cell? ⟨w.heap.size, 1, none⟩ = some (.slice A1 l1 c1) ∧ wc.cell? ⟨w.heap.size, 2, none⟩ = some (.slice A2 l2 c2) ∧ wc.cell? ⟨w.heap.size, 3, none⟩ = some (.slice A3 l3 c3) ∧ wc.cell? ⟨w.heap.size, 4, none⟩ = some (.slice A4 l4 c4)) → Calls Tryd.prog 70 #[.slice A2 l2 c2] wc fun e' w' => e' = .returned (.int .i64 (St.deepL p.message)) ∧ (Below w.heap.size w w' ∧ w'.cell? ⟨w.heap.size, 1, none⟩ = some (.slice A1 l1 c1) ∧ w'.cell? ⟨w.heap.size, 2, none⟩ = some (.slice A2 l2 c2) ∧ w'.cell? ⟨w.heap.size, 3, none⟩ = some (.slice A3 l3 c3) ∧ w'.cell? ⟨w.heap.size, 4, none⟩ = some (.slice A4 l4 c4))) := fun wc hs => by
    obtain ⟨b0, q1, q2, q3, q4⟩ := hs
    refine (rnested_all 100000 p.message (by omega) (Nat.le_refl _) S wc _ _ _ (StSlice.still h2 fun k hk hlt => ⟨hk, b0.block k hlt⟩)).mono ?_
    rintro e' w' ⟨he, hb⟩
    have hl : ∀ (p : Addr) u, wc.cell? p = some u → w'.cell? p = some u := fun p u hu => (hb.cell (p := p) (World.block_lt_of_cell? wc _ hu)).trans hu
    exact ⟨he, b0.trans (hb.mono b0.size), hl _ _ q1, hl _ _ q2, hl _ _ q3, hl _ _ q4⟩
  have C2 : Hid (∀ wc, (Below w.heap.size w wc ∧ wc.cell? ⟨w.heap.size, 1, none⟩ = some (.slice A1 l1 c1) ∧ wc.cell? ⟨w.heap.size, 2, none⟩ = some (.slice A2 l2 c2) ∧ wc.cell? ⟨w.heap.size, 3, none⟩ = some (.slice A3 l3 c3) ∧ wc.cell? ⟨w.heap.size, 4, none⟩ = some (.slice A4 l4 c4)) → Calls Tryd.prog 70 #[.slice A3 l3 c3] wc fun e' w' => e' = .returned (.int .i64 (St.deepL p.tick)) ∧ (Below w.heap.size w w' ∧ w'.cell? ⟨w.heap.size, 1, none⟩ = some (.slice A1 l1 c1) ∧ w'.cell? ⟨w.heap.size, 2, none⟩ = some (.slice A2 l2 c2) ∧ w'.cell? ⟨w.heap.size, 3, none⟩ = some (.slice A3 l3 c3) ∧ w'.cell? ⟨w.heap.size, 4, none⟩ = some (.slice A4 l4 c4))) := fun wc hs => by
    obtain ⟨b0, q1, q2, q3, q4⟩ := hs
    refine (rnested_all 100000 p.tick (by omega) (Nat.le_refl _) S wc _ _ _ (StSlice.still h3 fun k hk hlt => ⟨hk, b0.block k hlt⟩)).mono ?_
    rintro e' w' ⟨he, hb⟩
    have hl : ∀ (p : Addr) u, wc.cell? p = some u → w'.cell? p = some u := fun p u hu => (hb.cell (p := p) (World.block_lt_of_cell? wc _ hu)).trans hu
    exact ⟨he, b0.trans (hb.mono b0.size), hl _ _ q1, hl _ _ q2, hl _ _ q3, hl _ _ q4⟩
  have C3 : Hid (∀ wc, (Below w.heap.size w wc ∧ wc.cell? ⟨w.heap.size, 1, none⟩ = some (.slice A1 l1 c1) ∧ wc.cell? ⟨w.heap.size, 2, none⟩ = some (.slice A2 l2 c2) ∧ wc.cell? ⟨w.heap.size, 3, none⟩ = some (.slice A3 l3 c3) ∧ wc.cell? ⟨w.heap.size, 4, none⟩ = some (.slice A4 l4 c4)) → Calls Tryd.prog 70 #[.slice A4 l4 c4] wc fun e' w' => e' = .returned (.int .i64 (St.deepL p.input)) ∧ (Below w.heap.size w w' ∧ w'.cell? ⟨w.heap.size, 1, none⟩ = some (.slice A1 l1 c1) ∧ w'.cell? ⟨w.heap.size, 2, none⟩ = some (.slice A2 l2 c2) ∧ w'.cell? ⟨w.heap.size, 3, none⟩ = some (.slice A3 l3 c3) ∧ w'.cell? ⟨w.heap.size, 4, none⟩ = some (.slice A4 l4 c4))) := fun wc hs => by
    obtain ⟨b0, q1, q2, q3, q4⟩ := hs
    refine (rnested_all 100000 p.input (by omega) (Nat.le_refl _) S wc _ _ _ (StSlice.still h4 fun k hk hlt => ⟨hk, b0.block k hlt⟩)).mono ?_
    rintro e' w' ⟨he, hb⟩
    have hl : ∀ (p : Addr) u, wc.cell? p = some u → w'.cell? p = some u := fun p u hu => (hb.cell (p := p) (World.block_lt_of_cell? wc _ hu)).trans hu
    exact ⟨he, b0.trans (hb.mono b0.size), hl _ _ q1, hl _ _ q2, hl _ _ q3, hl _ _ q4⟩
  have hs0 : Below w.heap.size w W.drew ∧ W.drew.cell? ⟨w.heap.size, 1, none⟩ = some (.slice A1 l1 c1) ∧ W.drew.cell? ⟨w.heap.size, 2, none⟩ = some (.slice A2 l2 c2) ∧ W.drew.cell? ⟨w.heap.size, 3, none⟩ = some (.slice A3 l3 c3) ∧ W.drew.cell? ⟨w.heap.size, 4, none⟩ = some (.slice A4 l4 c4) := ⟨hb.drew, d1, d2, d3, d4⟩
  rw [hx]
  clear h1 h2 h3 h4 hbg hx hx0 d0 d1 d2 d3 d4 hb
  go_enter Tryd.func60, Tryd.ntmps60
  go_upto_region 1 with fail
  clear hW
  go_region_held3 (fun w' => Below w.heap.size w w' ∧ w'.cell? ⟨w.heap.size, 1, none⟩ = some (.slice A1 l1 c1) ∧ w'.cell? ⟨w.heap.size, 2, none⟩ = some (.slice A2 l2 c2) ∧ w'.cell? ⟨w.heap.size, 3, none⟩ = some (.slice A3 l3 c3) ∧ w'.cell? ⟨w.heap.size, 4, none⟩ = some (.slice A4 l4 c4)) (assumption) (first | (go_at_call 70; ((with_reducible refine (C0.out _ ?_).mono ?_)); assumption; rintro e' w3 ⟨rfl, hs3⟩) | (go_at_call 70; ((with_reducible refine (C1.out _ ?_).mono ?_)); assumption; rintro e' w4 ⟨rfl, hs4⟩) | (go_at_call 70; ((with_reducible refine (C2.out _ ?_).mono ?_)); assumption; rintro e' w5 ⟨rfl, hs5⟩) | (go_at_call 70; ((with_reducible refine (C3.out _ ?_).mono ?_)); assumption; rintro e' w6 ⟨rfl, hs6⟩) | (refine step_max4 rfl _ _ _ _ _ rfl _ _ _ _ rfl rfl rfl rfl ?_))
  go_wp2_with fail
  go_ret
  exact ⟨rfl, hs6.1⟩
end Go.Proofs.YtgblgkkbggdopaaDoor

/-
  What Reserved and Valid of the document's answer return. Condition: the text has at most 140737488351232 bytes.
-/
namespace Go.Proofs.YtgblgkkbggdopaaDoor
open Go.RowKit

theorem rletter_any (c : Int) (w : World) : Calls Tryd.prog 71 #[.int .u8 c] w fun e w' => e = .returned (.bool (letterC c)) ∧ w = w' := by
  go_enter Tryd.func71, Tryd.ntmps71
  go_wp2
  all_goals (go_ret; exact ⟨ret_bool (Bool.eq_iff_iff.2 (by simp [letterC] <;> omega)), rfl⟩)
theorem rdigit_any (c : Int) (w : World) : Calls Tryd.prog 73 #[.int .u8 c] w fun e w' => e = .returned (.bool (digitC c)) ∧ w = w' := by
  go_enter Tryd.func73, Tryd.ntmps73
  go_wp2
  all_goals (go_ret; exact ⟨ret_bool (Bool.eq_iff_iff.2 (by simp [digitC] <;> omega)), rfl⟩)
set_option maxHeartbeats 400000 in
theorem rletter_b (c : Int) (b : Bool) (h : letterC c = b) (w : World) : Calls Tryd.prog 71 #[.int .u8 c] w fun e w' => e = .returned (.bool b) ∧ w = w' := by
  subst h; exact rletter_any c w
theorem rdigit_b (c : Int) (b : Bool) (h : digitC c = b) (w : World) : Calls Tryd.prog 73 #[.int .u8 c] w fun e w' => e = .returned (.bool b) ∧ w = w' := by
  subst h; exact rdigit_any c w
theorem word_no {c : Int} (h1 : letterC c = false) (h2 : digitC c = false) : wordC c = false := by unfold wordC; rw [h1, h2]; rfl
theorem word_letter {c : Int} (h1 : letterC c = true) : wordC c = true := by unfold wordC; rw [h1]; rfl
theorem word_digit {c : Int} (h1 : digitC c = true) : wordC c = true := by unfold wordC; rw [h1]; exact Bool.or_true _

/-- The reserved words, each one between blanks. -/
def wordsL : List UInt8 := [32, 118, 97, 114, 32, 97, 114, 114, 97, 121, 32, 111, 110, 32, 115, 116, 97, 114, 116, 32, 109, 101, 115, 115, 97, 103, 101, 32, 116, 105, 99, 107, 32, 105, 110, 112, 117, 116, 32, 105, 102, 32, 101, 108, 115, 101, 32, 119, 104, 105, 108, 101, 32, 115, 101, 110, 100, 32, 111, 117, 116, 112, 117, 116, 32, 115, 101, 108, 102, 32, 112, 114, 111, 99, 115, 32, 102, 114, 111, 109, 32, 118, 97, 108, 117, 101, 32]

def hasBlank : List UInt8 → Bool
  | [] => false
  | c :: r => (c == 32) || hasBlank r

/-- Whether the words hold a list of bytes at the place i. -/
def holdsAt (l : List UInt8) (i : Nat) : Bool := (wordsL.drop i).take (l.length + 2) == 32 :: (l ++ [32])

theorem take_until (l : List UInt8) (h : hasBlank l = false) : ∀ r : List UInt8, (l ++ 32 :: r).takeWhile (· != 32) = l := by
  induction l with
  | nil => intro r; rfl
  | cons c l ih =>
    intro r
    simp only [hasBlank, Bool.or_eq_false_iff, beq_eq_false_iff_ne] at h
    rw [List.cons_append, List.takeWhile_cons, if_pos (by simpa using h.1), ih h.2 r]

theorem words_at : ∀ i, i < 86 → (wordsL.drop i).head? = some 32 → resWords.contains ((wordsL.drop (i + 1)).takeWhile (· != 32)) = true := by decide
theorem words_have : ∀ w ∈ resWords, (List.range 87).any (fun i => decide (i + (w.length + 2) ≤ 87) && holdsAt w i) = true := by decide

/-- A list of bytes without blanks that is not empty stands between blanks among the words exactly if it is one of them. -/
theorem res_iff (l : List UInt8) (h0 : l ≠ []) (hb : hasBlank l = false) : resB l = true ↔ ∃ i, i + (l.length + 2) ≤ 87 ∧ holdsAt l i = true := by
  constructor
  · intro h
    have := words_have l (by simpa [resB] using h)
    obtain ⟨i, _, hi⟩ := List.any_eq_true.1 this
    rw [Bool.and_eq_true, decide_eq_true_iff] at hi
    exact ⟨i, hi⟩
  · rintro ⟨i, hi, hh⟩
    have hl : 0 < l.length := List.length_pos_iff.2 h0
    have e := eq_of_beq hh
    have hw : (wordsL.drop i).take (l.length + 2) ++ (wordsL.drop i).drop (l.length + 2) = wordsL.drop i := List.take_append_drop _ _
    rw [e] at hw
    have h1 : (wordsL.drop i).head? = some 32 := by rw [← hw]; rfl
    have h2 : wordsL.drop (i + 1) = l ++ 32 :: (wordsL.drop i).drop (l.length + 2) := by
      rw [← List.drop_drop (i := 1) (j := i), ← hw]
      simp
    have h3 := words_at i (by omega) h1
    rw [h2, take_until l hb] at h3
    exact h3
theorem res_blank (l : List UInt8) (hb : hasBlank l = true) : resB l = false := by
  have h : ∀ w ∈ resWords, hasBlank w = false := by decide
  by_cases hr : resB l = true
  · have := h l (by simpa [resB] using hr)
    rw [hb] at this; cases this
  · simpa using hr
theorem res_nil : resB [] = false := rfl


theorem blank_next {s : ByteArray} {k : Nat} (h : hasBlank (s.data.toList.drop k) = hasBlank s.data.toList) (hlt : k < s.size) (hc : ((s[k].toNat : Int) == 32) = false) : hasBlank (s.data.toList.drop (k + 1)) = hasBlank s.data.toList := by
  rw [drop_get s k hlt, hasBlank] at h
  have : (s[k] == 32) = false := by
    rw [beq_eq_false_iff_ne] at hc ⊢
    intro e; rw [e] at hc; exact hc rfl
  rw [this, Bool.false_or] at h
  exact h
theorem blank_here {s : ByteArray} {k : Nat} (h : hasBlank (s.data.toList.drop k) = hasBlank s.data.toList) (hlt : k < s.size) (hc : ((s[k].toNat : Int) == 32) = true) : hasBlank s.data.toList = true := by
  rw [drop_get s k hlt, hasBlank] at h
  have : (s[k] == 32) = true := by
    rw [beq_iff_eq] at hc ⊢
    exact UInt8.toNat_inj.1 (by have h2 : ((32 : UInt8)).toNat = 32 := rfl; omega)
  rw [this, Bool.true_or] at h
  exact h.symm

theorem holds_walk (s : ByteArray) (j : Nat) : ((({ data := #[32, 118, 97, 114, 32, 97, 114, 114, 97, 121, 32, 111, 110, 32, 115, 116, 97, 114, 116, 32, 109, 101, 115, 115, 97, 103, 101, 32, 116, 105, 99, 107, 32, 105, 110, 112, 117, 116, 32, 105, 102, 32, 101, 108, 115, 101, 32, 119, 104, 105, 108, 101, 32, 115, 101, 110, 100, 32, 111, 117, 116, 112, 117, 116, 32, 115, 101, 108, 102, 32, 112, 114, 111, 99, 115, 32, 102, 114, 111, 109, 32, 118, 97, 108, 117, 101, 32] } : ByteArray).extract j (j + (1 + s.size + 1))).toList == (({ data := #[32] } : ByteArray) ++ s ++ { data := #[32] }).toList) = holdsAt s.data.toList j := by
  have hz : s.data.toList.length = s.size := by simp
  rw [Lib.toList_data, Lib.toList_data, Lib.extract_data]
  unfold holdsAt
  rw [hz, show j + (1 + s.size + 1) - j = s.size + 2 by omega]
  have e : ((({ data := #[32] } : ByteArray) ++ s ++ { data := #[32] }).data.toList) = 32 :: (s.data.toList ++ [32]) := by simp
  rw [e]
  rfl

set_option maxHeartbeats 1000000 in
set_option maxRecDepth 100000 in
theorem rreserved_some (s : ByteArray) (w : World) (hs : s.size ≤ 140737488351232) (h0 : 0 < s.size) : Calls Tryd.prog 72 #[.string s] w fun e w' => e = .returned (.bool (resB s.data.toList)) ∧ w = w' := by
  have hz : ((s.size : Int) == 0) = false := beq_eq_false_iff_ne.2 (by omega)
  obtain ⟨b, hb⟩ : ∃ b, resB s.data.toList = b := ⟨_, rfl⟩
  rw [hb]
  have HBB := Lib.hid hb
  clear hb
  go_enter Tryd.func72, Tryd.ntmps72
  go_wp2
  go_loopg [3] s.size (fun g i wx => ∃ k : Nat, k + g = s.size ∧ i = .int .i64 k ∧ hasBlank (s.data.toList.drop k) = hasBlank s.data.toList ∧ wx = w)
  case atStart => exact ⟨0, by omega, rfl, rfl, rfl⟩
  case round =>
    obtain ⟨k, hkg, rfl, hbl, rfl⟩ := hrel
    have HG := Lib.hid hkg
    have HBL := Lib.hid hbl
    clear hkg hbl
    cases gk with
    | succ g =>
      have hlt : k < s.size := by have := HG.out; omega
      obtain ⟨t, ht⟩ : ∃ t, ((s[k].toNat : Int) == 32) = t := ⟨_, rfl⟩
      cases t with
      | true =>
        have HP := Lib.hid (blank_here HBL.out hlt ht)
        go_wp2
        go_ret
        have h := res_blank _ HP.out
        rw [HBB.out] at h
        exact ⟨ret_bool h.symm, rfl⟩
      | false =>
        have HP := Lib.hid (blank_next HBL.out hlt ht)
        go_wp2
        go_roundg g
        case rel => exact ⟨k + 1, by have := HG.out; omega, by go_num, HP.out, rfl⟩
        case measure => omega
    | zero =>
      have hge : s.size ≤ k := by have := HG.out; omega
      go_wp2
      have HNB : Hid (hasBlank s.data.toList = false) := by
        have h := HBL.out
        rw [List.drop_eq_nil_of_le (by simp; omega)] at h
        exact h.symm
      clear HBL HG
      go_loopg [5] 87 (fun g i wx => ∃ k : Nat, k + g = 87 ∧ i = .int .i64 k ∧ (∀ j, j < k → j + (s.data.toList.length + 2) ≤ 87 → holdsAt s.data.toList j = false) ∧ wx = wr)
      case atStart => exact ⟨0, by omega, rfl, fun j h => absurd h (Nat.not_lt_zero j), rfl⟩
      case round =>
        obtain ⟨j, hjg, rfl, hno, rfl⟩ := hrel
        have HJG := Lib.hid hjg
        have HNO := Lib.hid hno
        have hzz : s.data.toList.length = s.size := by simp
        have HZ := Lib.hid hzz
        have hne : s.data.toList ≠ [] := fun h => by rw [h] at hzz; simp at hzz; omega
        have HNE := Lib.hid hne
        clear hjg hno hzz hne
        by_cases hjl : j + (s.size + 2) ≤ 87
        · have hj86 : j ≤ 87 := by omega
          go_wp2
          · have ht : holdsAt s.data.toList j = true := (holds_walk s j).symm.trans (by assumption)
            have h := (res_iff _ HNE.out HNB.out).2 ⟨j, by rw [HZ.out]; exact hjl, ht⟩
            go_ret
            rw [HBB.out] at h
            exact ⟨ret_bool h.symm, rfl⟩
          · have ht : holdsAt s.data.toList j = false := (holds_walk s j).symm.trans (by assumption)
            go_roundg (87 - (j + 1))
            case rel =>
              refine ⟨j + 1, by have := HJG.out; omega, by go_num, fun i hi hl => ?_, rfl⟩
              rcases Nat.lt_or_ge i j with h1 | h1
              · exact HNO.out i h1 hl
              · obtain rfl : i = j := by omega
                exact ht
            case measure => have := HJG.out; omega
        · have hj86 : j ≤ 87 := by have := HJG.out; omega
          go_wp2
          go_ret
          have h : ¬ resB s.data.toList = true := fun h => by
            obtain ⟨i, hi, hh⟩ := (res_iff _ HNE.out HNB.out).1 h
            have h2 := HZ.out
            rw [HNO.out i (by omega) hi] at hh
            cases hh
          rw [HBB.out] at h
          exact ⟨ret_bool (Bool.eq_false_iff.2 h).symm, rfl⟩

set_option maxHeartbeats 400000 in
theorem rreserved_none (s : ByteArray) (w : World) (h0 : s.size = 0) : Calls Tryd.prog 72 #[.string s] w fun e w' => e = .returned (.bool false) ∧ w = w' := by
  go_enter Tryd.func72, Tryd.ntmps72
  go_wp2
  go_ret
  exact ⟨rfl, rfl⟩

theorem rreserved_any (s : ByteArray) (w : World) (hs : s.size ≤ 140737488351232) : Calls Tryd.prog 72 #[.string s] w fun e w' => e = .returned (.bool (resB s.data.toList)) ∧ w = w' := by
  by_cases h0 : 0 < s.size
  · exact rreserved_some s w hs h0
  · have e : s.data.toList = [] := by rw [← Lib.toList_data]; exact toList_nil (by omega)
    rw [e, res_nil]
    exact rreserved_none s w (by omega)


theorem rreserved_b (s : ByteArray) (hs : s.size ≤ 140737488351232) (b : Bool) (h : resB s.data.toList = b) (w : World) : Calls Tryd.prog 72 #[.string s] w fun e w' => e = .returned (.bool b) ∧ w = w' := by
  subst h; exact rreserved_any s w hs

theorem name_go {s : ByteArray} {k : Nat} (h : nameSz (s.data.toList.drop k) + k = nameSz s.data.toList) (hlt : k < s.size) (hw : wordC s[k].toNat = true) : nameSz (s.data.toList.drop (k + 1)) + (k + 1) = nameSz s.data.toList := by
  rw [drop_get s k hlt, nameSz, if_pos hw] at h; omega
theorem name_halt {s : ByteArray} {k : Nat} (h : nameSz (s.data.toList.drop k) + k = nameSz s.data.toList) (hlt : k < s.size) (hw : wordC s[k].toNat = false) : nameSz s.data.toList = k := by
  rw [drop_get s k hlt, nameSz, if_neg (by simp [hw])] at h; omega
theorem name_done {s : ByteArray} {k : Nat} (h : nameSz (s.data.toList.drop k) + k = nameSz s.data.toList) (hlt : ¬ k < s.size) : nameSz s.data.toList = k := by
  rw [List.drop_eq_nil_of_le (by simp; omega), nameSz] at h; omega

set_option maxHeartbeats 1000000 in
set_option maxRecDepth 100000 in
theorem rvalid_any (s : ByteArray) (w : World) (hs : s.size ≤ 140737488351232) : Calls Tryd.prog 61 #[.string s] w fun e w' => e = .returned (.bool (validS s.data.toList)) ∧ w = w' := by
  have hz : s.data.toList.length = s.size := by simp
  obtain ⟨b, hb⟩ : ∃ b, validS s.data.toList = b := ⟨_, rfl⟩
  rw [hb]
  by_cases h0 : 0 < s.size
  · rw [validS_cons (list_cons s h0), hz] at hb
    have hz0 : ((s.size : Int) == 0) = false := beq_eq_false_iff_ne.2 (by omega)
    by_cases h16 : s.size ≤ 16
    · have h16' : decide (16 < (s.size : Int)) = false := decide_eq_false (by omega)
      by_cases hl : letterC s[0].toNat = true
      · have HL := Lib.hid hl
        by_cases hr : resB s.data.toList = true
        · rw [hr] at hb
          have HBF : Hid (b = false) := by rw [← hb]; show _ = _; simp
          have HRS := Lib.hid hr
          clear hb hl hr hz
          go_enter Tryd.func61, Tryd.ntmps61
          go_wp2_with (first | (go_at_call 71; refine (rletter_b _ _ HL.out _).mono ?_; rintro e w' ⟨rfl, rfl⟩) | (go_at_call 72; refine (rreserved_b s hs _ HRS.out _).mono ?_; rintro e w' ⟨rfl, rfl⟩))
          go_ret
          exact ⟨ret_bool HBF.out.symm, rfl⟩
        · have hr' : resB s.data.toList = false := by simpa using hr
          have HRS := Lib.hid hr'
          rw [hl, hr', decide_eq_true h16] at hb
          have HBN : Hid (decide (nameSz s.data.toList = s.size) = b) := by rw [← hb]; show _ = _; simp
          clear hb hl hr hr' hz
          go_enter Tryd.func61, Tryd.ntmps61
          go_wp2_with (first | (go_at_call 71; refine (rletter_b _ _ HL.out _).mono ?_; rintro e w' ⟨rfl, rfl⟩) | (go_at_call 72; refine (rreserved_b s hs _ HRS.out _).mono ?_; rintro e w' ⟨rfl, rfl⟩))
          go_loopg [3] s.size (fun g i wx => ∃ k : Nat, k + g = s.size ∧ i = .int .i64 k ∧ nameSz (s.data.toList.drop k) + k = nameSz s.data.toList ∧ wx = w)
          case atStart => exact ⟨0, by omega, rfl, rfl, rfl⟩
          case round =>
            obtain ⟨k, hkg, rfl, hn, rfl⟩ := hrel
            have HG := Lib.hid hkg
            have HN := Lib.hid hn
            clear hkg hn
            by_cases hlt : k < s.size
            · by_cases hlk : letterC s[k].toNat = true
              · have HT := Lib.hid hlk
                clear hlk
                go_wp2_with (go_at_call 71; refine (rletter_b _ _ HT.out _).mono ?_; rintro e w' ⟨rfl, rfl⟩)
                go_roundg (s.size - (k + 1))
                case rel => exact ⟨k + 1, by have := HG.out; omega, by go_num, name_go HN.out hlt (word_letter HT.out), rfl⟩
                case measure => have := HG.out; omega
              · have HT := hid_false hlk
                clear hlk
                by_cases hdk : digitC s[k].toNat = true
                · have HD := Lib.hid hdk
                  clear hdk
                  go_wp2_with (first | (go_at_call 71; refine (rletter_b _ _ HT.out _).mono ?_; rintro e w' ⟨rfl, rfl⟩) | (go_at_call 73; refine (rdigit_b _ _ HD.out _).mono ?_; rintro e w' ⟨rfl, rfl⟩))
                  go_roundg (s.size - (k + 1))
                  case rel => exact ⟨k + 1, by have := HG.out; omega, by go_num, name_go HN.out hlt (word_digit HD.out), rfl⟩
                  case measure => have := HG.out; omega
                · have HD := hid_false hdk
                  clear hdk
                  go_wp2_with (first | (go_at_call 71; refine (rletter_b _ _ HT.out _).mono ?_; rintro e w' ⟨rfl, rfl⟩) | (go_at_call 73; refine (rdigit_b _ _ HD.out _).mono ?_; rintro e w' ⟨rfl, rfl⟩))
                  go_ret
                  have h := name_halt HN.out hlt (word_no HT.out HD.out)
                  exact ⟨ret_bool (by rw [← HBN.out, h]; exact (decide_eq_false (by omega)).symm), rfl⟩
            · go_wp2
              go_ret
              have h := name_done HN.out hlt
              have hg := HG.out
              exact ⟨ret_bool (by rw [← HBN.out, h]; exact (decide_eq_true (by omega)).symm), rfl⟩
      · have HL := hid_false hl
        have HBF : Hid (b = false) := by rw [← hb, HL.out]; show _ = _; simp
        clear hb hl hz
        go_enter Tryd.func61, Tryd.ntmps61
        go_wp2_with (go_at_call 71; refine (rletter_b _ _ HL.out _).mono ?_; rintro e w' ⟨rfl, rfl⟩)
        go_ret
        exact ⟨ret_bool HBF.out.symm, rfl⟩
    · have HBF : Hid (b = false) := by rw [← hb, decide_eq_false h16]; show _ = _; rfl
      have h16' : decide (16 < (s.size : Int)) = true := decide_eq_true (by omega)
      clear hb hz
      go_enter Tryd.func61, Tryd.ntmps61
      go_wp2
      go_ret
      exact ⟨ret_bool HBF.out.symm, rfl⟩
  · have e : s.data.toList = [] := by rw [← Lib.toList_data]; exact toList_nil (by omega)
    rw [e] at hb
    have HBF : Hid (b = false) := hb.symm
    have hz0 : ((s.size : Int) == 0) = true := beq_iff_eq.2 (by omega)
    clear hb e hz
    go_enter Tryd.func61, Tryd.ntmps61
    go_wp2
    go_ret
    exact ⟨ret_bool HBF.out.symm, rfl⟩

end Go.Proofs.YtgblgkkbggdopaaDoor

/-
  What Check of the document's answer returns. Conditions: at most 100000 parts; what fine returns for the four handlers is given.
-/
namespace Go.Proofs.YtgblgkkbggdopaaDoor
open Go.RowKit

theorem var_cases (v : Vr) : (varOK v = true ∧ validS v.name = true ∧ 0 ≤ v.size ∧ v.size = 0 ∧ v.init ≠ -9223372036854775808) ∨ (varOK v = true ∧ validS v.name = true ∧ 0 < v.size ∧ v.init = 0) ∨ (varOK v = false ∧ validS v.name = false) ∨
    (varOK v = false ∧ validS v.name = true ∧ v.size < 0) ∨ (varOK v = false ∧ validS v.name = true ∧ 0 < v.size ∧ v.init ≠ 0) ∨ (varOK v = false ∧ validS v.name = true ∧ v.size = 0 ∧ v.init = -9223372036854775808) := by
  unfold varOK
  cases hv : validS v.name with
  | false => right; right; left; simp
  | true =>
    by_cases h1 : v.size < 0
    · right; right; right; left; refine ⟨?_, rfl, h1⟩; have : ¬ 0 ≤ v.size := by omega
      simp [this]
    · by_cases h2 : v.size = 0
      · by_cases h3 : v.init = -9223372036854775808
        · right; right; right; right; right; simp [h2, h3]
        · left; simp [h2, h3]
      · by_cases h4 : v.init = 0
        · right; left; have : 0 ≤ v.size := by omega
          simp [h2, h4, this]; omega
        · right; right; right; right; left; simp [h2, h4]; omega

set_option maxHeartbeats 8000000 in
set_option maxRecDepth 100000 in
theorem rcheck_any (p : Pr) (hbig : p.big ≤ 100000) (hvn : p.vars.length ≤ 100000) (hnm : ∀ v ∈ p.vars, v.name.length ≤ 140737488351232) (S : Nat → Prop) (w : World) (A0 A1 A2 A3 A4 : Option Addr) (l0 l1 l2 l3 l4 c0 c1 c2 c3 c4 : Nat)
    (hp : PrAt S w p (.slice A0 l0 c0) (.slice A1 l1 c1) (.slice A2 l2 c2) (.slice A3 l3 c3) (.slice A4 l4 c4))
    (bs : Nat → Bool) (hbs : ∀ k, k < 4 → ∀ w', Below w.heap.size w w' → Calls Tryd.prog 62 #[.slice (hA A1 A2 A3 A4 k) (hN l1 l2 l3 l4 k) (hN c1 c2 c3 c4 k)] w' fun e w2 => e = .returned (.bool (bs k)) ∧ Below w'.heap.size w' w2) :
    Calls Tryd.prog 52 #[.agg #[.slice A0 l0 c0, .slice A1 l1 c1, .slice A2 l2 c2, .slice A3 l3 c3, .slice A4 l4 c4]] w fun e w' => e = .returned (.int .i64 (chkS p bs)) ∧ Below w.heap.size w w' := by
  have HP := Lib.hid hp
  have HNM := Lib.hid hnm
  have hnl : l0 = p.vars.length := by obtain ⟨⟨_, _, e, _⟩, _⟩ := hp; injection e
  have HNL := Lib.hid hnl
  have hl0 : l0 ≤ 100000 := by omega
  have hdb : p.deep ≤ 100000 := Nat.le_trans (deep_big p) hbig
  have HD := Lib.hid (fun w' h => rdepth_any p hbig S w' A0 A1 A2 A3 A4 l0 l1 l2 l3 l4 c0 c1 c2 c3 c4 h)
  obtain ⟨W, hW⟩ : ∃ x, w.alloc (.cells #[.slice A0 l0 c0, .slice A1 l1 c1, .slice A2 l2 c2, .slice A3 l3 c3, .slice A4 l4 c4] 74) = x := ⟨_, rfl⟩
  have hbw : Below w.heap.size w W := by rw [← hW]; exact (Below.refl _ _).alloc (Nat.le_refl _) _
  have hxw : W.heap[w.heap.size]? = some (.cells #[.slice A0 l0 c0, .slice A1 l1 c1, .slice A2 l2 c2, .slice A3 l3 c3, .slice A4 l4 c4] 74 (0, 0)) := by rw [← hW]; exact new_blk w _
  have HBW := Lib.hid hbw
  have HXW := Lib.hid hxw
  obtain ⟨d0, d1, d2, d3, d4, _, _, _, _, _, _⟩ := box5 hxw
  obtain ⟨b0, hb0⟩ : ∃ x, bs 0 = x := ⟨_, rfl⟩
  obtain ⟨b1, hb1⟩ : ∃ x, bs 1 = x := ⟨_, rfl⟩
  obtain ⟨b2, hb2⟩ : ∃ x, bs 2 = x := ⟨_, rfl⟩
  obtain ⟨b3, hb3⟩ : ∃ x, bs 3 = x := ⟨_, rfl⟩
  have HF0 : Hid (∀ w', Below w.heap.size w w' → Calls Tryd.prog 62 #[.slice A1 l1 c1] w' fun e w2 => e = .returned (.bool b0) ∧ Below w'.heap.size w' w2) := fun w' h => hb0 ▸ hbs 0 (by decide) w' h
  have HF1 : Hid (∀ w', Below w.heap.size w w' → Calls Tryd.prog 62 #[.slice A2 l2 c2] w' fun e w2 => e = .returned (.bool b1) ∧ Below w'.heap.size w' w2) := fun w' h => hb1 ▸ hbs 1 (by decide) w' h
  have HF2 : Hid (∀ w', Below w.heap.size w w' → Calls Tryd.prog 62 #[.slice A3 l3 c3] w' fun e w2 => e = .returned (.bool b2) ∧ Below w'.heap.size w' w2) := fun w' h => hb2 ▸ hbs 2 (by decide) w' h
  have HF3 : Hid (∀ w', Below w.heap.size w w' → Calls Tryd.prog 62 #[.slice A4 l4 c4] w' fun e w2 => e = .returned (.bool b3) ∧ Below w'.heap.size w' w2) := fun w' h => hb3 ▸ hbs 3 (by decide) w' h
  unfold chkS
  rw [hb0, hb1, hb2, hb3]
  obtain ⟨dp, hdp⟩ : ∃ x, p.deep = x := ⟨_, rfl⟩
  rw [hdp] at HD hdb ⊢
  have HD2 := Lib.hid (HD.out W (HP.out.still fun k h1 h2 => ⟨h1, HBW.out.block k h2⟩))
  clear hp hbs hnm hnl hbig hvn hbw hxw hb0 hb1 hb2 hb3 hdp HD
  have hdi : (dp : Int) ≤ 100000 := by omega
  by_cases h16 : 16 < dp
  · rw [if_pos h16]
    have h16' : (16 : Int) < (dp : Int) := by omega
    clear h16
    go_enter Tryd.func52, Tryd.ntmps52
    go_wp2_with fail
    refine HD2.out.mono ?_
    rintro e w1 ⟨rfl, hb⟩
    have HB1 := Lib.hid (HBW.out.trans (hb.mono HBW.out.size))
    clear hb
    go_wp2_with fail
    go_ret
    exact ⟨rfl, HB1.out⟩
  · rw [if_neg h16]
    have h16' : ¬ (16 : Int) < (dp : Int) := by omega
    clear h16
    obtain ⟨R, hR⟩ : ∃ x : Int, (if p.vars.all varOK = false then 7 else if (b0 && b1 && b2 && b3) = false then 7 else 0) = x := ⟨_, rfl⟩
    have HQ := Lib.hid hR
    rw [hR]
    clear hR
    go_enter Tryd.func52, Tryd.ntmps52
    go_wp2_with fail
    refine HD2.out.mono ?_
    rintro e w1 ⟨rfl, hb⟩
    have HB1 := Lib.hid (HBW.out.trans (hb.mono HBW.out.size))
    have HX1 := Lib.hid (below_blk hb HXW.out)
    clear hb d0 d1 d2 d3 d4 HD2
    go_wp2_with fail
    go_loopg [3, 4] l0 (fun g i _ wr => ∃ k : Nat, k + g = l0 ∧ i = .int .i64 k ∧ Hid ((p.vars.drop k).all varOK = p.vars.all varOK) ∧ Hid (Below w.heap.size w wr) ∧ Hid (wr.heap[w.heap.size]? = some (.cells #[.slice A0 l0 c0, .slice A1 l1 c1, .slice A2 l2 c2, .slice A3 l3 c3, .slice A4 l4 c4] 74 (0, 0))))
    case atStart => exact ⟨0, by omega, rfl, Lib.hid (by simp), HB1, HX1⟩
    case round =>
      obtain ⟨k, hkg, rfl, HA, HB, HX⟩ := hrel
      obtain ⟨d0, d1, d2, d3, d4, _, _, _, _, _, hz2⟩ := box5 HX.out
      cases gk with
      | zero =>
        have hge : l0 ≤ k := by omega
        have HT : Hid (p.vars.all varOK = true) := by
          show _ = _
          rw [← HA.out, List.drop_eq_nil_of_le (by have := HNL.out; omega)]; rfl
        have HQ1 : Hid ((if (b0 && b1 && b2 && b3) = false then 7 else 0) = R) := by
          have := HQ.out; rw [HT.out, if_neg (by simp)] at this; exact this
        clear hkg HQ HT
        go_wp2_with fail
        refine (HF0.out _ HB.out).mono ?_
        rintro e w2 ⟨rfl, hb⟩
        have HB2 := Lib.hid (HB.out.trans (hb.mono HB.out.size))
        have HX2 := Lib.hid (below_blk hb HX.out)
        clear hb d0 d1 d2 d3 d4
        cases b0 with
        | false =>
          have HK : Hid (7 = R) := by have := HQ1.out; rwa [if_pos (by simp)] at this
          go_wp2_with fail
          go_ret
          exact ⟨ret_int HK.out, HB2.out⟩
        | true =>
          have d2 : w2.cell? ⟨w.heap.size, 2, none⟩ = some (.slice A2 l2 c2) := by rw [Lib.cell_of_heap HX2.out]; rfl
          go_wp2_with fail
          refine (HF1.out _ HB2.out).mono ?_
          rintro e w3 ⟨rfl, hb⟩
          have HB3 := Lib.hid (HB2.out.trans (hb.mono HB2.out.size))
          have HX3 := Lib.hid (below_blk hb HX2.out)
          clear hb d2
          cases b1 with
          | false =>
            have HK : Hid (7 = R) := by have := HQ1.out; rwa [if_pos (by simp)] at this
            go_wp2_with fail
            go_ret
            exact ⟨ret_int HK.out, HB3.out⟩
          | true =>
            have d3 : w3.cell? ⟨w.heap.size, 3, none⟩ = some (.slice A3 l3 c3) := by rw [Lib.cell_of_heap HX3.out]; rfl
            go_wp2_with fail
            refine (HF2.out _ HB3.out).mono ?_
            rintro e w4 ⟨rfl, hb⟩
            have HB4 := Lib.hid (HB3.out.trans (hb.mono HB3.out.size))
            have HX4 := Lib.hid (below_blk hb HX3.out)
            clear hb d3
            cases b2 with
            | false =>
              have HK : Hid (7 = R) := by have := HQ1.out; rwa [if_pos (by simp)] at this
              go_wp2_with fail
              go_ret
              exact ⟨ret_int HK.out, HB4.out⟩
            | true =>
              have d4 : w4.cell? ⟨w.heap.size, 4, none⟩ = some (.slice A4 l4 c4) := by rw [Lib.cell_of_heap HX4.out]; rfl
              go_wp2_with fail
              refine (HF3.out _ HB4.out).mono ?_
              rintro e w5 ⟨rfl, hb⟩
              have HB5 := Lib.hid (HB4.out.trans (hb.mono HB4.out.size))
              have HX5 := Lib.hid (below_blk hb HX4.out)
              clear hb d4
              cases b3 with
              | false =>
                have HK : Hid (7 = R) := by have := HQ1.out; rwa [if_pos (by simp)] at this
                go_wp2_with fail
                go_ret
                exact ⟨ret_int HK.out, HB5.out⟩
              | true =>
                have HK : Hid (0 = R) := by have := HQ1.out; rwa [if_neg (by simp)] at this
                go_wp2_with fail
                go_ret
                exact ⟨ret_int HK.out, HB5.out⟩
      | succ g =>
        have hlt : k < l0 := by omega
        have HG := Lib.hid hkg
        clear hkg d1 d2 d3 d4
        obtain ⟨v, hv⟩ : ∃ v, p.vars[k]? = some v := ⟨_, List.getElem?_eq_getElem (by have := HNL.out; omega)⟩
        have HAD := Lib.hid (all_drop hv)
        have hnv := HNM.out v (List.mem_of_getElem? hv)
        obtain ⟨-, -, b, o, rfl, -, hbb, e0, e1, e2⟩ := HP.out.1.get hv
        have hw : ∀ j u, w.cell? ⟨b, j, none⟩ = some u → wr.cell? ⟨b, j, none⟩ = some u := fun j u hu => (HB.out.cell (p := ⟨b, j, none⟩) hbb).trans hu
        replace e0 := hw _ _ e0
        replace e1 := hw _ _ e1
        replace e2 := hw _ _ e2
        have hvc := var_cases v
        obtain ⟨vo, hvo⟩ : ∃ x, varOK v = x := ⟨_, rfl⟩
        rw [hvo] at HAD hvc
        obtain ⟨vn, vs, vi⟩ := v
        simp only at e0 e1 e2 hvc hnv
        have hvl : ∀ W b, validS vn = b → Calls Tryd.prog 61 #[.string (strB vn)] W fun e w' => e = .returned (.bool b) ∧ w' = W := fun W b hb => by
          have h := rvalid_any (strB vn) W (by rw [str_size]; omega)
          rw [str_data, hb] at h
          exact h.mono fun e w' ⟨h1, h2⟩ => ⟨h1, h2.symm⟩
        have HVL := Lib.hid hvl
        obtain ⟨X, hX⟩ : ∃ x, strB vn = x := ⟨_, rfl⟩
        rw [hX] at e0 HVL
        have HB2 := Lib.hid (HB.out.alloc HB.out.size (.cells #[.string X, .int .i64 vs, .int .i64 vi] 97))
        have HX2 := Lib.hid ((alloc_blk wr (.cells #[.string X, .int .i64 vs, .int .i64 vi] 97) (lt_of_block HX.out)).trans HX.out)
        have HCO : Hid (vo = true → (p.vars.drop (k + 1)).all varOK = p.vars.all varOK) := fun h => by rw [← HA.out, HAD.out, h, Bool.true_and]
        have HCB : Hid (vo = false → 7 = R) := fun h => by have := HQ.out; rw [← HA.out, HAD.out, h, if_pos (by simp)] at this; exact this
        clear hw hv hvo hvl hX hnv
        rcases hvc with ⟨rfl, hva, hs1, rfl, hi⟩ | ⟨rfl, hva, hs1, rfl⟩ | ⟨rfl, hva⟩ | ⟨rfl, hva, hs1⟩ | ⟨rfl, hva, hs1, hi⟩ | ⟨rfl, hva, rfl, rfl⟩
        · have HV1 := Lib.hid (fun W => HVL.out W _ hva)
          have hi2 : (vi == -9223372036854775808) = false := by simpa using hi
          clear hva
          go_wp2_with fail
          refine (HV1.out _).mono ?_
          rintro e w3 ⟨rfl, rfl⟩
          go_wp2_with fail
          go_roundg g
          case rel => exact ⟨k + 1, by have := HG.out; omega, by go_num, HCO.out (by simp), HB2, HX2⟩
          case measure => omega

        · have HV1 := Lib.hid (fun W => HVL.out W _ hva)
          have hz2 : (vs != 0) = true := by simp; omega
          have hs2 : ¬ vs < 0 := by omega
          clear hva
          go_wp2_with fail
          refine (HV1.out _).mono ?_
          rintro e w3 ⟨rfl, rfl⟩
          go_wp2_with fail
          go_roundg g
          case rel => exact ⟨k + 1, by have := HG.out; omega, by go_num, HCO.out (by simp), HB2, HX2⟩
          case measure => omega

        · have HV1 := Lib.hid (fun W => HVL.out W _ hva)
          clear hva
          go_wp2_with fail
          refine (HV1.out _).mono ?_
          rintro e w3 ⟨rfl, rfl⟩
          go_wp2_with fail
          go_ret
          exact ⟨ret_int (HCB.out (by simp)), HB2.out⟩

        · have HV1 := Lib.hid (fun W => HVL.out W _ hva)
          clear hva
          go_wp2_with fail
          refine (HV1.out _).mono ?_
          rintro e w3 ⟨rfl, rfl⟩
          go_wp2_with fail
          go_ret
          exact ⟨ret_int (HCB.out (by simp)), HB2.out⟩

        · have HV1 := Lib.hid (fun W => HVL.out W _ hva)
          have hz2 : (vs != 0) = true := by simp; omega
          have hs2 : ¬ vs < 0 := by omega
          have hi2 : (vi != 0) = true := by simpa using hi
          clear hva
          go_wp2_with fail
          refine (HV1.out _).mono ?_
          rintro e w3 ⟨rfl, rfl⟩
          go_wp2_with fail
          go_ret
          exact ⟨ret_int (HCB.out (by simp)), HB2.out⟩

        · have HV1 := Lib.hid (fun W => HVL.out W _ hva)
          clear hva
          go_wp2_with fail
          refine (HV1.out _).mono ?_
          rintro e w3 ⟨rfl, rfl⟩
          go_wp2_with fail
          go_ret
          exact ⟨ret_int (HCB.out (by simp)), HB2.out⟩

end Go.Proofs.YtgblgkkbggdopaaDoor

/-
  The table of symbols of package syntax in memory. No conditions.
-/
namespace Go.Proofs.YtgblgkkbggdopaaDoor
open Go.RowKit

end Go.Proofs.YtgblgkkbggdopaaDoor

/-
  What symbolOf, operands, isNamed and isExpr of package syntax return. Conditions: the table of symbols holds what start-up laid; names have at most 4096 bytes; an expression has at most 100000 parts.
-/
namespace Go.Proofs.YtgblgkkbggdopaaDoor
open Go.RowKit

/-- The first symbol of an operator. -/
def soS : List (List UInt8 × Int × Int) → Int → Option (List UInt8 × Int × Int)
  | [], _ => none
  | x :: r, op => if x.2.1 = op then some x else soS r op
/-- How many operands an operator has. -/
def opN (op : Int) : Option Int :=
  if op = 1 ∨ op = 2 then some 0 else if op = 3 then some 1 else
  match soS symTab op with
  | none => none
  | some x => if x.2.2 = 6 then some 0 else if x.2.2 = 5 then some 1 else some 2
/-- Whether a name is as it ought to be. -/
def nmB (named : Bool) (nm : List UInt8) : Bool := if named then validS nm else decide (nm = [])
mutual
/-- Whether an expression is as parsing makes it. -/
def Ex.good : Ex → Bool
  | .mk op v nm sl sz args => decide (sl = 0) && decide (sz = 0) && nmB (decide (op = 2) || decide (op = 3)) nm && !(decide (v < 0) || decide (0 < v) && decide (op ≠ 1)) && decide (opN op = some (args.length : Int)) && Ex.goodL args
def Ex.goodL : List Ex → Bool
  | [] => true
  | e :: r => e.good && Ex.goodL r
end
mutual
/-- All names are short. -/
def Ex.short : Ex → Prop
  | .mk _ _ nm _ _ args => nm.length ≤ 4096 ∧ Ex.shortL args
def Ex.shortL : List Ex → Prop
  | [] => True
  | e :: r => e.short ∧ Ex.shortL r
end
theorem Ex.shortL_at : ∀ (l : List Ex) (k : Nat) (e : Ex), Ex.shortL l → l[k]? = some e → e.short
  | [], _, _, _, h => by simp at h
  | x :: r, 0, e, hs, h => by
    simp only [List.getElem?_cons_zero, Option.some.injEq] at h
    subst h
    simp only [Ex.shortL] at hs
    exact hs.1
  | x :: r, k + 1, e, hs, h => by
    simp only [List.getElem?_cons_succ] at h
    simp only [Ex.shortL] at hs
    exact Ex.shortL_at r k e hs.2 h
theorem goodL_drop : ∀ (l : List Ex) (k : Nat) (e : Ex), l[k]? = some e → Ex.goodL (l.drop k) = (e.good && Ex.goodL (l.drop (k + 1)))
  | [], _, _, h => by simp at h
  | x :: r, 0, e, h => by
    simp only [List.getElem?_cons_zero, Option.some.injEq] at h
    subst h
    simp [Ex.goodL]
  | x :: r, k + 1, e, h => by
    simp only [List.getElem?_cons_succ] at h
    simpa using goodL_drop r k e h

theorem soS_drop (op : Int) (k : Nat) (hk : k < 19) (s : List UInt8) (o l : Int) (h : symTab.getD k ([], 0, 0) = (s, o, l)) : soS (symTab.drop k) op = if o = op then some (s, o, l) else soS (symTab.drop (k + 1)) op := by
  have hk' : k < symTab.length := hk
  rw [List.getD_eq_getElem?_getD, List.getElem?_eq_getElem hk'] at h
  simp only [Option.getD_some] at h
  rw [List.drop_eq_getElem_cons hk', h]
  rfl

/-- What symbolOf returns. -/
def soV : Option (List UInt8 × Int × Int) → Value
  | none => .tuple #[.agg #[.string ⟨#[]⟩, .int .i64 0, .int .i64 0], .bool false]
  | some x => .tuple #[.agg #[.string (strB x.1), .int .i64 x.2.1, .int .i64 x.2.2], .bool true]

/-- What operands returns. -/
def opV : Option Int → Value
  | none => .tuple #[.int .i64 0, .bool false]
  | some n => .tuple #[.int .i64 n, .bool true]

end Go.Proofs.YtgblgkkbggdopaaDoor
