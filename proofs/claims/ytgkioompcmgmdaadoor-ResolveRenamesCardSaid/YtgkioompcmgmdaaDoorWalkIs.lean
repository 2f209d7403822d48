/-
  What isPlace, isStmt and areStmts of package syntax return for statements that are as parsing makes them: true. Conditions: as for isExpr.
-/
import Derived.Test.YtgkioompcmgmdaaDoorWalkIe
import Derived.Test.YtgkioompcmgmdaaDoorWalkDb
namespace Go.Proofs.YtgkioompcmgmdaaDoor
open Go.RowKit

set_option maxHeartbeats 1000000 in
set_option maxRecDepth 100000 in
theorem isPlace_yes (e : Ex) (hbig : e.big ≤ 100000) (hsh : e.short) (hg : e.good = true) (S : Nat → Prop) (w : World) (a b : Int) (s : ByteArray) (c d : Int) (A : Option Addr) (l q : Nat) (hsy : SymAt w) (hl : ExL S w e [.int .i64 a, .int .i64 b, .string s, .int .i64 c, .int .i64 d, .slice A l q]) :
    Calls Tryd.prog 59 #[.agg #[.int .i64 a, .int .i64 b, .string s, .int .i64 c, .int .i64 d, .slice A l q], .bool true] w fun e' w' => e' = .returned (.bool true) ∧ Below w.heap.size w w' := by
  have HC := Lib.hid (isExpr_good e.big e (Nat.le_refl _) hbig hsh hg S (w.alloc (.cells #[.int .i64 a, .int .i64 b, .string s, .int .i64 c, .int .i64 d, .slice A l q] 55)) a b s c d A l q (hsy.below ((Below.refl _ _).alloc (Nat.le_refl _) _)) (ExL.still (fun k h1 h2 => ⟨h1, alloc_blk w _ h2⟩) e _ hl))
  clear hsh hg hl hsy hbig
  go_enter Tryd.func59, Tryd.ntmps59
  go_wp2_with fail
  refine HC.out.mono ?_
  rintro e' w1 ⟨rfl, hb⟩
  have HB : Hid (Below w.heap.size w w1) := ((Below.refl _ _).alloc (Nat.le_refl _) _).trans (hb.mono (by rw [new_size]; omega))
  clear hb HC
  go_wp2_with fail
  go_ret
  exact ⟨rfl, HB.out⟩
set_option maxHeartbeats 1000000 in
set_option maxRecDepth 100000 in
theorem isPlace_no (A : Option Addr) (q : Nat) (w : World) :
    Calls Tryd.prog 59 #[.agg #[.int .i64 0, .int .i64 0, .string ⟨#[]⟩, .int .i64 0, .int .i64 0, .slice A 0 q], .bool false] w fun e' w' => e' = .returned (.bool true) ∧ Below w.heap.size w w' := by
  go_enter Tryd.func59, Tryd.ntmps59
  go_wp2_with fail
  go_ret
  exact ⟨rfl, (Below.refl _ _).alloc (Nat.le_refl _) _⟩

/-- Whether a statement is as parsing makes it, whatever the statements in it are. -/
def St.good1 : St → Bool
  | .mk kind nm sl sz place value body els => decide (1 ≤ kind) && decide (kind ≤ 6) && decide (sl = 0) && decide (sz = 0) && nmB (decide (kind = 1) || decide (kind = 2)) nm && value.good &&
    (if kind = 2 ∨ kind = 5 then place.good else match place with | .mk op v n a b l => decide (op = 0) && decide (v = 0) && decide (n = []) && decide (a = 0) && decide (b = 0) && decide (l.length = 0)) &&
    (decide (kind = 3) || decide (kind = 4) || decide (body.length = 0)) && (decide (kind = 3) || decide (els.length = 0))
def St.short1 : St → Prop
  | .mk _ nm _ _ place value _ _ => nm.length ≤ 4096 ∧ place.short ∧ value.short

set_option maxHeartbeats 4000000 in
set_option maxRecDepth 100000 in
theorem isStmt_good (kind : Int) (nm : List UInt8) (sl sz : Int) (place value : Ex) (body els : List St) (hp : place.big ≤ 100000) (hv : value.big ≤ 100000) (hsh : (St.mk kind nm sl sz place value body els).short1) (hg : (St.mk kind nm sl sz place value body els).good1 = true) (S : Nat → Prop) (w : World) (hsy : SymAt w)
    (p0 p1 : Int) (p2 : ByteArray) (p3 p4 : Int) (P1 : Option Addr) (P2 P3 : Nat) (v0 v1 : Int) (v2 : ByteArray) (v3 v4 : Int) (V1 : Option Addr) (V2 V3 : Nat) (A A' : Option Addr) (c c' : Nat)
    (hlp : ExL S w place [.int .i64 p0, .int .i64 p1, .string p2, .int .i64 p3, .int .i64 p4, .slice P1 P2 P3]) (hlv : ExL S w value [.int .i64 v0, .int .i64 v1, .string v2, .int .i64 v3, .int .i64 v4, .slice V1 V2 V3]) (hb1 : body.length ≤ 100000) (hb2 : els.length ≤ 100000) :
    Calls Tryd.prog 46 #[.agg #[.int .i64 kind, .string (strB nm), .int .i64 sl, .int .i64 sz, .int .i64 p0, .int .i64 p1, .string p2, .int .i64 p3, .int .i64 p4, .slice P1 P2 P3, .int .i64 v0, .int .i64 v1, .string v2, .int .i64 v3, .int .i64 v4, .slice V1 V2 V3, .slice A body.length c, .slice A' els.length c']] w fun e' w' => e' = .returned (.bool true) ∧ Below w.heap.size w w' := by
  simp only [St.good1, Bool.and_eq_true, decide_eq_true_eq] at hg
  obtain ⟨⟨⟨⟨⟨⟨⟨⟨hk1, hk6⟩, rfl⟩, rfl⟩, hn⟩, hvg⟩, hpg⟩, hbd⟩, hel⟩ := hg
  simp only [St.short1] at hsh
  have HNM := Lib.hid (fun b w => isNamed_any nm b w hsh.1)
  have HV : Hid (∀ W, Below w.heap.size w W → Calls Tryd.prog 60 #[.agg #[.int .i64 v0, .int .i64 v1, .string v2, .int .i64 v3, .int .i64 v4, .slice V1 V2 V3]] W fun e' w' => e' = .returned (.bool true) ∧ Below W.heap.size W w') := fun W hb =>
    isExpr_good value.big value (Nat.le_refl _) hv hsh.2.2 hvg S W v0 v1 v2 v3 v4 V1 V2 V3 (hsy.below hb) (ExL.still (fun k h1 h2 => ⟨h1, hb.block k h2⟩) value _ hlv)
  have HP : Hid (∀ W, Below w.heap.size w W → Calls Tryd.prog 59 #[.agg #[.int .i64 p0, .int .i64 p1, .string p2, .int .i64 p3, .int .i64 p4, .slice P1 P2 P3], .bool (decide (kind = 2) || decide (kind = 5))] W fun e' w' => e' = .returned (.bool true) ∧ Below W.heap.size W w') := fun W hb => by
    by_cases hpl : kind = 2 ∨ kind = 5
    · rw [if_pos hpl] at hpg
      have e : (decide (kind = 2) || decide (kind = 5)) = true := by rcases hpl with h | h <;> simp [h]
      rw [e]
      exact isPlace_yes place hp hsh.2.1 hpg S W p0 p1 p2 p3 p4 P1 P2 P3 (hsy.below hb) (ExL.still (fun k h1 h2 => ⟨h1, hb.block k h2⟩) place _ hlp)
    · rw [if_neg hpl] at hpg
      have e : (decide (kind = 2) || decide (kind = 5)) = false := by simpa using hpl
      rw [e]
      cases place with
      | mk op v n a b l =>
        simp only [Bool.and_eq_true, decide_eq_true_eq] at hpg
        obtain ⟨⟨⟨⟨⟨rfl, rfl⟩, rfl⟩, rfl⟩, rfl⟩, hll⟩ := hpg
        simp only [ExL] at hlp
        obtain ⟨A0, c0, e1, _⟩ := hlp
        simp only [exCells, List.cons.injEq, Value.slice.injEq, and_true] at e1
        obtain ⟨e1, e2, e3, e4, e5, rfl, rfl, rfl⟩ := e1
        injection e1 with _ e1
        injection e2 with _ e2
        injection e3 with e3
        injection e4 with _ e4
        injection e5 with _ e5
        subst e1 e2 e3 e4 e5
        rw [hll]
        exact isPlace_no P1 P3 W
  obtain ⟨m, hm⟩ : ∃ x, body.length = x := ⟨_, rfl⟩
  obtain ⟨m', hm'⟩ : ∃ x, els.length = x := ⟨_, rfl⟩
  rw [hm] at hbd hb1 ⊢
  rw [hm'] at hel hb2 ⊢
  clear hm hm' hlp hlv hpg hvg hsy hsh hp hv
  have hk : kind = 1 ∨ kind = 2 ∨ kind = 3 ∨ kind = 4 ∨ kind = 5 ∨ kind = 6 := by omega
  clear hk1 hk6
  rcases hk with rfl | rfl | rfl | rfl | rfl | rfl
  · have hn' : nmB true nm = true := hn
    have HN := Lib.hid (fun w => hn' ▸ HNM.out true w)
    have HPk : Hid (∀ W, Below w.heap.size w W → Calls Tryd.prog 59 #[.agg #[.int .i64 p0, .int .i64 p1, .string p2, .int .i64 p3, .int .i64 p4, .slice P1 P2 P3], .bool false] W fun e' w' => e' = .returned (.bool true) ∧ Below W.heap.size W w') := HP.out
    obtain rfl : m = 0 := by simpa using hbd
    obtain rfl : m' = 0 := by simpa using hel
    have hbx : Below w.heap.size w (w.alloc (.cells #[.int .i64 1, .string (strB nm), .int .i64 0, .int .i64 0, .int .i64 p0, .int .i64 p1, .string p2, .int .i64 p3, .int .i64 p4, .slice P1 P2 P3, .int .i64 v0, .int .i64 v1, .string v2, .int .i64 v3, .int .i64 v4, .slice V1 V2 V3, .slice A 0 c, .slice A' 0 c'] 58)) := (Below.refl _ _).alloc (Nat.le_refl _) _
    have HBX := Lib.hid hbx
    clear HP HNM hn hn' hbd hel hbx
    go_enter Tryd.func46, Tryd.ntmps46
    go_wp2_with fail
    refine (HN.out _).mono ?_
    rintro e w1 ⟨rfl, rfl⟩
    go_wp2_with fail
    refine (HPk.out _ HBX.out).mono ?_
    rintro e w1 ⟨rfl, hb⟩
    have HB1 := Lib.hid (HBX.out.trans (hb.mono HBX.out.size))
    have HX1 := Lib.hid (below_blk hb (new_blk w _))
    have z10 : w1.cell? ⟨w.heap.size, 10, none⟩ = some (.int .i64 v0) := by rw [Lib.cell_of_heap HX1.out]; rfl
    have z11 : w1.cell? ⟨w.heap.size, 11, none⟩ = some (.int .i64 v1) := by rw [Lib.cell_of_heap HX1.out]; rfl
    have z12 : w1.cell? ⟨w.heap.size, 12, none⟩ = some (.string v2) := by rw [Lib.cell_of_heap HX1.out]; rfl
    have z13 : w1.cell? ⟨w.heap.size, 13, none⟩ = some (.int .i64 v3) := by rw [Lib.cell_of_heap HX1.out]; rfl
    have z14 : w1.cell? ⟨w.heap.size, 14, none⟩ = some (.int .i64 v4) := by rw [Lib.cell_of_heap HX1.out]; rfl
    have z15 : w1.cell? ⟨w.heap.size, 15, none⟩ = some (.slice V1 V2 V3) := by rw [Lib.cell_of_heap HX1.out]; rfl
    clear hb
    go_wp2_with fail
    refine (HV.out _ HB1.out).mono ?_
    rintro e w2 ⟨rfl, hb⟩
    have HB2 := Lib.hid (HB1.out.trans (hb.mono HB1.out.size))
    have HX2 := Lib.hid (below_blk hb HX1.out)
    have z16 : w2.cell? ⟨w.heap.size, 16, none⟩ = some (.slice A 0 c) := by rw [Lib.cell_of_heap HX2.out]; rfl
    have z17 : w2.cell? ⟨w.heap.size, 17, none⟩ = some (.slice A' 0 c') := by rw [Lib.cell_of_heap HX2.out]; rfl
    clear hb z10 z11 z12 z13 z14 z15
    go_wp2_with fail
    go_ret
    exact ⟨rfl, HB2.out⟩
  · have hn' : nmB true nm = true := hn
    have HN := Lib.hid (fun w => hn' ▸ HNM.out true w)
    have HPk : Hid (∀ W, Below w.heap.size w W → Calls Tryd.prog 59 #[.agg #[.int .i64 p0, .int .i64 p1, .string p2, .int .i64 p3, .int .i64 p4, .slice P1 P2 P3], .bool true] W fun e' w' => e' = .returned (.bool true) ∧ Below W.heap.size W w') := HP.out
    obtain rfl : m = 0 := by simpa using hbd
    obtain rfl : m' = 0 := by simpa using hel
    have hbx : Below w.heap.size w (w.alloc (.cells #[.int .i64 2, .string (strB nm), .int .i64 0, .int .i64 0, .int .i64 p0, .int .i64 p1, .string p2, .int .i64 p3, .int .i64 p4, .slice P1 P2 P3, .int .i64 v0, .int .i64 v1, .string v2, .int .i64 v3, .int .i64 v4, .slice V1 V2 V3, .slice A 0 c, .slice A' 0 c'] 58)) := (Below.refl _ _).alloc (Nat.le_refl _) _
    have HBX := Lib.hid hbx
    clear HP HNM hn hn' hbd hel hbx
    go_enter Tryd.func46, Tryd.ntmps46
    go_wp2_with fail
    refine (HN.out _).mono ?_
    rintro e w1 ⟨rfl, rfl⟩
    go_wp2_with fail
    refine (HPk.out _ HBX.out).mono ?_
    rintro e w1 ⟨rfl, hb⟩
    have HB1 := Lib.hid (HBX.out.trans (hb.mono HBX.out.size))
    have HX1 := Lib.hid (below_blk hb (new_blk w _))
    have z10 : w1.cell? ⟨w.heap.size, 10, none⟩ = some (.int .i64 v0) := by rw [Lib.cell_of_heap HX1.out]; rfl
    have z11 : w1.cell? ⟨w.heap.size, 11, none⟩ = some (.int .i64 v1) := by rw [Lib.cell_of_heap HX1.out]; rfl
    have z12 : w1.cell? ⟨w.heap.size, 12, none⟩ = some (.string v2) := by rw [Lib.cell_of_heap HX1.out]; rfl
    have z13 : w1.cell? ⟨w.heap.size, 13, none⟩ = some (.int .i64 v3) := by rw [Lib.cell_of_heap HX1.out]; rfl
    have z14 : w1.cell? ⟨w.heap.size, 14, none⟩ = some (.int .i64 v4) := by rw [Lib.cell_of_heap HX1.out]; rfl
    have z15 : w1.cell? ⟨w.heap.size, 15, none⟩ = some (.slice V1 V2 V3) := by rw [Lib.cell_of_heap HX1.out]; rfl
    clear hb
    go_wp2_with fail
    refine (HV.out _ HB1.out).mono ?_
    rintro e w2 ⟨rfl, hb⟩
    have HB2 := Lib.hid (HB1.out.trans (hb.mono HB1.out.size))
    have HX2 := Lib.hid (below_blk hb HX1.out)
    have z16 : w2.cell? ⟨w.heap.size, 16, none⟩ = some (.slice A 0 c) := by rw [Lib.cell_of_heap HX2.out]; rfl
    have z17 : w2.cell? ⟨w.heap.size, 17, none⟩ = some (.slice A' 0 c') := by rw [Lib.cell_of_heap HX2.out]; rfl
    clear hb z10 z11 z12 z13 z14 z15
    go_wp2_with fail
    go_ret
    exact ⟨rfl, HB2.out⟩
  · have hn' : nmB false nm = true := hn
    have HN := Lib.hid (fun w => hn' ▸ HNM.out false w)
    have HPk : Hid (∀ W, Below w.heap.size w W → Calls Tryd.prog 59 #[.agg #[.int .i64 p0, .int .i64 p1, .string p2, .int .i64 p3, .int .i64 p4, .slice P1 P2 P3], .bool false] W fun e' w' => e' = .returned (.bool true) ∧ Below W.heap.size W w') := HP.out
    have hbx : Below w.heap.size w (w.alloc (.cells #[.int .i64 3, .string (strB nm), .int .i64 0, .int .i64 0, .int .i64 p0, .int .i64 p1, .string p2, .int .i64 p3, .int .i64 p4, .slice P1 P2 P3, .int .i64 v0, .int .i64 v1, .string v2, .int .i64 v3, .int .i64 v4, .slice V1 V2 V3, .slice A m c, .slice A' m' c'] 58)) := (Below.refl _ _).alloc (Nat.le_refl _) _
    have HBX := Lib.hid hbx
    clear HP HNM hn hn' hbd hel hbx
    go_enter Tryd.func46, Tryd.ntmps46
    go_wp2_with fail
    refine (HN.out _).mono ?_
    rintro e w1 ⟨rfl, rfl⟩
    go_wp2_with fail
    refine (HPk.out _ HBX.out).mono ?_
    rintro e w1 ⟨rfl, hb⟩
    have HB1 := Lib.hid (HBX.out.trans (hb.mono HBX.out.size))
    have HX1 := Lib.hid (below_blk hb (new_blk w _))
    have z10 : w1.cell? ⟨w.heap.size, 10, none⟩ = some (.int .i64 v0) := by rw [Lib.cell_of_heap HX1.out]; rfl
    have z11 : w1.cell? ⟨w.heap.size, 11, none⟩ = some (.int .i64 v1) := by rw [Lib.cell_of_heap HX1.out]; rfl
    have z12 : w1.cell? ⟨w.heap.size, 12, none⟩ = some (.string v2) := by rw [Lib.cell_of_heap HX1.out]; rfl
    have z13 : w1.cell? ⟨w.heap.size, 13, none⟩ = some (.int .i64 v3) := by rw [Lib.cell_of_heap HX1.out]; rfl
    have z14 : w1.cell? ⟨w.heap.size, 14, none⟩ = some (.int .i64 v4) := by rw [Lib.cell_of_heap HX1.out]; rfl
    have z15 : w1.cell? ⟨w.heap.size, 15, none⟩ = some (.slice V1 V2 V3) := by rw [Lib.cell_of_heap HX1.out]; rfl
    clear hb
    go_wp2_with fail
    refine (HV.out _ HB1.out).mono ?_
    rintro e w2 ⟨rfl, hb⟩
    have HB2 := Lib.hid (HB1.out.trans (hb.mono HB1.out.size))
    have HX2 := Lib.hid (below_blk hb HX1.out)
    have z16 : w2.cell? ⟨w.heap.size, 16, none⟩ = some (.slice A m c) := by rw [Lib.cell_of_heap HX2.out]; rfl
    have z17 : w2.cell? ⟨w.heap.size, 17, none⟩ = some (.slice A' m' c') := by rw [Lib.cell_of_heap HX2.out]; rfl
    clear hb z10 z11 z12 z13 z14 z15
    go_wp2_with fail
    go_ret
    exact ⟨rfl, HB2.out⟩
  · have hn' : nmB false nm = true := hn
    have HN := Lib.hid (fun w => hn' ▸ HNM.out false w)
    have HPk : Hid (∀ W, Below w.heap.size w W → Calls Tryd.prog 59 #[.agg #[.int .i64 p0, .int .i64 p1, .string p2, .int .i64 p3, .int .i64 p4, .slice P1 P2 P3], .bool false] W fun e' w' => e' = .returned (.bool true) ∧ Below W.heap.size W w') := HP.out
    obtain rfl : m' = 0 := by simpa using hel
    have hbx : Below w.heap.size w (w.alloc (.cells #[.int .i64 4, .string (strB nm), .int .i64 0, .int .i64 0, .int .i64 p0, .int .i64 p1, .string p2, .int .i64 p3, .int .i64 p4, .slice P1 P2 P3, .int .i64 v0, .int .i64 v1, .string v2, .int .i64 v3, .int .i64 v4, .slice V1 V2 V3, .slice A m c, .slice A' 0 c'] 58)) := (Below.refl _ _).alloc (Nat.le_refl _) _
    have HBX := Lib.hid hbx
    clear HP HNM hn hn' hbd hel hbx
    go_enter Tryd.func46, Tryd.ntmps46
    go_wp2_with fail
    refine (HN.out _).mono ?_
    rintro e w1 ⟨rfl, rfl⟩
    go_wp2_with fail
    refine (HPk.out _ HBX.out).mono ?_
    rintro e w1 ⟨rfl, hb⟩
    have HB1 := Lib.hid (HBX.out.trans (hb.mono HBX.out.size))
    have HX1 := Lib.hid (below_blk hb (new_blk w _))
    have z10 : w1.cell? ⟨w.heap.size, 10, none⟩ = some (.int .i64 v0) := by rw [Lib.cell_of_heap HX1.out]; rfl
    have z11 : w1.cell? ⟨w.heap.size, 11, none⟩ = some (.int .i64 v1) := by rw [Lib.cell_of_heap HX1.out]; rfl
    have z12 : w1.cell? ⟨w.heap.size, 12, none⟩ = some (.string v2) := by rw [Lib.cell_of_heap HX1.out]; rfl
    have z13 : w1.cell? ⟨w.heap.size, 13, none⟩ = some (.int .i64 v3) := by rw [Lib.cell_of_heap HX1.out]; rfl
    have z14 : w1.cell? ⟨w.heap.size, 14, none⟩ = some (.int .i64 v4) := by rw [Lib.cell_of_heap HX1.out]; rfl
    have z15 : w1.cell? ⟨w.heap.size, 15, none⟩ = some (.slice V1 V2 V3) := by rw [Lib.cell_of_heap HX1.out]; rfl
    clear hb
    go_wp2_with fail
    refine (HV.out _ HB1.out).mono ?_
    rintro e w2 ⟨rfl, hb⟩
    have HB2 := Lib.hid (HB1.out.trans (hb.mono HB1.out.size))
    have HX2 := Lib.hid (below_blk hb HX1.out)
    have z16 : w2.cell? ⟨w.heap.size, 16, none⟩ = some (.slice A m c) := by rw [Lib.cell_of_heap HX2.out]; rfl
    have z17 : w2.cell? ⟨w.heap.size, 17, none⟩ = some (.slice A' 0 c') := by rw [Lib.cell_of_heap HX2.out]; rfl
    clear hb z10 z11 z12 z13 z14 z15
    go_wp2_with fail
    go_ret
    exact ⟨rfl, HB2.out⟩
  · have hn' : nmB false nm = true := hn
    have HN := Lib.hid (fun w => hn' ▸ HNM.out false w)
    have HPk : Hid (∀ W, Below w.heap.size w W → Calls Tryd.prog 59 #[.agg #[.int .i64 p0, .int .i64 p1, .string p2, .int .i64 p3, .int .i64 p4, .slice P1 P2 P3], .bool true] W fun e' w' => e' = .returned (.bool true) ∧ Below W.heap.size W w') := HP.out
    obtain rfl : m = 0 := by simpa using hbd
    obtain rfl : m' = 0 := by simpa using hel
    have hbx : Below w.heap.size w (w.alloc (.cells #[.int .i64 5, .string (strB nm), .int .i64 0, .int .i64 0, .int .i64 p0, .int .i64 p1, .string p2, .int .i64 p3, .int .i64 p4, .slice P1 P2 P3, .int .i64 v0, .int .i64 v1, .string v2, .int .i64 v3, .int .i64 v4, .slice V1 V2 V3, .slice A 0 c, .slice A' 0 c'] 58)) := (Below.refl _ _).alloc (Nat.le_refl _) _
    have HBX := Lib.hid hbx
    clear HP HNM hn hn' hbd hel hbx
    go_enter Tryd.func46, Tryd.ntmps46
    go_wp2_with fail
    refine (HN.out _).mono ?_
    rintro e w1 ⟨rfl, rfl⟩
    go_wp2_with fail
    refine (HPk.out _ HBX.out).mono ?_
    rintro e w1 ⟨rfl, hb⟩
    have HB1 := Lib.hid (HBX.out.trans (hb.mono HBX.out.size))
    have HX1 := Lib.hid (below_blk hb (new_blk w _))
    have z10 : w1.cell? ⟨w.heap.size, 10, none⟩ = some (.int .i64 v0) := by rw [Lib.cell_of_heap HX1.out]; rfl
    have z11 : w1.cell? ⟨w.heap.size, 11, none⟩ = some (.int .i64 v1) := by rw [Lib.cell_of_heap HX1.out]; rfl
    have z12 : w1.cell? ⟨w.heap.size, 12, none⟩ = some (.string v2) := by rw [Lib.cell_of_heap HX1.out]; rfl
    have z13 : w1.cell? ⟨w.heap.size, 13, none⟩ = some (.int .i64 v3) := by rw [Lib.cell_of_heap HX1.out]; rfl
    have z14 : w1.cell? ⟨w.heap.size, 14, none⟩ = some (.int .i64 v4) := by rw [Lib.cell_of_heap HX1.out]; rfl
    have z15 : w1.cell? ⟨w.heap.size, 15, none⟩ = some (.slice V1 V2 V3) := by rw [Lib.cell_of_heap HX1.out]; rfl
    clear hb
    go_wp2_with fail
    refine (HV.out _ HB1.out).mono ?_
    rintro e w2 ⟨rfl, hb⟩
    have HB2 := Lib.hid (HB1.out.trans (hb.mono HB1.out.size))
    have HX2 := Lib.hid (below_blk hb HX1.out)
    have z16 : w2.cell? ⟨w.heap.size, 16, none⟩ = some (.slice A 0 c) := by rw [Lib.cell_of_heap HX2.out]; rfl
    have z17 : w2.cell? ⟨w.heap.size, 17, none⟩ = some (.slice A' 0 c') := by rw [Lib.cell_of_heap HX2.out]; rfl
    clear hb z10 z11 z12 z13 z14 z15
    go_wp2_with fail
    go_ret
    exact ⟨rfl, HB2.out⟩
  · have hn' : nmB false nm = true := hn
    have HN := Lib.hid (fun w => hn' ▸ HNM.out false w)
    have HPk : Hid (∀ W, Below w.heap.size w W → Calls Tryd.prog 59 #[.agg #[.int .i64 p0, .int .i64 p1, .string p2, .int .i64 p3, .int .i64 p4, .slice P1 P2 P3], .bool false] W fun e' w' => e' = .returned (.bool true) ∧ Below W.heap.size W w') := HP.out
    obtain rfl : m = 0 := by simpa using hbd
    obtain rfl : m' = 0 := by simpa using hel
    have hbx : Below w.heap.size w (w.alloc (.cells #[.int .i64 6, .string (strB nm), .int .i64 0, .int .i64 0, .int .i64 p0, .int .i64 p1, .string p2, .int .i64 p3, .int .i64 p4, .slice P1 P2 P3, .int .i64 v0, .int .i64 v1, .string v2, .int .i64 v3, .int .i64 v4, .slice V1 V2 V3, .slice A 0 c, .slice A' 0 c'] 58)) := (Below.refl _ _).alloc (Nat.le_refl _) _
    have HBX := Lib.hid hbx
    clear HP HNM hn hn' hbd hel hbx
    go_enter Tryd.func46, Tryd.ntmps46
    go_wp2_with fail
    refine (HN.out _).mono ?_
    rintro e w1 ⟨rfl, rfl⟩
    go_wp2_with fail
    refine (HPk.out _ HBX.out).mono ?_
    rintro e w1 ⟨rfl, hb⟩
    have HB1 := Lib.hid (HBX.out.trans (hb.mono HBX.out.size))
    have HX1 := Lib.hid (below_blk hb (new_blk w _))
    have z10 : w1.cell? ⟨w.heap.size, 10, none⟩ = some (.int .i64 v0) := by rw [Lib.cell_of_heap HX1.out]; rfl
    have z11 : w1.cell? ⟨w.heap.size, 11, none⟩ = some (.int .i64 v1) := by rw [Lib.cell_of_heap HX1.out]; rfl
    have z12 : w1.cell? ⟨w.heap.size, 12, none⟩ = some (.string v2) := by rw [Lib.cell_of_heap HX1.out]; rfl
    have z13 : w1.cell? ⟨w.heap.size, 13, none⟩ = some (.int .i64 v3) := by rw [Lib.cell_of_heap HX1.out]; rfl
    have z14 : w1.cell? ⟨w.heap.size, 14, none⟩ = some (.int .i64 v4) := by rw [Lib.cell_of_heap HX1.out]; rfl
    have z15 : w1.cell? ⟨w.heap.size, 15, none⟩ = some (.slice V1 V2 V3) := by rw [Lib.cell_of_heap HX1.out]; rfl
    clear hb
    go_wp2_with fail
    refine (HV.out _ HB1.out).mono ?_
    rintro e w2 ⟨rfl, hb⟩
    have HB2 := Lib.hid (HB1.out.trans (hb.mono HB1.out.size))
    have HX2 := Lib.hid (below_blk hb HX1.out)
    have z16 : w2.cell? ⟨w.heap.size, 16, none⟩ = some (.slice A 0 c) := by rw [Lib.cell_of_heap HX2.out]; rfl
    have z17 : w2.cell? ⟨w.heap.size, 17, none⟩ = some (.slice A' 0 c') := by rw [Lib.cell_of_heap HX2.out]; rfl
    clear hb z10 z11 z12 z13 z14 z15
    go_wp2_with fail
    go_ret
    exact ⟨rfl, HB2.out⟩
end Go.Proofs.YtgkioompcmgmdaaDoor
