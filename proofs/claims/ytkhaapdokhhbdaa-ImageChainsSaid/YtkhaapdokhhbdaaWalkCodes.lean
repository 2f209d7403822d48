/-
  What rollbacknetmake.New, Left and Next do: a list of choices, and the next one of them. Conditions: the list of bytes is one that the call was given.
-/
import Derived.Test.YtkhaapdokhhbdaaImQ
import Derived.ChangeSlices
import Derived.MapKept
import Derived.Lib.Builder
import Derived.RowKit
import Derived.ChangeAt
namespace Go.Proofs.Ytkhaapdokhhbdaa
open Go.RowKit Go.ChangeShapes Go.WideShapes Go.ChangeAt

/-- A list of bytes that lies below B. -/
def BytesIn (B : Nat) (w : World) (v : Value) : Prop :=
  ∃ A n c, v = .slice A n c ∧ n ≤ c ∧ c ≤ 9223372036854775807 ∧ (0 < n → ∃ b o, A = some ⟨b, o, none⟩ ∧ b < B ∧ ∀ i, i < n → ∃ u : Nat, w.cell? ⟨b, o + i, none⟩ = some (.int .u8 u) ∧ u ≤ 255)

/-- The list of choices at block cb: k of n are used up. -/
structure CodesSt (B : Nat) (w : World) (cb : Nat) (A : Option Addr) (n c k : Nat) : Prop where
  c0 : w.cell? ⟨cb, 0, none⟩ = some (.slice A n c)
  c1 : w.cell? ⟨cb, 1, none⟩ = some (.int .i64 k)
  fz : w.frozen? ⟨cb, 1, none⟩ = false
  hk : k ≤ n
  hc : n ≤ c
  hm : c ≤ 9223372036854775807
  hB : B ≤ cb
  hl : 0 < n → ∃ b o, A = some ⟨b, o, none⟩ ∧ b < B ∧ ∀ i, i < n → ∃ u : Nat, w.cell? ⟨b, o + i, none⟩ = some (.int .u8 u) ∧ u ≤ 255

def CodesIn (B : Nat) (w : World) (cb : Nat) : Prop := ∃ A n c k, CodesSt B w cb A n c k

/-- All but one block is as it was. -/
structure Apart (cb : Nat) (w w' : World) : Prop where
  size : w.heap.size ≤ w'.heap.size
  cell : ∀ p : Addr, p.block ≠ cb → p.block < w.heap.size → w'.cell? p = w.cell? p

theorem CodesSt.lt {B cb n c k : Nat} {A : Option Addr} {w : World} (h : CodesSt B w cb A n c k) : cb < w.heap.size := World.block_lt_of_cell? w _ h.c0

theorem CodesSt.below {B cb n c k : Nat} {A : Option Addr} {w w' : World} (h : CodesSt B w cb A n c k) (hb : Below w.heap.size w w') : CodesSt B w' cb A n c k := by
  refine ⟨(hb.cell (p := ⟨cb, _, none⟩) h.lt).trans h.c0, (hb.cell (p := ⟨cb, _, none⟩) h.lt).trans h.c1, (hb.frozen (p := ⟨cb, _, none⟩) h.lt).trans h.fz, h.hk, h.hc, h.hm, h.hB, fun h0 => ?_⟩
  obtain ⟨b, o, hA, hlt, hi⟩ := h.hl h0
  refine ⟨b, o, hA, hlt, fun i hin => ?_⟩
  obtain ⟨u, hu, hu2⟩ := hi i hin
  exact ⟨u, (hb.cell (p := ⟨b, _, none⟩) (Nat.lt_trans (Nat.lt_of_lt_of_le hlt h.hB) h.lt)).trans hu, hu2⟩

theorem CodesIn.below {B cb : Nat} {w w' : World} (h : CodesIn B w cb) (hb : Below w.heap.size w w') : CodesIn B w' cb := by
  obtain ⟨A, n, c, k, h⟩ := h
  exact ⟨A, n, c, k, h.below hb⟩

theorem BytesIn.below {B : Nat} {w w' : World} {v : Value} (h : BytesIn B w v) (hb : Below B w w') : BytesIn B w' v := by
  obtain ⟨A, n, c, rfl, h1, h2, h3⟩ := h
  refine ⟨A, n, c, rfl, h1, h2, fun h0 => ?_⟩
  obtain ⟨b, o, hA, hlt, hi⟩ := h3 h0
  refine ⟨b, o, hA, hlt, fun i hin => ?_⟩
  obtain ⟨u, hu, hu2⟩ := hi i hin
  exact ⟨u, (hb.cell (p := ⟨b, _, none⟩) hlt).trans hu, hu2⟩

section
variable {H : Type} {enc : TypeId × Value → H}
theorem cells8 : Try.prog.cellsOf 5 = 1 := by kernel_rfl
set_option maxRecDepth 100000 in
/-- What a slice of bytes that came in gives. -/
theorem open_bytes {W : World} {base : Nat} {v1 : Value} {d1 : DataW H} {p1 : List MemPlace} (hval : Value.okWide Try.prog W .any base 23 v1) (h1 : DataW.Trod enc Try.prog W 0 (fun _ => true) true 23 v1 d1 p1) :
    BytesIn W.heap.size W v1 := by
  obtain ⟨A, len, cap, rfl⟩ := okWide_slice Try.underlying23 hval
  obtain ⟨fuel, hf⟩ := h1
  rcases open_ints Try.underlying23 Try.underlying5 cells8 hf with ⟨hcs, hx⟩ | ⟨a, len', cap', zs, hcs, _, hl, hm, hz, hx, hcell, hwz⟩
  · simp [Value.cells] at hcs
    obtain ⟨rfl, rfl, rfl⟩ := hcs
    exact ⟨none, 0, 0, rfl, Nat.le_refl _, by omega, fun h => absurd h (by omega)⟩
  · simp [Value.cells] at hcs
    obtain ⟨rfl, rfl, rfl⟩ := hcs
    simp only [if_true] at hz
    unfold maxLen at hm
    refine ⟨some a, len, cap, rfl, hl, by omega, fun h0 => ?_⟩
    obtain ⟨ab, ao, spot⟩ := a
    have hspot : spot = none := by simpa [Addr.add] using World.cell?_spot (hcell 0 (by omega))
    subst hspot
    refine ⟨ab, ao, rfl, World.block_lt_of_cell? W _ (by have := hcell 0 (by omega); rw [Addr.add_lit] at this; exact this), fun i hin => ?_⟩
    have hci := hcell i (by omega)
    rw [Addr.add_lit] at hci
    have hb := range_u8 hwz i
    rw [← List.getD_eq_getElem?_getD] at hb
    exact ⟨(zs.getD i 0).toNat, by rw [hci, Int.toNat_of_nonneg hb.1], by omega⟩
end

theorem codes_alloc {B : Nat} {w : World} {A : Option Addr} {n c : Nat} (hc : n ≤ c) (hm : c ≤ 9223372036854775807) (hB : B ≤ w.heap.size)
    (hl : 0 < n → ∃ b o, A = some ⟨b, o, none⟩ ∧ b < B ∧ ∀ i, i < n → ∃ u : Nat, w.cell? ⟨b, o + i, none⟩ = some (.int .u8 u) ∧ u ≤ 255) :
    CodesSt B (w.alloc (.cells #[.slice A n c, .int .i64 0] 51)) w.heap.size A n c 0 := by
  have hh := (Go.MapKept.heap_alloc w (.cells #[.slice A n c, .int .i64 0] 51)).1
  refine ⟨by rw [Lib.cell_of_heap hh]; rfl, by rw [Lib.cell_of_heap hh]; rfl, Lib.frozen_of_heap hh 1, Nat.zero_le _, hc, hm, hB, fun h0 => ?_⟩
  obtain ⟨b, o, hA, hlt, hi⟩ := hl h0
  refine ⟨b, o, hA, hlt, fun i hin => ?_⟩
  obtain ⟨u, hu, hu2⟩ := hi i hin
  exact ⟨u, (((Below.refl w.heap.size w).alloc (Nat.le_refl _) _).cell (p := ⟨b, _, none⟩) (by show b < _; omega)).trans hu, hu2⟩

set_option maxHeartbeats 400000 in
set_option maxRecDepth 100000 in
theorem new_any (B : Nat) (v : Value) (most : Nat) (w : World) (h : BytesIn B w v) (hB : B ≤ w.heap.size) (hm : most ≤ 100000) :
    Calls Try.prog 11 #[v, .int .i64 most] w fun e w' => ∃ cb A n c, e = .returned (.pointer (some ⟨cb, 0, none⟩)) ∧ n ≤ most ∧ CodesSt B w' cb A n c 0 ∧ w.heap.size ≤ cb ∧ Below w.heap.size w w' := by
  obtain ⟨A, n, c, rfl, hn, hc, hl⟩ := h
  have HL := Lib.hid hl
  clear hl
  by_cases h1 : most < n
  · obtain ⟨b, o, rfl, hlt, hi⟩ := HL.out (by omega)
    have HI := Lib.hid hi
    clear hi
    go_enter Try.func11, Try.ntmps11
    go_wp2
    go_ret
    exact ⟨w.heap.size, _, most, c, rfl, Nat.le_refl _, codes_alloc (by omega) hc hB (fun _ => ⟨b, o, rfl, hlt, fun i hi => HI.out i (by omega)⟩), Nat.le_refl _, (Below.refl _ _).alloc (Nat.le_refl _) _⟩
  · go_enter Try.func11, Try.ntmps11
    go_wp2
    go_ret
    exact ⟨w.heap.size, A, n, c, rfl, by omega, codes_alloc hn hc hB HL.out, Nat.le_refl _, (Below.refl _ _).alloc (Nat.le_refl _) _⟩

theorem CodesSt.step {B cb n c k : Nat} {A : Option Addr} {w : World} (h : CodesSt B w cb A n c k) (hk : k < n) : CodesSt B (w.setCell ⟨cb, 1, none⟩ (.int .i64 ((k : Int) + 1))) cb A n c (k + 1) := by
  refine ⟨?_, ?_, ?_, hk, h.hc, h.hm, h.hB, fun h0 => ?_⟩
  · rw [World.cell?_setCell_other _ _ _ _ (by intro e; injection e with _ e _; omega)]; exact h.c0
  · rw [World.cell?_setCell_same _ _ _ h.c1, Int.natCast_add]; rfl
  · rw [World.frozen?_setCell]; exact h.fz
  · obtain ⟨b, o, hA, hlt, hi⟩ := h.hl h0
    refine ⟨b, o, hA, hlt, fun i hin => ?_⟩
    obtain ⟨u, hu, hu2⟩ := hi i hin
    exact ⟨u, by rw [World.cell?_setCell_other _ _ _ _ (by intro e; injection e with e _ _; have := h.hB; omega)]; exact hu, hu2⟩

theorem Apart.set {cb : Nat} (w : World) (j : Nat) (v : Value) : Apart cb w (w.setCell ⟨cb, j, none⟩ v) :=
  ⟨((Below.refl 0 w).setCell (p := ⟨cb, j, none⟩) (Nat.zero_le _) v).size, fun p hp _ => World.cell?_setCell_other _ _ _ _ (by intro e; exact hp (by rw [← e]))⟩
theorem Apart.below {cb : Nat} {w w' : World} (hb : Below w.heap.size w w') : Apart cb w w' := ⟨hb.size, fun _ _ h => hb.cell h⟩
theorem Apart.trans {cb : Nat} {w w' w'' : World} (h : Apart cb w w') (h' : Apart cb w' w'') : Apart cb w w'' :=
  ⟨Nat.le_trans h.size h'.size, fun p hp hlt => (h'.cell p hp (Nat.lt_of_lt_of_le hlt h.size)).trans (h.cell p hp hlt)⟩

set_option maxHeartbeats 400000 in
set_option maxRecDepth 100000 in
theorem left_any (B cb : Nat) (A : Option Addr) (n c k : Nat) (w : World) (h : CodesSt B w cb A n c k) :
    Calls Try.prog 35 #[.pointer (some ⟨cb, 0, none⟩)] w fun e w' => e = .returned (.bool (decide (k < n))) ∧ ∃ m, w' = w.drewN m := by
  obtain ⟨c0, c1, _, hk, hc, hm, _, _⟩ := h
  obtain ⟨q, hq⟩ : ∃ q, decide (k < n) = q := ⟨_, rfl⟩
  have hq' : decide ((k : Int) < (n : Int)) = q := by rw [← hq]; exact decide_eq_decide.2 (by omega)
  rw [hq]
  go_enter Try.func35, Try.ntmps35
  go_wp2_with fail
  go_quiet (fail)
  go_wp2
  go_ret
  exact ⟨rfl, _, rfl⟩

set_option maxHeartbeats 1000000 in
set_option maxRecDepth 100000 in
theorem next_st (B cb m : Nat) (A : Option Addr) (n c k : Nat) (w : World) (h : CodesSt B w cb A n c k) (hm0 : 0 < m) (hm2 : m ≤ 100000) :
    Calls Try.prog 25 #[.pointer (some ⟨cb, 0, none⟩), .int .i64 m] w fun e w' => ∃ j k' : Nat, j < m ∧ e = .returned (.int .i64 j) ∧ (k' = k + 1 ∨ k' = k ∧ j = 0) ∧ CodesSt B w' cb A n c k' ∧ Below B w w' ∧ Apart cb w w' := by
  have H := Lib.hid h
  have hB := h.hB
  have hBw : B ≤ w.heap.size := Nat.le_of_lt (Nat.lt_of_le_of_lt h.hB h.lt)
  by_cases hk : k < n
  · have q : decide (k < n) = true := decide_eq_true hk
    go_enter Try.func25, Try.ntmps25
    go_wp2_with fail
    refine (left_any B cb A n c k _ H.out).mono ?_
    rintro e w1 ⟨rfl, m1, hw1⟩
    have hb1 : Below w.heap.size w w1 := by rw [hw1]; exact below_drewN (Below.refl _ _) m1
    have H1 := Lib.hid (H.out.below hb1)
    have HB1 := Lib.hid hb1
    clear hw1 hb1
    obtain ⟨c0, c1, fz, _, hc, hm, _, hl⟩ := H1.out
    clear hl
    have hn : n ≤ 9223372036854775807 := by omega
    go_upto_region 4 with fail
    obtain ⟨w2, hw2⟩ : ∃ w2, w1.setCell ⟨cb, 1, none⟩ (.int .i64 ((k : Int) + 1)) = w2 := ⟨_, rfl⟩
    have H2 := Lib.hid (hw2 ▸ H1.out.step hk)
    have HB2 := Lib.hid (show Below B w w2 by rw [← hw2]; exact ((HB1.out).mono hBw).setCell (p := ⟨cb, 1, none⟩) hB _)
    have HA2 := Lib.hid (show Apart cb w w2 by rw [← hw2]; exact (Apart.below HB1.out).trans (Apart.set _ _ _))
    simp only [hw2]
    clear hw2 c0 c1 fz
    obtain ⟨c0, c1, _, _, _, _, _, hl⟩ := H2.out
    obtain ⟨b, o, rfl, hlt, hi⟩ := hl (by omega)
    obtain ⟨u, hu, hu2⟩ := hi k hk
    clear hl hi
    have hsub : (((k + 1 : Nat) : Int)) - 1 = (k : Int) := by omega
    go_quiet (fail)
    go_wp2
    go_ret
    exact ⟨u % m, k + 1, Nat.mod_lt _ hm0, by rw [Int.natCast_emod]; rfl, .inl rfl, H2.out.below (below_drewN (Below.refl _ _) nq), below_drewN HB2.out nq, HA2.out.trans (Apart.below (below_drewN (Below.refl _ _) nq))⟩
  · have q : decide (k < n) = false := decide_eq_false hk
    go_enter Try.func25, Try.ntmps25
    go_wp2_with fail
    refine (left_any B cb A n c k _ H.out).mono ?_
    rintro e w1 ⟨rfl, m1, rfl⟩
    go_wp2
    go_ret
    exact ⟨0, k, by omega, rfl, .inr ⟨rfl, rfl⟩, H.out.below (below_drewN (Below.refl _ _) m1), below_drewN (Below.refl _ _) m1, Apart.below (below_drewN (Below.refl _ _) m1)⟩
theorem next_any (B cb m : Nat) (w : World) (h : CodesIn B w cb) (hm0 : 0 < m) (hm2 : m ≤ 100000) :
    Calls Try.prog 25 #[.pointer (some ⟨cb, 0, none⟩), .int .i64 m] w fun e w' => ∃ k : Nat, k < m ∧ e = .returned (.int .i64 k) ∧ CodesIn B w' cb ∧ Below B w w' ∧ Apart cb w w' := by
  obtain ⟨A, n, c, k, h⟩ := h
  exact (next_st B cb m A n c k w h hm0 hm2).mono fun e w' ⟨j, k', h1, h2, _, h3, h4, h5⟩ => ⟨j, h1, h2, ⟨A, n, c, k', h3⟩, h4, h5⟩
end Go.Proofs.Ytkhaapdokhhbdaa
