/-
  Texts of a walk, laid together by a program of the prover's own (merge.py). No conditions beyond those that each text names.
-/
import Derived.Test.YtgblgkkbggdopaaDoorZae
import Derived.Test.YtgblgkkbggdopaaDoorZah
import Derived.Test.YtgblgkkbggdopaaDoorZav
import Derived.Test.YtgblgkkbggdopaaDoorZaj
import Derived.Deep.CutBlock
import Derived.Deep.LoopGhost
/-
  What Event and Events of rollbacknetmake do: events that are drawn by choices (gens53.py writes this text). Conditions: as for Next.
-/
namespace Go.Proofs.YtgblgkkbggdopaaDoor
open Go.RowKit

def set7 (w : World) (n : Nat) (a0 a1 a2 a3 a4 a5 a6 : Value) : World := ((((((w.setCell ⟨n, 0, none⟩ a0).setCell ⟨n, 1, none⟩ a1).setCell ⟨n, 2, none⟩ a2).setCell ⟨n, 3, none⟩ a3).setCell ⟨n, 4, none⟩ a4).setCell ⟨n, 5, none⟩ a5).setCell ⟨n, 6, none⟩ a6
theorem set7_blk (w : World) (n : Nat) (a0 a1 a2 a3 a4 a5 a6 : Value) {k : Nat} (h : k ≠ n) : (set7 w n a0 a1 a2 a3 a4 a5 a6).heap[k]? = w.heap[k]? := by
  unfold set7
  rw [Below.heap_setCell _ _ _ _ h, Below.heap_setCell _ _ _ _ h, Below.heap_setCell _ _ _ _ h, Below.heap_setCell _ _ _ _ h, Below.heap_setCell _ _ _ _ h, Below.heap_setCell _ _ _ _ h, Below.heap_setCell _ _ _ _ h]
theorem Keep.set7 {R n : Nat} {a w : World} (h : Keep R a w) (hn : a.heap.size ≤ n) (a0 a1 a2 a3 a4 a5 a6 : Value) : Keep R a (set7 w n a0 a1 a2 a3 a4 a5 a6) :=
  (((((((h.setNew (p := ⟨n, 0, none⟩) hn a0).setNew (p := ⟨n, 1, none⟩) hn a1).setNew (p := ⟨n, 2, none⟩) hn a2).setNew (p := ⟨n, 3, none⟩) hn a3).setNew (p := ⟨n, 4, none⟩) hn a4).setNew (p := ⟨n, 5, none⟩) hn a5).setNew (p := ⟨n, 6, none⟩) hn a6)

/-- What Event returns. -/
def EvPost (B cb : Nat) (w : World) (e : Ending) (w' : World) : Prop :=
  ∃ r : List Int, r.length = 7 ∧ e = .returned (.agg (r.map (Value.int .i64)).toArray) ∧ (∀ x ∈ r, I64 x) ∧ CodesIn B w' cb ∧ Keep cb w w'

set_option maxHeartbeats 4000000 in
set_option maxRecDepth 100000 in
theorem event_any (B cb : Nat) (w : World) (hc0 : CodesIn B w cb) :
    Calls Tryd.prog 29 #[.pointer (some ⟨cb, 0, none⟩)] w (EvPost B cb w) := by
  have hcb := hc0.lt
  obtain ⟨nb, hnb⟩ : ∃ x, w.heap.size = x := ⟨_, rfl⟩
  obtain ⟨W, hW⟩ : ∃ x, (w.alloc (.cells #[.int .i64 0, .int .i64 0, .int .i64 0, .int .i64 0, .int .i64 0, .int .i64 0, .int .i64 0] 42)) = x := ⟨_, rfl⟩
  have hz0 : W.heap.size = nb + 1 := by rw [← hW, ← hnb]; simp only [new_size]
  have hb4 : Below w.heap.size w W := by rw [← hW]; exact ((Below.refl _ _).alloc (Nat.le_refl _) _)
  have hB0 : W.heap[nb]? = some (.cells #[.int .i64 0, .int .i64 0, .int .i64 0, .int .i64 0, .int .i64 0, .int .i64 0, .int .i64 0] 42 (0, 0)) := by
    have h := new_blk w (.cells #[.int .i64 0, .int .i64 0, .int .i64 0, .int .i64 0, .int .i64 0, .int .i64 0, .int .i64 0] 42)
    rw [hnb] at h
    rw [← hW]; exact h
  have HC0 := Lib.hid (hc0.up fun k hk => hb4.block k (show k < w.heap.size by omega))
  have HK0 := Lib.hid (Keep.of_below (R := cb) hb4)
  have HNB := Lib.hid hnb
  have HZ0 := Lib.hid hB0
  have HCB : Hid (nb ≠ cb) := by show _ ≠ _; omega
  have HCL : Hid (cb < nb) := by show _ < _; omega
  clear hc0 hb4 hB0 hz0 hcb
  go_enter Tryd.func29, Tryd.ntmps29
  go_upto_region 1 with fail
  clear hW
  go_wp2_with fail
  refine (next_keep B cb 3 _ HC0.out (by decide) (by decide)).mono ?_
  rintro e w1 ⟨k, hvk, rfl, hc, hk⟩
  have HC1 := Lib.hid hc
  have HK1 := Lib.hid (HK0.out.trans hk)
  have HZ1 := Lib.hid (hk.blk HZ0.out HCB.out)
  clear hc hk
  have hk3 : (k : Int) < 3 := by omega
  go_wp2_with fail
  refine (next_keep B cb 3 _ HC1.out (by decide) (by decide)).mono ?_
  rintro e w2 ⟨j, hvj, rfl, hc, hk⟩
  have HC2 := Lib.hid hc
  have HK2 := Lib.hid (HK1.out.trans hk)
  have HZ2 := Lib.hid (hk.blk HZ1.out HCB.out)
  clear hc hk
  go_wp2_with fail
  refine (int_any B cb _ HC2.out).mono ?_
  rintro e w3 ⟨z, rfl, hzi, hc, hk⟩
  have HC3 := Lib.hid hc
  have HK3 := Lib.hid (HK2.out.trans hk)
  have HZ3 := Lib.hid (hk.blk HZ2.out HCB.out)
  have HZI : Hid (I64 z) := hzi
  clear hc hk hzi
  go_upto_region 2 with fail
  obtain ⟨w4, hw4⟩ : ∃ x, w3.alloc (.cells #[.int .i64 (1 + (k : Int)), .int .i64 j, .int .i64 0, .int .i64 0, .int .i64 0, .int .i64 0, .int .i64 z] 42) = x := ⟨_, rfl⟩
  obtain ⟨xb, hxb⟩ : ∃ x, w3.heap.size = x := ⟨_, rfl⟩
  have h34 : Below w3.heap.size w3 w4 := by rw [← hw4]; exact rp_one1 _ _
  have HX4 : Hid (w4.heap[xb]? = some (.cells #[.int .i64 (1 + (k : Int)), .int .i64 j, .int .i64 0, .int .i64 0, .int .i64 0, .int .i64 0, .int .i64 z] 42 (0, 0))) := by show _ = _; rw [← hw4, ← hxb]; exact new_blk _ _
  have hcb3 := HC3.out.lt
  have HXC : Hid (xb ≠ cb) := by show _ ≠ _; omega
  have HXN : Hid (nb < xb) := by show _ < _; have := lt_of_block HZ3.out; omega
  have HC4 := Lib.hid (HC3.out.up (w' := w4) fun k hk => h34.block k (by omega))
  have HK4 := Lib.hid (HK3.out.trans (Keep.of_below h34))
  have HZ4 := Lib.hid (below_blk h34 HZ3.out)
  have y0 : w4.cell? ⟨xb, 0, none⟩ = some (.int .i64 (1 + (k : Int))) := by rw [Lib.cell_of_heap HX4.out]; rfl
  simp only [hw4, hxb]
  clear hw4 hxb h34 hcb3
  by_cases hk0 : k = 0
  · subst hk0
    have q : ((1 + ((0 : Nat) : Int)) == 1) = true := by decide
    have q' : ((1 + 0 : Int) == 1) = true := by decide
    go_upto_region 3 with fail
    clear y0 q q'
    go_wp2_with fail
    refine (next_keep B cb 3 _ HC4.out (by decide) (by decide)).mono ?_
    rintro e w5 ⟨f, hvf, rfl, hc, hk⟩
    have HC5 := Lib.hid hc
    have HK5 := Lib.hid (HK4.out.trans hk)
    have HX5 := Lib.hid (hk.blk HX4.out HXC.out)
    have HZ5 := Lib.hid (hk.blk HZ4.out HCB.out)
    clear hc hk
    go_wp2_with fail
    refine (next_keep B cb 2 _ HC5.out (by decide) (by decide)).mono ?_
    rintro e w6 ⟨a, hva, rfl, hc, hk⟩
    have HC6 := Lib.hid hc
    have HK6 := Lib.hid (HK5.out.trans hk)
    have HX6 := Lib.hid (hk.blk HX5.out HXC.out)
    have HZ6 := Lib.hid (hk.blk HZ5.out HCB.out)
    clear hc hk
    go_wp2_with fail
    refine (next_keep B cb 5 _ HC6.out (by decide) (by decide)).mono ?_
    rintro e w7 ⟨b, hvb, rfl, hc, hk⟩
    have HC7 := Lib.hid hc
    have HK7 := Lib.hid (HK6.out.trans hk)
    have HX7 := Lib.hid (hk.blk HX6.out HXC.out)
    have HZ7 := Lib.hid (hk.blk HZ6.out HCB.out)
    clear hc hk
    go_wp2_with fail
    refine (next_keep B cb 3 _ HC7.out (by decide) (by decide)).mono ?_
    rintro e w8 ⟨o, hvo, rfl, hc, hk⟩
    have HC8 := Lib.hid hc
    have HK8 := Lib.hid (HK7.out.trans hk)
    have HX8 := Lib.hid (hk.blk HX7.out HXC.out)
    have HZ8 := Lib.hid (hk.blk HZ7.out HCB.out)
    clear hc hk
    have hx8 := HX8.out
    obtain ⟨_, _, y2, y3, y4, y5, _⟩ := box7 hx8
    have i2 := frz hx8 2
    have i3 := frz hx8 3
    have i4 := frz hx8 4
    have i5 := frz hx8 5
    have hz8 : xb < w8.heap.size := lt_of_block hx8
    clear hx8
    go_upto_region 4 with fail
    obtain ⟨w9, hw9⟩ : ∃ x, (((w8.setCell ⟨xb, 2, none⟩ (.int .i64 f)).setCell ⟨xb, 3, none⟩ (.int .i64 a)).setCell ⟨xb, 4, none⟩ (.int .i64 b)).setCell ⟨xb, 5, none⟩ (.int .i64 o) = x := ⟨_, rfl⟩
    have s9 : ∀ k, k ≠ xb → w9.heap[k]? = w8.heap[k]? := fun k hk => by rw [← hw9, Below.heap_setCell _ _ _ _ hk, Below.heap_setCell _ _ _ _ hk, Below.heap_setCell _ _ _ _ hk, Below.heap_setCell _ _ _ _ hk]
    have HX9 : Hid (w9.heap[xb]? = some (.cells #[.int .i64 1, .int .i64 j, .int .i64 f, .int .i64 a, .int .i64 b, .int .i64 o, .int .i64 z] 42 (0, 0))) := by
      show _ = _
      have k1 := blk_set HX8.out 2 (.int .i64 f)
      have k2 := blk_set k1 3 (.int .i64 a)
      have k3 := blk_set k2 4 (.int .i64 b)
      have k4 := blk_set k3 5 (.int .i64 o)
      rw [← hw9]
      exact k4
    have HZ9 := Lib.hid ((s9 nb (by have := HXN.out; omega)).trans HZ8.out)
    have HC9 := Lib.hid (HC8.out.up (w' := w9) fun k hk => s9 k (by have := HXN.out; have := HCL.out; omega))
    have HK9 : Hid (Keep cb w w9) := by
      show Keep cb w w9
      rw [← hw9]
      have hn : w.heap.size ≤ xb := by have := HXN.out; have := HNB.out; omega
      exact ((((HK8.out.setNew (p := ⟨xb, 2, none⟩) hn _).setNew (p := ⟨xb, 3, none⟩) hn _).setNew (p := ⟨xb, 4, none⟩) hn _).setNew (p := ⟨xb, 5, none⟩) hn _)
    simp only [hw9]
    clear hw9 s9 y2 y3 y4 y5 i2 i3 i4 i5 hz8
    obtain ⟨y0, y1, y2, y3, y4, y5, y6⟩ := box7 HX9.out
    obtain ⟨d0, d1, d2, d3, d4, d5, d6⟩ := box7 HZ9.out
    have g0 := frz HZ9.out 0
    have g1 := frz HZ9.out 1
    have g2 := frz HZ9.out 2
    have g3 := frz HZ9.out 3
    have g4 := frz HZ9.out 4
    have g5 := frz HZ9.out 5
    have g6 := frz HZ9.out 6
    have hz9 : nb < w9.heap.size := lt_of_block HZ9.out
    have HQ : Hid (EvPost B cb w (.returned (.agg #[.int .i64 1, .int .i64 j, .int .i64 f, .int .i64 a, .int .i64 b, .int .i64 o, .int .i64 z])) (set7 w9 nb (.int .i64 1) (.int .i64 j) (.int .i64 f) (.int .i64 a) (.int .i64 b) (.int .i64 o) (.int .i64 z))) := by
      refine ⟨[1, j, f, a, b, o, z], rfl, rfl, ?_, HC9.out.up fun k hk => set7_blk _ _ _ _ _ _ _ _ _ (by have := HCL.out; omega), Keep.set7 HK9.out (by have := HNB.out; omega) _ _ _ _ _ _ _⟩
      intro x hx
      simp only [List.mem_cons, List.not_mem_nil, or_false] at hx
      have := HZI.out
      rcases hx with rfl | rfl | rfl | rfl | rfl | rfl | rfl <;> first | exact HZI.out | (constructor <;> omega)
    go_wp2_with fail
    refine bodyPost_ret (v := .agg #[.int .i64 1, .int .i64 j, .int .i64 f, .int .i64 a, .int .i64 b, .int .i64 o, .int .i64 z]) ?_ rfl ?_
    · simp [results, Tryd.results29, go_sem, World.cell?_setCell_same, World.cell?_setCell_other, d0, d1, d2, d3, d4, d5, d6]
    · exact HQ.out
  · have q : ((1 + (k : Int)) == 1) = false := by simp; omega
    have HC9 := HC4
    have HK9 := HK4
    have HX9 := HX4
    have HZ9 := HZ4
    obtain ⟨w9, hw9⟩ : ∃ x, w4 = x := ⟨_, rfl⟩
    subst hw9
    go_upto_region 4 with fail
    obtain ⟨y0, y1, y2, y3, y4, y5, y6⟩ := box7 HX9.out
    obtain ⟨d0, d1, d2, d3, d4, d5, d6⟩ := box7 HZ9.out
    have g0 := frz HZ9.out 0
    have g1 := frz HZ9.out 1
    have g2 := frz HZ9.out 2
    have g3 := frz HZ9.out 3
    have g4 := frz HZ9.out 4
    have g5 := frz HZ9.out 5
    have g6 := frz HZ9.out 6
    have hz9 : nb < w4.heap.size := lt_of_block HZ9.out
    have HQ : Hid (EvPost B cb w (.returned (.agg #[.int .i64 (1 + (k : Int)), .int .i64 j, .int .i64 0, .int .i64 0, .int .i64 0, .int .i64 0, .int .i64 z])) (set7 w4 nb (.int .i64 (1 + (k : Int))) (.int .i64 j) (.int .i64 0) (.int .i64 0) (.int .i64 0) (.int .i64 0) (.int .i64 z))) := by
      refine ⟨[1 + (k : Int), j, 0, 0, 0, 0, z], rfl, rfl, ?_, HC9.out.up fun k hk => set7_blk _ _ _ _ _ _ _ _ _ (by have := HCL.out; omega), Keep.set7 HK9.out (by have := HNB.out; omega) _ _ _ _ _ _ _⟩
      intro x hx
      simp only [List.mem_cons, List.not_mem_nil, or_false] at hx
      have := HZI.out
      rcases hx with rfl | rfl | rfl | rfl | rfl | rfl | rfl <;> first | exact HZI.out | (constructor <;> omega)
    go_wp2_with fail
    refine bodyPost_ret (v := .agg #[.int .i64 (1 + (k : Int)), .int .i64 j, .int .i64 0, .int .i64 0, .int .i64 0, .int .i64 0, .int .i64 z]) ?_ rfl ?_
    · simp [results, Tryd.results29, go_sem, World.cell?_setCell_same, World.cell?_setCell_other, d0, d1, d2, d3, d4, d5, d6]
    · exact HQ.out
end Go.Proofs.YtgblgkkbggdopaaDoor

/-
  What next of package process does (gens49.py writes this text). Conditions: those of WalkPx.
-/
namespace Go.Proofs.YtgblgkkbggdopaaDoor
open Go.RowKit

/-- What next returns. -/
def NxtPost (base : Nat) (s1 : PS) (V S O : Value) (w : World) (e : Ending) (w' : World) : Prop :=
  ∃ (Z : Option Addr) (zc : Nat) (V' S' O' : Value), e = .returned (.agg #[.slice Z s1.cells.length zc, V', S', O']) ∧ w'.ownsRow w.heap.size 3 1 (.slice Z s1.cells.length zc) s1.cells.length (s1.cells.map (Value.int .i64)) ∧
    SOwn base w' s1 V' S' O' ∧ FrL [V, S, O] [V', S', O'] w w' ∧ Apt (.slice Z s1.cells.length zc) V' ∧ Apt (.slice Z s1.cells.length zc) S' ∧ Apt (.slice Z s1.cells.length zc) O'

theorem bd_at {B : Nat} {w : World} {c : Cd} {C0 C1 C2 C3 C4 : Option Addr} {k0 q0 k1 q1 k2 q2 k3 q3 k4 q4 : Nat} (h : CdAt B w c C0 C1 C2 C3 C4 k0 q0 k1 q1 k2 q2 k3 q3 k4 q4) (x0 : Int) (r : List Int) :
    ∃ A len q, bdV x0 C2 C3 C4 k2 q2 k3 q3 k4 q4 = .slice A len q ∧ StSlice (fun k => k < B) w (bodyP c (x0 :: r)) (.slice A len q) ∧ St.bigL (bodyP c (x0 :: r)) ≤ 100000 := by
  have e : evA (x0 :: r) 0 = x0 := rfl
  unfold bdV bodyP
  rw [e]
  by_cases h1 : x0 = 1
  · rw [if_pos h1, if_pos h1]; exact ⟨_, _, _, rfl, h.message, h.big.2.1⟩
  rw [if_neg h1, if_neg h1]
  by_cases h2 : x0 = 2
  · rw [if_pos h2, if_pos h2]; exact ⟨_, _, _, rfl, h.tick, h.big.2.2.1⟩
  rw [if_neg h2, if_neg h2]
  by_cases h3 : x0 = 3
  · rw [if_pos h3, if_pos h3]; exact ⟨_, _, _, rfl, h.input, h.big.2.2.2⟩
  rw [if_neg h3, if_neg h3]
  exact ⟨none, 0, 0, rfl, sts_nil _ _, by simp [St.bigL]⟩

/-- What next leaves. -/
theorem nxt_end {base nb rb : Nat} {s1 : PS} {w W w11 w12 : World} {V V9 S O : Value} {Z : Option Addr} {zc : Nat} {S' O' : Value} (hnb : w.heap.size = nb) (hrb0 : nb ≤ rb) (hos : w11.os = w.os) (hta : w11.tape = w.tape) (hou : w11.output = w.output) (h11 : rb < w11.heap.size)
    (hV : V9.ownBlock = V.ownBlock ∨ V9.ownBlock = some W.heap.size.succ) (h10 : rb < W.heap.size) (hVl : ∀ j, V.ownBlock = some j → j < nb) (hSl : ∀ j, S.ownBlock = some j → j < nb) (hOl : ∀ j, O.ownBlock = some j → j < nb) (h9 : ∀ j, V9.ownBlock = some j → j < w11.heap.size)
    (hlow : ∀ k, k < nb → V.ownBlock ≠ some k → w11.heap[k]? = w.heap[k]?)
    (hc : w12.ownsRow w11.heap.size 3 1 (.slice Z s1.cells.length zc) s1.cells.length (s1.cells.map (Value.int .i64))) (ho : SOwn base w12 s1 V9 S' O') (hf : FrL [S, O] [S', O'] w11 w12) (a1 : Apt (.slice Z s1.cells.length zc) S') (a2 : Apt (.slice Z s1.cells.length zc) O') :
    NxtPost base s1 V S O w (.returned (.agg #[.slice Z s1.cells.length zc, V9, S', O'])) (set4 w12 (rb) (.slice Z s1.cells.length zc) V9 S' O') := by
  have e12 := hf.size
  have hrb := (hf.blk (rb) ⟨h11, fun u hu e => by
    simp only [List.mem_cons, List.not_mem_nil, or_false] at hu
    rcases hu with rfl | rfl
    · have := hSl _ e; omega
    · have := hOl _ e; omega⟩).2
  have s4 : ∀ k, k ≠ rb → (set4 w12 (rb) (.slice Z s1.cells.length zc) V9 S' O').heap[k]? = w12.heap[k]? := fun k hk => set4_blk _ _ _ _ _ _ hk
  have zl : ∀ j, (Value.slice Z s1.cells.length zc).ownBlock = some j → w11.heap.size ≤ j := fun j hj => (hc.lt j hj).1
  refine ⟨Z, zc, V9, S', O', rfl, ?_, ⟨?_, ?_, ?_, ho.vs, ho.vo, ho.so⟩, ?_, fun j h1 h2 => ?_, a1, a2⟩
  · have := own_at hc (fun j hj => s4 j (by have := zl j hj; omega))
    exact ⟨this.1, this.2.imp id fun ⟨g, cap, cur, k1, k2, k3⟩ => ⟨g, cap, cur, k1, by omega, k3⟩⟩
  · refine own_at ho.evs (fun j hj => s4 j (fun e => ?_))
    rcases hV with h | h
    · rw [h] at hj; have := hVl j hj; omega
    · rw [h] at hj; injection hj with hj; omega
  · exact own_at ho.sent (fun j hj => s4 j (fun e => hrb.2 S' (by simp) (by rw [← e]; exact hj)))
  · exact own_at ho.outs (fun j hj => s4 j (fun e => hrb.2 O' (by simp) (by rw [← e]; exact hj)))
  · have hb9 := set4_below (B := rb) w12 (Nat.le_refl _) (.slice Z s1.cells.length zc) V9 S' O'
    refine ⟨by rw [hb9.os, hf.os, hos], by rw [hb9.tape, hf.tape, hta], by rw [hb9.output, hf.output, hou], by rw [set4_size]; omega, fun k hk => ?_⟩
    have hk1 := hk.1
    have hi := hf.blk k ⟨by omega, fun u hu => hk.2 u (by simp only [List.mem_cons] at hu ⊢; exact .inr hu)⟩
    refine ⟨((s4 k (by omega)).trans hi.1).trans (hlow k (by omega) (hk.2 V (by simp))), by rw [set4_size]; exact hi.2.1, fun u hu => ?_⟩
    simp only [List.mem_cons, List.not_mem_nil, or_false] at hu
    rcases hu with rfl | hu
    · rcases hV with h | h
      · rw [h]; exact hk.2 V (by simp)
      · rw [h]; intro e; injection e with e; omega
    · exact hi.2.2 u (by simpa using hu)
  · have := zl j h1
    have := h9 j h2
    omega

set_option maxHeartbeats 8000000 in
set_option maxRecDepth 100000 in
theorem next_ev (base B : Nat) (self procs : Int) (C0 : Option Addr) (C1 : Option Addr) (C2 : Option Addr) (C3 : Option Addr) (C4 : Option Addr) (k0 q0 k1 q1 k2 q2 k3 q3 k4 q4 : Nat) (x0 x1 x2 x3 x4 x5 x6 : Int) (c : Cd) (s : PS) (w : World) (Z : Option Addr) (n zc : Nat) (V S O : Value) (hc : CdAt B w c C0 C1 C2 C3 C4 k0 q0 k1 q1 k2 q2 k3 q3 k4 q4) (hB : B ≤ base) (hbase : base ≤ w.heap.size)
    (hz : RwAt w 1 (s.cells.map (Value.int .i64)) Z n) (hn : n = s.cells.length) (h0 : 0 < n) (hm : n ≤ 1000000) (hza : ∀ b o, Z = some ⟨b, o, none⟩ → V.ownBlock ≠ some b) (hs : SOwn base w s V S O) (hf1 : s.sent.length + s.outs.length ≤ 900000) (hf2 : s.evs.length ≤ 900000) :
    Calls Tryd.prog 42 #[.agg #[.slice C0 k0 q0, .slice C1 k1 q1, .slice C2 k2 q2, .slice C3 k3 q3, .slice C4 k4 q4, .int .i64 self, .int .i64 procs], .agg #[.slice Z n zc, V, S, O], .agg #[.int .i64 x0, .int .i64 x1, .int .i64 x2, .int .i64 x3, .int .i64 x4, .int .i64 x5, .int .i64 x6]] w (NxtPost base (nextP c self procs s [x0, x1, x2, x3, x4, x5, x6]) V S O w) := by
  obtain ⟨V0, vc, rfl⟩ := own_slice hs.evs
  obtain ⟨S0, sc, rfl⟩ := own_slice hs.sent
  obtain ⟨O0, oc, rfl⟩ := own_slice hs.outs
  obtain ⟨nv, hnv⟩ : ∃ x, s.evs.length = x := ⟨_, rfl⟩
  obtain ⟨ns, hns⟩ : ∃ x, s.sent.length = x := ⟨_, rfl⟩
  obtain ⟨no, hno⟩ : ∃ x, s.outs.length = x := ⟨_, rfl⟩
  have HNV := Lib.hid hnv
  have HNS := Lib.hid hns
  have HNO := Lib.hid hno
  have HS := Lib.hid hs
  rw [hnv] at hza hf2
  rw [hnv, hns, hno]
  obtain ⟨nb, hnb⟩ : ∃ x, w.heap.size = x := ⟨_, rfl⟩
  obtain ⟨W, hW⟩ : ∃ x, ((((w.alloc (.cells #[.slice C0 k0 q0, .slice C1 k1 q1, .slice C2 k2 q2, .slice C3 k3 q3, .slice C4 k4 q4, .int .i64 self, .int .i64 procs] 77)).alloc (.cells #[.slice Z n zc, .slice V0 nv vc, .slice S0 ns sc, .slice O0 no oc] 36)).alloc (.cells #[.int .i64 x0, .int .i64 x1, .int .i64 x2, .int .i64 x3, .int .i64 x4, .int .i64 x5, .int .i64 x6] 42)).alloc (.cells #[.slice none 0 0, .slice none 0 0, .slice none 0 0, .slice none 0 0] 36)) = x := ⟨_, rfl⟩
  have hz0 : W.heap.size = nb + 1 + 1 + 1 + 1 := by rw [← hW, ← hnb]; simp only [new_size]
  have hb4 : Below w.heap.size w W := by rw [← hW]; exact (((((Below.refl _ _).alloc (Nat.le_refl _) _).alloc (by simp only [new_size]; omega) _).alloc (by simp only [new_size]; omega) _).alloc (by simp only [new_size]; omega) _)
  have hB0 : W.heap[nb]? = some (.cells #[.slice C0 k0 q0, .slice C1 k1 q1, .slice C2 k2 q2, .slice C3 k3 q3, .slice C4 k4 q4, .int .i64 self, .int .i64 procs] 77 (0, 0)) := by
    have h := new_blk w (.cells #[.slice C0 k0 q0, .slice C1 k1 q1, .slice C2 k2 q2, .slice C3 k3 q3, .slice C4 k4 q4, .int .i64 self, .int .i64 procs] 77)
    rw [hnb] at h
    rw [← hW]; rw [alloc_blk _ _ (by simp only [new_size]; omega)]; rw [alloc_blk _ _ (by simp only [new_size]; omega)]; rw [alloc_blk _ _ (by simp only [new_size]; omega)]; exact h
  have hB1 : W.heap[nb + 1]? = some (.cells #[.slice Z n zc, .slice V0 nv vc, .slice S0 ns sc, .slice O0 no oc] 36 (0, 0)) := by
    have h := new_blk (w.alloc (.cells #[.slice C0 k0 q0, .slice C1 k1 q1, .slice C2 k2 q2, .slice C3 k3 q3, .slice C4 k4 q4, .int .i64 self, .int .i64 procs] 77)) (.cells #[.slice Z n zc, .slice V0 nv vc, .slice S0 ns sc, .slice O0 no oc] 36)
    simp only [new_size, hnb] at h
    rw [← hW]; rw [alloc_blk _ _ (by simp only [new_size]; omega)]; rw [alloc_blk _ _ (by simp only [new_size]; omega)]; exact h
  have hB2 : W.heap[nb + 1 + 1]? = some (.cells #[.int .i64 x0, .int .i64 x1, .int .i64 x2, .int .i64 x3, .int .i64 x4, .int .i64 x5, .int .i64 x6] 42 (0, 0)) := by
    have h := new_blk ((w.alloc (.cells #[.slice C0 k0 q0, .slice C1 k1 q1, .slice C2 k2 q2, .slice C3 k3 q3, .slice C4 k4 q4, .int .i64 self, .int .i64 procs] 77)).alloc (.cells #[.slice Z n zc, .slice V0 nv vc, .slice S0 ns sc, .slice O0 no oc] 36)) (.cells #[.int .i64 x0, .int .i64 x1, .int .i64 x2, .int .i64 x3, .int .i64 x4, .int .i64 x5, .int .i64 x6] 42)
    simp only [new_size, hnb] at h
    rw [← hW]; rw [alloc_blk _ _ (by simp only [new_size]; omega)]; exact h
  have hB3 : W.heap[nb + 1 + 1 + 1]? = some (.cells #[.slice none 0 0, .slice none 0 0, .slice none 0 0, .slice none 0 0] 36 (0, 0)) := by
    have h := new_blk (((w.alloc (.cells #[.slice C0 k0 q0, .slice C1 k1 q1, .slice C2 k2 q2, .slice C3 k3 q3, .slice C4 k4 q4, .int .i64 self, .int .i64 procs] 77)).alloc (.cells #[.slice Z n zc, .slice V0 nv vc, .slice S0 ns sc, .slice O0 no oc] 36)).alloc (.cells #[.int .i64 x0, .int .i64 x1, .int .i64 x2, .int .i64 x3, .int .i64 x4, .int .i64 x5, .int .i64 x6] 42)) (.cells #[.slice none 0 0, .slice none 0 0, .slice none 0 0, .slice none 0 0] 36)
    simp only [new_size, hnb] at h
    rw [← hW]; exact h
  obtain ⟨A, len, ac, hbv, hbd, hbg⟩ := bd_at hc x0 [x1, x2, x3, x4, x5, x6]
  have HBV := Lib.hid hbv
  have HBD := Lib.hid hbd
  have HBG := Lib.hid hbg
  have HC := Lib.hid hc
  have HZR := Lib.hid hz
  have HZA := Lib.hid hza
  have HN := Lib.hid hn
  have HF1 := Lib.hid hf1
  have HB4 := Lib.hid hb4
  have HZ0 := Lib.hid hz0
  have HNB := Lib.hid hnb
  have H0 := Lib.hid hB0
  have H1 := Lib.hid hB1
  have H2 := Lib.hid hB2
  have H3 := Lib.hid hB3
  obtain ⟨y0, y1, y2, y3, y4, y5, y6⟩ := box7 hB2
  obtain ⟨_, b1, _, _⟩ := box4 hB1
  have f1 := frz hB1 1
  have hz1 : nb + 1 < W.heap.size := by omega
  have HVO : Hid (W.ownsRow base 42 7 (.slice V0 nv vc) nv (rowC s.evs)) := by have := own_bel hs.evs hb4; rw [hnv] at this; exact this
  have HVL : Hid (∀ j, (Value.slice V0 nv vc).ownBlock = some j → j < nb) := fun j hj => by have := (hs.evs.lt j (by rw [hnv]; exact hj)).2; omega
  have hbs : base ≤ W.heap.size := by omega
  clear hs hnv hns hno hbv hbd hbg hc hz hza hn hf1 hb4 hz0 hB0 hB1 hB2 hB3
  obtain ⟨i0, hi, hy0, hy1, hy2⟩ := info_parts info_evs
  have HI := Lib.hid hi
  have HI0 := Lib.hid hy0
  have HI1 := Lib.hid hy1
  have HI2 := Lib.hid hy2
  clear hi hy0 hy1 hy2
  go_enter Tryd.func42, Tryd.ntmps42
  go_upto_region 2 with (at_builtin; refine wpList_append_own_at _ rfl (.tmp 10) (.tmp 12) 31 rfl base 42 i0 _ 7 56 Tryd.underlying31 HI.out HI0.out HI1.out HI2.out rfl (by decide) (.slice V0 nv vc) nv (rowC s.evs) (by simp [Act.eval]) (own_bel HVO.out (rp_one1 _ _)) ⟨W.heap.size, 0, none⟩ 1 1 [.int .i64 x0, .int .i64 x1, .int .i64 x2, .int .i64 x3, .int .i64 x4, .int .i64 x5, .int .i64 x6] (by simp [Act.eval]) rfl (rp_cellsA _ _ _) (by simp [Value.oneCell']) (by unfold maxLen; omega) (by omega) (by simp only [new_size]; omega) ?_; intro v9 w9 hown9 hgrow9 hnil9 hob9; obtain ⟨A9, r9, rfl⟩ := own_slice hown9; have HOW := Lib.hid hown9; have HGR := Lib.hid hgrow9; have HOB := Lib.hid hob9; have hm9 : w9.heap[nb + 1]? = W.heap[nb + 1]? := (hgrow9.block (nb + 1) (by simp only [new_size]; omega) (fun e => by have := HVL.out _ e.symm; omega)).trans ((rp_one1 W _).block (nb + 1) hz1); have c9 : w9.cell? ⟨nb + 1, 1, none⟩ = some (.slice V0 nv vc) := (World.cell?_of_block (w := W) (a := ⟨nb + 1, 1, none⟩) hm9).trans b1; have g9 : w9.frozen? ⟨nb + 1, 1, none⟩ = false := (World.frozen?_of_block (w := W) (a := ⟨nb + 1, 1, none⟩) hm9).trans f1; have hz9 : nb + 1 < w9.heap.size := World.block_lt_of_cell? w9 _ c9; have HM9 := Lib.hid hm9; clear hown9 hgrow9 hob9 hm9 hnil9)
  obtain ⟨w10, hw10⟩ : ∃ x, w9.setCell ⟨nb + 1, 1, none⟩ (.slice A9 (nv + 1) r9) = x := ⟨_, rfl⟩
  have hfr10 : FrL [bxV (nb + 1), .slice V0 nv vc] [bxV (nb + 1), .slice A9 (nv + 1) r9] W w10 := by
    rw [← hw10]
    exact (grown_fr (rp_one1 W _) HGR.out (by simp) HOB.out (by simp)).trans (setb_fr w9 (by simp) 1 _)
  have HK : Hid (∀ k, k < W.heap.size → k ≠ nb + 1 → (Value.slice V0 nv vc).ownBlock ≠ some k → w10.heap[k]? = W.heap[k]?) := fun k h1 h2 h3 => (hfr10.blk k ⟨h1, fun u hu => by
    simp only [List.mem_cons, List.not_mem_nil, or_false] at hu
    rcases hu with rfl | rfl
    · simp [Value.ownBlock]; omega
    · exact h3⟩).1
  have hzW := HZ0.out
  have hvn : ∀ k, nb ≤ k → (Value.slice V0 nv vc).ownBlock ≠ some k := fun k hk e => by have := HVL.out k e; omega
  have h0' : w10.heap[nb]? = some (.cells #[.slice C0 k0 q0, .slice C1 k1 q1, .slice C2 k2 q2, .slice C3 k3 q3, .slice C4 k4 q4, .int .i64 self, .int .i64 procs] 77 (0, 0)) := (HK.out nb (by omega) (by omega) (hvn _ (by omega))).trans H0.out
  have h2' : w10.heap[nb + 1 + 1]? = some (.cells #[.int .i64 x0, .int .i64 x1, .int .i64 x2, .int .i64 x3, .int .i64 x4, .int .i64 x5, .int .i64 x6] 42 (0, 0)) := (HK.out _ (by omega) (by omega) (hvn _ (by omega))).trans H2.out
  have h3' : w10.heap[nb + 1 + 1 + 1]? = some (.cells #[.slice none 0 0, .slice none 0 0, .slice none 0 0, .slice none 0 0] 36 (0, 0)) := (HK.out _ (by omega) (by omega) (hvn _ (by omega))).trans H3.out
  have h1' : w10.heap[nb + 1]? = some (.cells #[.slice Z n zc, .slice A9 (nv + 1) r9, .slice S0 ns sc, .slice O0 no oc] 36 (0, 0)) := by
    rw [← hw10, blk_set (HM9.out.trans H1.out)]; rfl
  have h9l : w9.heap.size = w10.heap.size := by rw [← hw10, set_size]
  have hob10 : (Value.slice A9 (nv + 1) r9).ownBlock = (Value.slice V0 nv vc).ownBlock ∨ (Value.slice A9 (nv + 1) r9).ownBlock = some W.heap.size.succ := by have := HOB.out; rwa [new_size] at this
  have hve : w10.ownsRow base 42 7 (.slice A9 (nv + 1) r9) (nv + 1) (rowC s.evs ++ [.int .i64 x0, .int .i64 x1, .int .i64 x2, .int .i64 x3, .int .i64 x4, .int .i64 x5, .int .i64 x6]) := by
    rw [← hw10]
    exact own_set HOW.out _ (fun e => by
      rcases hob10 with h | h
      · rw [h] at e; exact hvn (nb + 1) (by omega) e
      · rw [h] at e; injection e with e; have e' : W.heap.size.succ = nb + 1 := e; omega) _
  have HS' := HS.out
  rw [HNV.out, HNS.out, HNO.out] at HS'
  have hsl : ∀ j, (Value.slice S0 ns sc).ownBlock = some j → j < nb := fun j hj => by have := (HS'.sent.lt j hj).2; have := HNB.out; omega
  have hol : ∀ j, (Value.slice O0 no oc).ownBlock = some j → j < nb := fun j hj => by have := (HS'.outs.lt j hj).2; have := HNB.out; omega
  have hlow : ∀ k, k < nb → (Value.slice V0 nv vc).ownBlock ≠ some k → w10.heap[k]? = w.heap[k]? := fun k h1 h2 => (HK.out k (by omega) (by omega) h2).trans (HB4.out.block k (by have := HNB.out; omega))
  have hso : SOwn base w10 { s with evs := s.evs ++ [[x0, x1, x2, x3, x4, x5, x6]] } (.slice A9 (nv + 1) r9) (.slice S0 ns sc) (.slice O0 no oc) := by
    refine ⟨?_, ?_, ?_, ?_, ?_, HS'.so⟩
    · show w10.ownsRow base _ 7 _ (s.evs ++ [[x0, x1, x2, x3, x4, x5, x6]]).length (rowC (s.evs ++ [[x0, x1, x2, x3, x4, x5, x6]]))
      rw [List.length_append, rowC_snoc, HNV.out]; exact hve
    · have := own_at HS'.sent (w' := w10) (fun j hj => hlow j (hsl j hj) (fun e => HS'.vs j e hj)); rw [← HNS.out] at this; rw [← HNS.out]; exact this
    · have := own_at HS'.outs (w' := w10) (fun j hj => hlow j (hol j hj) (fun e => HS'.vo j e hj)); rw [← HNO.out] at this; rw [← HNO.out]; exact this
    · intro j hj hj2
      rcases hob10 with h | h
      · rw [h] at hj; exact HS'.vs j hj hj2
      · rw [h] at hj; injection hj with hj; have := hsl j hj2; omega
    · intro j hj hj2
      rcases hob10 with h | h
      · rw [h] at hj; exact HS'.vo j hj hj2
      · rw [h] at hj; injection hj with hj; have := hol j hj2; omega
  have hz10 : nb + 1 + 1 + 1 < w10.heap.size := lt_of_block h3'
  have hzr : RwAt w10 1 (s.cells.map (Value.int .i64)) Z n := by
    refine ⟨HZR.out.1, fun h => ?_⟩
    obtain ⟨b, o, hA, hcc⟩ := HZR.out.2 h
    have hl1 : 0 < (s.cells.map (Value.int .i64)).length := by rw [HZR.out.1]; omega
    obtain ⟨v, r, e⟩ := List.exists_cons_of_length_pos hl1
    have hbl : b < w.heap.size := by rw [e] at hcc; exact hcc.lt
    exact ⟨b, o, hA, hcc.of_block (hlow b (by have := HNB.out; omega) (HZA.out b o hA))⟩
  have hbel : Below B w w10 := by
    refine ⟨hfr10.os.trans HB4.out.os, hfr10.tape.trans HB4.out.tape, hfr10.output.trans HB4.out.output, by have := HB4.out.size; have := hfr10.size; omega, fun k hk => hlow k (by have := HNB.out; omega) (fun e => by have := (HS'.evs.lt k e).1; omega)⟩
  have HBE := Lib.hid hbel
  have HSO := Lib.hid hso
  have HZ10 := Lib.hid hzr
  have HLW := Lib.hid hlow
  have HSL := Lib.hid hsl
  have HOL := Lib.hid hol
  have G0 := Lib.hid h0'
  have G1 := Lib.hid h1'
  have G3 := Lib.hid h3'
  have G2 := Lib.hid h2'
  have HO10 := Lib.hid hob10
  have HVE := Lib.hid hve
  obtain ⟨p0, p1, p2, p3, p4, p5, p6⟩ := box7 h0'
  obtain ⟨y0, y1, y2, y3, y4, y5, y6⟩ := box7 h2'
  simp only [hw10]
  have HH := handler_ev self procs C0 C1 C2 C3 C4 k0 q0 k1 q1 k2 q2 k3 q3 k4 q4 x0 x1 x2 x3 x4 x5 x6 w10
  rw [HBV.out] at HH
  obtain ⟨src, hsrc⟩ : ∃ x, (if x0 = 1 then x2 else self) = x := ⟨_, rfl⟩
  rw [hsrc] at HH
  have HSR := Lib.hid hsrc
  have HHH := Lib.hid HH
  clear HH hsrc hw10 hfr10 hvn h0' h1' h2' h3' h9l hob10 hve HS' hsl hol hlow hso hzr hbel hzW
  go_wp2_with fail
  refine HHH.out.mono ?_
  rintro e w11 ⟨rfl, hb11⟩
  have HB11 := Lib.hid hb11
  have K0 := below_blk hb11 G0.out
  have K1 := below_blk hb11 G1.out
  have K2 := below_blk hb11 G2.out
  have K3 := below_blk hb11 G3.out
  have HK3 := Lib.hid K3
  obtain ⟨t0, t1, t2, t3, t4, t5, t6⟩ := box7 K0
  obtain ⟨u0, u1, u2, u3⟩ := box4 K1
  obtain ⟨_, _, _, _, _, _, e6⟩ := box7 K2
  clear p0 p1 p2 p3 p4 p5 p6 y0 y1 y2 y3 y4 y5 y6 K0 K1 K2 K3
  have HEX := execute_any base self procs src x6 (bodyP c [x0, x1, x2, x3, x4, x5, x6]) HBG.out { s with evs := s.evs ++ [[x0, x1, x2, x3, x4, x5, x6]] } w11 C0 C1 C2 C3 C4 k0 k1 k2 k3 k4 q0 q1 q2 q3 q4 Z n zc (.slice A9 (nv + 1) r9) (.slice S0 ns sc) (.slice O0 no oc) A len ac
    (HBD.out.still (fun k h1 h2 => ⟨by have := HBE.out.size; have := hb11.size; omega, (hb11.block k (by have := HBE.out.size; omega)).trans (HBE.out.block k h1)⟩)) (HZ10.out.below (by decide) hb11) HN.out h0 hm ⟨own_bel HSO.out.evs hb11, own_bel HSO.out.sent hb11, own_bel HSO.out.outs hb11, HSO.out.vs, HSO.out.vo, HSO.out.so⟩ (by have := hb11.size; omega) (by have := HF1.out; simp only; omega)
  have hnx : exeP ⟨self, procs, src, x6⟩ (bodyP c [x0, x1, x2, x3, x4, x5, x6]) { s with evs := s.evs ++ [[x0, x1, x2, x3, x4, x5, x6]] } = nextP c self procs s [x0, x1, x2, x3, x4, x5, x6] := by
    rw [← HSR.out]; rfl
  rw [hnx] at HEX
  obtain ⟨s1, hs1⟩ : ∃ x, nextP c self procs s [x0, x1, x2, x3, x4, x5, x6] = x := ⟨_, rfl⟩
  rw [hs1] at HEX
  have HE := Lib.hid HEX
  have HS1 := Lib.hid hs1
  clear hs1 hnx HEX hb11
  go_wp2_with fail
  refine HE.out.mono ?_
  rintro e w12 ⟨Z', zc', S', O', rfl, hc12, ho12, hf12, a1, a2⟩
  obtain ⟨S1, sc1, rfl⟩ := own_slice ho12.sent
  obtain ⟨O1, oc1, rfl⟩ := own_slice ho12.outs
  have hrb : w12.heap[nb + 1 + 1 + 1]? = some (.cells #[.slice none 0 0, .slice none 0 0, .slice none 0 0, .slice none 0 0] 36 (0, 0)) := by
    refine (hf12.blk (nb + 1 + 1 + 1) ⟨lt_of_block HK3.out, fun u hu e => ?_⟩).1.trans HK3.out
    simp only [List.mem_cons, List.not_mem_nil, or_false] at hu
    rcases hu with rfl | rfl
    · have := HSL.out _ e; omega
    · have := HOL.out _ e; omega
  have HQ : Hid (NxtPost base s1 (.slice V0 nv vc) (.slice S0 ns sc) (.slice O0 no oc) w (.returned (.agg #[.slice Z' s1.cells.length zc', .slice A9 (nv + 1) r9, .slice S1 s1.sent.length sc1, .slice O1 s1.outs.length oc1])) (set4 w12 (nb + 1 + 1 + 1) (.slice Z' s1.cells.length zc') (.slice A9 (nv + 1) r9) (.slice S1 s1.sent.length sc1) (.slice O1 s1.outs.length oc1))) := by
    have e1 := HBE.out
    have e2 := HB11.out
    have e3 := HZ0.out
    refine nxt_end (w11 := w11) (W := W) HNB.out (show nb ≤ nb + 1 + 1 + 1 by omega) (e2.os.trans e1.os) (e2.tape.trans e1.tape) (e2.output.trans e1.output) (lt_of_block HK3.out) HO10.out (by omega) HVL.out HSL.out HOL.out (fun j hj => by have := (HVE.out.lt j hj).2; have := e2.size; omega) (fun k h1 h2 => (e2.block k (by omega)).trans (HLW.out k h1 h2)) hc12 ho12 hf12 a1 a2
  obtain ⟨d0, d1, d2, d3⟩ := box4 hrb
  have g0 := frz hrb 0
  have g1 := frz hrb 1
  have g2 := frz hrb 2
  have g3 := frz hrb 3
  have hz9' : nb + 1 + 1 + 1 < w12.heap.size := lt_of_block hrb
  clear hrb hc12 ho12 hf12 a1 a2 HE t0 t1 t2 t3 t4 t5 t6 u0 u1 u2 u3 e6 hz10
  go_wp2_with fail
  refine bodyPost_ret (v := .agg #[.slice Z' s1.cells.length zc', .slice A9 (nv + 1) r9, .slice S1 s1.sent.length sc1, .slice O1 s1.outs.length oc1]) ?_ rfl ?_
  · simp [results, Tryd.results42, go_sem, World.cell?_setCell_same, World.cell?_setCell_other, d0, d1, d2, d3]
  · rw [HS1.out]; exact HQ.out
end Go.Proofs.YtgblgkkbggdopaaDoor

/-
  What Start and Replay of package process do (gens50.py writes this text). Conditions: those of WalkPx; at most 100000 events.
-/
namespace Go.Proofs.YtgblgkkbggdopaaDoor
open Go.RowKit

abbrev nilV : Value := .slice none 0 0
theorem sown_nil (base : Nat) (w : World) (zs : List Int) : SOwn base w ⟨zs, [], [], []⟩ nilV nilV nilV := ⟨World.ownsRow_nil _ _ _ _, World.ownsRow_nil _ _ _ _, World.ownsRow_nil _ _ _ _, apt_nil _ _ _, apt_nil _ _ _, apt_nil _ _ _⟩

set_option maxHeartbeats 4000000 in
set_option maxRecDepth 100000 in
theorem start_any (base B : Nat) (self procs : Int) (C0 : Option Addr) (C1 : Option Addr) (C2 : Option Addr) (C3 : Option Addr) (C4 : Option Addr) (k0 q0 k1 q1 k2 q2 k3 q3 k4 q4 : Nat) (c : Cd) (w : World) (hc : CdAt B w c C0 C1 C2 C3 C4 k0 q0 k1 q1 k2 q2 k3 q3 k4 q4) (hbase : base ≤ w.heap.size) :
    Calls Tryd.prog 12 #[.agg #[.slice C0 k0 q0, .slice C1 k1 q1, .slice C2 k2 q2, .slice C3 k3 q3, .slice C4 k4 q4], .int .i64 self, .int .i64 procs] w (NxtPost base (startP c self procs) nilV nilV nilV w) := by
  obtain ⟨nb, hnb⟩ : ∃ x, w.heap.size = x := ⟨_, rfl⟩
  obtain ⟨W, hW⟩ : ∃ x, (((w.alloc (.cells #[.slice C0 k0 q0, .slice C1 k1 q1, .slice C2 k2 q2, .slice C3 k3 q3, .slice C4 k4 q4] 29)).alloc (.cells #[.slice none 0 0, .slice none 0 0, .slice none 0 0, .slice none 0 0] 36)).alloc (.cells #[.slice C0 k0 q0, .slice C1 k1 q1, .slice C2 k2 q2, .slice C3 k3 q3, .slice C4 k4 q4, .int .i64 self, .int .i64 procs] 77)) = x := ⟨_, rfl⟩
  have hz0 : W.heap.size = nb + 1 + 1 + 1 := by rw [← hW, ← hnb]; simp only [new_size]
  have hb4 : Below w.heap.size w W := by rw [← hW]; exact ((((Below.refl _ _).alloc (Nat.le_refl _) _).alloc (by simp only [new_size]; omega) _).alloc (by simp only [new_size]; omega) _)
  have hB0 : W.heap[nb]? = some (.cells #[.slice C0 k0 q0, .slice C1 k1 q1, .slice C2 k2 q2, .slice C3 k3 q3, .slice C4 k4 q4] 29 (0, 0)) := by
    have h := new_blk w (.cells #[.slice C0 k0 q0, .slice C1 k1 q1, .slice C2 k2 q2, .slice C3 k3 q3, .slice C4 k4 q4] 29)
    rw [hnb] at h
    rw [← hW]; rw [alloc_blk _ _ (by simp only [new_size]; omega)]; rw [alloc_blk _ _ (by simp only [new_size]; omega)]; exact h
  have hB1 : W.heap[nb + 1]? = some (.cells #[.slice none 0 0, .slice none 0 0, .slice none 0 0, .slice none 0 0] 36 (0, 0)) := by
    have h := new_blk (w.alloc (.cells #[.slice C0 k0 q0, .slice C1 k1 q1, .slice C2 k2 q2, .slice C3 k3 q3, .slice C4 k4 q4] 29)) (.cells #[.slice none 0 0, .slice none 0 0, .slice none 0 0, .slice none 0 0] 36)
    simp only [new_size, hnb] at h
    rw [← hW]; rw [alloc_blk _ _ (by simp only [new_size]; omega)]; exact h
  have hB2 : W.heap[nb + 1 + 1]? = some (.cells #[.slice C0 k0 q0, .slice C1 k1 q1, .slice C2 k2 q2, .slice C3 k3 q3, .slice C4 k4 q4, .int .i64 self, .int .i64 procs] 77 (0, 0)) := by
    have h := new_blk ((w.alloc (.cells #[.slice C0 k0 q0, .slice C1 k1 q1, .slice C2 k2 q2, .slice C3 k3 q3, .slice C4 k4 q4] 29)).alloc (.cells #[.slice none 0 0, .slice none 0 0, .slice none 0 0, .slice none 0 0] 36)) (.cells #[.slice C0 k0 q0, .slice C1 k1 q1, .slice C2 k2 q2, .slice C3 k3 q3, .slice C4 k4 q4, .int .i64 self, .int .i64 procs] 77)
    simp only [new_size, hnb] at h
    rw [← hW]; exact h
  obtain ⟨c0, c1, c2, c3, c4, _⟩ := box5 hB0
  obtain ⟨p0, p1, p2, p3, p4, p5, p6⟩ := box7 hB2
  have H1 := Lib.hid hB1
  have HB4 := Lib.hid hb4
  have HNB := Lib.hid hnb
  have HZ0 := Lib.hid hz0
  have HEX := execute_any base self procs self 0 c.start hc.big.1 ⟨c.init, [], [], []⟩ W C0 C1 C2 C3 C4 k0 k1 k2 k3 k4 q0 q1 q2 q3 q4 C0 k0 q0 nilV nilV nilV C1 k1 q1
    (hc.start.still (fun k h1 h2 => ⟨by omega, hb4.block k (by omega)⟩)) (hc.init.below (by decide) hb4) hc.len hc.pos hc.few (sown_nil _ _ _) (by omega) (by simp)
  have hnx : exeP ⟨self, procs, self, 0⟩ c.start ⟨c.init, [], [], []⟩ = startP c self procs := rfl
  rw [hnx] at HEX
  obtain ⟨s1, hs1⟩ : ∃ x, startP c self procs = x := ⟨_, rfl⟩
  rw [hs1] at HEX ⊢
  have HE := Lib.hid HEX
  clear hs1 hnx HEX hB0 hB1 hB2 hb4 hz0 hc
  go_enter Tryd.func12, Tryd.ntmps12
  go_upto_region 2 with fail
  clear hW
  go_wp2_with fail
  refine HE.out.mono ?_
  rintro e w12 ⟨Z', zc', S', O', rfl, hc12, ho12, hf12, a1, a2⟩
  obtain ⟨S1, sc1, rfl⟩ := own_slice ho12.sent
  obtain ⟨O1, oc1, rfl⟩ := own_slice ho12.outs
  have hrb : w12.heap[nb + 1]? = some (.cells #[.slice none 0 0, .slice none 0 0, .slice none 0 0, .slice none 0 0] 36 (0, 0)) := by
    refine (hf12.blk (nb + 1) ⟨lt_of_block H1.out, fun u hu e => ?_⟩).1.trans H1.out
    simp only [List.mem_cons, List.not_mem_nil, or_false] at hu
    rcases hu with rfl | rfl <;> cases e
  have HQ : Hid (NxtPost base s1 nilV nilV nilV w (.returned (.agg #[.slice Z' s1.cells.length zc', nilV, .slice S1 s1.sent.length sc1, .slice O1 s1.outs.length oc1])) (set4 w12 (nb + 1) (.slice Z' s1.cells.length zc') nilV (.slice S1 s1.sent.length sc1) (.slice O1 s1.outs.length oc1))) := by
    have e3 := HZ0.out
    refine nxt_end (w11 := W) (W := W) HNB.out (by omega) HB4.out.os HB4.out.tape HB4.out.output (by omega) (.inl rfl) (by omega) (fun j hj => by cases hj) (fun j hj => by cases hj) (fun j hj => by cases hj) (fun j hj => by cases hj) (fun k h1 h2 => HB4.out.block k (by have := HNB.out; omega)) hc12 ho12 hf12 a1 a2
  obtain ⟨d0, d1, d2, d3⟩ := box4 hrb
  have g0 := frz hrb 0
  have g1 := frz hrb 1
  have g2 := frz hrb 2
  have g3 := frz hrb 3
  have hz9' : nb + 1 < w12.heap.size := lt_of_block hrb
  clear hrb hc12 ho12 hf12 a1 a2 HE p0 p1 p2 p3 p4 p5 p6 c0 c1 c2 c3 c4
  go_wp2_with fail
  refine bodyPost_ret (v := .agg #[.slice Z' s1.cells.length zc', nilV, .slice S1 s1.sent.length sc1, .slice O1 s1.outs.length oc1]) ?_ rfl ?_
  · simp [results, Tryd.results12, go_sem, World.cell?_setCell_same, World.cell?_setCell_other, d0, d1, d2, d3]
  · exact HQ.out

/-- What Replay returns. -/
def RepPost (base : Nat) (s1 : PS) (w : World) (e : Ending) (w' : World) : Prop :=
  ∃ (Z : Option Addr) (zc : Nat) (V S O : Value), e = .returned (.agg #[.slice Z s1.cells.length zc, V, S, O]) ∧ w'.ownsRow base 3 1 (.slice Z s1.cells.length zc) s1.cells.length (s1.cells.map (Value.int .i64)) ∧
    SOwn base w' s1 V S O ∧ Below w.heap.size w w' ∧ Apt (.slice Z s1.cells.length zc) V ∧ Apt (.slice Z s1.cells.length zc) S ∧ Apt (.slice Z s1.cells.length zc) O

/-- The head of Replay's loop. -/
structure RpHead (base lo sb : Nat) (w6 : World) (V0 S0 O0 : Value) (s : PS) (Z : Option Addr) (zc : Nat) (V S O : Value) (wr : World) : Prop where
  box : wr.heap[sb]? = some (.cells #[.slice Z s.cells.length zc, V, S, O] 36 (0, 0))
  cells : wr.ownsRow lo 3 1 (.slice Z s.cells.length zc) s.cells.length (s.cells.map (Value.int .i64))
  own : SOwn base wr s V S O
  zv : Apt (.slice Z s.cells.length zc) V
  zs : Apt (.slice Z s.cells.length zc) S
  zo : Apt (.slice Z s.cells.length zc) O
  fr : FrL [bxV sb, V0, S0, O0] [bxV sb, V, S, O] w6 wr
  nz : (Value.slice Z s.cells.length zc).ownBlock ≠ some sb
  nv : V.ownBlock ≠ some sb
  ns : S.ownBlock ≠ some sb
  no : O.ownBlock ≠ some sb

theorem RpHead.next {base lo sb : Nat} {w6 : World} {V0 S0 O0 : Value} {s s1 : PS} {Z : Option Addr} {zc : Nat} {V S O : Value} {wr w7 w8 : World} {Z' : Option Addr} {zc' : Nat} {V' S' O' : Value} (h : RpHead base lo sb w6 V0 S0 O0 s Z zc V S O wr) (hlo : lo ≤ w7.heap.size)
    (h7 : Below wr.heap.size wr w7) (hz : w8.ownsRow w7.heap.size 3 1 (.slice Z' s1.cells.length zc') s1.cells.length (s1.cells.map (Value.int .i64))) (ho : SOwn base w8 s1 V' S' O') (hf : FrL [V, S, O] [V', S', O'] w7 w8)
    (a0 : Apt (.slice Z' s1.cells.length zc') V') (a1 : Apt (.slice Z' s1.cells.length zc') S') (a2 : Apt (.slice Z' s1.cells.length zc') O') :
    RpHead base lo sb w6 V0 S0 O0 s1 Z' zc' V' S' O' (set4 w8 sb (.slice Z' s1.cells.length zc') V' S' O') ∧ w8.heap[sb]? = some (.cells #[.slice Z s.cells.length zc, V, S, O] 36 (0, 0)) := by
  have hl := lt_of_block h.box
  have e7 := h7.size
  have hid : Idl w7 [V, S, O] sb := ⟨by omega, fun u hu => by
    simp only [List.mem_cons, List.not_mem_nil, or_false] at hu
    rcases hu with rfl | rfl | rfl
    · exact h.nv
    · exact h.ns
    · exact h.no⟩
  have hb8 := (hf.blk sb hid).1.trans ((h7.block sb hl).trans h.box)
  have hid8 := (hf.blk sb hid).2
  have nz : (Value.slice Z' s1.cells.length zc').ownBlock ≠ some sb := fun e => by have := (hz.lt sb e).1; omega
  have s4 : ∀ k, k ≠ sb → (set4 w8 sb (.slice Z' s1.cells.length zc') V' S' O').heap[k]? = w8.heap[k]? := fun k hk => set4_blk _ _ _ _ _ _ hk
  refine ⟨⟨?_, ?_, ⟨?_, ?_, ?_, ho.vs, ho.vo, ho.so⟩, a0, a1, a2, ?_, nz, hid8.2 _ (by simp), hid8.2 _ (by simp), hid8.2 _ (by simp)⟩, hb8⟩
  · have k0 := blk_set hb8 0 (.slice Z' s1.cells.length zc')
    have k1 := blk_set k0 1 V'
    have k2 := blk_set k1 2 S'
    have k3 := blk_set k2 3 O'
    exact k3
  · have := own_at hz (fun j hj => s4 j (fun e => nz (by rw [← e]; exact hj)))
    exact ⟨this.1, this.2.imp id fun ⟨g, cap, cur, k1, k2, k3⟩ => ⟨g, cap, cur, k1, by omega, k3⟩⟩
  · exact own_at ho.evs (fun j hj => s4 j (fun e => hid8.2 V' (by simp) (by rw [← e]; exact hj)))
  · exact own_at ho.sent (fun j hj => s4 j (fun e => hid8.2 S' (by simp) (by rw [← e]; exact hj)))
  · exact own_at ho.outs (fun j hj => s4 j (fun e => hid8.2 O' (by simp) (by rw [← e]; exact hj)))
  · refine h.fr.trans ?_
    have hb := set4_below (B := sb) w8 (Nat.le_refl _) (.slice Z' s1.cells.length zc') V' S' O'
    refine ⟨by rw [hb.os, hf.os, h7.os], by rw [hb.tape, hf.tape, h7.tape], by rw [hb.output, hf.output, h7.output], by rw [set4_size]; have := hf.size; omega, fun k hk => ?_⟩
    have hk0 := hk.1
    have hks : k ≠ sb := fun e => hk.2 (bxV sb) (by simp) (by simp [Value.ownBlock]; exact e.symm)
    have hi := hf.blk k ⟨by omega, fun u hu => hk.2 u (by simp only [List.mem_cons] at hu ⊢; exact .inr hu)⟩
    refine ⟨((s4 k hks).trans hi.1).trans (h7.block k hk0), by rw [set4_size]; exact hi.2.1, fun u hu => ?_⟩
    simp only [List.mem_cons, List.not_mem_nil, or_false] at hu
    rcases hu with rfl | hu
    · simp [Value.ownBlock]; exact fun e => hks e.symm
    · exact hi.2.2 u (by simpa using hu)
end Go.Proofs.YtgblgkkbggdopaaDoor

/-
  What Replay of package process does (gens51.py writes this text). Conditions: those of WalkPx; at most 100000 events.
-/
namespace Go.Proofs.YtgblgkkbggdopaaDoor
open Go.RowKit

theorem len7 (r : List Int) (h : r.length = 7) : ∃ x0 x1 x2 x3 x4 x5 x6, r = [x0, x1, x2, x3, x4, x5, x6] := by
  match r, h with
  | [x0, x1, x2, x3, x4, x5, x6], _ => exact ⟨x0, x1, x2, x3, x4, x5, x6, rfl⟩

set_option maxHeartbeats 8000000 in
set_option maxRecDepth 100000 in
theorem replay_any (B : Nat) (self procs : Int) (C0 : Option Addr) (C1 : Option Addr) (C2 : Option Addr) (C3 : Option Addr) (C4 : Option Addr) (k0 q0 k1 q1 k2 q2 k3 q3 k4 q4 : Nat) (c : Cd) (w : World) (l : List (List Int)) (hk : ∀ r ∈ l, r.length = 7) (hl : l.length ≤ 100000) (A : Option Addr) (n lc : Nat) (ha : RwAt w 7 (rowC l) A n) (hn : n = l.length) (hc : CdAt B w c C0 C1 C2 C3 C4 k0 q0 k1 q1 k2 q2 k3 q3 k4 q4) (hB : B ≤ w.heap.size) :
    Calls Tryd.prog 17 #[.agg #[.slice C0 k0 q0, .slice C1 k1 q1, .slice C2 k2 q2, .slice C3 k3 q3, .slice C4 k4 q4], .int .i64 self, .int .i64 procs, .slice A n lc] w (RepPost w.heap.size (replayP c self procs l) w) := by
  obtain ⟨nb, hnb⟩ : ∃ x, w.heap.size = x := ⟨_, rfl⟩
  obtain ⟨W, hW⟩ : ∃ x, (((w.alloc (.cells #[.slice C0 k0 q0, .slice C1 k1 q1, .slice C2 k2 q2, .slice C3 k3 q3, .slice C4 k4 q4] 29)).alloc (.cells #[.slice none 0 0, .slice none 0 0, .slice none 0 0, .slice none 0 0] 36)).alloc (.cells #[.slice C0 k0 q0, .slice C1 k1 q1, .slice C2 k2 q2, .slice C3 k3 q3, .slice C4 k4 q4, .int .i64 self, .int .i64 procs] 77)) = x := ⟨_, rfl⟩
  have hz0 : W.heap.size = nb + 1 + 1 + 1 := by rw [← hW, ← hnb]; simp only [new_size]
  have hb4 : Below w.heap.size w W := by rw [← hW]; exact ((((Below.refl _ _).alloc (Nat.le_refl _) _).alloc (by simp only [new_size]; omega) _).alloc (by simp only [new_size]; omega) _)
  have hB0 : W.heap[nb]? = some (.cells #[.slice C0 k0 q0, .slice C1 k1 q1, .slice C2 k2 q2, .slice C3 k3 q3, .slice C4 k4 q4] 29 (0, 0)) := by
    have h := new_blk w (.cells #[.slice C0 k0 q0, .slice C1 k1 q1, .slice C2 k2 q2, .slice C3 k3 q3, .slice C4 k4 q4] 29)
    rw [hnb] at h
    rw [← hW]; rw [alloc_blk _ _ (by simp only [new_size]; omega)]; rw [alloc_blk _ _ (by simp only [new_size]; omega)]; exact h
  have hB1 : W.heap[nb + 1]? = some (.cells #[.slice none 0 0, .slice none 0 0, .slice none 0 0, .slice none 0 0] 36 (0, 0)) := by
    have h := new_blk (w.alloc (.cells #[.slice C0 k0 q0, .slice C1 k1 q1, .slice C2 k2 q2, .slice C3 k3 q3, .slice C4 k4 q4] 29)) (.cells #[.slice none 0 0, .slice none 0 0, .slice none 0 0, .slice none 0 0] 36)
    simp only [new_size, hnb] at h
    rw [← hW]; rw [alloc_blk _ _ (by simp only [new_size]; omega)]; exact h
  have hB2 : W.heap[nb + 1 + 1]? = some (.cells #[.slice C0 k0 q0, .slice C1 k1 q1, .slice C2 k2 q2, .slice C3 k3 q3, .slice C4 k4 q4, .int .i64 self, .int .i64 procs] 77 (0, 0)) := by
    have h := new_blk ((w.alloc (.cells #[.slice C0 k0 q0, .slice C1 k1 q1, .slice C2 k2 q2, .slice C3 k3 q3, .slice C4 k4 q4] 29)).alloc (.cells #[.slice none 0 0, .slice none 0 0, .slice none 0 0, .slice none 0 0] 36)) (.cells #[.slice C0 k0 q0, .slice C1 k1 q1, .slice C2 k2 q2, .slice C3 k3 q3, .slice C4 k4 q4, .int .i64 self, .int .i64 procs] 77)
    simp only [new_size, hnb] at h
    rw [← hW]; exact h
  obtain ⟨c0, c1, c2, c3, c4, _⟩ := box5 hB0
  have H1 := Lib.hid hB1
  have H2 := Lib.hid hB2
  have HB4 := Lib.hid hb4
  have HNB := Lib.hid hnb
  have HZ0 := Lib.hid hz0
  have HC := Lib.hid hc
  have HA := Lib.hid ha
  have HK := Lib.hid hk
  have HN := Lib.hid hn
  have hnl : n ≤ 100000 := by omega
  have HBB : Hid (B ≤ nb) := by show _ ≤ _; omega
  have HE := Lib.hid (start_any nb B self procs C0 C1 C2 C3 C4 k0 q0 k1 q1 k2 q2 k3 q3 k4 q4 c W (hc.at' (fun k h => hb4.block k (by omega))) (by omega))
  clear hB0 hB1 hB2 hb4 hz0 hc ha hk hn hl hB
  go_enter Tryd.func17, Tryd.ntmps17
  go_upto_region 2 with fail
  clear hW
  go_wp2_with fail
  refine HE.out.mono ?_
  rintro e w5 ⟨Z0, zc0, V0, S0, O0, rfl, hz5, ho5, hf5, a0, a1, a2⟩
  obtain ⟨V1, vc, rfl⟩ := own_slice ho5.evs
  obtain ⟨S1, sc, rfl⟩ := own_slice ho5.sent
  obtain ⟨O1, oc, rfl⟩ := own_slice ho5.outs
  obtain ⟨s0, hs0⟩ : ∃ x, startP c self procs = x := ⟨_, rfl⟩
  rw [hs0] at hz5 ho5 hf5 a0 a1 a2
  simp only [hs0]
  have HS0 := Lib.hid hs0
  have hid5 : ∀ k, k < W.heap.size → w5.heap[k]? = W.heap[k]? ∧ Idl w5 [.slice V1 s0.evs.length vc, .slice S1 s0.sent.length sc, .slice O1 s0.outs.length oc] k := fun k hk => hf5.blk k ⟨hk, fun u hu e => by
    simp only [List.mem_cons, List.not_mem_nil, or_false] at hu
    rcases hu with rfl | rfl | rfl <;> cases e⟩
  have HID := Lib.hid hid5
  have HZ5 := Lib.hid hz5
  have HO5 := Lib.hid ho5
  have HF5 := Lib.hid hf5
  have HA0 := Lib.hid a0
  have HA1 := Lib.hid a1
  have HA2 := Lib.hid a2
  clear hs0 hid5 hz5 ho5 hf5 a0 a1 a2 HE c0 c1 c2 c3 c4
  go_upto_block 0 with fail
  obtain ⟨w6, hw6⟩ : ∃ x, w5.alloc (.cells #[.slice Z0 s0.cells.length zc0, .slice V1 s0.evs.length vc, .slice S1 s0.sent.length sc, .slice O1 s0.outs.length oc] 36) = x := ⟨_, rfl⟩
  obtain ⟨sb, hsb⟩ : ∃ x, w5.heap.size = x := ⟨_, rfl⟩
  have h56 : Below w5.heap.size w5 w6 := by rw [← hw6]; exact rp_one1 _ _
  have hsbx : w6.heap[sb]? = some (.cells #[.slice Z0 s0.cells.length zc0, .slice V1 s0.evs.length vc, .slice S1 s0.sent.length sc, .slice O1 s0.outs.length oc] 36 (0, 0)) := by rw [← hw6, ← hsb]; exact new_blk _ _
  have hX : RpHead nb W.heap.size sb w6 (.slice V1 s0.evs.length vc) (.slice S1 s0.sent.length sc) (.slice O1 s0.outs.length oc) (replayP c self procs (l.take 0)) Z0 zc0 (.slice V1 s0.evs.length vc) (.slice S1 s0.sent.length sc) (.slice O1 s0.outs.length oc) w6 := by
    have e0 : replayP c self procs (l.take 0) = s0 := by rw [List.take_zero, ← HS0.out]; rfl
    rw [e0]
    exact ⟨hsbx, own_bel HZ5.out h56, ⟨own_bel HO5.out.evs h56, own_bel HO5.out.sent h56, own_bel HO5.out.outs h56, HO5.out.vs, HO5.out.vo, HO5.out.so⟩, HA0.out, HA1.out, HA2.out, FrL.refl _ _, fun e => by have := (HZ5.out.lt _ e).2; omega, fun e => by have := (HO5.out.evs.lt _ e).2; omega, fun e => by have := (HO5.out.sent.lt _ e).2; omega, fun e => by have := (HO5.out.outs.lt _ e).2; omega⟩
  have hid6 : ∀ k, k < W.heap.size → w6.heap[k]? = W.heap[k]? ∧ Idl w6 [bxV sb, .slice V1 s0.evs.length vc, .slice S1 s0.sent.length sc, .slice O1 s0.outs.length oc] k := fun k hk => by
    have h1 := HID.out k hk
    have h2 := HF5.out.size
    refine ⟨(h56.block k h1.2.1).trans h1.1, Nat.lt_of_lt_of_le h1.2.1 h56.size, fun u hu => ?_⟩
    simp only [List.mem_cons, List.not_mem_nil, or_false] at hu
    rcases hu with rfl | hu
    · simp [Value.ownBlock]; omega
    · exact h1.2.2 u (by simpa using hu)
  have hbel6 : Below nb w w6 := by
    have h1 := HB4.out
    have h2 := HZ0.out
    exact ⟨h56.os.trans (HF5.out.os.trans h1.os), h56.tape.trans (HF5.out.tape.trans h1.tape), h56.output.trans (HF5.out.output.trans h1.output), by have := h56.size; have := HF5.out.size; have := h1.size; omega, fun k hk => ((hid6 k (by omega)).1).trans (h1.block k (by have := HNB.out; omega))⟩
  have HI6 := Lib.hid hid6
  have HX := Lib.hid hX
  have HB6 := Lib.hid hbel6
  have HSB : Hid (W.heap.size ≤ sb) := by show _ ≤ _; have := HF5.out.size; omega
  simp only [hw6, hsb]
  clear hw6 hsb h56 hsbx hX hid6 hbel6 HA0 HA1 HA2 HZ5 HO5 HF5 HID
  go_wp2_with fail
  go_loopg [23] n (fun g i wr => ∃ (k : Nat) (Z : Option Addr) (zc : Nat) (V S O : Value), k + g = n ∧ i = .int .i64 k ∧ Hid (RpHead nb W.heap.size sb w6 (.slice V1 s0.evs.length vc) (.slice S1 s0.sent.length sc) (.slice O1 s0.outs.length oc) (replayP c self procs (l.take k)) Z zc V S O wr))
  case atStart => exact ⟨0, Z0, zc0, _, _, _, by omega, rfl, HX⟩
  case round =>
    obtain ⟨k, Z, zc, V, S, O, hkg, rfl, HX'⟩ := hrel
    have hbr : Below nb w wr := by
      have h1 := HX'.out.fr
      have h2 := HB6.out
      have h3 := HZ0.out
      exact ⟨h1.os.trans h2.os, h1.tape.trans h2.tape, h1.output.trans h2.output, Nat.le_trans h2.size h1.size, fun k hk => ((h1.blk k (HI6.out k (by omega)).2).1).trans (h2.block k hk)⟩
    have HBR := Lib.hid hbr
    have h1r := ((HX'.out.fr.blk (nb + 1) (HI6.out (nb + 1) (lt_of_block H1.out)).2).1.trans (HI6.out (nb + 1) (lt_of_block H1.out)).1).trans H1.out
    have h2r := ((HX'.out.fr.blk (nb + 1 + 1) (HI6.out (nb + 1 + 1) (lt_of_block H2.out)).2).1.trans (HI6.out (nb + 1 + 1) (lt_of_block H2.out)).1).trans H2.out
    have hi1 := (HX'.out.fr.blk (nb + 1) (HI6.out (nb + 1) (lt_of_block H1.out)).2).2
    have hX := HX'.out
    obtain ⟨V2, vc2, rfl⟩ := own_slice hX.own.evs
    obtain ⟨S2, sc2, rfl⟩ := own_slice hX.own.sent
    obtain ⟨O2, oc2, rfl⟩ := own_slice hX.own.outs
    obtain ⟨b0, b1, b2, b3⟩ := box4 hX.box
    have HXR := Lib.hid hX
    have HLN : Hid ((replayP c self procs (l.take k)).cells.length = k0) := by show _ = _; rw [replayP_len, HC.out.len]
    clear hbr
    cases gk with
    | zero =>
      have hge : n ≤ k := by omega
      obtain ⟨d0, d1, d2, d3⟩ := box4 h1r
      have g0 := frz h1r 0
      have g1 := frz h1r 1
      have g2 := frz h1r 2
      have g3 := frz h1r 3
      have hz9 : nb + 1 < wr.heap.size := lt_of_block h1r
      have HI1 := Lib.hid hi1
      obtain ⟨s1, hs1⟩ : ∃ x, replayP c self procs (l.take k) = x := ⟨_, rfl⟩
      have HS1 : Hid (replayP c self procs l = s1) := by show _ = _; rw [← hs1, List.take_of_length_le (by have := HN.out; omega)]
      rw [hs1] at HXR b0 b1 b2 b3 HI1
      have HQ : Hid (RepPost nb s1 w (.returned (.agg #[.slice Z s1.cells.length zc, .slice V2 s1.evs.length vc2, .slice S2 s1.sent.length sc2, .slice O2 s1.outs.length oc2])) (set4 wr (nb + 1) (.slice Z s1.cells.length zc) (.slice V2 s1.evs.length vc2) (.slice S2 s1.sent.length sc2) (.slice O2 s1.outs.length oc2))) := by
        have x := HXR.out
        have hz := HZ0.out
        have s4 : ∀ k, k ≠ nb + 1 → (set4 wr (nb + 1) (.slice Z s1.cells.length zc) (.slice V2 s1.evs.length vc2) (.slice S2 s1.sent.length sc2) (.slice O2 s1.outs.length oc2)).heap[k]? = wr.heap[k]? := fun k hk => set4_blk _ _ _ _ _ _ hk
        refine ⟨Z, zc, _, _, _, rfl, ?_, ⟨?_, ?_, ?_, x.own.vs, x.own.vo, x.own.so⟩, ?_, x.zv, x.zs, x.zo⟩
        · have := own_at x.cells (fun j hj => s4 j (by have := (x.cells.lt j hj).1; omega))
          exact ⟨this.1, this.2.imp id fun ⟨g, cap, cur, k1, k2, k3⟩ => ⟨g, cap, cur, k1, by omega, k3⟩⟩
        · exact own_at x.own.evs (fun j hj => s4 j (fun e => HI1.out.2 (.slice V2 s1.evs.length vc2) (by simp) (by rw [← e]; exact hj)))
        · exact own_at x.own.sent (fun j hj => s4 j (fun e => HI1.out.2 (.slice S2 s1.sent.length sc2) (by simp) (by rw [← e]; exact hj)))
        · exact own_at x.own.outs (fun j hj => s4 j (fun e => HI1.out.2 (.slice O2 s1.outs.length oc2) (by simp) (by rw [← e]; exact hj)))
        · rw [HNB.out]; exact HBR.out.trans (set4_below wr (by omega) _ _ _ _)
      clear hkg h1r h2r hi1 hX hs1 HX'
      go_wp2_with fail
      refine bodyPost_ret (v := .agg #[.slice Z s1.cells.length zc, .slice V2 s1.evs.length vc2, .slice S2 s1.sent.length sc2, .slice O2 s1.outs.length oc2]) ?_ rfl ?_
      · simp [results, Tryd.results17, go_sem, World.cell?_setCell_same, World.cell?_setCell_other, d0, d1, d2, d3]
      · rw [HS1.out, HNB.out]; exact HQ.out
    | succ g =>
      have hlt : k < n := by omega
      have HG := Lib.hid hkg
      obtain ⟨r, hr⟩ : ∃ r, l[k]? = some r := ⟨_, List.getElem?_eq_getElem (by have := HN.out; omega)⟩
      have hak : RwAt wr 7 (rowC l) A n := by
        refine HA.out.at' fun b o e => HBR.out.block b ?_
        obtain ⟨b', o', e', hcc⟩ := HA.out.2 (by omega)
        rw [e] at e'
        injection e' with e'
        injection e' with e1 e2
        subst e1 e2
        have hl1 : 0 < (rowC l).length := by rw [HA.out.1]; omega
        obtain ⟨v, rr, e3⟩ := List.exists_cons_of_length_pos hl1
        rw [e3] at hcc
        have := hcc.lt
        have := HNB.out
        omega
      obtain ⟨eb, eo, rfl, -⟩ := hak.2 (by omega)
      have hrow := hak.row HK.out HN.out rfl hr
      obtain ⟨x0, x1, x2, x3, x4, x5, x6, rfl⟩ := len7 r (HK.out r (List.mem_of_getElem? hr))
      have y0 := hrow 0 x0 rfl
      have y1 := hrow 1 x1 rfl
      have y2 := hrow 2 x2 rfl
      have y3 := hrow 3 x3 rfl
      have y4 := hrow 4 x4 rfl
      have y5 := hrow 5 x5 rfl
      have y6 := hrow 6 x6 rfl
      rw [Nat.add_zero] at y0
      have hk' : (k : Int) < (n : Int) := by omega
      have HSN : Hid (replayP c self procs (l.take (k + 1)) = nextP c self procs (replayP c self procs (l.take k)) [x0, x1, x2, x3, x4, x5, x6]) := by
        show _ = _
        rw [List.take_add_one, hr, Option.toList_some, replayP_snoc]
      have HFW : Hid ((replayP c self procs (l.take k)).sent.length + (replayP c self procs (l.take k)).outs.length ≤ 900000) := by
        show _ ≤ _
        have := replayP_few c self procs (l.take k)
        have : (l.take k).length ≤ 100000 := by rw [List.length_take]; have := HN.out; omega
        omega
      have HFE : Hid ((replayP c self procs (l.take k)).evs.length ≤ 900000) := by
        show _ ≤ _
        rw [replayP_evs, List.length_take]; have := HN.out; omega
      have heb : eb < wr.heap.size := World.block_lt_of_cell? wr _ y0
      obtain ⟨p0, p1, p2, p3, p4, p5, p6⟩ := box7 h2r
      obtain ⟨w7, hw7⟩ : ∃ x, wr.alloc (.cells #[.int .i64 x0, .int .i64 x1, .int .i64 x2, .int .i64 x3, .int .i64 x4, .int .i64 x5, .int .i64 x6] 42) = x := ⟨_, rfl⟩
      obtain ⟨xb, hxb⟩ : ∃ x, wr.heap.size = x := ⟨_, rfl⟩
      have h77 : Below wr.heap.size wr w7 := by rw [← hw7]; exact rp_one1 _ _
      have hxbx : w7.heap[xb]? = some (.cells #[.int .i64 x0, .int .i64 x1, .int .i64 x2, .int .i64 x3, .int .i64 x4, .int .i64 x5, .int .i64 x6] 42 (0, 0)) := by rw [← hw7, ← hxb]; exact new_blk _ _
      obtain ⟨z0, z1, z2, z3, z4, z5, z6⟩ := box7 hxbx
      obtain ⟨P0, P1, P2, P3, P4, P5, P6⟩ := box7 (below_blk h77 h2r)
      obtain ⟨t0, t1, t2, t3⟩ := box4 (below_blk h77 hX.box)
      obtain ⟨s1, hs1⟩ : ∃ x, replayP c self procs (l.take k) = x := ⟨_, rfl⟩
      rw [hs1] at HXR HSN HFW HFE HLN b0 b1 b2 b3 t0 t1 t2 t3
      have HNX := Lib.hid (next_ev nb B self procs C0 C1 C2 C3 C4 k0 q0 k1 q1 k2 q2 k3 q3 k4 q4 x0 x1 x2 x3 x4 x5 x6 c s1 w7 Z s1.cells.length zc (.slice V2 s1.evs.length vc2) (.slice S2 s1.sent.length sc2) (.slice O2 s1.outs.length oc2) (HC.out.at' fun k hk => (h77.block k (by have := HBB.out; have := HBR.out.size; have := HNB.out; omega)).trans (HBR.out.block k (by have := HBB.out; omega))) HBB.out
        (by have := h77.size; have := HBR.out.size; have := HNB.out; omega) (RwAt.own (own_bel HXR.out.cells h77)) rfl (by rw [HLN.out]; exact HC.out.pos) (by rw [HLN.out]; exact HC.out.few) (fun b o e => HXR.out.zv b (by rw [e]; rfl)) ⟨own_bel HXR.out.own.evs h77, own_bel HXR.out.own.sent h77, own_bel HXR.out.own.outs h77, HXR.out.own.vs, HXR.out.own.vo, HXR.out.own.so⟩ HFW.out HFE.out)
      have H77 := Lib.hid h77
      have HLO : Hid (W.heap.size ≤ w7.heap.size) := by show _ ≤ _; have := h77.size; have := lt_of_block hX.box; have := HSB.out; omega
      clear hkg h1r h2r hi1 hX HX' hak hrow hr h77 hxbx hs1
      go_wp2_with fail
      refine HNX.out.mono ?_
      rintro e w8 ⟨Z3, zc3, V3, S3, O3, rfl, hz8, ho8, hf8, a0, a1, a2⟩
      obtain ⟨hN, hsb8⟩ := RpHead.next HXR.out HLO.out H77.out hz8 ho8 hf8 a0 a1 a2
      obtain ⟨s3, hs3⟩ : ∃ x, nextP c self procs s1 [x0, x1, x2, x3, x4, x5, x6] = x := ⟨_, rfl⟩
      obtain ⟨V4, vc4, rfl⟩ := own_slice ho8.evs
      obtain ⟨S4, sc4, rfl⟩ := own_slice ho8.sent
      obtain ⟨O4, oc4, rfl⟩ := own_slice ho8.outs
      rw [hs3] at hN HSN
      simp only [hs3]
      have HNN := Lib.hid hN
      obtain ⟨d0, d1, d2, d3⟩ := box4 hsb8
      have g0 := frz hsb8 0
      have g1 := frz hsb8 1
      have g2 := frz hsb8 2
      have g3 := frz hsb8 3
      have hz9 : sb < w8.heap.size := lt_of_block hsb8
      clear hN hsb8 hz8 ho8 hf8 a0 a1 a2 hs3 HNX b0 b1 b2 b3 t0 t1 t2 t3 P0 P1 P2 P3 P4 P5 P6 p0 p1 p2 p3 p4 p5 p6 z0 z1 z2 z3 z4 z5 z6 y0 y1 y2 y3 y4 y5 y6 heb hw7 hxb
      go_wp2_with fail
      go_roundg g
      case rel => exact ⟨k + 1, Z3, zc3, _, _, _, by have := HG.out; omega, by go_num, by rw [HSN.out]; exact HNN⟩
      case measure => omega
end Go.Proofs.YtgblgkkbggdopaaDoor

/-
  What Events of rollbacknetmake does: at most eight events that are drawn by choices. Conditions: as for Next.
-/
namespace Go.Proofs.YtgblgkkbggdopaaDoor
open Go.RowKit

/-- The head of the loop of Events. -/
structure EwHead (B cb : Nat) (w0 : World) (g : Nat) (v : Value) (acc : List (List Int)) (wr : World) : Prop where
  n : acc.length + g ≤ 8
  seven : ∀ r ∈ acc, r.length = 7
  wf : ∀ r ∈ acc, ∀ x ∈ r, I64 x
  own : wr.ownsRow w0.heap.size 42 7 v acc.length (rowC acc)
  c : CodesIn B wr cb
  k : Keep cb w0 wr

/-- What Events returns. -/
def EwPost (B cb : Nat) (w : World) (e : Ending) (w' : World) : Prop :=
  ∃ (l : List (List Int)) (A : Option Addr) (c : Nat), e = .returned (.slice A l.length c) ∧ w'.ownsRow w.heap.size 42 7 (.slice A l.length c) l.length (rowC l) ∧ l.length ≤ 8 ∧ (∀ r ∈ l, r.length = 7) ∧ (∀ r ∈ l, ∀ x ∈ r, I64 x) ∧ CodesIn B w' cb ∧ Keep cb w w'

theorem EwHead.next {B cb g : Nat} {w0 wr w2 w9 : World} {v v9 : Value} {acc : List (List Int)} {r : List Int} {o : Obj} (h : EwHead B cb w0 (g + 1) v acc wr) (hcb : cb < w0.heap.size) (hr : r.length = 7) (hwf : ∀ x ∈ r, I64 x) (hc : CodesIn B w2 cb) (hk : Keep cb wr w2)
    (hown : w9.ownsRow w0.heap.size 42 7 v9 (acc.length + 1) (rowC acc ++ r.map (Value.int .i64))) (hg : (w2.alloc o).grownBy w9 v.ownBlock) : EwHead B cb w0 g v9 (acc ++ [r]) w9 := by
  have z0 := h.k.size
  have z1 := hk.size
  have z2 := hg.size
  rw [new_size] at z2
  have s9 : ∀ k, k < w0.heap.size → w9.heap[k]? = w2.heap[k]? := fun k hk => (hg.block k (by rw [new_size]; omega) (own_no' h.own hk)).trans (alloc_blk w2 o (by omega))
  refine ⟨by have := h.n; rw [List.length_append]; simp; omega, fun x hx => ?_, fun x hx => ?_, by rw [List.length_append, rowC_snoc]; exact hown, hc.up fun k hk => s9 k (by omega), ?_⟩
  · rcases List.mem_append.1 hx with hx | hx
    · exact h.seven x hx
    · rw [List.mem_singleton.1 hx]; exact hr
  · rcases List.mem_append.1 hx with hx | hx
    · exact h.wf x hx
    · rw [List.mem_singleton.1 hx]; exact hwf
  · have k2 := h.k.trans hk
    exact ⟨hg.os.trans k2.os, hg.tape.trans k2.tape, hg.output.trans k2.output, by omega, fun k hk1 hne => (s9 k hk1).trans (k2.block k hk1 hne)⟩

theorem row_agg (r : List Int) : (Value.agg (r.map (Value.int .i64)).toArray) = .agg (r.map (Value.int .i64)).toArray := rfl

set_option maxHeartbeats 4000000 in
set_option maxRecDepth 100000 in
theorem events_any (B cb : Nat) (w : World) (hc0 : CodesIn B w cb) :
    Calls Tryd.prog 11 #[.pointer (some ⟨cb, 0, none⟩), .int .i64 8] w (EwPost B cb w) := by
  have hcb := hc0.lt
  have HC0 := Lib.hid hc0
  have HCB := Lib.hid hcb
  obtain ⟨i0, hi, hz0, hz1, hz2⟩ := info_parts info_evs
  have HI := Lib.hid hi
  have HI0 := Lib.hid hz0
  have HI1 := Lib.hid hz1
  have HI2 := Lib.hid hz2
  clear hi hz0 hz1 hz2 hc0 hcb
  go_enter Tryd.func11, Tryd.ntmps11
  go_wp2_with fail
  refine (next_keep B cb 9 _ HC0.out (by decide) (by decide)).mono ?_
  rintro e w1 ⟨v, hv, rfl, hc, hk⟩
  have HX : Hid (EwHead B cb w v nilV [] w1) := ⟨(by simp; omega), (fun r h => by cases h), (fun r h => by cases h), World.ownsRow_nil _ _ _ _, hc, hk⟩
  clear hc hk
  go_wp2_with fail
  go_loopg [5, 6] v (fun g out n wr => ∃ acc, n = .int .i64 (g : Int) ∧ Hid (EwHead B cb w g out acc wr))
  case atStart => exact ⟨[], rfl, HX⟩
  case round =>
    obtain ⟨acc, rfl, HX'⟩ := hrel
    obtain ⟨A, c, rfl⟩ := own_slice HX'.out.own
    cases gk with
    | zero =>
      have HQ : Hid (EwPost B cb w (.returned (.slice A acc.length c)) wr) := ⟨acc, A, c, rfl, HX'.out.own, by have := HX'.out.n; omega, HX'.out.seven, HX'.out.wf, HX'.out.c, HX'.out.k⟩
      clear HX' HX
      go_wp2_with fail
      go_ret
      exact HQ.out
    | succ g =>
      have h0 : (0 : Int) < ((g + 1 : Nat) : Int) := by omega
      have hn := HX'.out.n
      have HE := Lib.hid (event_any B cb wr HX'.out.c)
      obtain ⟨n1, hn1⟩ : ∃ x, acc.length = x := ⟨_, rfl⟩
      have HN1 := Lib.hid hn1
      have HO : Hid (∀ W, Keep cb wr W → W.ownsRow w.heap.size 42 7 (.slice A n1 c) n1 (rowC acc)) := fun W hk => by rw [← HN1.out]; exact own_keep HX'.out.own hk HCB.out
      have HBS : Hid (∀ W, Keep cb wr W → w.heap.size ≤ W.heap.size) := fun W hk => Nat.le_trans HX'.out.k.size hk.size
      rw [hn1] at HX' hn
      rw [hn1]
      have hn9 : n1 ≤ 8 := by omega
      have hg9 : ((g + 1 : Nat) : Int) ≤ 8 := by omega
      clear hn1 hn
      go_wp2_with fail
      refine HE.out.mono ?_
      rintro e w2 ⟨r, hr, rfl, hwf, hc, hk⟩
      obtain ⟨x0, x1, x2, x3, x4, x5, x6, rfl⟩ := len7 r hr
      have HR := Lib.hid hr
      have HWF := Lib.hid hwf
      have HC2 := Lib.hid hc
      have HK2 := Lib.hid hk
      clear hr hwf hc hk HE
      simp only [List.map_cons, List.map_nil]
      go_wp2_with (at_builtin; refine wpList_append_own_at _ rfl (.tmp 15) (.tmp 18) 31 rfl w.heap.size 42 i0 _ 7 56 Tryd.underlying31 HI.out HI0.out HI1.out HI2.out rfl (by decide) (.slice A n1 c) n1 (rowC acc) (by simp [Act.eval]) (own_bel (HO.out _ HK2.out) (rp_one1 _ _)) ⟨w2.heap.size, 0, none⟩ 1 1 [.int .i64 x0, .int .i64 x1, .int .i64 x2, .int .i64 x3, .int .i64 x4, .int .i64 x5, .int .i64 x6] (by simp [Act.eval]) rfl (rp_cellsA _ _ _) (by simp [Value.oneCell']) (by unfold maxLen; omega) (by omega) (by have := HBS.out _ HK2.out; simp only [new_size]; omega) ?_; intro v9 w9 hown9 hgrow9 hnil9 hob9; have HOW := Lib.hid hown9; have HGR := Lib.hid hgrow9; clear hown9 hgrow9 hob9 hnil9)
      have HN := EwHead.next (r := [x0, x1, x2, x3, x4, x5, x6]) HX'.out HCB.out HR.out HWF.out HC2.out HK2.out (by rw [HN1.out]; exact HOW.out) HGR.out
      go_roundg g
      case rel => exact ⟨acc ++ [[x0, x1, x2, x3, x4, x5, x6]], by go_num, HN⟩
      case measure => omega
end Go.Proofs.YtgblgkkbggdopaaDoor

/-
  The laws' own check of the example of chapter 6 returns true (gens54.py writes this text). No conditions.
-/
namespace Go.Proofs.YtgblgkkbggdopaaDoor
open Go.RowKit

abbrev adX : Ex := .mk 2 0 [] 0 0 []
abbrev adV : Ex := .mk 7 0 [] 0 0 []
/-- The adder. -/
abbrev adC : Cd := ⟨[0], [], [.mk 1 [] 0 0 ex0 (.mk 10 0 [] 0 0 [adX, adV]) [] [], .mk 6 [] 0 0 ex0 adX [] []], [], []⟩
abbrev adE : List (List Int) := [[1, 0, 1, 0, 0, 0, 2], [1, 0, 1, 0, 0, 0, 3]]
theorem ad_run : (replayP adC 0 2 adE).cells = [5] ∧ (replayP adC 0 2 adE).outs = [[1, 2], [2, 5]] := by decide +kernel

theorem cells_of {w : World} {b o : Nat} {L : Array Value} {T : TypeId} {fr : Nat × Nat} {cs rest : List Value} (h : w.heap[b]? = some (.cells L T fr)) (he : L.toList.drop o = cs ++ rest) : CellsAt w b o cs := by
  intro j u hj
  rw [Lib.cell_of_heap h, ← Array.getElem?_toList, ← List.getElem?_drop, he, List.getElem?_append_left (List.getElem?_eq_some_iff.1 hj).1]
  exact hj
theorem leaf_at (S : Nat → Prop) (w : World) (op : Int) : ExL S w (.mk op 0 [] 0 0 []) [.int .i64 op, .int .i64 0, .string ⟨#[]⟩, .int .i64 0, .int .i64 0, .slice none 0 0] := by
  simp only [ExL]
  exact ⟨none, 0, rfl, Nat.le_refl _, fun h => absurd rfl h⟩

set_option maxHeartbeats 4000000 in
set_option maxRecDepth 100000 in
theorem adder_any (w : World) : Calls Tryd.prog 33 #[] w fun e w' => ∃ (C0 C2 : Option Addr), e = .returned (.agg #[.slice C0 1 1, .slice none 0 0, .slice C2 2 2, .slice none 0 0, .slice none 0 0]) ∧
    CdAt w'.heap.size w' adC C0 none C2 none none 1 1 0 0 2 2 0 0 0 0 ∧ Below w.heap.size w w' := by
  obtain ⟨nb, hnb⟩ : ∃ x, w.heap.size = x := ⟨_, rfl⟩
  obtain ⟨W, hW⟩ : ∃ x, (((((w.alloc (.cells #[.slice (some ⟨nb + 1 + 1, 0, none⟩) 1 1, .slice none 0 0, .slice (some ⟨nb + 1 + 1 + 1 + 1, 0, none⟩) 2 2, .slice none 0 0, .slice none 0 0] 29)).alloc (.cells #[.int .i64 2, .int .i64 0, .string ⟨#[]⟩, .int .i64 0, .int .i64 0, .slice none 0 0] 92)).alloc (.cells #[.int .i64 0] 3)).alloc (.cells #[.int .i64 2, .int .i64 0, .string ⟨#[]⟩, .int .i64 0, .int .i64 0, .slice none 0 0, .int .i64 7, .int .i64 0, .string ⟨#[]⟩, .int .i64 0, .int .i64 0, .slice none 0 0] 92)).alloc (.cells #[.int .i64 1, .string ⟨#[]⟩, .int .i64 0, .int .i64 0, .int .i64 0, .int .i64 0, .string ⟨#[]⟩, .int .i64 0, .int .i64 0, .slice none 0 0, .int .i64 10, .int .i64 0, .string ⟨#[]⟩, .int .i64 0, .int .i64 0, .slice (some ⟨nb + 1 + 1 + 1, 0, none⟩) 2 2, .slice none 0 0, .slice none 0 0, .int .i64 6, .string ⟨#[]⟩, .int .i64 0, .int .i64 0, .int .i64 0, .int .i64 0, .string ⟨#[]⟩, .int .i64 0, .int .i64 0, .slice none 0 0, .int .i64 2, .int .i64 0, .string ⟨#[]⟩, .int .i64 0, .int .i64 0, .slice none 0 0, .slice none 0 0, .slice none 0 0] 94)) = x := ⟨_, rfl⟩
  have hz0 : W.heap.size = nb + 1 + 1 + 1 + 1 + 1 := by rw [← hW, ← hnb]; simp only [new_size]
  have hb4 : Below w.heap.size w W := by rw [← hW]; exact ((((((Below.refl _ _).alloc (Nat.le_refl _) _).alloc (by simp only [new_size]; omega) _).alloc (by simp only [new_size]; omega) _).alloc (by simp only [new_size]; omega) _).alloc (by simp only [new_size]; omega) _)
  have hB0 : W.heap[nb]? = some (.cells #[.slice (some ⟨nb + 1 + 1, 0, none⟩) 1 1, .slice none 0 0, .slice (some ⟨nb + 1 + 1 + 1 + 1, 0, none⟩) 2 2, .slice none 0 0, .slice none 0 0] 29 (0, 0)) := by
    have h := new_blk w (.cells #[.slice (some ⟨nb + 1 + 1, 0, none⟩) 1 1, .slice none 0 0, .slice (some ⟨nb + 1 + 1 + 1 + 1, 0, none⟩) 2 2, .slice none 0 0, .slice none 0 0] 29)
    rw [hnb] at h
    rw [← hW]; rw [alloc_blk _ _ (by simp only [new_size]; omega)]; rw [alloc_blk _ _ (by simp only [new_size]; omega)]; rw [alloc_blk _ _ (by simp only [new_size]; omega)]; rw [alloc_blk _ _ (by simp only [new_size]; omega)]; exact h
  have hB1 : W.heap[nb + 1]? = some (.cells #[.int .i64 2, .int .i64 0, .string ⟨#[]⟩, .int .i64 0, .int .i64 0, .slice none 0 0] 92 (0, 0)) := by
    have h := new_blk (w.alloc (.cells #[.slice (some ⟨nb + 1 + 1, 0, none⟩) 1 1, .slice none 0 0, .slice (some ⟨nb + 1 + 1 + 1 + 1, 0, none⟩) 2 2, .slice none 0 0, .slice none 0 0] 29)) (.cells #[.int .i64 2, .int .i64 0, .string ⟨#[]⟩, .int .i64 0, .int .i64 0, .slice none 0 0] 92)
    simp only [new_size, hnb] at h
    rw [← hW]; rw [alloc_blk _ _ (by simp only [new_size]; omega)]; rw [alloc_blk _ _ (by simp only [new_size]; omega)]; rw [alloc_blk _ _ (by simp only [new_size]; omega)]; exact h
  have hB2 : W.heap[nb + 1 + 1]? = some (.cells #[.int .i64 0] 3 (0, 0)) := by
    have h := new_blk ((w.alloc (.cells #[.slice (some ⟨nb + 1 + 1, 0, none⟩) 1 1, .slice none 0 0, .slice (some ⟨nb + 1 + 1 + 1 + 1, 0, none⟩) 2 2, .slice none 0 0, .slice none 0 0] 29)).alloc (.cells #[.int .i64 2, .int .i64 0, .string ⟨#[]⟩, .int .i64 0, .int .i64 0, .slice none 0 0] 92)) (.cells #[.int .i64 0] 3)
    simp only [new_size, hnb] at h
    rw [← hW]; rw [alloc_blk _ _ (by simp only [new_size]; omega)]; rw [alloc_blk _ _ (by simp only [new_size]; omega)]; exact h
  have hB3 : W.heap[nb + 1 + 1 + 1]? = some (.cells #[.int .i64 2, .int .i64 0, .string ⟨#[]⟩, .int .i64 0, .int .i64 0, .slice none 0 0, .int .i64 7, .int .i64 0, .string ⟨#[]⟩, .int .i64 0, .int .i64 0, .slice none 0 0] 92 (0, 0)) := by
    have h := new_blk (((w.alloc (.cells #[.slice (some ⟨nb + 1 + 1, 0, none⟩) 1 1, .slice none 0 0, .slice (some ⟨nb + 1 + 1 + 1 + 1, 0, none⟩) 2 2, .slice none 0 0, .slice none 0 0] 29)).alloc (.cells #[.int .i64 2, .int .i64 0, .string ⟨#[]⟩, .int .i64 0, .int .i64 0, .slice none 0 0] 92)).alloc (.cells #[.int .i64 0] 3)) (.cells #[.int .i64 2, .int .i64 0, .string ⟨#[]⟩, .int .i64 0, .int .i64 0, .slice none 0 0, .int .i64 7, .int .i64 0, .string ⟨#[]⟩, .int .i64 0, .int .i64 0, .slice none 0 0] 92)
    simp only [new_size, hnb] at h
    rw [← hW]; rw [alloc_blk _ _ (by simp only [new_size]; omega)]; exact h
  have hB4 : W.heap[nb + 1 + 1 + 1 + 1]? = some (.cells #[.int .i64 1, .string ⟨#[]⟩, .int .i64 0, .int .i64 0, .int .i64 0, .int .i64 0, .string ⟨#[]⟩, .int .i64 0, .int .i64 0, .slice none 0 0, .int .i64 10, .int .i64 0, .string ⟨#[]⟩, .int .i64 0, .int .i64 0, .slice (some ⟨nb + 1 + 1 + 1, 0, none⟩) 2 2, .slice none 0 0, .slice none 0 0, .int .i64 6, .string ⟨#[]⟩, .int .i64 0, .int .i64 0, .int .i64 0, .int .i64 0, .string ⟨#[]⟩, .int .i64 0, .int .i64 0, .slice none 0 0, .int .i64 2, .int .i64 0, .string ⟨#[]⟩, .int .i64 0, .int .i64 0, .slice none 0 0, .slice none 0 0, .slice none 0 0] 94 (0, 0)) := by
    have h := new_blk ((((w.alloc (.cells #[.slice (some ⟨nb + 1 + 1, 0, none⟩) 1 1, .slice none 0 0, .slice (some ⟨nb + 1 + 1 + 1 + 1, 0, none⟩) 2 2, .slice none 0 0, .slice none 0 0] 29)).alloc (.cells #[.int .i64 2, .int .i64 0, .string ⟨#[]⟩, .int .i64 0, .int .i64 0, .slice none 0 0] 92)).alloc (.cells #[.int .i64 0] 3)).alloc (.cells #[.int .i64 2, .int .i64 0, .string ⟨#[]⟩, .int .i64 0, .int .i64 0, .slice none 0 0, .int .i64 7, .int .i64 0, .string ⟨#[]⟩, .int .i64 0, .int .i64 0, .slice none 0 0] 92)) (.cells #[.int .i64 1, .string ⟨#[]⟩, .int .i64 0, .int .i64 0, .int .i64 0, .int .i64 0, .string ⟨#[]⟩, .int .i64 0, .int .i64 0, .slice none 0 0, .int .i64 10, .int .i64 0, .string ⟨#[]⟩, .int .i64 0, .int .i64 0, .slice (some ⟨nb + 1 + 1 + 1, 0, none⟩) 2 2, .slice none 0 0, .slice none 0 0, .int .i64 6, .string ⟨#[]⟩, .int .i64 0, .int .i64 0, .int .i64 0, .int .i64 0, .string ⟨#[]⟩, .int .i64 0, .int .i64 0, .slice none 0 0, .int .i64 2, .int .i64 0, .string ⟨#[]⟩, .int .i64 0, .int .i64 0, .slice none 0 0, .slice none 0 0, .slice none 0 0] 94)
    simp only [new_size, hnb] at h
    rw [← hW]; exact h
  have HQ : Hid (CdAt W.heap.size W adC (some ⟨nb + 1 + 1, 0, none⟩) none (some ⟨nb + 1 + 1 + 1 + 1, 0, none⟩) none none 1 1 0 0 2 2 0 0 0 0) := by
    refine ⟨⟨rfl, fun _ => ⟨_, 0, rfl, cells_of (rest := []) hB2 rfl⟩⟩, ?_, rfl, by decide, by decide, sts_nil _ _, ?_, sts_nil _ _, sts_nil _ _, by decide⟩
    · intro b o e
      injection e with e
      injection e with e1
      omega
    · refine ⟨_, 2, rfl, Nat.le_refl _, fun _ => ⟨nb + 1 + 1 + 1 + 1, 0, rfl, by show nb + 1 + 1 + 1 + 1 < _; omega, ?_⟩⟩
      simp only [StRow, and_true]
      refine ⟨⟨[.int .i64 1, .string ⟨#[]⟩, .int .i64 0, .int .i64 0, .int .i64 0, .int .i64 0, .string ⟨#[]⟩, .int .i64 0, .int .i64 0, .slice none 0 0, .int .i64 10, .int .i64 0, .string ⟨#[]⟩, .int .i64 0, .int .i64 0, .slice (some ⟨nb + 1 + 1 + 1, 0, none⟩) 2 2, .slice none 0 0, .slice none 0 0], cells_of (rest := [.int .i64 6, .string ⟨#[]⟩, .int .i64 0, .int .i64 0, .int .i64 0, .int .i64 0, .string ⟨#[]⟩, .int .i64 0, .int .i64 0, .slice none 0 0, .int .i64 2, .int .i64 0, .string ⟨#[]⟩, .int .i64 0, .int .i64 0, .slice none 0 0, .slice none 0 0, .slice none 0 0]) hB4 rfl, ?_⟩, ⟨[.int .i64 6, .string ⟨#[]⟩, .int .i64 0, .int .i64 0, .int .i64 0, .int .i64 0, .string ⟨#[]⟩, .int .i64 0, .int .i64 0, .slice none 0 0, .int .i64 2, .int .i64 0, .string ⟨#[]⟩, .int .i64 0, .int .i64 0, .slice none 0 0, .slice none 0 0, .slice none 0 0], cells_of (rest := []) hB4 rfl, ?_⟩⟩
      · simp only [StL]
        refine ⟨[.int .i64 0, .int .i64 0, .string ⟨#[]⟩, .int .i64 0, .int .i64 0, .slice none 0 0], [.int .i64 10, .int .i64 0, .string ⟨#[]⟩, .int .i64 0, .int .i64 0, .slice (some ⟨nb + 1 + 1 + 1, 0, none⟩) 2 2], none, 0, none, 0, rfl, leaf_at _ _ 0, ?_, Nat.le_refl _, Nat.le_refl _, fun h => absurd rfl h, fun h => absurd rfl h⟩
        simp only [ExL]
        refine ⟨_, 2, rfl, Nat.le_refl _, fun _ => ⟨nb + 1 + 1 + 1, 0, rfl, by omega, ?_⟩⟩
        simp only [ExRow, and_true]
        exact ⟨⟨[.int .i64 2, .int .i64 0, .string ⟨#[]⟩, .int .i64 0, .int .i64 0, .slice none 0 0], cells_of (rest := [.int .i64 7, .int .i64 0, .string ⟨#[]⟩, .int .i64 0, .int .i64 0, .slice none 0 0]) hB3 rfl, leaf_at _ _ 2⟩, ⟨[.int .i64 7, .int .i64 0, .string ⟨#[]⟩, .int .i64 0, .int .i64 0, .slice none 0 0], cells_of (rest := []) hB3 rfl, leaf_at _ _ 7⟩⟩
      · simp only [StL]
        exact ⟨[.int .i64 0, .int .i64 0, .string ⟨#[]⟩, .int .i64 0, .int .i64 0, .slice none 0 0], [.int .i64 2, .int .i64 0, .string ⟨#[]⟩, .int .i64 0, .int .i64 0, .slice none 0 0], none, 0, none, 0, rfl, leaf_at _ _ 0, leaf_at _ _ 2, Nat.le_refl _, Nat.le_refl _, fun h => absurd rfl h, fun h => absurd rfl h⟩
  have HB := Lib.hid hb4
  have HNB := Lib.hid hnb
  have HW := Lib.hid hW
  clear hB0 hB1 hB2 hB3 hB4 hz0 hb4 hnb hW
  go_enter Tryd.func33, Tryd.ntmps33
  go_wp2_with fail
  have e := HNB.out
  subst e
  refine bodyPost_ret (v := .agg #[.slice (some ⟨w.heap.size + 1 + 1, 0, none⟩) 1 1, .slice none 0 0, .slice (some ⟨w.heap.size + 1 + 1 + 1 + 1, 0, none⟩) 2 2, .slice none 0 0, .slice none 0 0]) ?_ rfl ?_
  · simp [results, Tryd.results33, go_sem]
  · rw [HW.out]
    exact ⟨_, _, rfl, HQ.out, HB.out⟩

set_option maxHeartbeats 4000000 in
set_option maxRecDepth 100000 in
theorem awake6_any (w : World) : Calls Tryd.prog 8 #[] w fun e w' => e = .returned (.bool true) ∧ Below w.heap.size w w' := by
  obtain ⟨r1, r2⟩ := ad_run
  have hev : (replayP adC 0 2 adE).evs = adE := replayP_evs _ _ _ _
  have hq : ∀ w, (binOp .eql 66 (.agg #[.int .i64 2, .int .i64 5]) (.agg #[.int .i64 2, .int .i64 5])).run Tryd.prog w = .ok (.bool true) w := fun w => by kernel_rfl
  obtain ⟨s, hs⟩ : ∃ x, replayP adC 0 2 adE = x := ⟨_, rfl⟩
  rw [hs] at r1 r2 hev
  have R1 := Lib.hid r1
  have R2 := Lib.hid r2
  have RE := Lib.hid hev
  have RS := Lib.hid hs
  clear r1 r2 hev hs
  go_enter Tryd.func8, Tryd.ntmps8
  go_wp2_with fail
  refine (adder_any w).mono ?_
  rintro e w1 ⟨C0, C2, rfl, hcd, hb⟩
  have HB1 := Lib.hid hb
  have HCD := Lib.hid hcd
  clear hb hcd
  go_wp2_with fail
  have h12 := rp_one1 w1 (.cells #[.int .i64 1, .int .i64 0, .int .i64 1, .int .i64 0, .int .i64 0, .int .i64 0, .int .i64 2, .int .i64 1, .int .i64 0, .int .i64 1, .int .i64 0, .int .i64 0, .int .i64 0, .int .i64 3] 42)
  have hrow : RwAt (w1.alloc (.cells #[.int .i64 1, .int .i64 0, .int .i64 1, .int .i64 0, .int .i64 0, .int .i64 0, .int .i64 2, .int .i64 1, .int .i64 0, .int .i64 1, .int .i64 0, .int .i64 0, .int .i64 0, .int .i64 3] 42)) 7 (rowC adE) (some ⟨w1.heap.size, 0, none⟩) 2 := by
    refine ⟨rfl, fun _ => ⟨_, 0, rfl, cells_of (rest := []) (new_blk w1 _) rfl⟩⟩
  refine (replay_any w1.heap.size 0 2 C0 none C2 none none 1 1 0 0 2 2 0 0 0 0 adC _ adE (by decide) (by decide) _ 2 2 hrow rfl (HCD.out.at' fun k hk => h12.block k hk) (by rw [new_size]; omega)).mono ?_
  rw [RS.out]
  rintro e w2 ⟨Z, zc, V, S, O, rfl, hz, ho, hb2, -, -, -⟩
  have HB2 := Lib.hid ((HB1.out.trans (h12.mono HB1.out.size)).trans (hb2.mono (by rw [new_size]; have := HB1.out.size; omega)))
  have hE := ho.evs
  have hO := ho.outs
  rw [RE.out] at hE
  rw [R2.out] at hO
  rw [R1.out] at hz
  simp only [R1.out]
  obtain ⟨V0, vc, rfl⟩ := own_slice hE
  obtain ⟨S0, sc, rfl⟩ := own_slice ho.sent
  obtain ⟨O0, oc, rfl⟩ := own_slice hO
  obtain ⟨ob, oo, rfl, hco⟩ := (RwAt.own hO).2 (by decide)
  obtain ⟨zb, zo, rfl, hcz⟩ := (RwAt.own hz).2 (by decide)
  have o2 : w2.cell? ⟨ob, oo + 2, none⟩ = some (.int .i64 2) := hco 2 _ rfl
  have o3 : w2.cell? ⟨ob, oo + 2 + 1, none⟩ = some (.int .i64 5) := hco 3 _ rfl
  have z0 : w2.cell? ⟨zb, zo, none⟩ = some (.int .i64 5) := hcz 0 _ rfl
  have hob : ob < w2.heap.size := World.block_lt_of_cell? w2 _ o2
  have hzb : zb < w2.heap.size := World.block_lt_of_cell? w2 _ z0
  obtain ⟨ns, hns⟩ : ∃ x, s.sent.length = x := ⟨_, rfl⟩
  simp only [hns, List.length_cons, List.length_nil]
  clear hE hO ho hz hco hcz hb2 h12 hrow hns
  go_wp2_with fail
  go_ret
  exact ⟨rfl, HB2.out.alloc HB2.out.size _⟩
end Go.Proofs.YtgblgkkbggdopaaDoor
