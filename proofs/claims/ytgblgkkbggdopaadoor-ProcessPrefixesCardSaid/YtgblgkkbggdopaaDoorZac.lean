/-
  Texts of a walk, laid together by a program of the prover's own (merge.py). No conditions beyond those that each text names.
-/
import Derived.Test.YtgblgkkbggdopaaDoorZab
/-
  What Next and Expr of rollbacknetmake do: a choice, and an expression that is drawn by choices. Conditions: the list of choices is one that the call was given; the names of variables and arrays are what start-up laid; the depth is from 1 to 100.
-/
namespace Go.Proofs.YtgblgkkbggdopaaDoor
open Go.RowKit

set_option maxHeartbeats 1000000 in
set_option maxRecDepth 100000 in
theorem next_keep (B cb m : Nat) (w : World) (h0 : CodesIn B w cb) (hm0 : 0 < m) (hm2 : m ≤ 100000) :
    Calls Tryd.prog 24 #[.pointer (some ⟨cb, 0, none⟩), .int .i64 m] w fun e w' => ∃ j : Nat, j < m ∧ e = .returned (.int .i64 j) ∧ CodesIn B w' cb ∧ Keep cb w w' := by
  obtain ⟨A, n, c, k, h⟩ := h0
  have H := Lib.hid h
  by_cases hk : k < n
  · have q : decide (k < n) = true := decide_eq_true hk
    go_enter Tryd.func24, Tryd.ntmps24
    go_wp2_with fail
    refine (left_any B cb A n c k _ H.out).mono ?_
    rintro e w1 ⟨rfl, m1, hw1⟩
    have hb1 : Below w.heap.size w w1 := by rw [hw1]; exact below_drewN (Below.refl _ _) m1
    have H1 := Lib.hid (H.out.below hb1)
    have HB1 := Lib.hid hb1
    clear hw1 hb1
    obtain ⟨c0, c1, fz, _, hc, hm, _, hl⟩ := H1.out
    clear hl
    have hn : n ≤ 9223372036854775807 := by omega
    go_upto_region 4 with fail
    obtain ⟨w2, hw2⟩ : ∃ w2, w1.setCell ⟨cb, 1, none⟩ (.int .i64 ((k : Int) + 1)) = w2 := ⟨_, rfl⟩
    have H2 := Lib.hid (hw2 ▸ H1.out.step hk)
    have HK2 := Lib.hid (show Keep cb w w2 by rw [← hw2]; exact (Keep.of_below HB1.out).setR (p := ⟨cb, 1, none⟩) rfl _)
    simp only [hw2]
    clear hw2 c0 c1 fz
    obtain ⟨c0, c1, _, _, _, _, _, hl⟩ := H2.out
    obtain ⟨b, o, rfl, hlt, hi⟩ := hl (by omega)
    obtain ⟨u, hu, hu2⟩ := hi k hk
    clear hl hi
    have hsub : (((k + 1 : Nat) : Int)) - 1 = (k : Int) := by omega
    go_quiet (fail)
    go_wp2
    go_ret
    exact ⟨u % m, Nat.mod_lt _ hm0, by rw [Int.natCast_emod]; rfl, ⟨_, n, c, k + 1, H2.out.below (below_drewN (Below.refl _ _) nq)⟩, HK2.out.trans (Keep.of_below (below_drewN (Below.refl _ _) nq))⟩
  · have q : decide (k < n) = false := decide_eq_false hk
    go_enter Tryd.func24, Tryd.ntmps24
    go_wp2_with fail
    refine (left_any B cb A n c k _ H.out).mono ?_
    rintro e w1 ⟨rfl, m1, rfl⟩
    go_wp2
    go_ret
    exact ⟨0, hm0, rfl, ⟨A, n, c, k, H.out.below (below_drewN (Below.refl _ _) m1)⟩, Keep.of_below (below_drewN (Below.refl _ _) m1)⟩

/-- The names of variables, and those of arrays, in drawn programs. -/
def nmS : Nat → List UInt8 | 0 => [120] | 1 => [121] | _ => [122]
def nmA : Nat → List UInt8 | 0 => [97] | _ => [98]
/-- The tables of names hold what start-up laid. -/
structure GlAt (w : World) : Prop where
  s : ∃ T fr, w.heap[0]? = some (.cells #[.string (strB [120]), .string (strB [121]), .string (strB [122])] T fr)
  a : ∃ T fr, w.heap[1]? = some (.cells #[.string (strB [97]), .string (strB [98])] T fr)
abbrev glTop : Nat := 2
theorem GlAt.keep {cb : Nat} {w w' : World} (h : GlAt w) (hk : Keep cb w w') (hcb : glTop ≤ cb) : GlAt w' := by
  obtain ⟨⟨T, fr, hs⟩, ⟨T', fr', ha⟩⟩ := h
  exact ⟨⟨T, fr, hk.blk hs (by have : glTop ≤ cb := hcb; unfold glTop at this; omega)⟩, ⟨T', fr', hk.blk ha (by have : glTop ≤ cb := hcb; unfold glTop at this; omega)⟩⟩
theorem GlAt.sc {w : World} (h : GlAt w) : ∀ k, k < 3 → w.cell? ⟨0, k, none⟩ = some (.string (strB (nmS k))) := fun k hk => by
  obtain ⟨⟨T, fr, hs⟩, _⟩ := h
  rw [Lib.cell_of_heap hs]
  match k, hk with
  | 0, _ => rfl
  | 1, _ => rfl
  | 2, _ => rfl
theorem GlAt.ar {w : World} (h : GlAt w) : ∀ k, k < 2 → w.cell? ⟨1, k, none⟩ = some (.string (strB (nmA k))) := fun k hk => by
  obtain ⟨_, ⟨T, fr, hs⟩⟩ := h
  rw [Lib.cell_of_heap hs]
  match k, hk with
  | 0, _ => rfl
  | 1, _ => rfl

/-- A drawn expression of a depth. -/
def drE : Nat → Ex → Prop
  | 0, _ => False
  | d + 1, .mk op v nm sl sz args => sl = 0 ∧ sz = 0 ∧
    ((op = 1 ∧ 0 ≤ v ∧ v ≤ 200 ∧ nm = [] ∧ args = []) ∨ (op = 2 ∧ v = 0 ∧ (∃ k, k < 3 ∧ nm = nmS k) ∧ args = []) ∨ (4 ≤ op ∧ op ≤ 7 ∧ v = 0 ∧ nm = [] ∧ args = []) ∨
     (op = 3 ∧ v = 0 ∧ (∃ k, k < 2 ∧ nm = nmA k) ∧ ∃ e, args = [e] ∧ drE d e) ∨ (8 ≤ op ∧ op ≤ 9 ∧ v = 0 ∧ nm = [] ∧ ∃ e, args = [e] ∧ drE d e) ∨
     (10 ≤ op ∧ op ≤ 22 ∧ v = 0 ∧ nm = [] ∧ ∃ a b, args = [a, b] ∧ drE d a ∧ drE d b))

/-- What Expr does. -/
def MxPost (B cb : Nat) (d : Nat) (w : World) (e : Ending) (w' : World) : Prop :=
  ∃ ex v, e = .returned v ∧ VEx w.heap.size w' ex v ∧ drE d ex ∧ CodesIn B w' cb ∧ Keep cb w w'
def MxC (d : Nat) : Prop := ∀ (B cb : Nat) (w : World), CodesIn B w cb → GlAt w → glTop ≤ cb →
  Calls Tryd.prog 66 #[.pointer (some ⟨cb, 0, none⟩), .int .i64 d] w (MxPost B cb d w)

theorem CodesIn.lt {B cb : Nat} {w : World} (h : CodesIn B w cb) : cb < w.heap.size := by
  obtain ⟨_, _, _, _, h⟩ := h; exact h.lt
/-- Blocks behind the list of choices have been written. -/
theorem CodesIn.up {B cb : Nat} {w w' : World} (h : CodesIn B w cb) (hb : ∀ k, k ≤ cb → w'.heap[k]? = w.heap[k]?) : CodesIn B w' cb := by
  obtain ⟨A, n, c, k, h⟩ := h
  have hc : ∀ b o, b ≤ cb → w'.cell? ⟨b, o, none⟩ = w.cell? ⟨b, o, none⟩ := fun b o hb' => World.cell?_of_block (w := w) (a := ⟨b, o, none⟩) (hb b hb')
  refine ⟨A, n, c, k, (hc _ _ (Nat.le_refl _)).trans h.c0, (hc _ _ (Nat.le_refl _)).trans h.c1, (World.frozen?_of_block (w := w) (a := ⟨cb, 1, none⟩) (hb cb (Nat.le_refl _))).trans h.fz, h.hk, h.hc, h.hm, h.hB, fun h0 => ?_⟩
  obtain ⟨b, o, hA, hlt, hi⟩ := h.hl h0
  refine ⟨b, o, hA, hlt, fun i hin => ?_⟩
  obtain ⟨u, hu, hu2⟩ := hi i hin
  exact ⟨u, (hc _ _ (Nat.le_of_lt (Nat.lt_of_lt_of_le hlt h.hB))).trans hu, hu2⟩

/-- A leaf, as the function's result. -/
theorem mx_leaf {B cb d : Nat} {w w' : World} {op v : Int} {nm : List UInt8} (hk : Keep cb w w') (hc : CodesIn B w' cb) (hcb : cb < w.heap.size) (hd : drE d (.mk op v nm 0 0 [])) :
    MxPost B cb d w (.returned (.agg #[.int .i64 op, .int .i64 v, .string (strB nm), .int .i64 0, .int .i64 0, .slice none 0 0])) (set6 w' w.heap.size (.int .i64 op) (.int .i64 v) (.string (strB nm)) (.int .i64 0) (.int .i64 0) (.slice none 0 0)) := by
  refine ⟨_, _, rfl, ⟨op, v, strB nm, 0, 0, none, 0, 0, rfl, ?_⟩, hd, hc.up fun k hk => set6_blk _ _ _ _ _ _ _ _ (by omega), hk.set6 (Nat.le_refl _) _ _ _ _ _ _⟩
  simp only [ExL]
  exact ⟨none, 0, rfl, Nat.le_refl _, fun h => absurd rfl h⟩
end Go.Proofs.YtgblgkkbggdopaaDoor
