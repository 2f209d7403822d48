/-
  Texts of a walk, laid together by a program of the prover's own (merge.py). No conditions beyond those that each text names.
-/
import Derived.Test.YtgblgkkbggdopaaDoorZac
/-
  What Expr of rollbacknetmake does: an expression that is drawn by choices. Conditions: as for Next; the depth is from 1 to 100.
-/
namespace Go.Proofs.YtgblgkkbggdopaaDoor
open Go.RowKit

theorem mx_cell {w : World} {n : Nat} {T : TypeId} (h : w.heap[n]? = some (.cells #[.int .i64 4, .int .i64 5, .int .i64 6] T (0, 0))) : ∀ k, k < 3 → w.cell? ⟨n, k, none⟩ = some (.int .i64 (4 + (k : Int))) := fun k hk => by
  rw [Lib.cell_of_heap h]
  match k, hk with
  | 0, _ => rfl
  | 1, _ => rfl
  | 2, _ => rfl

set_option maxHeartbeats 4000000 in
set_option maxRecDepth 100000 in
set_option maxHeartbeats 1500000 in
set_option maxRecDepth 100000 in
theorem mx_base : MxC 1 := by
  intro B cb w hc0 hg0 hgt
  have hcb := hc0.lt
  have hne : w.heap.size ≠ cb := by omega
  have HC0 := Lib.hid (hc0.up fun k hk => alloc_blk w exZ (show k < w.heap.size by omega))
  have HG0 := Lib.hid (hg0.keep ((Keep.refl cb w).alloc exZ) hgt)
  clear hc0 hg0
  show Calls Tryd.prog 66 #[.pointer (some ⟨cb, 0, none⟩), .int .i64 1] w (MxPost B cb 1 w)
  go_enter Tryd.func66, Tryd.ntmps66
  go_wp2_with fail
  refine (next_keep B cb 12 _ HC0.out (by decide) (by decide)).mono ?_
  rintro e w1 ⟨j, hj, rfl, hc, hk⟩
  have HC1 := Lib.hid hc
  have HG1 := Lib.hid (HG0.out.keep hk hgt)
  have HK1 := Lib.hid (((Keep.refl cb w).alloc exZ).trans hk)
  have HX1 := Lib.hid (hk.blk (new_blk w exZ) hne)
  clear hc hk HC0 HG0
  by_cases h0 : j = 0 ∨ j = 1 ∨ j = 8 ∨ j = 9
  · obtain rfl | rfl | rfl | rfl := h0
    all_goals
      go_wp2_with fail
      refine (next_keep B cb 5 _ HC1.out (by decide) (by decide)).mono ?_
      rintro e w2 ⟨v, hv, rfl, hc, hk⟩
      have HC2 := Lib.hid hc
      have HK2 := Lib.hid (HK1.out.trans hk)
      obtain ⟨c0, c1, c2, c3, c4, c5, f0, f1, f2, f3, f4, f5, hz⟩ := box6 (hk.blk HX1.out hne)
      clear hc hk
      go_wp2_with fail
      refine bodyPost_ret (v := .agg #[.int .i64 1, .int .i64 v, .string ⟨#[]⟩, .int .i64 0, .int .i64 0, .slice none 0 0]) ?_ rfl ?_
      · simp [results, Tryd.results66, go_sem, World.cell?_setCell_same, World.cell?_setCell_other, c0, c1, c2, c3, c4, c5]
      · exact mx_leaf (nm := []) HK2.out HC2.out hcb (by simp only [drE]; exact ⟨trivial, trivial, .inl ⟨trivial, by omega, by omega, trivial, trivial⟩⟩)
  by_cases h1 : j = 2 ∨ j = 3 ∨ j = 10 ∨ j = 11
  · obtain rfl | rfl | rfl | rfl := h1
    all_goals
      go_wp2_with fail
      refine (next_keep B cb 3 _ HC1.out (by decide) (by decide)).mono ?_
      rintro e w2 ⟨v, hv, rfl, hc, hk⟩
      have HC2 := Lib.hid hc
      have HK2 := Lib.hid (HK1.out.trans hk)
      obtain ⟨c0, c1, c2, c3, c4, c5, f0, f1, f2, f3, f4, f5, hz⟩ := box6 (hk.blk HX1.out hne)
      have q := (HG1.out.keep hk hgt).sc v hv
      have hv3 : (v : Int) < 3 := by omega
      have HS : Hid (∃ k, k < 3 ∧ nmS v = nmS k) := ⟨v, hv, rfl⟩
      obtain ⟨X, hX⟩ : ∃ X, nmS v = X := ⟨_, rfl⟩
      rw [hX] at q HS
      clear hc hk hX
      go_wp2_with fail
      refine bodyPost_ret (v := .agg #[.int .i64 2, .int .i64 0, .string (strB X), .int .i64 0, .int .i64 0, .slice none 0 0]) ?_ rfl ?_
      · simp [results, Tryd.results66, go_sem, World.cell?_setCell_same, World.cell?_setCell_other, c0, c1, c2, c3, c4, c5]
      · exact mx_leaf (nm := X) HK2.out HC2.out hcb (by simp only [drE]; exact ⟨trivial, trivial, .inr (.inl ⟨trivial, trivial, HS.out, trivial⟩)⟩)
  by_cases h2 : j = 4
  · obtain rfl := h2
    all_goals
      obtain ⟨c0, c1, c2, c3, c4, c5, f0, f1, f2, f3, f4, f5, hz⟩ := box6 HX1.out
      go_wp2_with fail
      refine bodyPost_ret (v := .agg #[.int .i64 7, .int .i64 0, .string ⟨#[]⟩, .int .i64 0, .int .i64 0, .slice none 0 0]) ?_ rfl ?_
      · simp [results, Tryd.results66, go_sem, World.cell?_setCell_same, World.cell?_setCell_other, c0, c1, c2, c3, c4, c5]
      · exact mx_leaf (nm := []) HK1.out HC1.out hcb (by simp only [drE]; exact ⟨trivial, trivial, .inr (.inr (.inl ⟨by decide, by decide, trivial, trivial, trivial⟩))⟩)
  by_cases h3 : j = 5
  · obtain rfl := h3
    all_goals
      go_wp2_with fail
      refine (next_keep B cb 3 _ (HC1.out.up fun k hk => alloc_blk w1 _ (by have := HC1.out.lt; omega)) (by decide) (by decide)).mono ?_
      rintro e w2 ⟨v, hv, rfl, hc, hk⟩
      have HC2 := Lib.hid hc
      have hzw := lt_of_block HX1.out
      have HK2 := Lib.hid ((HK1.out.alloc _).trans hk)
      obtain ⟨c0, c1, c2, c3, c4, c5, f0, f1, f2, f3, f4, f5, hz⟩ := box6 (hk.blk ((alloc_blk w1 _ hzw).trans HX1.out) hne)
      have q := mx_cell (hk.blk (new_blk w1 _) (by have := HC1.out.lt; omega)) v hv
      have hv3 : (v : Int) < 3 := by omega
      clear hc hk
      go_wp2_with fail
      refine bodyPost_ret (v := .agg #[.int .i64 (4 + (v : Int)), .int .i64 0, .string ⟨#[]⟩, .int .i64 0, .int .i64 0, .slice none 0 0]) ?_ rfl ?_
      · simp [results, Tryd.results66, go_sem, World.cell?_setCell_same, World.cell?_setCell_other, c0, c1, c2, c3, c4, c5]
      · exact mx_leaf (nm := []) HK2.out HC2.out hcb (by simp only [drE]; exact ⟨trivial, trivial, .inr (.inr (.inl ⟨by omega, by omega, trivial, trivial, trivial⟩))⟩)
  by_cases h4 : j = 6 ∨ j = 7
  · obtain rfl | rfl := h4
    all_goals
      go_wp2_with fail
      refine (next_keep B cb 200 _ HC1.out (by decide) (by decide)).mono ?_
      rintro e w2 ⟨v, hv, rfl, hc, hk⟩
      have HC2 := Lib.hid hc
      have HK2 := Lib.hid (HK1.out.trans hk)
      obtain ⟨c0, c1, c2, c3, c4, c5, f0, f1, f2, f3, f4, f5, hz⟩ := box6 (hk.blk HX1.out hne)
      clear hc hk
      go_wp2_with fail
      refine bodyPost_ret (v := .agg #[.int .i64 1, .int .i64 (1 + (v : Int)), .string ⟨#[]⟩, .int .i64 0, .int .i64 0, .slice none 0 0]) ?_ rfl ?_
      · simp [results, Tryd.results66, go_sem, World.cell?_setCell_same, World.cell?_setCell_other, c0, c1, c2, c3, c4, c5]
      · exact mx_leaf (nm := []) HK2.out HC2.out hcb (by simp only [drE]; exact ⟨trivial, trivial, .inl ⟨trivial, by omega, by omega, trivial, trivial⟩⟩)
  omega

theorem drew_up {B cb : Nat} {w : World} (h : CodesIn B w cb) : CodesIn B w.drew cb := h.up fun _ _ => rfl
theorem mx_arg1 {n0 m : Nat} {w : World} {e : Ex} {op : Int} {nm : List UInt8} {a b : Int} {s : ByteArray} {c d : Int} {A : Option Addr} {l q : Nat} (h : ExL (From m) w e [.int .i64 a, .int .i64 b, .string s, .int .i64 c, .int .i64 d, .slice A l q]) (hm : n0 ≤ m) (hw : n0 ≤ w.heap.size) (T : TypeId) :
    ExL (From n0) (w.alloc (.cells #[.int .i64 a, .int .i64 b, .string s, .int .i64 c, .int .i64 d, .slice A l q] T)) (.mk op 0 nm 0 0 [e]) [.int .i64 op, .int .i64 0, .string (strB nm), .int .i64 0, .int .i64 0, .slice (some ⟨w.heap.size, 0, none⟩) 1 1] := by
  simp only [ExL]
  exact ⟨_, 1, rfl, Nat.le_refl _, fun _ => ⟨_, _, rfl, hw, row1 h (by omega) T⟩⟩
theorem mx_arg2 {n0 m : Nat} {w : World} {e e' : Ex} {op : Int} {c0 c1 c2 c3 c4 c5 d0 d1 d2 d3 d4 d5 : Value} (h : ExL (From m) w e [c0, c1, c2, c3, c4, c5]) (h' : ExL (From m) w e' [d0, d1, d2, d3, d4, d5]) (hm : n0 ≤ m) (hw : n0 ≤ w.heap.size) (T : TypeId) :
    ExL (From n0) (w.alloc (.cells #[c0, c1, c2, c3, c4, c5, d0, d1, d2, d3, d4, d5] T)) (.mk op 0 [] 0 0 [e, e']) [.int .i64 op, .int .i64 0, .string ⟨#[]⟩, .int .i64 0, .int .i64 0, .slice (some ⟨w.heap.size, 0, none⟩) 2 2] := by
  simp only [ExL]
  exact ⟨_, 2, rfl, Nat.le_refl _, fun _ => ⟨_, _, rfl, hw, row2 h h' (by omega) T⟩⟩

/-- A node, as the function's result. -/
theorem mx_node {B cb d : Nat} {w w' : World} {ex : Ex} {a b : Int} {s : ByteArray} {c dd : Int} {A : Option Addr} {l q : Nat} (hk : Keep cb w w') (hc : CodesIn B w' cb) (hcb : cb < w.heap.size) (hd : drE d ex)
    (hl : ExL (From (w.heap.size + 1)) w' ex [.int .i64 a, .int .i64 b, .string s, .int .i64 c, .int .i64 dd, .slice A l q]) :
    MxPost B cb d w (.returned (.agg #[.int .i64 a, .int .i64 b, .string s, .int .i64 c, .int .i64 dd, .slice A l q])) (set6 w' w.heap.size (.int .i64 a) (.int .i64 b) (.string s) (.int .i64 c) (.int .i64 dd) (.slice A l q)) :=
  ⟨ex, _, rfl, ⟨a, b, s, c, dd, A, l, q, rfl, hl.set6 (Nat.le_succ _) (Nat.lt_succ_self _) _ _ _ _ _ _⟩, hd, hc.up fun k hk => set6_blk _ _ _ _ _ _ _ _ (by omega), hk.set6 (Nat.le_refl _) _ _ _ _ _ _⟩

set_option maxHeartbeats 1500000 in
set_option maxRecDepth 100000 in
theorem mx_step (d : Nat) (hd1 : 1 ≤ d) (hd : d ≤ 100) (ih : MxC d) : MxC (d + 1) := by
  intro B cb w hc0 hg0 hgt
  have hcb := hc0.lt
  have hne : w.heap.size ≠ cb := by omega
  have HC0 := Lib.hid (hc0.up fun k hk => alloc_blk w exZ (show k < w.heap.size by omega))
  have HG0 := Lib.hid (hg0.keep ((Keep.refl cb w).alloc exZ) hgt)
  clear hc0 hg0
  obtain ⟨D, hD⟩ : ∃ D : Int, ((d + 1 : Nat) : Int) = D := ⟨_, rfl⟩
  rw [hD]
  have hD1 : 1 < D := by omega
  have hDs : D - 1 = (d : Int) := by omega
  have hD2 : D ≤ 101 := by omega
  have IH := Lib.hid (fun B cb w h1 h2 h3 => ih B cb w h1 h2 h3)
  clear ih
  go_enter Tryd.func66, Tryd.ntmps66
  go_wp2_with fail
  refine (next_keep B cb 12 _ HC0.out (by decide) (by decide)).mono ?_
  rintro e w1 ⟨j, hj, rfl, hc, hk⟩
  have HC1 := Lib.hid hc
  have HG1 := Lib.hid (HG0.out.keep hk hgt)
  have HK1 := Lib.hid (((Keep.refl cb w).alloc exZ).trans hk)
  have HX1 := Lib.hid (hk.blk (new_blk w exZ) hne)
  clear hc hk HC0 HG0
  by_cases h0 : j = 0 ∨ j = 1
  · obtain rfl | rfl := h0
    all_goals
      go_wp2_with fail
      refine (next_keep B cb 5 _ HC1.out (by decide) (by decide)).mono ?_
      rintro e w2 ⟨v, hv, rfl, hc, hk⟩
      have HC2 := Lib.hid hc
      have HK2 := Lib.hid (HK1.out.trans hk)
      obtain ⟨c0, c1, c2, c3, c4, c5, f0, f1, f2, f3, f4, f5, hz⟩ := box6 (hk.blk HX1.out hne)
      clear hc hk
      go_wp2_with fail
      refine bodyPost_ret (v := .agg #[.int .i64 1, .int .i64 v, .string ⟨#[]⟩, .int .i64 0, .int .i64 0, .slice none 0 0]) ?_ rfl ?_
      · simp [results, Tryd.results66, go_sem, World.cell?_setCell_same, World.cell?_setCell_other, c0, c1, c2, c3, c4, c5]
      · exact mx_leaf (nm := []) HK2.out HC2.out hcb (by simp only [drE]; exact ⟨trivial, trivial, .inl ⟨trivial, by omega, by omega, trivial, trivial⟩⟩)
  by_cases h1 : j = 2 ∨ j = 3
  · obtain rfl | rfl := h1
    all_goals
      go_wp2_with fail
      refine (next_keep B cb 3 _ HC1.out (by decide) (by decide)).mono ?_
      rintro e w2 ⟨v, hv, rfl, hc, hk⟩
      have HC2 := Lib.hid hc
      have HK2 := Lib.hid (HK1.out.trans hk)
      obtain ⟨c0, c1, c2, c3, c4, c5, f0, f1, f2, f3, f4, f5, hz⟩ := box6 (hk.blk HX1.out hne)
      have q := (HG1.out.keep hk hgt).sc v hv
      have hv3 : (v : Int) < 3 := by omega
      have HS : Hid (∃ k, k < 3 ∧ nmS v = nmS k) := ⟨v, hv, rfl⟩
      obtain ⟨X, hX⟩ : ∃ X, nmS v = X := ⟨_, rfl⟩
      rw [hX] at q HS
      clear hc hk hX
      go_wp2_with fail
      refine bodyPost_ret (v := .agg #[.int .i64 2, .int .i64 0, .string (strB X), .int .i64 0, .int .i64 0, .slice none 0 0]) ?_ rfl ?_
      · simp [results, Tryd.results66, go_sem, World.cell?_setCell_same, World.cell?_setCell_other, c0, c1, c2, c3, c4, c5]
      · exact mx_leaf (nm := X) HK2.out HC2.out hcb (by simp only [drE]; exact ⟨trivial, trivial, .inr (.inl ⟨trivial, trivial, HS.out, trivial⟩)⟩)
  by_cases h2 : j = 4
  · obtain rfl := h2
    all_goals
      obtain ⟨c0, c1, c2, c3, c4, c5, f0, f1, f2, f3, f4, f5, hz⟩ := box6 HX1.out
      go_wp2_with fail
      refine bodyPost_ret (v := .agg #[.int .i64 7, .int .i64 0, .string ⟨#[]⟩, .int .i64 0, .int .i64 0, .slice none 0 0]) ?_ rfl ?_
      · simp [results, Tryd.results66, go_sem, World.cell?_setCell_same, World.cell?_setCell_other, c0, c1, c2, c3, c4, c5]
      · exact mx_leaf (nm := []) HK1.out HC1.out hcb (by simp only [drE]; exact ⟨trivial, trivial, .inr (.inr (.inl ⟨by decide, by decide, trivial, trivial, trivial⟩))⟩)
  by_cases h3 : j = 5
  · obtain rfl := h3
    all_goals
      go_wp2_with fail
      refine (next_keep B cb 3 _ (HC1.out.up fun k hk => alloc_blk w1 _ (by have := HC1.out.lt; omega)) (by decide) (by decide)).mono ?_
      rintro e w2 ⟨v, hv, rfl, hc, hk⟩
      have HC2 := Lib.hid hc
      have hzw := lt_of_block HX1.out
      have HK2 := Lib.hid ((HK1.out.alloc _).trans hk)
      obtain ⟨c0, c1, c2, c3, c4, c5, f0, f1, f2, f3, f4, f5, hz⟩ := box6 (hk.blk ((alloc_blk w1 _ hzw).trans HX1.out) hne)
      have q := mx_cell (hk.blk (new_blk w1 _) (by have := HC1.out.lt; omega)) v hv
      have hv3 : (v : Int) < 3 := by omega
      clear hc hk
      go_wp2_with fail
      refine bodyPost_ret (v := .agg #[.int .i64 (4 + (v : Int)), .int .i64 0, .string ⟨#[]⟩, .int .i64 0, .int .i64 0, .slice none 0 0]) ?_ rfl ?_
      · simp [results, Tryd.results66, go_sem, World.cell?_setCell_same, World.cell?_setCell_other, c0, c1, c2, c3, c4, c5]
      · exact mx_leaf (nm := []) HK2.out HC2.out hcb (by simp only [drE]; exact ⟨trivial, trivial, .inr (.inr (.inl ⟨by omega, by omega, trivial, trivial, trivial⟩))⟩)
  by_cases h4 : j = 6
  · obtain rfl := h4
    all_goals
      go_wp2_with fail
      refine (next_keep B cb 200 _ HC1.out (by decide) (by decide)).mono ?_
      rintro e w2 ⟨v, hv, rfl, hc, hk⟩
      have HC2 := Lib.hid hc
      have HK2 := Lib.hid (HK1.out.trans hk)
      obtain ⟨c0, c1, c2, c3, c4, c5, f0, f1, f2, f3, f4, f5, hz⟩ := box6 (hk.blk HX1.out hne)
      clear hc hk
      go_wp2_with fail
      refine bodyPost_ret (v := .agg #[.int .i64 1, .int .i64 (1 + (v : Int)), .string ⟨#[]⟩, .int .i64 0, .int .i64 0, .slice none 0 0]) ?_ rfl ?_
      · simp [results, Tryd.results66, go_sem, World.cell?_setCell_same, World.cell?_setCell_other, c0, c1, c2, c3, c4, c5]
      · exact mx_leaf (nm := []) HK2.out HC2.out hcb (by simp only [drE]; exact ⟨trivial, trivial, .inl ⟨trivial, by omega, by omega, trivial, trivial⟩⟩)
  by_cases h8 : j = 8
  · subst h8
    go_wp2_with fail
    refine (next_keep B cb 2 _ HC1.out (by decide) (by decide)).mono ?_
    rintro e w2 ⟨v, hv, rfl, hc, hk⟩
    have HC2 := Lib.hid hc
    have HG2 := Lib.hid (HG1.out.keep hk hgt)
    have HK2 := Lib.hid (HK1.out.trans hk)
    have HX2 := Lib.hid (hk.blk HX1.out hne)
    clear hc hk
    go_wp2_with fail
    refine (IH.out B cb w2 HC2.out HG2.out hgt).mono ?_
    rintro e w3 ⟨ex, v3, rfl, ⟨x0, x1, x2, x3, x4, A, l, q, rfl, hl⟩, hdr, hc, hk⟩
    have HC3 := Lib.hid hc
    have HK3 := Lib.hid (HK2.out.trans hk)
    have HX3 := Lib.hid (hk.blk HX2.out hne)
    have hz2 := lt_of_block HX2.out
    have HL3 := Lib.hid hl
    have HDR := Lib.hid hdr
    obtain ⟨c0, c1, c2, c3, c4, c5, f0, f1, f2, f3, f4, f5, hz⟩ := box6 HX3.out
    clear hc hk hl hdr
    go_wp2_with fail
    refine bodyPost_ret (v := .agg #[.int .i64 (8 + (v : Int)), .int .i64 0, .string ⟨#[]⟩, .int .i64 0, .int .i64 0, .slice (some ⟨w3.heap.size, 0, none⟩) 1 1]) ?_ rfl ?_
    · simp [results, Tryd.results66, go_sem, World.cell?_setCell_same, World.cell?_setCell_other, c0, c1, c2, c3, c4, c5, hz]
    · have HF := mx_node (d := d + 1) (HK3.out.alloc (.cells #[.int .i64 x0, .int .i64 x1, .string x2, .int .i64 x3, .int .i64 x4, .slice A l q] 92)) (HC3.out.up fun k hk => alloc_blk w3 _ (by omega)) hcb (by simp only [drE]; exact ⟨trivial, trivial, .inr (.inr (.inr (.inr (.inl ⟨by omega, by omega, trivial, trivial, ex, rfl, HDR.out⟩))))⟩)
        (mx_arg1 (n0 := w.heap.size + 1) (op := 8 + (v : Int)) (nm := []) HL3.out (by omega) (by omega) 92)
      rw [set6_alloc _ _ _ _ _ _ _ _ _ hz] at HF
      exact HF
  by_cases h7 : j = 7
  · subst h7
    have HC1d := Lib.hid (drew_up HC1.out)
    have HK1d := Lib.hid HK1.out.drew
    have hwD : IntKind.i64.wrap (d : Int) = (d : Int) := by rw [IntKind.wrap_i64]; omega
    go_wp2_with fail
    go_region_with (first
      | (go_at_call 24; refine (next_keep B cb 2 _ HC1d.out (by decide) (by decide)).mono ?_; rintro e w2 ⟨v, hv, rfl, hc, hk⟩; have HC2 := Lib.hid hc; have HG2 := Lib.hid ((HG1.out.keep ((Keep.refl cb w1).drew) hgt).keep hk hgt); have HK2 := Lib.hid (HK1d.out.trans hk); have HX2 := Lib.hid (hk.blk (w := w1.drew) HX1.out hne); have hz2 := lt_of_block HX2.out; have q2 := HG2.out.ar v hv; have hv2 : (v : Int) < 2 := (by omega); have HS : Hid (∃ k, k < 2 ∧ nmA v = nmA k) := ⟨v, hv, rfl⟩; obtain ⟨X, hX⟩ : ∃ X, nmA v = X := ⟨_, rfl⟩; rw [hX] at q2 HS; clear hc hk hX)
      | (go_at_call 66; ((with_reducible refine (IH.out B cb w2 HC2.out HG2.out hgt).mono ?_)); rintro e w3 ⟨ex, v3, rfl, ⟨x0, x1, x2, x3, x4, A, l, q, rfl, hl⟩, hdr, hc, hk⟩; have HC3 := Lib.hid hc; have HK3 := Lib.hid (HK2.out.trans hk); have HX3 := Lib.hid (hk.blk HX2.out hne); have HL3 := Lib.hid hl; have HDR := Lib.hid hdr; have q3 := hk.cell q2 (by have : glTop ≤ cb := hgt; unfold glTop at this; omega); have hgz : 1 < w3.heap.size := (World.block_lt_of_cell? w3 _ q3); obtain ⟨c0, c1, c2, c3, c4, c5, f0, f1, f2, f3, f4, f5, hz⟩ := box6 HX3.out; clear hc hk hl hdr))
    all_goals
      clear q2 q3
      go_wp2_with fail
      refine bodyPost_ret (v := .agg #[.int .i64 3, .int .i64 0, .string (strB X), .int .i64 0, .int .i64 0, .slice (some ⟨w3.heap.size, 0, none⟩) 1 1]) ?_ rfl ?_
      · simp [results, Tryd.results66, go_sem, World.cell?_setCell_same, World.cell?_setCell_other, c0, c1, c2, c3, c4, c5, hz]
      · have HF := mx_node (d := d + 1) (HK3.out.alloc (.cells #[.int .i64 x0, .int .i64 x1, .string x2, .int .i64 x3, .int .i64 x4, .slice A l q] 92)) (HC3.out.up fun k hk => alloc_blk w3 _ (by omega)) hcb (by simp only [drE]; exact ⟨trivial, trivial, .inr (.inr (.inr (.inl ⟨trivial, trivial, HS.out, ex, rfl, HDR.out⟩)))⟩)
          (mx_arg1 (n0 := w.heap.size + 1) (op := 3) (nm := X) HL3.out (by omega) (by omega) 92)
        rw [set6_alloc _ _ _ _ _ _ _ _ _ hz] at HF
        exact HF
  by_cases h9 : 9 ≤ j
  · have h9' : (9 : Int) ≤ (j : Int) := by omega
    have hj12 : (j : Int) < 12 := by omega
    clear h0 h1 h2 h3 h4 h8 h7 h9
    go_wp2_with fail
    refine (IH.out B cb w1 HC1.out HG1.out hgt).mono ?_
    rintro e w2 ⟨e1, v2, rfl, ⟨x0, x1, x2, x3, x4, A, l, q, rfl, hl⟩, hdr, hc, hk⟩
    have hz1 := lt_of_block HX1.out
    have hcb1 := HC1.out.lt
    have hcb2 := hc.lt
    have HC2 := Lib.hid hc
    have HG2 := Lib.hid (HG1.out.keep hk hgt)
    have HK2 := Lib.hid (HK1.out.trans hk)
    have HX2 := Lib.hid (hk.blk HX1.out hne)
    have hz2 := lt_of_block HX2.out
    have HL2 := Lib.hid hl
    have HDR1 := Lib.hid hdr
    clear hc hk hl hdr
    go_wp2_with fail
    have hna : w2.heap.size ≠ cb := by omega
    obtain ⟨na, hna'⟩ : ∃ x, w2.heap.size = x := ⟨_, rfl⟩
    obtain ⟨wa, hwa⟩ : ∃ x, w2.alloc (.cells #[.int .i64 x0, .int .i64 x1, .string x2, .int .i64 x3, .int .i64 x4, .slice A l q] 92) = x := ⟨_, rfl⟩
    have HCa := Lib.hid (show CodesIn B wa cb by rw [← hwa]; exact HC2.out.up fun k hk => alloc_blk w2 _ (by omega))
    have HKa := Lib.hid (show Keep cb w wa by rw [← hwa]; exact HK2.out.alloc _)
    have HGa := Lib.hid (show GlAt wa by rw [← hwa]; exact HG2.out.keep ((Keep.refl cb w2).alloc _) hgt)
    have HXa := Lib.hid (show wa.heap[w.heap.size]? = some exZ by rw [← hwa]; exact (alloc_blk w2 _ hz2).trans HX2.out)
    have HYa := Lib.hid (show wa.heap[na]? = some (.cells #[.int .i64 x0, .int .i64 x1, .string x2, .int .i64 x3, .int .i64 x4, .slice A l q] 92 (0, 0)) by rw [← hwa, ← hna']; exact new_blk w2 _)
    have HLa := Lib.hid (show ExL (From (w.heap.size + 1)) wa e1 [.int .i64 x0, .int .i64 x1, .string x2, .int .i64 x3, .int .i64 x4, .slice A l q] by rw [← hwa]; exact HL2.out.alloc (by omega) _)
    have hza : w.heap.size + 1 ≤ wa.heap.size := lt_of_block HXa.out
    rw [hwa, hna']
    rw [hna'] at hna
    clear hwa hna' HC2 HG2 HK2 HX2 HL2
    obtain ⟨y0, y1, y2, y3, y4, y5, _, _, _, _, _, _, hya⟩ := box6 HYa.out
    have HCd := Lib.hid (drew_up HCa.out)
    have hwD : IntKind.i64.wrap (d : Int) = (d : Int) := by rw [IntKind.wrap_i64]; omega
    go_region_with (first
      | (go_at_call 24; refine (next_keep B cb 13 _ HCd.out (by decide) (by decide)).mono ?_; rintro e w3 ⟨v, hv, rfl, hc, hk⟩; have HC3 := Lib.hid hc; have HG3 := Lib.hid ((HGa.out.keep ((Keep.refl cb wa).drew) hgt).keep hk hgt); have HKn := Lib.hid ((Keep.refl cb wa).drew.trans hk); have HX3 := Lib.hid (hk.blk (w := wa.drew) HXa.out hne); have HY3 := Lib.hid (hk.blk (w := wa.drew) HYa.out hna); have hz3 := lt_of_block HX3.out; have hv13 : (v : Int) < 13 := (by omega); have hwv : IntKind.i64.wrap (10 + (v : Int)) = 10 + (v : Int) := (by rw [IntKind.wrap_i64]; omega); obtain ⟨s0, s1, s2, s3, s4, s5, _, _, _, _, _, _, hys⟩ := box6 HY3.out; clear hc hk)
      | (go_at_call 66; ((with_reducible refine (IH.out B cb w3 HC3.out HG3.out hgt).mono ?_)); rintro e w4 ⟨e2, v4, rfl, ⟨t0, t1, t2, t3, t4, A', l', q', rfl, hl⟩, hdr, hc, hk⟩; have HC4 := Lib.hid hc; have HKe := Lib.hid hk; have HX4 := Lib.hid (hk.blk HX3.out hne); have HL4 := Lib.hid hl; have HDR2 := Lib.hid hdr; obtain ⟨r0, r1, r2, r3, r4, r5, _, _, _, _, _, _, hyr⟩ := box6 (hk.blk HY3.out hna); obtain ⟨c0, c1, c2, c3, c4, c5, f0, f1, f2, f3, f4, f5, hz⟩ := box6 HX4.out; clear hc hk hl hdr))
    all_goals
      have hz4 := HKe.out.size
      clear y0 y1 y2 y3 y4 y5 s0 s1 s2 s3 s4 s5 r0 r1 r2 r3 r4 r5
      go_wp2_with fail
      refine bodyPost_ret (v := .agg #[.int .i64 (10 + (v : Int)), .int .i64 0, .string ⟨#[]⟩, .int .i64 0, .int .i64 0, .slice (some ⟨w4.heap.size, 0, none⟩) 2 2]) ?_ rfl ?_
      · simp [results, Tryd.results66, go_sem, World.cell?_setCell_same, World.cell?_setCell_other, c0, c1, c2, c3, c4, c5, hz]
      · have HLw := (HLa.out.keep (Nat.le_refl _) HKn.out (by omega)).keep (Nat.le_refl _) HKe.out (by omega)
        have HLx := ExL.still (S' := From (w.heap.size + 1)) (w' := w4) (fun k (h1 : w3.heap.size ≤ k) _ => ⟨show w.heap.size + 1 ≤ k by omega, rfl⟩) e2 _ HL4.out
        have HF := mx_node (d := d + 1) (((HKa.out.trans HKn.out).trans HKe.out).alloc (.cells #[.int .i64 x0, .int .i64 x1, .string x2, .int .i64 x3, .int .i64 x4, .slice A l q, .int .i64 t0, .int .i64 t1, .string t2, .int .i64 t3, .int .i64 t4, .slice A' l' q'] 92)) (HC4.out.up fun k hk => alloc_blk w4 _ (by omega)) hcb (by simp only [drE]; exact ⟨trivial, trivial, .inr (.inr (.inr (.inr (.inr ⟨by omega, by omega, trivial, trivial, e1, e2, rfl, HDR1.out, HDR2.out⟩))))⟩)
          (mx_arg2 (n0 := w.heap.size + 1) (op := 10 + (v : Int)) HLw HLx (by omega) (by omega) 92)
        rw [set6_alloc _ _ _ _ _ _ _ _ _ hz] at HF
        exact HF
  · omega

theorem mx_all : ∀ d, d ≤ 100 → 1 ≤ d → MxC d
  | 0, _, h => absurd h (by decide)
  | 1, _, _ => mx_base
  | d + 2, hd, _ => mx_step (d + 1) (by omega) (by omega) (mx_all (d + 1) (by omega) (by omega))
end Go.Proofs.YtgblgkkbggdopaaDoor
