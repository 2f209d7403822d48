/-
  Texts of a walk, laid together by a program of the prover's own (merge.py). No conditions beyond those that each text names.
-/
import Derived.Test.YtgblgkkbggdopaaDoorZau
import Derived.Test.YtgblgkkbggdopaaDoorZaq
import Derived.Test.YtgblgkkbggdopaaDoorZal
import Derived.Test.YtgblgkkbggdopaaDoorZaj
import Derived.Test.YtgblgkkbggdopaaDoorZao
import Derived.Test.YtgblgkkbggdopaaDoorZap
import Derived.Test.YtgblgkkbggdopaaDoorZat
import Derived.Test.YtgblgkkbggdopaaDoorZab
/-
  What Program of rollbacknetmake does: a program that is drawn by choices. Conditions: as for Next.
-/
namespace Go.Proofs.YtgblgkkbggdopaaDoor
open Go.RowKit

/-- The declarations of drawn programs. -/
def drV (a b c : Nat) : List Vr := [⟨[120], 0, (a : Int) - 2⟩, ⟨[97], 1 + (b : Int), 0⟩, ⟨[121], 0, 0⟩, ⟨[122], 0, (c : Int)⟩, ⟨[98], 2, 0⟩]
/-- A drawn program. -/
structure drP (p : Pr) : Prop where
  v : ∃ a b c, a < 7 ∧ b < 5 ∧ c < 3 ∧ p.vars = drV a b c
  s : p.start.length ≤ 3 ∧ ∀ s ∈ p.start, drS 2 s
  m : p.message.length ≤ 4 ∧ ∀ s ∈ p.message, drS 3 s
  t : p.tick.length ≤ 3 ∧ ∀ s ∈ p.tick, drS 2 s
  i : p.input.length ≤ 2 ∧ ∀ s ∈ p.input, drS 2 s

/-- What Program does. -/
def MpPost (B cb : Nat) (w : World) (e : Ending) (w' : World) : Prop :=
  ∃ p v, e = .returned v ∧ VPr w.heap.size w' p v ∧ drP p ∧ CodesIn B w' cb ∧ Keep cb w w'

theorem mp_vars {w : World} {b : Nat} {T : TypeId} {fr : Nat × Nat} {l : List Vr} {S : Nat → Prop} (h : w.heap[b]? = some (.cells (l.flatMap vrCells).toArray T fr)) (hS : S b) (c : Nat) (hc : l.length ≤ c) : VrSlice S w l (.slice (some ⟨b, 0, none⟩) l.length c) :=
  ⟨_, c, rfl, hc, fun _ => ⟨b, 0, rfl, hS, fun j u hj => by rw [Nat.zero_add, Lib.cell_of_heap h, List.getElem?_toArray]; exact hj⟩⟩
theorem set_other (w : World) (n i : Nat) (v : Value) {k : Nat} (h : k ≠ n) : (w.setCell ⟨n, i, none⟩ v).heap[k]? = w.heap[k]? := Below.heap_setCell w ⟨n, i, none⟩ v k h
theorem st_set {n m : Nat} {w : World} {l : List St} {v : Value} (h : StSlice (From n) w l v) (i : Nat) (u : Value) (hm : m < n) : StSlice (From n) (w.setCell ⟨m, i, none⟩ u) l v :=
  h.still fun b (hb : n ≤ b) _ => ⟨hb, set_other w m i u (by omega)⟩

set_option maxHeartbeats 4000000 in
set_option maxRecDepth 100000 in
theorem mp_any (B cb : Nat) (w : World) (hc0 : CodesIn B w cb) (hg0 : GlAt w) (hgt : glTop ≤ cb) :
    Calls Tryd.prog 35 #[.pointer (some ⟨cb, 0, none⟩)] w (MpPost B cb w) := by
  have hcb := hc0.lt
  have hne : w.heap.size ≠ cb := by omega
  have HC0 := Lib.hid (hc0.up fun k hk => alloc_blk w prZ (show k < w.heap.size by omega))
  have HG := Lib.hid hg0
  have M32 : Hid (∀ w, CodesIn B w cb → GlAt w → glTop ≤ cb → Calls Tryd.prog 56 #[.pointer (some ⟨cb, 0, none⟩), .int .i64 3, .int .i64 2] w (MsPost B cb 3 2 w)) := fun w h1 h2 h3 => ms_all 2 (by decide) (by decide) 3 B cb w (by decide) h1 h2 h3
  have M43 : Hid (∀ w, CodesIn B w cb → GlAt w → glTop ≤ cb → Calls Tryd.prog 56 #[.pointer (some ⟨cb, 0, none⟩), .int .i64 4, .int .i64 3] w (MsPost B cb 4 3 w)) := fun w h1 h2 h3 => ms_all 3 (by decide) (by decide) 4 B cb w (by decide) h1 h2 h3
  have M22 : Hid (∀ w, CodesIn B w cb → GlAt w → glTop ≤ cb → Calls Tryd.prog 56 #[.pointer (some ⟨cb, 0, none⟩), .int .i64 2, .int .i64 2] w (MsPost B cb 2 2 w)) := fun w h1 h2 h3 => ms_all 2 (by decide) (by decide) 2 B cb w (by decide) h1 h2 h3
  clear hc0 hg0
  go_enter Tryd.func35, Tryd.ntmps35
  go_wp2_with fail
  refine (next_keep B cb 7 _ HC0.out (by decide) (by decide)).mono ?_
  rintro e w1 ⟨a, ha, rfl, hc, hk⟩
  have HC1 := Lib.hid hc
  have HK1 := Lib.hid (((Keep.refl cb w).alloc prZ).trans hk)
  have HR1 := Lib.hid (hk.blk (new_blk w prZ) hne)
  clear hc hk
  go_wp2_with fail
  refine (next_keep B cb 5 _ HC1.out (by decide) (by decide)).mono ?_
  rintro e w2 ⟨b, hb, rfl, hc, hk⟩
  have HC2 := Lib.hid hc
  have HK2 := Lib.hid (HK1.out.trans hk)
  have HR2 := Lib.hid (hk.blk HR1.out hne)
  clear hc hk
  go_wp2_with fail
  refine (next_keep B cb 3 _ HC2.out (by decide) (by decide)).mono ?_
  rintro e w3 ⟨c, hc, rfl, hc, hk⟩
  have HC3 := Lib.hid hc
  have HK3 := Lib.hid (HK2.out.trans hk)
  have HR3 := Lib.hid (hk.blk HR2.out hne)
  clear hc hk
  have hr3 := lt_of_block HR3.out
  go_wp2_with fail
  have HVC : Hid (#[.string { data := #[120] }, .int .i64 0, .int .i64 ((a : Int) - 2), .string { data := #[97] }, .int .i64 (1 + (b : Int)), .int .i64 0, .string { data := #[121] }, .int .i64 0, .int .i64 0, .string { data := #[122] }, .int .i64 0, .int .i64 (c : Int), .string { data := #[98] }, .int .i64 2, .int .i64 0] = ((drV a b c).flatMap vrCells).toArray) := rfl
  obtain ⟨VC, hVC⟩ : ∃ VC, #[Value.string { data := #[120] }, .int .i64 0, .int .i64 ((a : Int) - 2), .string { data := #[97] }, .int .i64 (1 + (b : Int)), .int .i64 0, .string { data := #[121] }, .int .i64 0, .int .i64 0, .string { data := #[122] }, .int .i64 0, .int .i64 (c : Int), .string { data := #[98] }, .int .i64 2, .int .i64 0] = VC := ⟨_, rfl⟩
  rw [hVC] at HVC ⊢
  obtain ⟨nv, hnv⟩ : ∃ x, w3.heap.size = x := ⟨_, rfl⟩
  obtain ⟨z0, hz0⟩ : ∃ x, (w3.alloc (.cells VC 97)).alloc (.cells #[.slice (some ⟨nv, 0, none⟩) 5 5, .slice none 0 0, .slice none 0 0, .slice none 0 0, .slice none 0 0] 74) = x := ⟨_, rfl⟩
  have hn3 : (w3.alloc (.cells VC 97)).heap.size = nv + 1 := by rw [new_size, hnv]
  have HCz0 := Lib.hid (show CodesIn B z0 cb by rw [← hz0]; exact (HC3.out.up fun k hk => alloc_blk w3 _ (by omega)).up fun k hk => alloc_blk _ _ (by omega))
  have HKz0 := Lib.hid (show Keep cb w z0 by rw [← hz0]; exact (HK3.out.alloc _).alloc _)
  have HRz0 := Lib.hid (show z0.heap[w.heap.size]? = some prZ by rw [← hz0]; exact (alloc_blk _ _ (by omega)).trans ((alloc_blk w3 _ hr3).trans HR3.out))
  have HVz0 := Lib.hid (show z0.heap[nv]? = some (.cells VC 97 (0, 0)) by rw [← hz0, ← hnv]; exact (alloc_blk _ _ (by omega)).trans (new_blk w3 _))
  have HBz0 := Lib.hid (show z0.heap[nv + 1]? = some (.cells #[.slice (some ⟨nv, 0, none⟩) 5 5, .slice none 0 0, .slice none 0 0, .slice none 0 0, .slice none 0 0] 74 (0, 0)) by rw [← hz0, ← hn3]; exact new_blk _ _)
  have hnvr : w.heap.size < nv := by omega
  rw [hnv, hz0]
  clear hVC hz0 hn3 hr3 HC3 HK3 HR3 HC2 HK2 HR2 HC1 HK1 HR1 hnv
  refine (M32.out z0 HCz0.out (HG.out.keep HKz0.out hgt) hgt).mono ?_
  rintro e y1 ⟨l1, A1, n1, c1, rfl, hl, hln, hdr, hc, hk⟩
  have HD1 := Lib.hid (show l1.length ≤ 3 ∧ _ from ⟨hln, hdr⟩)
  have HBy1 := Lib.hid (hk.blk HBz0.out (by omega))
  obtain ⟨d0, d1, d2, d3, d4, f0, f1, f2, f3, f4, hzz⟩ := box5 HBy1.out
  have HCz1 := Lib.hid (hc.up (w' := y1.setCell ⟨nv + 1, 1, none⟩ (.slice A1 n1 c1)) fun k hk => set_other _ _ _ _ (by omega))
  have HKz1 := Lib.hid ((HKz0.out.trans hk).setNew (p := ⟨nv + 1, 1, none⟩) (show w.heap.size ≤ nv + 1 by omega) (.slice A1 n1 c1))
  have HRz1 := Lib.hid ((set_other y1 (nv + 1) 1 (.slice A1 n1 c1) (by omega)).trans (hk.blk HRz0.out hne))
  have HVz1 := Lib.hid ((set_other y1 (nv + 1) 1 (.slice A1 n1 c1) (by omega)).trans (hk.blk HVz0.out (by omega)))
  have HBz1 : Hid ((y1.setCell ⟨nv + 1, 1, none⟩ (.slice A1 n1 c1)).heap[nv + 1]? = some (.cells #[.slice (some ⟨nv, 0, none⟩) 5 5, .slice A1 n1 c1, .slice none 0 0, .slice none 0 0, .slice none 0 0] 74 (0, 0))) := blk_set HBy1.out 1 (.slice A1 n1 c1)
  have hzx := lt_of_block HBz0.out
  have HL1 := Lib.hid (st_set (st_low (m := nv + 2) hl (by omega)) 1 (.slice A1 n1 c1) (m := nv + 1) (by omega))
  clear hl hln hdr hc hk HCz0 HKz0 HRz0 HVz0 HBz0 hzx
  go_wp2_with fail
  obtain ⟨z1, hz1⟩ : ∃ x, y1.setCell ⟨nv + 1, 1, none⟩ (.slice A1 n1 c1) = x := ⟨_, rfl⟩
  rw [hz1] at HCz1 HKz1 HRz1 HVz1 HBz1 HL1
  clear d0 d1 d2 d3 d4 f0 f1 f2 f3 f4 hzz HBy1
  rw [hz1]
  clear hz1
  refine (M43.out z1 HCz1.out (HG.out.keep HKz1.out hgt) hgt).mono ?_
  rintro e y2 ⟨l2, A2, n2, c2, rfl, hl, hln, hdr, hc, hk⟩
  have HD2 := Lib.hid (show l2.length ≤ 4 ∧ _ from ⟨hln, hdr⟩)
  have HBy2 := Lib.hid (hk.blk HBz1.out (by omega))
  obtain ⟨d0, d1, d2, d3, d4, f0, f1, f2, f3, f4, hzz⟩ := box5 HBy2.out
  have HCz2 := Lib.hid (hc.up (w' := y2.setCell ⟨nv + 1, 2, none⟩ (.slice A2 n2 c2)) fun k hk => set_other _ _ _ _ (by omega))
  have HKz2 := Lib.hid ((HKz1.out.trans hk).setNew (p := ⟨nv + 1, 2, none⟩) (show w.heap.size ≤ nv + 1 by omega) (.slice A2 n2 c2))
  have HRz2 := Lib.hid ((set_other y2 (nv + 1) 2 (.slice A2 n2 c2) (by omega)).trans (hk.blk HRz1.out hne))
  have HVz2 := Lib.hid ((set_other y2 (nv + 1) 2 (.slice A2 n2 c2) (by omega)).trans (hk.blk HVz1.out (by omega)))
  have HBz2 : Hid ((y2.setCell ⟨nv + 1, 2, none⟩ (.slice A2 n2 c2)).heap[nv + 1]? = some (.cells #[.slice (some ⟨nv, 0, none⟩) 5 5, .slice A1 n1 c1, .slice A2 n2 c2, .slice none 0 0, .slice none 0 0] 74 (0, 0))) := blk_set HBy2.out 2 (.slice A2 n2 c2)
  have hzx := lt_of_block HBz1.out
  have HL2 := Lib.hid (st_set (st_low (m := nv + 2) hl (by omega)) 2 (.slice A2 n2 c2) (m := nv + 1) (by omega))
  replace HL1 := Lib.hid (st_set (st_keep HL1.out (Nat.le_refl _) hk (by omega)) 2 (.slice A2 n2 c2) (m := nv + 1) (by omega))
  clear hl hln hdr hc hk HCz1 HKz1 HRz1 HVz1 HBz1 hzx
  go_wp2_with fail
  obtain ⟨z2, hz2⟩ : ∃ x, y2.setCell ⟨nv + 1, 2, none⟩ (.slice A2 n2 c2) = x := ⟨_, rfl⟩
  rw [hz2] at HCz2 HKz2 HRz2 HVz2 HBz2 HL1 HL2
  clear d0 d1 d2 d3 d4 f0 f1 f2 f3 f4 hzz HBy2
  rw [hz2]
  clear hz2
  refine (M32.out z2 HCz2.out (HG.out.keep HKz2.out hgt) hgt).mono ?_
  rintro e y3 ⟨l3, A3, n3, c3, rfl, hl, hln, hdr, hc, hk⟩
  have HD3 := Lib.hid (show l3.length ≤ 3 ∧ _ from ⟨hln, hdr⟩)
  have HBy3 := Lib.hid (hk.blk HBz2.out (by omega))
  obtain ⟨d0, d1, d2, d3, d4, f0, f1, f2, f3, f4, hzz⟩ := box5 HBy3.out
  have HCz3 := Lib.hid (hc.up (w' := y3.setCell ⟨nv + 1, 3, none⟩ (.slice A3 n3 c3)) fun k hk => set_other _ _ _ _ (by omega))
  have HKz3 := Lib.hid ((HKz2.out.trans hk).setNew (p := ⟨nv + 1, 3, none⟩) (show w.heap.size ≤ nv + 1 by omega) (.slice A3 n3 c3))
  have HRz3 := Lib.hid ((set_other y3 (nv + 1) 3 (.slice A3 n3 c3) (by omega)).trans (hk.blk HRz2.out hne))
  have HVz3 := Lib.hid ((set_other y3 (nv + 1) 3 (.slice A3 n3 c3) (by omega)).trans (hk.blk HVz2.out (by omega)))
  have HBz3 : Hid ((y3.setCell ⟨nv + 1, 3, none⟩ (.slice A3 n3 c3)).heap[nv + 1]? = some (.cells #[.slice (some ⟨nv, 0, none⟩) 5 5, .slice A1 n1 c1, .slice A2 n2 c2, .slice A3 n3 c3, .slice none 0 0] 74 (0, 0))) := blk_set HBy3.out 3 (.slice A3 n3 c3)
  have hzx := lt_of_block HBz2.out
  have HL3 := Lib.hid (st_set (st_low (m := nv + 2) hl (by omega)) 3 (.slice A3 n3 c3) (m := nv + 1) (by omega))
  replace HL1 := Lib.hid (st_set (st_keep HL1.out (Nat.le_refl _) hk (by omega)) 3 (.slice A3 n3 c3) (m := nv + 1) (by omega))
  replace HL2 := Lib.hid (st_set (st_keep HL2.out (Nat.le_refl _) hk (by omega)) 3 (.slice A3 n3 c3) (m := nv + 1) (by omega))
  clear hl hln hdr hc hk HCz2 HKz2 HRz2 HVz2 HBz2 hzx
  go_wp2_with fail
  obtain ⟨z3, hz3⟩ : ∃ x, y3.setCell ⟨nv + 1, 3, none⟩ (.slice A3 n3 c3) = x := ⟨_, rfl⟩
  rw [hz3] at HCz3 HKz3 HRz3 HVz3 HBz3 HL1 HL2 HL3
  clear d0 d1 d2 d3 d4 f0 f1 f2 f3 f4 hzz HBy3
  rw [hz3]
  clear hz3
  refine (M22.out z3 HCz3.out (HG.out.keep HKz3.out hgt) hgt).mono ?_
  rintro e y4 ⟨l4, A4, n4, c4, rfl, hl, hln, hdr, hc, hk⟩
  have HD4 := Lib.hid (show l4.length ≤ 2 ∧ _ from ⟨hln, hdr⟩)
  have HBy4 := Lib.hid (hk.blk HBz3.out (by omega))
  obtain ⟨d0, d1, d2, d3, d4, f0, f1, f2, f3, f4, hzz⟩ := box5 HBy4.out
  have HCz4 := Lib.hid (hc.up (w' := y4.setCell ⟨nv + 1, 4, none⟩ (.slice A4 n4 c4)) fun k hk => set_other _ _ _ _ (by omega))
  have HKz4 := Lib.hid ((HKz3.out.trans hk).setNew (p := ⟨nv + 1, 4, none⟩) (show w.heap.size ≤ nv + 1 by omega) (.slice A4 n4 c4))
  have HRz4 := Lib.hid ((set_other y4 (nv + 1) 4 (.slice A4 n4 c4) (by omega)).trans (hk.blk HRz3.out hne))
  have HVz4 := Lib.hid ((set_other y4 (nv + 1) 4 (.slice A4 n4 c4) (by omega)).trans (hk.blk HVz3.out (by omega)))
  have HBz4 : Hid ((y4.setCell ⟨nv + 1, 4, none⟩ (.slice A4 n4 c4)).heap[nv + 1]? = some (.cells #[.slice (some ⟨nv, 0, none⟩) 5 5, .slice A1 n1 c1, .slice A2 n2 c2, .slice A3 n3 c3, .slice A4 n4 c4] 74 (0, 0))) := blk_set HBy4.out 4 (.slice A4 n4 c4)
  have hzx := lt_of_block HBz3.out
  have HL4 := Lib.hid (st_set (st_low (m := nv + 2) hl (by omega)) 4 (.slice A4 n4 c4) (m := nv + 1) (by omega))
  replace HL1 := Lib.hid (st_set (st_keep HL1.out (Nat.le_refl _) hk (by omega)) 4 (.slice A4 n4 c4) (m := nv + 1) (by omega))
  replace HL2 := Lib.hid (st_set (st_keep HL2.out (Nat.le_refl _) hk (by omega)) 4 (.slice A4 n4 c4) (m := nv + 1) (by omega))
  replace HL3 := Lib.hid (st_set (st_keep HL3.out (Nat.le_refl _) hk (by omega)) 4 (.slice A4 n4 c4) (m := nv + 1) (by omega))
  have HRy4 := Lib.hid (hk.blk HRz3.out hne)
  obtain ⟨r0, r1, r2, r3, r4, g0, g1, g2, g3, g4, hzr⟩ := box5 HRy4.out
  have hnr : ¬ w.heap.size = nv + 1 := by omega
  have hnr2 : ¬ nv + 1 = w.heap.size := by omega
  clear hl hln hdr hc hk HCz3 HKz3 HRz3 HVz3 HBz3 hzx
  go_wp2_with fail
  refine bodyPost_ret (v := .agg #[.slice (some ⟨nv, 0, none⟩) 5 5, .slice A1 n1 c1, .slice A2 n2 c2, .slice A3 n3 c3, .slice A4 n4 c4]) ?_ rfl ?_
  · simp [results, Tryd.results35, go_sem, World.cell?_setCell_same, World.cell?_setCell_other, r0, r1, r2, r3, r4]
  · have hv5 : ∀ (l : List St) (v : Value), StSlice (From (nv + 2)) (y4.setCell ⟨nv + 1, 4, none⟩ (.slice A4 n4 c4)) l v → StSlice (From w.heap.size) (set5 (y4.setCell ⟨nv + 1, 4, none⟩ (.slice A4 n4 c4)) w.heap.size (.slice (some ⟨nv, 0, none⟩) 5 5) (.slice A1 n1 c1) (.slice A2 n2 c2) (.slice A3 n3 c3) (.slice A4 n4 c4)) l v := fun l v h =>
      h.still fun k (h1 : nv + 2 ≤ k) _ => ⟨show w.heap.size ≤ k by omega, set5_blk _ _ _ _ _ _ _ (by omega)⟩
    have hvv := mp_vars (w := set5 (y4.setCell ⟨nv + 1, 4, none⟩ (.slice A4 n4 c4)) w.heap.size (.slice (some ⟨nv, 0, none⟩) 5 5) (.slice A1 n1 c1) (.slice A2 n2 c2) (.slice A3 n3 c3) (.slice A4 n4 c4)) (b := nv) (T := 97) (fr := (0, 0)) (l := drV a b c) (S := From w.heap.size) (by
      rw [set5_blk _ _ _ _ _ _ _ (by omega), HVz4.out, HVC.out]) (show w.heap.size ≤ nv by omega) 5 (by simp [drV])
    exact ⟨⟨drV a b c, l1, l2, l3, l4⟩, _, rfl, ⟨_, _, _, _, _, _, _, _, _, _, _, _, _, _, _, rfl, hvv, hv5 _ _ HL1.out, hv5 _ _ HL2.out, hv5 _ _ HL3.out, hv5 _ _ HL4.out⟩, ⟨⟨a, b, c, ha, hb, hc, rfl⟩, HD1.out, HD2.out, HD3.out, HD4.out⟩,
      HCz4.out.up fun k hk => set5_blk _ _ _ _ _ _ _ (by omega), HKz4.out.set5 (Nat.le_refl _) _ _ _ _ _⟩
end Go.Proofs.YtgblgkkbggdopaaDoor

/-
  Drawn programs are as parsing makes them, not deep and not large, and all their names are declared and stand for what they are declared as. No conditions.
-/
namespace Go.Proofs.YtgblgkkbggdopaaDoor
open Go.RowKit

/-- What the names of a drawn program stand for. -/
def dPl (a b c : Nat) : Pl := (declS (drV a b c)).2.2
/-- The names of a drawn program are in a map. -/
structure DrF (f : Pl) : Prop where
  s : ∀ k, k < 3 → ∃ x, f (nmS k) = some x ∧ ¬ 0 < x.2
  a : ∀ k, k < 2 → ∃ x, f (nmA k) = some x ∧ 0 < x.2

theorem opN_0 : ∀ k : Nat, k < 4 → opN (4 + (k : Int)) = some 0 := by decide +kernel
theorem opN_1 : ∀ k : Nat, k < 2 → opN (8 + (k : Int)) = some 1 := by decide +kernel
theorem opN_2 : ∀ k : Nat, k < 13 → opN (10 + (k : Int)) = some 2 := by decide +kernel
theorem nmS_ok : ∀ k, k < 3 → validS (nmS k) = true ∧ (nmS k).length = 1 := by decide +kernel
theorem nmA_ok : ∀ k, k < 2 → validS (nmA k) = true ∧ (nmA k).length = 1 := by decide +kernel

theorem drE_ok (f : Pl) (hf : DrF f) : ∀ (d : Nat) (e : Ex), drE d e → e.good = true ∧ e.short ∧ e.rok f ∧ e.big + 1 ≤ 2 ^ d ∧ e.deep ≤ d
  | 0, e, h => h.elim
  | d + 1, .mk op v nm sl sz args, h => by
    simp only [drE] at h
    obtain ⟨h1, h2, h⟩ := h
    subst h1 h2
    have hp : 1 ≤ 2 ^ d := Nat.one_le_two_pow
    rcases h with ⟨rfl, h1, h2, rfl, rfl⟩ | ⟨rfl, rfl, ⟨k, hk, rfl⟩, rfl⟩ | ⟨h1, h2, rfl, rfl, rfl⟩ | ⟨rfl, rfl, ⟨k, hk, rfl⟩, e, rfl, h1⟩ | ⟨h1, h2, rfl, rfl, e, rfl, h3⟩ | ⟨h1, h2, rfl, rfl, a, b, rfl, h3, h4⟩
    · refine ⟨?_, ⟨by simp, trivial⟩, ⟨fun h => by omega, fun h => by omega, by simp, trivial⟩, ?_, by simp only [Ex.deep, Ex.deepL]; omega⟩
      · have : ¬ v < 0 := by omega
        simp [Ex.good, nmB, opN, Ex.goodL, this]
      · simp only [Ex.big, Ex.bigL, Nat.pow_succ]; omega
    · obtain ⟨hv, hl⟩ := nmS_ok k hk
      refine ⟨?_, ⟨by omega, trivial⟩, ⟨fun _ => hf.s k hk, fun h => by omega, by omega, trivial⟩, ?_, by simp only [Ex.deep, Ex.deepL]; omega⟩
      · simp [Ex.good, nmB, opN, Ex.goodL, hv]
      · simp only [Ex.big, Ex.bigL, Nat.pow_succ]; omega
    · obtain ⟨k, hk⟩ := Int.eq_ofNat_of_zero_le (show 0 ≤ op - 4 by omega)
      obtain rfl : op = 4 + (k : Int) := by omega
      have ho := opN_0 k (by omega)
      refine ⟨?_, ⟨by simp, trivial⟩, ⟨fun h => by omega, fun h => by omega, by simp, trivial⟩, ?_, by simp only [Ex.deep, Ex.deepL]; omega⟩
      · have e2 : ¬ (4 + (k : Int) = 2) := by omega
        have e3 : ¬ (4 + (k : Int) = 3) := by omega
        simp [Ex.good, nmB, ho, Ex.goodL, e2, e3]
      · simp only [Ex.big, Ex.bigL, Nat.pow_succ]; omega
    · obtain ⟨hv, hl⟩ := nmA_ok k hk
      obtain ⟨g1, g2, g3, g4, g5⟩ := drE_ok f hf d e h1
      refine ⟨?_, ⟨by omega, g2, trivial⟩, ⟨fun h => by omega, fun _ => hf.a k hk, by omega, g3, trivial⟩, ?_, by simp only [Ex.deep, Ex.deepL]; omega⟩
      · simp [Ex.good, nmB, opN, Ex.goodL, hv, g1]
      · simp only [Ex.big, Ex.bigL, Nat.pow_succ]; omega
    · obtain ⟨k, hk⟩ := Int.eq_ofNat_of_zero_le (show 0 ≤ op - 8 by omega)
      obtain rfl : op = 8 + (k : Int) := by omega
      have ho := opN_1 k (by omega)
      obtain ⟨g1, g2, g3, g4, g5⟩ := drE_ok f hf d e h3
      refine ⟨?_, ⟨by simp, g2, trivial⟩, ⟨fun h => by omega, fun h => by omega, by simp, g3, trivial⟩, ?_, by simp only [Ex.deep, Ex.deepL]; omega⟩
      · have e2 : ¬ (8 + (k : Int) = 2) := by omega
        have e3 : ¬ (8 + (k : Int) = 3) := by omega
        simp [Ex.good, nmB, ho, Ex.goodL, e2, e3, g1]
      · simp only [Ex.big, Ex.bigL, Nat.pow_succ]; omega
    · obtain ⟨k, hk⟩ := Int.eq_ofNat_of_zero_le (show 0 ≤ op - 10 by omega)
      obtain rfl : op = 10 + (k : Int) := by omega
      have ho := opN_2 k (by omega)
      obtain ⟨g1, g2, g3, g4, g5⟩ := drE_ok f hf d a h3
      obtain ⟨i1, i2, i3, i4, i5⟩ := drE_ok f hf d b h4
      refine ⟨?_, ⟨by simp, g2, i2, trivial⟩, ⟨fun h => by omega, fun h => by omega, by simp, g3, i3, trivial⟩, ?_, by simp only [Ex.deep, Ex.deepL]; omega⟩
      · have e2 : ¬ (10 + (k : Int) = 2) := by omega
        have e3 : ¬ (10 + (k : Int) = 3) := by omega
        simp [Ex.good, nmB, ho, Ex.goodL, e2, e3, g1, i1]
      · simp only [Ex.big, Ex.bigL, Nat.pow_succ]; omega

/-- What holds of a list of statements as of each. -/
theorem drL_ok (f : Pl) (N D : Nat) : ∀ (l : List St), (∀ s ∈ l, s.goodR = true ∧ s.shortR ∧ s.rok f ∧ s.big ≤ N ∧ s.deep ≤ D) → St.goodRL l = true ∧ St.shortRL l ∧ St.rokL f l ∧ St.bigL l ≤ l.length * N ∧ St.deepL l ≤ D
  | [], _ => ⟨rfl, trivial, trivial, by simp [St.bigL], by simp [St.deepL]⟩
  | s :: r, h => by
    obtain ⟨h1, h2, h3, h4, h5⟩ := h s (List.mem_cons_self ..)
    obtain ⟨g1, g2, g3, g4, g5⟩ := drL_ok f N D r fun s hs => h s (List.mem_cons_of_mem _ hs)
    refine ⟨by simp [St.goodRL, h1, g1], ⟨h2, g2⟩, ⟨h3, g3⟩, ?_, by simp only [St.deepL]; omega⟩
    simp only [St.bigL, List.length_cons, Nat.succ_mul]
    omega

theorem ex0_ok (f : Pl) : ex0.short ∧ ex0.rok f ∧ ex0.big = 1 ∧ ex0.deep = 1 := ⟨⟨by simp, trivial⟩, ⟨fun h => by omega, fun h => by omega, by simp, trivial⟩, rfl, rfl⟩

/-- How large a drawn statement of a depth is at the most. -/
def dBig : Nat → Nat
  | 0 => 0
  | d + 1 => 20 + 3 * dBig d
theorem drS_ok (f : Pl) (hf : DrF f) : ∀ (d : Nat) (s : St), drS d s → s.goodR = true ∧ s.shortR ∧ s.rok f ∧ s.big ≤ dBig d ∧ s.deep ≤ d + 3
  | 0, s, h => h.elim
  | d + 1, .mk kind nm sl sz place value body els, h => by
    simp only [drS] at h
    obtain ⟨h1, h2, h⟩ := h
    subst h1 h2
    obtain ⟨x1, x2, x3, x4⟩ := ex0_ok f
    rcases h with ⟨rfl, ⟨k, hk, rfl⟩, rfl, hv, rfl, rfl⟩ | ⟨rfl, ⟨k, hk, rfl⟩, hp, hv, rfl, rfl⟩ | ⟨rfl, rfl, hp, hv, rfl, rfl⟩ | ⟨rfl, rfl, rfl, hv, rfl, rfl⟩ | ⟨rfl, rfl, rfl, hv, ⟨hbl, hb⟩, hel, he⟩ | ⟨rfl, rfl, rfl, hv, ⟨hbl, hb⟩, rfl⟩
    · obtain ⟨hvl, hl⟩ := nmS_ok k hk
      obtain ⟨g1, g2, g3, g4, g5⟩ := drE_ok f hf 3 value hv
      refine ⟨?_, ⟨⟨by omega, x1, g2⟩, trivial, trivial⟩, ⟨fun _ => hf.s k hk, fun h => by omega, by omega, x2, g3, trivial, trivial⟩, ?_, ?_⟩
      · simp [St.goodR, St.good1, St.goodRL, nmB, hvl, g1, ex0]
      · simp only [St.big, St.bigL, dBig, x3]; omega
      · simp only [St.deep, St.deepL, x4]; omega
    · obtain ⟨hvl, hl⟩ := nmA_ok k hk
      obtain ⟨g1, g2, g3, g4, g5⟩ := drE_ok f hf 2 value hv
      obtain ⟨i1, i2, i3, i4, i5⟩ := drE_ok f hf 2 place hp
      refine ⟨?_, ⟨⟨by omega, i2, g2⟩, trivial, trivial⟩, ⟨fun h => by omega, fun _ => hf.a k hk, by omega, i3, g3, trivial, trivial⟩, ?_, ?_⟩
      · simp [St.goodR, St.good1, St.goodRL, nmB, hvl, g1, i1]
      · simp only [St.big, St.bigL, dBig]; omega
      · simp only [St.deep, St.deepL]; omega
    · obtain ⟨g1, g2, g3, g4, g5⟩ := drE_ok f hf 2 value hv
      obtain ⟨i1, i2, i3, i4, i5⟩ := drE_ok f hf 2 place hp
      refine ⟨?_, ⟨⟨by simp, i2, g2⟩, trivial, trivial⟩, ⟨fun h => by omega, fun h => by omega, by simp, i3, g3, trivial, trivial⟩, ?_, ?_⟩
      · simp [St.goodR, St.good1, St.goodRL, nmB, g1, i1]
      · simp only [St.big, St.bigL, dBig]; omega
      · simp only [St.deep, St.deepL]; omega
    · obtain ⟨g1, g2, g3, g4, g5⟩ := drE_ok f hf 2 value hv
      refine ⟨?_, ⟨⟨by simp, x1, g2⟩, trivial, trivial⟩, ⟨fun h => by omega, fun h => by omega, by simp, x2, g3, trivial, trivial⟩, ?_, ?_⟩
      · simp [St.goodR, St.good1, St.goodRL, nmB, g1, ex0]
      · simp only [St.big, St.bigL, dBig, x3]; omega
      · simp only [St.deep, St.deepL, x4]; omega
    · obtain ⟨g1, g2, g3, g4, g5⟩ := drE_ok f hf 2 value hv
      obtain ⟨b1, b2, b3, b4, b5⟩ := drL_ok f (dBig d) (d + 3) body fun s hs => drS_ok f hf d s (hb s hs)
      obtain ⟨e1, e2, e3, e4, e5⟩ := drL_ok f (dBig d) (d + 3) els fun s hs => drS_ok f hf d s (he s hs)
      have hb4 : St.bigL body ≤ 2 * dBig d := Nat.le_trans b4 (Nat.mul_le_mul_right _ hbl)
      have he4 : St.bigL els ≤ 1 * dBig d := Nat.le_trans e4 (Nat.mul_le_mul_right _ hel)
      refine ⟨?_, ⟨⟨by simp, x1, g2⟩, b2, e2⟩, ⟨fun h => by omega, fun h => by omega, by simp, x2, g3, b3, e3⟩, ?_, ?_⟩
      · simp [St.goodR, St.good1, nmB, g1, ex0, b1, e1]
      · simp only [St.big, dBig, x3]; omega
      · simp only [St.deep, x4]; omega
    · obtain ⟨g1, g2, g3, g4, g5⟩ := drE_ok f hf 2 value hv
      obtain ⟨b1, b2, b3, b4, b5⟩ := drL_ok f (dBig d) (d + 3) body fun s hs => drS_ok f hf d s (hb s hs)
      have hb4 : St.bigL body ≤ 2 * dBig d := Nat.le_trans b4 (Nat.mul_le_mul_right _ hbl)
      refine ⟨?_, ⟨⟨by simp, x1, g2⟩, b2, trivial⟩, ⟨fun h => by omega, fun h => by omega, by simp, x2, g3, b3, trivial⟩, ?_, ?_⟩
      · simp [St.goodR, St.good1, St.goodRL, nmB, g1, ex0, b1]
      · simp only [St.big, St.bigL, dBig, x3]; omega
      · simp only [St.deep, St.deepL, x4]; omega

def drVB (a b c : Nat) : Bool := decide ((declS (drV a b c)).1 = 0) && decide ((declS (drV a b c)).2.1 = [(a : Int) - 2] ++ List.replicate (1 + b) 0 ++ [0, (c : Int), 0, 0]) && (drV a b c).all varOK &&
    decide (dPl a b c [120] = some (0, 0)) && decide (dPl a b c [97] = some (1, 1 + (b : Int))) && decide (dPl a b c [121] = some (2 + (b : Int), 0)) && decide (dPl a b c [122] = some (3 + (b : Int), 0)) && decide (dPl a b c [98] = some (4 + (b : Int), 2))
theorem drV_all : ((List.range 7).all fun a => (List.range 5).all fun b => (List.range 3).all fun c => drVB a b c) = true := by decide +kernel
theorem drV_names (a : Nat) (ha : a < 7) (b : Nat) (hb : b < 5) (c : Nat) (hc : c < 3) : (declS (drV a b c)).1 = 0 ∧ (declS (drV a b c)).2.1 = [(a : Int) - 2] ++ List.replicate (1 + b) 0 ++ [0, (c : Int), 0, 0] ∧ (drV a b c).all varOK = true ∧
    dPl a b c [120] = some (0, 0) ∧ dPl a b c [97] = some (1, 1 + (b : Int)) ∧ dPl a b c [121] = some (2 + (b : Int), 0) ∧ dPl a b c [122] = some (3 + (b : Int), 0) ∧ dPl a b c [98] = some (4 + (b : Int), 2) := by
  have h := List.all_eq_true.1 (List.all_eq_true.1 (List.all_eq_true.1 drV_all a (List.mem_range.2 ha)) b (List.mem_range.2 hb)) c (List.mem_range.2 hc)
  simp only [drVB, Bool.and_eq_true, decide_eq_true_eq, and_assoc] at h
  exact h
theorem drV_f {a b c : Nat} (ha : a < 7) (hb : b < 5) (hc : c < 3) : DrF (dPl a b c) := by
  obtain ⟨_, _, _, h1, h2, h3, h4, h5⟩ := drV_names a ha b hb c hc
  refine ⟨fun k hk => ?_, fun k hk => ?_⟩
  · match k, hk with
    | 0, _ => exact ⟨_, h1, by simp⟩
    | 1, _ => exact ⟨_, h3, by simp⟩
    | 2, _ => exact ⟨_, h4, by simp⟩
  · match k, hk with
    | 0, _ => exact ⟨_, h2, by simp only; omega⟩
    | 1, _ => exact ⟨_, h5, by simp⟩
end Go.Proofs.YtgblgkkbggdopaaDoor

/-
  What inside and within of package rollbacknetlaw03 return where all places lie within the cells: true. Conditions: at most 100000 parts; the number of cells is from 0 to 1000.
-/
namespace Go.Proofs.YtgblgkkbggdopaaDoor
open Go.RowKit

mutual
/-- All places of an expression lie within n cells. -/
def insO (n : Int) : Ex → Prop
  | .mk op _ _ slot size args => ((op = 2 ∨ op = 3) → 0 ≤ slot ∧ slot + max size 1 ≤ n) ∧ insL n args
def insL (n : Int) : List Ex → Prop
  | [] => True
  | e :: r => insO n e ∧ insL n r
end
theorem insL_at (n : Int) : ∀ (l : List Ex) (k : Nat) (e : Ex), insL n l → l[k]? = some e → insO n e
  | [], _, _, _, h => by simp at h
  | x :: r, 0, e, hs, h => by
    simp only [List.getElem?_cons_zero, Option.some.injEq] at h
    subst h
    simp only [insL] at hs
    exact hs.1
  | x :: r, k + 1, e, hs, h => by
    simp only [List.getElem?_cons_succ] at h
    simp only [insL] at hs
    exact insL_at n r k e hs.2 h
mutual
/-- All places of a statement lie within n cells. -/
def witO (n : Int) : St → Prop
  | .mk kind _ slot size p v b e => ((kind = 1 ∨ kind = 2) → 0 ≤ slot ∧ slot + max size 1 ≤ n) ∧ insO n p ∧ insO n v ∧ witL n b ∧ witL n e
def witL (n : Int) : List St → Prop
  | [] => True
  | s :: r => witO n s ∧ witL n r
end
theorem witL_at (n : Int) : ∀ (l : List St) (k : Nat) (e : St), witL n l → l[k]? = some e → witO n e
  | [], _, _, _, h => by simp at h
  | x :: r, 0, e, hs, h => by
    simp only [List.getElem?_cons_zero, Option.some.injEq] at h
    subst h
    simp only [witL] at hs
    exact hs.1
  | x :: r, k + 1, e, hs, h => by
    simp only [List.getElem?_cons_succ] at h
    simp only [witL] at hs
    exact witL_at n r k e hs.2 h

end Go.Proofs.YtgblgkkbggdopaaDoor

/-
  All places of a drawn program's code lie within its cells. No conditions.
-/
namespace Go.Proofs.YtgblgkkbggdopaaDoor
open Go.RowKit

/-- The places of the names lie within t cells. -/
structure DrW (f : Pl) (t : Int) : Prop where
  s : ∀ k, k < 3 → ∃ x, f (nmS k) = some x ∧ 0 ≤ x.1 ∧ x.1 + max x.2 1 ≤ t
  a : ∀ k, k < 2 → ∃ x, f (nmA k) = some x ∧ 0 ≤ x.1 ∧ x.1 + max x.2 1 ≤ t

theorem drE_in (f : Pl) (t : Int) (hf : DrW f t) : ∀ (d : Nat) (e : Ex), drE d e → insO t (e.res f)
  | 0, e, h => h.elim
  | d + 1, .mk op v nm sl sz args, h => by
    simp only [drE] at h
    obtain ⟨h1, h2, h⟩ := h
    subst h1 h2
    rcases h with ⟨rfl, h1, h2, rfl, rfl⟩ | ⟨rfl, rfl, ⟨k, hk, rfl⟩, rfl⟩ | ⟨h1, h2, rfl, rfl, rfl⟩ | ⟨rfl, rfl, ⟨k, hk, rfl⟩, e, rfl, h1⟩ | ⟨h1, h2, rfl, rfl, e, rfl, h3⟩ | ⟨h1, h2, rfl, rfl, a, b, rfl, h3, h4⟩
    · simp [Ex.res, Ex.resL, insO, insL]
    · obtain ⟨x, hx, x1, x2⟩ := hf.s k hk
      simp [Ex.res, Ex.resL, insO, insL, hx]
      omega
    · have e2 : ¬ (op = 2) := by omega
      have e3 : ¬ (op = 3) := by omega
      simp [Ex.res, Ex.resL, insO, insL, e2, e3]
    · obtain ⟨x, hx, x1, x2⟩ := hf.a k hk
      have g := drE_in f t hf d e h1
      simp [Ex.res, Ex.resL, insO, insL, hx, g]
      omega
    · have g := drE_in f t hf d e h3
      have e2 : ¬ (op = 2) := by omega
      have e3 : ¬ (op = 3) := by omega
      simp [Ex.res, Ex.resL, insO, insL, e2, e3, g]
    · have g := drE_in f t hf d a h3
      have g2 := drE_in f t hf d b h4
      have e2 : ¬ (op = 2) := by omega
      have e3 : ¬ (op = 3) := by omega
      simp [Ex.res, Ex.resL, insO, insL, e2, e3, g, g2]

theorem drL_in (f : Pl) (t : Int) : ∀ (l : List St), (∀ s ∈ l, witO t (s.res f)) → witL t (St.resL f l)
  | [], _ => by simp [St.resL, witL]
  | s :: r, h => by
    have g := drL_in f t r fun s hs => h s (List.mem_cons_of_mem _ hs)
    simp only [St.resL, witL]
    exact ⟨h s (List.mem_cons_self ..), g⟩
theorem ex0_in (f : Pl) (t : Int) : insO t (ex0.res f) := by simp [ex0, Ex.res, Ex.resL, insO, insL]

theorem drS_in (f : Pl) (t : Int) (hf : DrW f t) : ∀ (d : Nat) (s : St), drS d s → witO t (s.res f)
  | 0, s, h => h.elim
  | d + 1, .mk kind nm sl sz place value body els, h => by
    simp only [drS] at h
    obtain ⟨h1, h2, h⟩ := h
    subst h1 h2
    have x0 := ex0_in f t
    rcases h with ⟨rfl, ⟨k, hk, rfl⟩, rfl, hv, rfl, rfl⟩ | ⟨rfl, ⟨k, hk, rfl⟩, hp, hv, rfl, rfl⟩ | ⟨rfl, rfl, hp, hv, rfl, rfl⟩ | ⟨rfl, rfl, rfl, hv, rfl, rfl⟩ | ⟨rfl, rfl, rfl, hv, ⟨hbl, hb⟩, hel, he⟩ | ⟨rfl, rfl, rfl, hv, ⟨hbl, hb⟩, rfl⟩
    · obtain ⟨x, hx, x1, x2⟩ := hf.s k hk
      have g := drE_in f t hf 3 value hv
      simp [St.res, St.resL, witO, witL, hx, g, x0]
      omega
    · obtain ⟨x, hx, x1, x2⟩ := hf.a k hk
      have g := drE_in f t hf 2 value hv
      have i := drE_in f t hf 2 place hp
      simp [St.res, St.resL, witO, witL, hx, g, i]
      omega
    · have g := drE_in f t hf 2 value hv
      have i := drE_in f t hf 2 place hp
      simp [St.res, St.resL, witO, witL, g, i]
    · have g := drE_in f t hf 2 value hv
      simp [St.res, St.resL, witO, witL, g, x0]
    · have g := drE_in f t hf 2 value hv
      have b1 := drL_in f t body fun s hs => drS_in f t hf d s (hb s hs)
      have e1 := drL_in f t els fun s hs => drS_in f t hf d s (he s hs)
      simp [St.res, witO, g, x0, b1, e1]
    · have g := drE_in f t hf 2 value hv
      have b1 := drL_in f t body fun s hs => drS_in f t hf d s (hb s hs)
      simp [St.res, St.resL, witO, witL, g, x0, b1]

theorem drV_w {a b c : Nat} (ha : a < 7) (hb : b < 5) (hc : c < 3) : DrW (dPl a b c) (6 + (b : Int)) := by
  obtain ⟨_, _, _, h1, h2, h3, h4, h5⟩ := drV_names a ha b hb c hc
  refine ⟨fun k hk => ?_, fun k hk => ?_⟩
  · match k, hk with
    | 0, _ => exact ⟨_, h1, by simp only; omega, by simp only; omega⟩
    | 1, _ => exact ⟨_, h3, by simp only; omega, by simp only; omega⟩
    | 2, _ => exact ⟨_, h4, by simp only; omega, by simp only; omega⟩
  · match k, hk with
    | 0, _ => exact ⟨_, h2, by simp only; omega, by simp only; omega⟩
    | 1, _ => exact ⟨_, h5, by simp only; omega, by simp only; omega⟩

/-- What Resolve asks of a drawn program, and where its places lie. -/
theorem drP_ok (p : Pr) (hp : drP p) : ∃ (a b c : Nat), a < 7 ∧ b < 5 ∧ c < 3 ∧ p.vars = drV a b c ∧ p.big ≤ 100000 ∧ p.deep ≤ 16 ∧
    (∀ l, l = p.start ∨ l = p.message ∨ l = p.tick ∨ l = p.input → St.shortRL l ∧ St.goodRL l = true ∧ St.rokL (dPl a b c) l ∧ witL (6 + (b : Int)) (St.resL (dPl a b c) l)) := by
  obtain ⟨⟨a, b, c, ha, hb, hc, hv⟩, ⟨ls, hs⟩, ⟨lm, hm⟩, ⟨lt, ht⟩, ⟨li, hi⟩⟩ := hp
  have F := drV_f ha hb hc
  have W := drV_w ha hb hc
  have g1 := drL_ok (dPl a b c) (dBig 2) (2 + 3) p.start fun s h => drS_ok _ F 2 s (hs s h)
  have g2 := drL_ok (dPl a b c) (dBig 3) (3 + 3) p.message fun s h => drS_ok _ F 3 s (hm s h)
  have g3 := drL_ok (dPl a b c) (dBig 2) (2 + 3) p.tick fun s h => drS_ok _ F 2 s (ht s h)
  have g4 := drL_ok (dPl a b c) (dBig 2) (2 + 3) p.input fun s h => drS_ok _ F 2 s (hi s h)
  have d2 : dBig 2 = 80 := rfl
  have d3 : dBig 3 = 260 := rfl
  rw [d2] at g1 g3 g4
  rw [d3] at g2
  refine ⟨a, b, c, ha, hb, hc, hv, ?_, ?_, ?_⟩
  · unfold Pr.big
    have := g1.2.2.2.1; have := g2.2.2.2.1; have := g3.2.2.2.1; have := g4.2.2.2.1
    omega
  · unfold Pr.deep
    have := g1.2.2.2.2; have := g2.2.2.2.2; have := g3.2.2.2.2; have := g4.2.2.2.2
    omega
  · rintro l (rfl | rfl | rfl | rfl)
    · exact ⟨g1.2.1, g1.1, g1.2.2.1, drL_in _ _ _ fun s h => drS_in _ _ W 2 s (hs s h)⟩
    · exact ⟨g2.2.1, g2.1, g2.2.2.1, drL_in _ _ _ fun s h => drS_in _ _ W 3 s (hm s h)⟩
    · exact ⟨g3.2.1, g3.1, g3.2.2.1, drL_in _ _ _ fun s h => drS_in _ _ W 2 s (ht s h)⟩
    · exact ⟨g4.2.1, g4.1, g4.2.2.1, drL_in _ _ _ fun s h => drS_in _ _ W 2 s (hi s h)⟩
end Go.Proofs.YtgblgkkbggdopaaDoor

/-
  What Code of rollbacknetmake does: a resolved drawn program. Conditions: as for Next.
-/
namespace Go.Proofs.YtgblgkkbggdopaaDoor
open Go.RowKit

/-- The names of drawn programs are declared as what they are. -/
structure DrD (l : List Vr) : Prop where
  s : ∀ k, k < 3 → dclB l (nmS k) = true ∧ ¬ 0 < zL l (nmS k)
  a : ∀ k, k < 2 → dclB l (nmA k) = true ∧ 0 < zL l (nmA k)
theorem drE_dcl (l : List Vr) (hf : DrD l) : ∀ (d : Nat) (e : Ex), drE d e → e.dcl (dclB l) = true ∧ e.shp (zL l) = true
  | 0, e, h => h.elim
  | d + 1, .mk op v nm sl sz args, h => by
    simp only [drE] at h
    obtain ⟨_, _, h⟩ := h
    rcases h with ⟨rfl, _, _, rfl, rfl⟩ | ⟨rfl, _, ⟨k, hk, rfl⟩, rfl⟩ | ⟨h1, h2, _, rfl, rfl⟩ | ⟨rfl, _, ⟨k, hk, rfl⟩, e, rfl, h1⟩ | ⟨h1, h2, _, rfl, e, rfl, h3⟩ | ⟨h1, h2, _, rfl, a, b, rfl, h3, h4⟩
    · simp [Ex.dcl, Ex.dclL, Ex.shp, Ex.shpL]
    · obtain ⟨g1, g2⟩ := hf.s k hk
      simp [Ex.dcl, Ex.dclL, Ex.shp, Ex.shpL, g1, g2]
    · have e2 : ¬ (op = 2) := by omega
      have e3 : ¬ (op = 3) := by omega
      simp [Ex.dcl, Ex.dclL, Ex.shp, Ex.shpL, e2, e3]
    · obtain ⟨g1, g2⟩ := hf.a k hk
      obtain ⟨i1, i2⟩ := drE_dcl l hf d e h1
      simp [Ex.dcl, Ex.dclL, Ex.shp, Ex.shpL, g1, g2, i1, i2]
    · obtain ⟨i1, i2⟩ := drE_dcl l hf d e h3
      have e2 : ¬ (op = 2) := by omega
      have e3 : ¬ (op = 3) := by omega
      simp [Ex.dcl, Ex.dclL, Ex.shp, Ex.shpL, e2, e3, i1, i2]
    · obtain ⟨i1, i2⟩ := drE_dcl l hf d a h3
      obtain ⟨j1, j2⟩ := drE_dcl l hf d b h4
      have e2 : ¬ (op = 2) := by omega
      have e3 : ¬ (op = 3) := by omega
      simp [Ex.dcl, Ex.dclL, Ex.shp, Ex.shpL, e2, e3, i1, i2, j1, j2]
theorem drL_dcl (l : List Vr) : ∀ (ls : List St), (∀ s ∈ ls, s.dcl (dclB l) = true ∧ s.shp (zL l) = true) → St.dclL (dclB l) ls = true ∧ St.shpL (zL l) ls = true
  | [], _ => ⟨rfl, rfl⟩
  | s :: r, h => by
    obtain ⟨h1, h2⟩ := h s (List.mem_cons_self ..)
    obtain ⟨g1, g2⟩ := drL_dcl l r fun s hs => h s (List.mem_cons_of_mem _ hs)
    simp [St.dclL, St.shpL, h1, h2, g1, g2]
theorem ex0_dcl (l : List Vr) : ex0.dcl (dclB l) = true ∧ ex0.shp (zL l) = true := by simp [ex0, Ex.dcl, Ex.dclL, Ex.shp, Ex.shpL]
theorem drS_dcl (l : List Vr) (hf : DrD l) : ∀ (d : Nat) (s : St), drS d s → s.dcl (dclB l) = true ∧ s.shp (zL l) = true
  | 0, s, h => h.elim
  | d + 1, .mk kind nm sl sz place value body els, h => by
    simp only [drS] at h
    obtain ⟨_, _, h⟩ := h
    obtain ⟨x1, x2⟩ := ex0_dcl l
    rcases h with ⟨rfl, ⟨k, hk, rfl⟩, rfl, hv, rfl, rfl⟩ | ⟨rfl, ⟨k, hk, rfl⟩, hp, hv, rfl, rfl⟩ | ⟨rfl, rfl, hp, hv, rfl, rfl⟩ | ⟨rfl, rfl, rfl, hv, rfl, rfl⟩ | ⟨rfl, rfl, rfl, hv, ⟨_, hb⟩, _, he⟩ | ⟨rfl, rfl, rfl, hv, ⟨_, hb⟩, rfl⟩
    · obtain ⟨g1, g2⟩ := hf.s k hk
      obtain ⟨i1, i2⟩ := drE_dcl l hf 3 value hv
      simp [St.dcl, St.dclL, St.shp, St.shpL, x1, x2, g1, g2, i1, i2]
    · obtain ⟨g1, g2⟩ := hf.a k hk
      obtain ⟨i1, i2⟩ := drE_dcl l hf 2 value hv
      obtain ⟨j1, j2⟩ := drE_dcl l hf 2 place hp
      simp [St.dcl, St.dclL, St.shp, St.shpL, g1, g2, i1, i2, j1, j2]
    · obtain ⟨i1, i2⟩ := drE_dcl l hf 2 value hv
      obtain ⟨j1, j2⟩ := drE_dcl l hf 2 place hp
      simp [St.dcl, St.dclL, St.shp, St.shpL, i1, i2, j1, j2]
    · obtain ⟨i1, i2⟩ := drE_dcl l hf 2 value hv
      simp [St.dcl, St.dclL, St.shp, St.shpL, x1, x2, i1, i2]
    · obtain ⟨i1, i2⟩ := drE_dcl l hf 2 value hv
      obtain ⟨b1, b2⟩ := drL_dcl l body fun s hs => drS_dcl l hf d s (hb s hs)
      obtain ⟨e1, e2⟩ := drL_dcl l els fun s hs => drS_dcl l hf d s (he s hs)
      simp [St.dcl, St.shp, x1, x2, i1, i2, b1, b2, e1, e2]
    · obtain ⟨i1, i2⟩ := drE_dcl l hf 2 value hv
      obtain ⟨b1, b2⟩ := drL_dcl l body fun s hs => drS_dcl l hf d s (hb s hs)
      simp [St.dcl, St.dclL, St.shp, St.shpL, x1, x2, i1, i2, b1, b2]

/-- What is to be reckoned of the declarations of drawn programs. -/
def drWB (a b c : Nat) : Bool := ((List.range 3).all fun k => dclB (drV a b c) (nmS k) && decide (¬ 0 < zL (drV a b c) (nmS k))) && ((List.range 2).all fun k => dclB (drV a b c) (nmA k) && decide (0 < zL (drV a b c) (nmA k))) &&
  ((List.range 6).all fun k => decide (sum3 ((drV a b c).take k) ≤ 32)) && ((List.range 5).all fun i => (List.range 5).all fun j => decide (j < i → (((drV a b c)[j]?).map (·.name)) ≠ (((drV a b c)[i]?).map (·.name)))) &&
  decide ((ini3 (drV a b c)).length = 6 + b)
theorem drW_all : ((List.range 7).all fun a => (List.range 5).all fun b => (List.range 3).all fun c => drWB a b c) = true := by decide +kernel
theorem drW_at (a : Nat) (ha : a < 7) (b : Nat) (hb : b < 5) (c : Nat) (hc : c < 3) : DrD (drV a b c) ∧ (∀ k, k ≤ (drV a b c).length → sum3 ((drV a b c).take k) ≤ 32) ∧
    (∀ (i j : Nat) (vi vj : Vr), j < i → (drV a b c)[i]? = some vi → (drV a b c)[j]? = some vj → vj.name ≠ vi.name) ∧ (ini3 (drV a b c)).length = 6 + b := by
  have h := List.all_eq_true.1 (List.all_eq_true.1 (List.all_eq_true.1 drW_all a (List.mem_range.2 ha)) b (List.mem_range.2 hb)) c (List.mem_range.2 hc)
  simp only [drWB, Bool.and_eq_true, decide_eq_true_eq, List.all_eq_true, List.mem_range, and_assoc] at h
  obtain ⟨h1, h2, h3, h4, h5⟩ := h
  refine ⟨⟨h1, h2⟩, fun k hk => h3 k (by have : (drV a b c).length = 5 := rfl; omega), fun i j vi vj hji hi hj e => ?_, h5⟩
  have hl : (drV a b c).length = 5 := rfl
  have i5 := (List.getElem?_eq_some_iff.1 hi).1
  have j5 := (List.getElem?_eq_some_iff.1 hj).1
  have := h4 i (by omega) j (by omega) hji
  rw [hi, hj] at this
  exact this (by simp [e])

mutual
theorem res_big (f : Pl) : ∀ e : Ex, (e.res f).big = e.big
  | .mk op v nm sl sz args => by
    have h := resL_big f args
    simp only [Ex.res]
    split <;> simp only [Ex.big, h]
theorem resL_big (f : Pl) : ∀ l : List Ex, Ex.bigL (Ex.resL f l) = Ex.bigL l
  | [] => rfl
  | e :: r => by simp only [Ex.resL, Ex.bigL, res_big f e, resL_big f r]
end
mutual
theorem sres_big (f : Pl) : ∀ s : St, (s.res f).big = s.big
  | .mk kind nm sl sz p v b e => by
    have h1 := sresL_big f b
    have h2 := sresL_big f e
    simp only [St.res]
    split <;> simp only [St.big, h1, h2, res_big]
theorem sresL_big (f : Pl) : ∀ l : List St, St.bigL (St.resL f l) = St.bigL l
  | [] => rfl
  | s :: r => by simp only [St.resL, St.bigL, sres_big f s, sresL_big f r]
end

/-- The code of a program. -/
def cdP (p : Pr) : Cd := ⟨ini3 p.vars, St.resL (plL p.vars) p.start, St.resL (plL p.vars) p.message, St.resL (plL p.vars) p.tick, St.resL (plL p.vars) p.input⟩

/-- The answer's Resolve of a drawn program. -/
theorem rresolve_drawn (p : Pr) (hp : drP p) : (∃ b, b < 5 ∧ (ini3 p.vars).length = 6 + b) ∧ p.big ≤ 100000 ∧ ∀ (S : Nat → Prop) (w : World) (A0 A1 A2 A3 A4 : Option Addr) (l0 l1 l2 l3 l4 c0 c1 c2 c3 c4 : Nat), PrAt S w p (.slice A0 l0 c0) (.slice A1 l1 c1) (.slice A2 l2 c2) (.slice A3 l3 c3) (.slice A4 l4 c4) →
    Calls Tryd.prog 34 #[.agg #[.slice A0 l0 c0, .slice A1 l1 c1, .slice A2 l2 c2, .slice A3 l3 c3, .slice A4 l4 c4]] w (R3Post p w) := by
  obtain ⟨a, b, c, ha, hb, hc, hv, hbig, hdp, hg⟩ := drP_ok p hp
  obtain ⟨n1, n2, n3, _⟩ := drV_names a ha b hb c hc
  obtain ⟨d1, d2, d3, d4⟩ := drW_at a ha b hb c hc
  have g1 := hg p.start (.inl rfl)
  have g2 := hg p.message (.inr (.inl rfl))
  have g3 := hg p.tick (.inr (.inr (.inl rfl)))
  have g4 := hg p.input (.inr (.inr (.inr rfl)))
  have D : DrD p.vars := by rw [hv]; exact d1
  have k1 := drL_dcl p.vars p.start fun s h => drS_dcl p.vars D 2 s (hp.s.2 s h)
  have k2 := drL_dcl p.vars p.message fun s h => drS_dcl p.vars D 3 s (hp.m.2 s h)
  have k3 := drL_dcl p.vars p.tick fun s h => drS_dcl p.vars D 2 s (hp.t.2 s h)
  have k4 := drL_dcl p.vars p.input fun s h => drS_dcl p.vars D 2 s (hp.i.2 s h)
  refine ⟨⟨b, hb, by rw [hv]; exact d4⟩, hbig, ?_⟩
  intro S w A0 A1 A2 A3 A4 l0 l1 l2 l3 l4 c0 c1 c2 c3 c4 h
  refine resolve3_good p hbig (by rw [hv]; simp [drV]) (by rw [hv]; exact d3) (by rw [hv]; exact d2) ⟨k1.1, k2.1, k3.1, k4.1⟩ ⟨k1.2, k2.2, k3.2, k4.2⟩ S w A0 A1 A2 A3 A4 l0 l1 l2 l3 l4 c0 c1 c2 c3 c4 h ?_
  intro W hW
  have h' : PrAt S W p (.slice A0 l0 c0) (.slice A1 l1 c1) (.slice A2 l2 c2) (.slice A3 l3 c3) (.slice A4 l4 c4) := h.still fun k x1 x2 => ⟨x1, hW.block k x2⟩
  have hbg : St.bigL p.start ≤ 100000 ∧ St.bigL p.message ≤ 100000 ∧ St.bigL p.tick ≤ 100000 ∧ St.bigL p.input ≤ 100000 := by unfold Pr.big at hbig; omega
  have e : chkS p (fun _ => true) = 0 := by
    unfold chkS
    rw [if_neg (by omega), if_neg (by rw [hv, n3]; decide)]
    rfl
  have hck := rcheck_any p hbig (by rw [hv]; simp [drV]) (fun v hvm => by rw [hv] at hvm; simp only [drV, List.mem_cons, List.not_mem_nil, or_false] at hvm; rcases hvm with rfl | rfl | rfl | rfl | rfl <;> simp) S W A0 A1 A2 A3 A4 l0 l1 l2 l3 l4 c0 c1 c2 c3 c4 h' (fun _ => true) (fun k hk w' hw' => by
    obtain ⟨_, s1, s2, s3, s4⟩ := h'
    have st : Still S S W w' := fun k x1 x2 => ⟨x1, hw'.block k x2⟩
    match k, hk with
    | 0, _ => exact rfine_good _ p.start (Nat.le_refl _) hbg.1 g1.1 g1.2.1 S w' A1 l1 c1 (s1.still st)
    | 1, _ => exact rfine_good _ p.message (Nat.le_refl _) hbg.2.1 g2.1 g2.2.1 S w' A2 l2 c2 (s2.still st)
    | 2, _ => exact rfine_good _ p.tick (Nat.le_refl _) hbg.2.2.1 g3.1 g3.2.1 S w' A3 l3 c3 (s3.still st)
    | 3, _ => exact rfine_good _ p.input (Nat.le_refl _) hbg.2.2.2 g4.1 g4.2.1 S w' A4 l4 c4 (s4.still st))
  rw [e] at hck
  exact hck

/-- A code in memory, in blocks from lo on, below B. -/
structure CdIn (lo B : Nat) (w : World) (c : Cd) (C0 C1 C2 C3 C4 : Option Addr) (k0 q0 k1 q1 k2 q2 k3 q3 k4 q4 : Nat) : Prop where
  init : RwAt w 1 (c.init.map (Value.int .i64)) C0 k0
  low : ∀ b o, C0 = some ⟨b, o, none⟩ → lo ≤ b ∧ b < B
  len : k0 = c.init.length
  pos : 0 < k0
  few : k0 ≤ 1000
  start : StSlice (fun k => lo ≤ k ∧ k < B) w c.start (.slice C1 k1 q1)
  message : StSlice (fun k => lo ≤ k ∧ k < B) w c.message (.slice C2 k2 q2)
  tick : StSlice (fun k => lo ≤ k ∧ k < B) w c.tick (.slice C3 k3 q3)
  input : StSlice (fun k => lo ≤ k ∧ k < B) w c.input (.slice C4 k4 q4)
  big : St.bigL c.start ≤ 100000 ∧ St.bigL c.message ≤ 100000 ∧ St.bigL c.tick ≤ 100000 ∧ St.bigL c.input ≤ 100000
theorem CdIn.at' {lo B : Nat} {w w' : World} {c : Cd} {C0 C1 C2 C3 C4 : Option Addr} {k0 q0 k1 q1 k2 q2 k3 q3 k4 q4 : Nat} (h : CdIn lo B w c C0 C1 C2 C3 C4 k0 q0 k1 q1 k2 q2 k3 q3 k4 q4) (hk : ∀ k, lo ≤ k → k < B → w'.heap[k]? = w.heap[k]?) : CdIn lo B w' c C0 C1 C2 C3 C4 k0 q0 k1 q1 k2 q2 k3 q3 k4 q4 :=
  have st : Still (fun k => lo ≤ k ∧ k < B) (fun k => lo ≤ k ∧ k < B) w w' := fun k h1 _ => ⟨h1, hk k h1.1 h1.2⟩
  ⟨h.init.at' fun b o e => hk b (h.low b o e).1 (h.low b o e).2, h.low, h.len, h.pos, h.few, h.start.still st, h.message.still st, h.tick.still st, h.input.still st, h.big⟩
theorem CdIn.cd {lo B : Nat} {w : World} {c : Cd} {C0 C1 C2 C3 C4 : Option Addr} {k0 q0 k1 q1 k2 q2 k3 q3 k4 q4 : Nat} (h : CdIn lo B w c C0 C1 C2 C3 C4 k0 q0 k1 q1 k2 q2 k3 q3 k4 q4) : CdAt B w c C0 C1 C2 C3 C4 k0 q0 k1 q1 k2 q2 k3 q3 k4 q4 :=
  have st : Still (fun k => lo ≤ k ∧ k < B) (fun k => k < B) w w := fun k h1 _ => ⟨h1.2, rfl⟩
  ⟨h.init, fun b o e => (h.low b o e).2, h.len, h.pos, by have := h.few; omega, h.start.still st, h.message.still st, h.tick.still st, h.input.still st, h.big⟩

/-- What Code returns. -/
def CodePost (B cb : Nat) (w : World) (e : Ending) (w' : World) : Prop :=
  ∃ (p : Pr) (C0 C1 C2 C3 C4 : Option Addr) (k0 q0 k1 q1 k2 q2 k3 q3 k4 q4 : Nat), drP p ∧ e = .returned (.agg #[.slice C0 k0 q0, .slice C1 k1 q1, .slice C2 k2 q2, .slice C3 k3 q3, .slice C4 k4 q4]) ∧
    CdIn w.heap.size w'.heap.size w' (cdP p) C0 C1 C2 C3 C4 k0 q0 k1 q1 k2 q2 k3 q3 k4 q4 ∧ CodesIn B w' cb ∧ Keep cb w w'
end Go.Proofs.YtgblgkkbggdopaaDoor

/-
  What Code of rollbacknetmake does: the walk (gens52.py writes this text). Conditions: as for Next.
-/
namespace Go.Proofs.YtgblgkkbggdopaaDoor
open Go.RowKit

set_option maxHeartbeats 2000000 in
set_option maxRecDepth 100000 in
theorem code_any (B cb : Nat) (w : World) (hc0 : CodesIn B w cb) (hg0 : GlAt w) (hgt : glTop ≤ cb) :
    Calls Tryd.prog 10 #[.pointer (some ⟨cb, 0, none⟩)] w (CodePost B cb w) := by
  have hcb := hc0.lt
  obtain ⟨nb, hnb⟩ : ∃ x, w.heap.size = x := ⟨_, rfl⟩
  obtain ⟨W, hW⟩ : ∃ x, (w.alloc (.cells #[.slice none 0 0, .slice none 0 0, .slice none 0 0, .slice none 0 0, .slice none 0 0] 29)) = x := ⟨_, rfl⟩
  have hz0 : W.heap.size = nb + 1 := by rw [← hW, ← hnb]; simp only [new_size]
  have hb4 : Below w.heap.size w W := by rw [← hW]; exact ((Below.refl _ _).alloc (Nat.le_refl _) _)
  have hB0 : W.heap[nb]? = some (.cells #[.slice none 0 0, .slice none 0 0, .slice none 0 0, .slice none 0 0, .slice none 0 0] 29 (0, 0)) := by
    have h := new_blk w (.cells #[.slice none 0 0, .slice none 0 0, .slice none 0 0, .slice none 0 0, .slice none 0 0] 29)
    rw [hnb] at h
    rw [← hW]; exact h
  have HC0 := Lib.hid (hc0.up fun k hk => hb4.block k (show k < w.heap.size by omega))
  have HG0 := Lib.hid (hg0.keep (Keep.of_below (R := cb) hb4) hgt)
  have HB4 := Lib.hid hb4
  have HNB := Lib.hid hnb
  have HB0 := Lib.hid hB0
  have HZ0 := Lib.hid hz0
  have HCB : Hid (nb ≠ cb) := by show _ ≠ _; omega
  have HCL : Hid (cb < nb) := by show _ < _; omega
  clear hc0 hg0 hb4 hB0 hz0 hcb
  go_enter Tryd.func10, Tryd.ntmps10
  go_upto_region 1 with fail
  clear hW
  go_wp2_with fail
  refine (mp_any B cb W HC0.out HG0.out hgt).mono ?_
  rintro e w1 ⟨p, v, rfl, ⟨A0, A1, A2, A3, A4, l0, c0, l1, c1, l2, c2, l3, c3, l4, c4, rfl, hp⟩, hdp, hcc, hk⟩
  obtain ⟨hlen, hbig, hres⟩ := rresolve_drawn p hdp
  have HR := Lib.hid (hres _ w1 A0 A1 A2 A3 A4 l0 l1 l2 l3 l4 c0 c1 c2 c3 c4 hp)
  have HDP := Lib.hid hdp
  have HLN := Lib.hid hlen
  have HBG := Lib.hid hbig
  have HK1 := Lib.hid hk
  have HC1 := Lib.hid hcc
  have hnb1 := hk.blk HB0.out HCB.out
  have HX1 := Lib.hid hnb1
  clear hp hdp hcc hk hlen hbig hres hnb1
  go_wp2_with fail
  refine HR.out.mono ?_
  rintro e w2 ⟨hb2, D0, D1, D2, D3, D4, z0, z1, z2, z3, z4, rfl, hown, hv1, hv2, hv3, hv4⟩
  obtain ⟨m0, hm0⟩ : ∃ x, (ini3 p.vars).length = x := ⟨_, rfl⟩
  obtain ⟨m1, hm1⟩ : ∃ x, (St.resL (plL p.vars) p.start).length = x := ⟨_, rfl⟩
  obtain ⟨m2, hm2⟩ : ∃ x, (St.resL (plL p.vars) p.message).length = x := ⟨_, rfl⟩
  obtain ⟨m3, hm3⟩ : ∃ x, (St.resL (plL p.vars) p.tick).length = x := ⟨_, rfl⟩
  obtain ⟨m4, hm4⟩ : ∃ x, (St.resL (plL p.vars) p.input).length = x := ⟨_, rfl⟩
  rw [hm0] at hown
  rw [hm1] at hv1
  rw [hm2] at hv2
  rw [hm3] at hv3
  rw [hm4] at hv4
  simp only [hm0, hm1, hm2, hm3, hm4]
  have HO := Lib.hid hown
  have HV1 := Lib.hid hv1
  have HV2 := Lib.hid hv2
  have HV3 := Lib.hid hv3
  have HV4 := Lib.hid hv4
  have HM0 := Lib.hid hm0
  have HB2 := Lib.hid hb2
  have hX2 := below_blk hb2 HX1.out
  have HX2 := Lib.hid hX2
  have hn2 : nb < w2.heap.size := lt_of_block hX2
  clear hown hv1 hv2 hv3 hv4 hm0 hm1 hm2 hm3 hm4 hb2 HR hX2
  go_upto_region 2 with fail
  obtain ⟨w3, hw3⟩ : ∃ x, w2.alloc (.cells #[.slice D0 m0 z0, .slice D1 m1 z1, .slice D2 m2 z2, .slice D3 m3 z3, .slice D4 m4 z4] 29) = x := ⟨_, rfl⟩
  obtain ⟨xb, hxb⟩ : ∃ x, w2.heap.size = x := ⟨_, rfl⟩
  simp only [hw3, hxb]
  have h23 : Below w2.heap.size w2 w3 := by rw [← hw3]; exact rp_one1 _ _
  have hxbx : w3.heap[xb]? = some (.cells #[.slice D0 m0 z0, .slice D1 m1 z1, .slice D2 m2 z2, .slice D3 m3 z3, .slice D4 m4 z4] 29 (0, 0)) := by rw [← hw3, ← hxb]; exact new_blk _ _
  have hX3 := below_blk h23 HX2.out
  obtain ⟨d0, d1, d2, d3, d4, g0, g1, g2, g3, g4, hz3⟩ := box5 hX3
  obtain ⟨x0, x1, x2, x3, x4, _⟩ := box5 hxbx
  have HQ : Hid (CodePost B cb w (.returned (.agg #[.slice D0 m0 z0, .slice D1 m1 z1, .slice D2 m2 z2, .slice D3 m3 z3, .slice D4 m4 z4])) (set5 w3 nb (.slice D0 m0 z0) (.slice D1 m1 z1) (.slice D2 m2 z2) (.slice D3 m3 z3) (.slice D4 m4 z4))) := by
    have s5 : ∀ k, k ≠ nb → (set5 w3 nb (.slice D0 m0 z0) (.slice D1 m1 z1) (.slice D2 m2 z2) (.slice D3 m3 z3) (.slice D4 m4 z4)).heap[k]? = w3.heap[k]? := fun k hk => set5_blk _ _ _ _ _ _ _ hk
    have e1 := HK1.out.size
    have e2 := HB2.out.size
    have e3 := h23.size
    have e0 := HZ0.out
    have e4 := HNB.out
    have sz : (set5 w3 nb (.slice D0 m0 z0) (.slice D1 m1 z1) (.slice D2 m2 z2) (.slice D3 m3 z3) (.slice D4 m4 z4)).heap.size = w3.heap.size := set5_size _ _ _ _ _ _ _
    have st : Still (From w1.heap.size) (fun k => w.heap.size ≤ k ∧ k < (set5 w3 nb (.slice D0 m0 z0) (.slice D1 m1 z1) (.slice D2 m2 z2) (.slice D3 m3 z3) (.slice D4 m4 z4)).heap.size) w2 (set5 w3 nb (.slice D0 m0 z0) (.slice D1 m1 z1) (.slice D2 m2 z2) (.slice D3 m3 z3) (.slice D4 m4 z4)) := fun k h1 h2 => by
      have h1' : w1.heap.size ≤ k := h1
      exact ⟨⟨by omega, by rw [sz]; omega⟩, (s5 k (by omega)).trans (h23.block k h2)⟩
    obtain ⟨b, hb5, hbl⟩ := HLN.out
    have hm := HM0.out
    refine ⟨p, D0, D1, D2, D3, D4, m0, z0, m1, z1, m2, z2, m3, z3, m4, z4, HDP.out, rfl, ⟨?_, ?_, hm.symm, by omega, by omega, HV1.out.still st, HV2.out.still st, HV3.out.still st, HV4.out.still st, ?_⟩, ?_, ?_⟩
    · refine (RwAt.own HO.out).at' fun b o e => ?_
      have := HO.out.lt b (by rw [e]; rfl)
      exact (s5 b (by omega)).trans (h23.block b this.2)
    · intro b o e
      have := HO.out.lt b (by rw [e]; rfl)
      exact ⟨by omega, by rw [sz]; omega⟩
    · have := HBG.out
      unfold Pr.big at this
      simp only [cdP, sresL_big]
      omega
    · exact HC1.out.up fun k hk => (s5 k (by have := HCL.out; omega)).trans ((h23.block k (by have := HCL.out; omega)).trans (HB2.out.block k (by have := HC1.out.lt; omega)))
    · exact Keep.set5 ((Keep.of_below (R := cb) HB4.out).trans (HK1.out.trans ((Keep.of_below HB2.out).trans (Keep.of_below h23)))) (by omega) _ _ _ _ _
  have hz9 : nb < w3.heap.size := lt_of_block hX3
  clear h23 hxbx hX3 hw3 hxb
  go_wp2_with fail
  refine bodyPost_ret (v := .agg #[.slice D0 m0 z0, .slice D1 m1 z1, .slice D2 m2 z2, .slice D3 m3 z3, .slice D4 m4 z4]) ?_ rfl ?_
  · simp [results, Tryd.results10, go_sem, World.cell?_setCell_same, World.cell?_setCell_other, d0, d1, d2, d3, d4]
  · exact HQ.out
end Go.Proofs.YtgblgkkbggdopaaDoor
