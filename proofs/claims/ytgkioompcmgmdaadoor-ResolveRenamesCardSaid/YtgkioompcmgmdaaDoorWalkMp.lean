/-
  What Program of rollbacknetmake does: a program that is drawn by choices. Conditions: as for Next.
-/
import Derived.Test.YtgkioompcmgmdaaDoorWalkMs
namespace Go.Proofs.YtgkioompcmgmdaaDoor
open Go.RowKit

/-- The declarations of drawn programs. -/
def drV (a b c : Nat) : List Vr := [⟨[120], 0, (a : Int) - 2⟩, ⟨[97], 1 + (b : Int), 0⟩, ⟨[121], 0, 0⟩, ⟨[122], 0, (c : Int)⟩, ⟨[98], 2, 0⟩]
/-- A drawn program. -/
structure drP (p : Pr) : Prop where
  v : ∃ a b c, a < 7 ∧ b < 5 ∧ c < 3 ∧ p.vars = drV a b c
  s : p.start.length ≤ 3 ∧ ∀ s ∈ p.start, drS 2 s
  m : p.message.length ≤ 4 ∧ ∀ s ∈ p.message, drS 3 s
  t : p.tick.length ≤ 3 ∧ ∀ s ∈ p.tick, drS 2 s
  i : p.input.length ≤ 2 ∧ ∀ s ∈ p.input, drS 2 s

/-- What Program does. -/
def MpPost (B cb : Nat) (w : World) (e : Ending) (w' : World) : Prop :=
  ∃ p v, e = .returned v ∧ VPr w.heap.size w' p v ∧ drP p ∧ CodesIn B w' cb ∧ Keep cb w w'

theorem mp_vars {w : World} {b : Nat} {T : TypeId} {fr : Nat × Nat} {l : List Vr} {S : Nat → Prop} (h : w.heap[b]? = some (.cells (l.flatMap vrCells).toArray T fr)) (hS : S b) (c : Nat) (hc : l.length ≤ c) : VrSlice S w l (.slice (some ⟨b, 0, none⟩) l.length c) :=
  ⟨_, c, rfl, hc, fun _ => ⟨b, 0, rfl, hS, fun j u hj => by rw [Nat.zero_add, Lib.cell_of_heap h, List.getElem?_toArray]; exact hj⟩⟩
theorem set_other (w : World) (n i : Nat) (v : Value) {k : Nat} (h : k ≠ n) : (w.setCell ⟨n, i, none⟩ v).heap[k]? = w.heap[k]? := Below.heap_setCell w ⟨n, i, none⟩ v k h
theorem st_set {n m : Nat} {w : World} {l : List St} {v : Value} (h : StSlice (From n) w l v) (i : Nat) (u : Value) (hm : m < n) : StSlice (From n) (w.setCell ⟨m, i, none⟩ u) l v :=
  h.still fun b (hb : n ≤ b) _ => ⟨hb, set_other w m i u (by omega)⟩

set_option maxHeartbeats 4000000 in
set_option maxRecDepth 100000 in
theorem mp_any (B cb : Nat) (w : World) (hc0 : CodesIn B w cb) (hg0 : GlAt w) (hgt : glTop ≤ cb) :
    Calls Tryd.prog 7 #[.pointer (some ⟨cb, 0, none⟩)] w (MpPost B cb w) := by
  have hcb := hc0.lt
  have hne : w.heap.size ≠ cb := by omega
  have HC0 := Lib.hid (hc0.up fun k hk => alloc_blk w prZ (show k < w.heap.size by omega))
  have HG := Lib.hid hg0
  have M32 : Hid (∀ w, CodesIn B w cb → GlAt w → glTop ≤ cb → Calls Tryd.prog 17 #[.pointer (some ⟨cb, 0, none⟩), .int .i64 3, .int .i64 2] w (MsPost B cb 3 2 w)) := fun w h1 h2 h3 => ms_all 2 (by decide) (by decide) 3 B cb w (by decide) h1 h2 h3
  have M43 : Hid (∀ w, CodesIn B w cb → GlAt w → glTop ≤ cb → Calls Tryd.prog 17 #[.pointer (some ⟨cb, 0, none⟩), .int .i64 4, .int .i64 3] w (MsPost B cb 4 3 w)) := fun w h1 h2 h3 => ms_all 3 (by decide) (by decide) 4 B cb w (by decide) h1 h2 h3
  have M22 : Hid (∀ w, CodesIn B w cb → GlAt w → glTop ≤ cb → Calls Tryd.prog 17 #[.pointer (some ⟨cb, 0, none⟩), .int .i64 2, .int .i64 2] w (MsPost B cb 2 2 w)) := fun w h1 h2 h3 => ms_all 2 (by decide) (by decide) 2 B cb w (by decide) h1 h2 h3
  clear hc0 hg0
  go_enter Tryd.func7, Tryd.ntmps7
  go_wp2_with fail
  refine (next_keep B cb 7 _ HC0.out (by decide) (by decide)).mono ?_
  rintro e w1 ⟨a, ha, rfl, hc, hk⟩
  have HC1 := Lib.hid hc
  have HK1 := Lib.hid (((Keep.refl cb w).alloc prZ).trans hk)
  have HR1 := Lib.hid (hk.blk (new_blk w prZ) hne)
  clear hc hk
  go_wp2_with fail
  refine (next_keep B cb 5 _ HC1.out (by decide) (by decide)).mono ?_
  rintro e w2 ⟨b, hb, rfl, hc, hk⟩
  have HC2 := Lib.hid hc
  have HK2 := Lib.hid (HK1.out.trans hk)
  have HR2 := Lib.hid (hk.blk HR1.out hne)
  clear hc hk
  go_wp2_with fail
  refine (next_keep B cb 3 _ HC2.out (by decide) (by decide)).mono ?_
  rintro e w3 ⟨c, hc, rfl, hc, hk⟩
  have HC3 := Lib.hid hc
  have HK3 := Lib.hid (HK2.out.trans hk)
  have HR3 := Lib.hid (hk.blk HR2.out hne)
  clear hc hk
  have hr3 := lt_of_block HR3.out
  go_wp2_with fail
  have HVC : Hid (#[.string { data := #[120] }, .int .i64 0, .int .i64 ((a : Int) - 2), .string { data := #[97] }, .int .i64 (1 + (b : Int)), .int .i64 0, .string { data := #[121] }, .int .i64 0, .int .i64 0, .string { data := #[122] }, .int .i64 0, .int .i64 (c : Int), .string { data := #[98] }, .int .i64 2, .int .i64 0] = ((drV a b c).flatMap vrCells).toArray) := rfl
  obtain ⟨VC, hVC⟩ : ∃ VC, #[Value.string { data := #[120] }, .int .i64 0, .int .i64 ((a : Int) - 2), .string { data := #[97] }, .int .i64 (1 + (b : Int)), .int .i64 0, .string { data := #[121] }, .int .i64 0, .int .i64 0, .string { data := #[122] }, .int .i64 0, .int .i64 (c : Int), .string { data := #[98] }, .int .i64 2, .int .i64 0] = VC := ⟨_, rfl⟩
  rw [hVC] at HVC ⊢
  obtain ⟨nv, hnv⟩ : ∃ x, w3.heap.size = x := ⟨_, rfl⟩
  obtain ⟨z0, hz0⟩ : ∃ x, (w3.alloc (.cells VC 43)).alloc (.cells #[.slice (some ⟨nv, 0, none⟩) 5 5, .slice none 0 0, .slice none 0 0, .slice none 0 0, .slice none 0 0] 29) = x := ⟨_, rfl⟩
  have hn3 : (w3.alloc (.cells VC 43)).heap.size = nv + 1 := by rw [new_size, hnv]
  have HCz0 := Lib.hid (show CodesIn B z0 cb by rw [← hz0]; exact (HC3.out.up fun k hk => alloc_blk w3 _ (by omega)).up fun k hk => alloc_blk _ _ (by omega))
  have HKz0 := Lib.hid (show Keep cb w z0 by rw [← hz0]; exact (HK3.out.alloc _).alloc _)
  have HRz0 := Lib.hid (show z0.heap[w.heap.size]? = some prZ by rw [← hz0]; exact (alloc_blk _ _ (by omega)).trans ((alloc_blk w3 _ hr3).trans HR3.out))
  have HVz0 := Lib.hid (show z0.heap[nv]? = some (.cells VC 43 (0, 0)) by rw [← hz0, ← hnv]; exact (alloc_blk _ _ (by omega)).trans (new_blk w3 _))
  have HBz0 := Lib.hid (show z0.heap[nv + 1]? = some (.cells #[.slice (some ⟨nv, 0, none⟩) 5 5, .slice none 0 0, .slice none 0 0, .slice none 0 0, .slice none 0 0] 29 (0, 0)) by rw [← hz0, ← hn3]; exact new_blk _ _)
  have hnvr : w.heap.size < nv := by omega
  rw [hnv, hz0]
  clear hVC hz0 hn3 hr3 HC3 HK3 HR3 HC2 HK2 HR2 HC1 HK1 HR1 hnv
  refine (M32.out z0 HCz0.out (HG.out.keep HKz0.out hgt) hgt).mono ?_
  rintro e y1 ⟨l1, A1, n1, c1, rfl, hl, hln, hdr, hc, hk⟩
  have HD1 := Lib.hid (show l1.length ≤ 3 ∧ _ from ⟨hln, hdr⟩)
  have HBy1 := Lib.hid (hk.blk HBz0.out (by omega))
  obtain ⟨d0, d1, d2, d3, d4, f0, f1, f2, f3, f4, hzz⟩ := box5 HBy1.out
  have HCz1 := Lib.hid (hc.up (w' := y1.setCell ⟨nv + 1, 1, none⟩ (.slice A1 n1 c1)) fun k hk => set_other _ _ _ _ (by omega))
  have HKz1 := Lib.hid ((HKz0.out.trans hk).setNew (p := ⟨nv + 1, 1, none⟩) (show w.heap.size ≤ nv + 1 by omega) (.slice A1 n1 c1))
  have HRz1 := Lib.hid ((set_other y1 (nv + 1) 1 (.slice A1 n1 c1) (by omega)).trans (hk.blk HRz0.out hne))
  have HVz1 := Lib.hid ((set_other y1 (nv + 1) 1 (.slice A1 n1 c1) (by omega)).trans (hk.blk HVz0.out (by omega)))
  have HBz1 : Hid ((y1.setCell ⟨nv + 1, 1, none⟩ (.slice A1 n1 c1)).heap[nv + 1]? = some (.cells #[.slice (some ⟨nv, 0, none⟩) 5 5, .slice A1 n1 c1, .slice none 0 0, .slice none 0 0, .slice none 0 0] 29 (0, 0))) := blk_set HBy1.out 1 (.slice A1 n1 c1)
  have hzx := lt_of_block HBz0.out
  have HL1 := Lib.hid (st_set (st_low (m := nv + 2) hl (by omega)) 1 (.slice A1 n1 c1) (m := nv + 1) (by omega))
  clear hl hln hdr hc hk HCz0 HKz0 HRz0 HVz0 HBz0 hzx
  go_wp2_with fail
  obtain ⟨z1, hz1⟩ : ∃ x, y1.setCell ⟨nv + 1, 1, none⟩ (.slice A1 n1 c1) = x := ⟨_, rfl⟩
  rw [hz1] at HCz1 HKz1 HRz1 HVz1 HBz1 HL1
  clear d0 d1 d2 d3 d4 f0 f1 f2 f3 f4 hzz HBy1
  rw [hz1]
  clear hz1
  refine (M43.out z1 HCz1.out (HG.out.keep HKz1.out hgt) hgt).mono ?_
  rintro e y2 ⟨l2, A2, n2, c2, rfl, hl, hln, hdr, hc, hk⟩
  have HD2 := Lib.hid (show l2.length ≤ 4 ∧ _ from ⟨hln, hdr⟩)
  have HBy2 := Lib.hid (hk.blk HBz1.out (by omega))
  obtain ⟨d0, d1, d2, d3, d4, f0, f1, f2, f3, f4, hzz⟩ := box5 HBy2.out
  have HCz2 := Lib.hid (hc.up (w' := y2.setCell ⟨nv + 1, 2, none⟩ (.slice A2 n2 c2)) fun k hk => set_other _ _ _ _ (by omega))
  have HKz2 := Lib.hid ((HKz1.out.trans hk).setNew (p := ⟨nv + 1, 2, none⟩) (show w.heap.size ≤ nv + 1 by omega) (.slice A2 n2 c2))
  have HRz2 := Lib.hid ((set_other y2 (nv + 1) 2 (.slice A2 n2 c2) (by omega)).trans (hk.blk HRz1.out hne))
  have HVz2 := Lib.hid ((set_other y2 (nv + 1) 2 (.slice A2 n2 c2) (by omega)).trans (hk.blk HVz1.out (by omega)))
  have HBz2 : Hid ((y2.setCell ⟨nv + 1, 2, none⟩ (.slice A2 n2 c2)).heap[nv + 1]? = some (.cells #[.slice (some ⟨nv, 0, none⟩) 5 5, .slice A1 n1 c1, .slice A2 n2 c2, .slice none 0 0, .slice none 0 0] 29 (0, 0))) := blk_set HBy2.out 2 (.slice A2 n2 c2)
  have hzx := lt_of_block HBz1.out
  have HL2 := Lib.hid (st_set (st_low (m := nv + 2) hl (by omega)) 2 (.slice A2 n2 c2) (m := nv + 1) (by omega))
  replace HL1 := Lib.hid (st_set (st_keep HL1.out (Nat.le_refl _) hk (by omega)) 2 (.slice A2 n2 c2) (m := nv + 1) (by omega))
  clear hl hln hdr hc hk HCz1 HKz1 HRz1 HVz1 HBz1 hzx
  go_wp2_with fail
  obtain ⟨z2, hz2⟩ : ∃ x, y2.setCell ⟨nv + 1, 2, none⟩ (.slice A2 n2 c2) = x := ⟨_, rfl⟩
  rw [hz2] at HCz2 HKz2 HRz2 HVz2 HBz2 HL1 HL2
  clear d0 d1 d2 d3 d4 f0 f1 f2 f3 f4 hzz HBy2
  rw [hz2]
  clear hz2
  refine (M32.out z2 HCz2.out (HG.out.keep HKz2.out hgt) hgt).mono ?_
  rintro e y3 ⟨l3, A3, n3, c3, rfl, hl, hln, hdr, hc, hk⟩
  have HD3 := Lib.hid (show l3.length ≤ 3 ∧ _ from ⟨hln, hdr⟩)
  have HBy3 := Lib.hid (hk.blk HBz2.out (by omega))
  obtain ⟨d0, d1, d2, d3, d4, f0, f1, f2, f3, f4, hzz⟩ := box5 HBy3.out
  have HCz3 := Lib.hid (hc.up (w' := y3.setCell ⟨nv + 1, 3, none⟩ (.slice A3 n3 c3)) fun k hk => set_other _ _ _ _ (by omega))
  have HKz3 := Lib.hid ((HKz2.out.trans hk).setNew (p := ⟨nv + 1, 3, none⟩) (show w.heap.size ≤ nv + 1 by omega) (.slice A3 n3 c3))
  have HRz3 := Lib.hid ((set_other y3 (nv + 1) 3 (.slice A3 n3 c3) (by omega)).trans (hk.blk HRz2.out hne))
  have HVz3 := Lib.hid ((set_other y3 (nv + 1) 3 (.slice A3 n3 c3) (by omega)).trans (hk.blk HVz2.out (by omega)))
  have HBz3 : Hid ((y3.setCell ⟨nv + 1, 3, none⟩ (.slice A3 n3 c3)).heap[nv + 1]? = some (.cells #[.slice (some ⟨nv, 0, none⟩) 5 5, .slice A1 n1 c1, .slice A2 n2 c2, .slice A3 n3 c3, .slice none 0 0] 29 (0, 0))) := blk_set HBy3.out 3 (.slice A3 n3 c3)
  have hzx := lt_of_block HBz2.out
  have HL3 := Lib.hid (st_set (st_low (m := nv + 2) hl (by omega)) 3 (.slice A3 n3 c3) (m := nv + 1) (by omega))
  replace HL1 := Lib.hid (st_set (st_keep HL1.out (Nat.le_refl _) hk (by omega)) 3 (.slice A3 n3 c3) (m := nv + 1) (by omega))
  replace HL2 := Lib.hid (st_set (st_keep HL2.out (Nat.le_refl _) hk (by omega)) 3 (.slice A3 n3 c3) (m := nv + 1) (by omega))
  clear hl hln hdr hc hk HCz2 HKz2 HRz2 HVz2 HBz2 hzx
  go_wp2_with fail
  obtain ⟨z3, hz3⟩ : ∃ x, y3.setCell ⟨nv + 1, 3, none⟩ (.slice A3 n3 c3) = x := ⟨_, rfl⟩
  rw [hz3] at HCz3 HKz3 HRz3 HVz3 HBz3 HL1 HL2 HL3
  clear d0 d1 d2 d3 d4 f0 f1 f2 f3 f4 hzz HBy3
  rw [hz3]
  clear hz3
  refine (M22.out z3 HCz3.out (HG.out.keep HKz3.out hgt) hgt).mono ?_
  rintro e y4 ⟨l4, A4, n4, c4, rfl, hl, hln, hdr, hc, hk⟩
  have HD4 := Lib.hid (show l4.length ≤ 2 ∧ _ from ⟨hln, hdr⟩)
  have HBy4 := Lib.hid (hk.blk HBz3.out (by omega))
  obtain ⟨d0, d1, d2, d3, d4, f0, f1, f2, f3, f4, hzz⟩ := box5 HBy4.out
  have HCz4 := Lib.hid (hc.up (w' := y4.setCell ⟨nv + 1, 4, none⟩ (.slice A4 n4 c4)) fun k hk => set_other _ _ _ _ (by omega))
  have HKz4 := Lib.hid ((HKz3.out.trans hk).setNew (p := ⟨nv + 1, 4, none⟩) (show w.heap.size ≤ nv + 1 by omega) (.slice A4 n4 c4))
  have HRz4 := Lib.hid ((set_other y4 (nv + 1) 4 (.slice A4 n4 c4) (by omega)).trans (hk.blk HRz3.out hne))
  have HVz4 := Lib.hid ((set_other y4 (nv + 1) 4 (.slice A4 n4 c4) (by omega)).trans (hk.blk HVz3.out (by omega)))
  have HBz4 : Hid ((y4.setCell ⟨nv + 1, 4, none⟩ (.slice A4 n4 c4)).heap[nv + 1]? = some (.cells #[.slice (some ⟨nv, 0, none⟩) 5 5, .slice A1 n1 c1, .slice A2 n2 c2, .slice A3 n3 c3, .slice A4 n4 c4] 29 (0, 0))) := blk_set HBy4.out 4 (.slice A4 n4 c4)
  have hzx := lt_of_block HBz3.out
  have HL4 := Lib.hid (st_set (st_low (m := nv + 2) hl (by omega)) 4 (.slice A4 n4 c4) (m := nv + 1) (by omega))
  replace HL1 := Lib.hid (st_set (st_keep HL1.out (Nat.le_refl _) hk (by omega)) 4 (.slice A4 n4 c4) (m := nv + 1) (by omega))
  replace HL2 := Lib.hid (st_set (st_keep HL2.out (Nat.le_refl _) hk (by omega)) 4 (.slice A4 n4 c4) (m := nv + 1) (by omega))
  replace HL3 := Lib.hid (st_set (st_keep HL3.out (Nat.le_refl _) hk (by omega)) 4 (.slice A4 n4 c4) (m := nv + 1) (by omega))
  have HRy4 := Lib.hid (hk.blk HRz3.out hne)
  obtain ⟨r0, r1, r2, r3, r4, g0, g1, g2, g3, g4, hzr⟩ := box5 HRy4.out
  have hnr : ¬ w.heap.size = nv + 1 := by omega
  have hnr2 : ¬ nv + 1 = w.heap.size := by omega
  clear hl hln hdr hc hk HCz3 HKz3 HRz3 HVz3 HBz3 hzx
  go_wp2_with fail
  refine bodyPost_ret (v := .agg #[.slice (some ⟨nv, 0, none⟩) 5 5, .slice A1 n1 c1, .slice A2 n2 c2, .slice A3 n3 c3, .slice A4 n4 c4]) ?_ rfl ?_
  · simp [results, Tryd.results7, go_sem, World.cell?_setCell_same, World.cell?_setCell_other, r0, r1, r2, r3, r4]
  · have hv5 : ∀ (l : List St) (v : Value), StSlice (From (nv + 2)) (y4.setCell ⟨nv + 1, 4, none⟩ (.slice A4 n4 c4)) l v → StSlice (From w.heap.size) (set5 (y4.setCell ⟨nv + 1, 4, none⟩ (.slice A4 n4 c4)) w.heap.size (.slice (some ⟨nv, 0, none⟩) 5 5) (.slice A1 n1 c1) (.slice A2 n2 c2) (.slice A3 n3 c3) (.slice A4 n4 c4)) l v := fun l v h =>
      h.still fun k (h1 : nv + 2 ≤ k) _ => ⟨show w.heap.size ≤ k by omega, set5_blk _ _ _ _ _ _ _ (by omega)⟩
    have hvv := mp_vars (w := set5 (y4.setCell ⟨nv + 1, 4, none⟩ (.slice A4 n4 c4)) w.heap.size (.slice (some ⟨nv, 0, none⟩) 5 5) (.slice A1 n1 c1) (.slice A2 n2 c2) (.slice A3 n3 c3) (.slice A4 n4 c4)) (b := nv) (T := 43) (fr := (0, 0)) (l := drV a b c) (S := From w.heap.size) (by
      rw [set5_blk _ _ _ _ _ _ _ (by omega), HVz4.out, HVC.out]) (show w.heap.size ≤ nv by omega) 5 (by simp [drV])
    exact ⟨⟨drV a b c, l1, l2, l3, l4⟩, _, rfl, ⟨_, _, _, _, _, _, _, _, _, _, _, _, _, _, _, rfl, hvv, hv5 _ _ HL1.out, hv5 _ _ HL2.out, hv5 _ _ HL3.out, hv5 _ _ HL4.out⟩, ⟨⟨a, b, c, ha, hb, hc, rfl⟩, HD1.out, HD2.out, HD3.out, HD4.out⟩,
      HCz4.out.up fun k hk => set5_blk _ _ _ _ _ _ _ (by omega), HKz4.out.set5 (Nat.le_refl _) _ _ _ _ _⟩
end Go.Proofs.YtgkioompcmgmdaaDoor
