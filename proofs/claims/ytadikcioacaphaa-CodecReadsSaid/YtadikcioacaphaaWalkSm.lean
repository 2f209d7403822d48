/-
  What Same of the answer and of package process returns for two states whose lists are the same (gens58.py writes this text). Condition: lists of at most 10^9 rows.
-/
import Derived.Test.YtadikcioacaphaaWalkEq
namespace Go.Proofs.Ytadikcioacaphaa
open Go.RowKit

/-- A state on plain lists. -/
structure PS where
  cells : List Int
  evs : List (List Int)
  sent : List (List Int)
  outs : List (List Int)
/-- A state that can be read. -/
structure SRd (w : World) (s : PS) (Z V S O : Option Addr) : Prop where
  cells : RwAt w 1 (s.cells.map (Value.int .i64)) Z s.cells.length
  evs : RwAt w 7 (rowC s.evs) V s.evs.length
  sent : RwAt w 4 (rowC s.sent) S s.sent.length
  outs : RwAt w 2 (rowC s.outs) O s.outs.length
theorem box4 {w : World} {n : Nat} {a b c d : Value} {T : TypeId} {fr : Nat × Nat} (h : w.heap[n]? = some (.cells #[a, b, c, d] T fr)) : w.cell? ⟨n, 0, none⟩ = some a ∧ w.cell? ⟨n, 1, none⟩ = some b ∧ w.cell? ⟨n, 2, none⟩ = some c ∧ w.cell? ⟨n, 3, none⟩ = some d := by
  refine ⟨?_, ?_, ?_, ?_⟩ <;> (rw [Lib.cell_of_heap h]; rfl)
/-- The rows of a state are as wide as its types say, and few. -/
structure POk (s : PS) : Prop where
  evs : ∀ r ∈ s.evs, r.length = 7
  sent : ∀ r ∈ s.sent, r.length = 4
  outs : ∀ r ∈ s.outs, r.length = 2
  cells_few : s.cells.length ≤ 1000000000
  evs_few : s.evs.length ≤ 1000000000
  sent_few : s.sent.length ≤ 1000000000
  outs_few : s.outs.length ≤ 1000000000
theorem rowC_ones (l : List Int) : rowC (l.map fun x => [x]) = l.map (Value.int .i64) := by
  induction l with
  | nil => rfl
  | cons a l ih => simp [rowC] at ih ⊢; exact ih
theorem ones_len (l : List Int) : ∀ r ∈ l.map (fun x => [x]), r.length = 1 := by
  intro r hr
  obtain ⟨x, -, rfl⟩ := List.mem_map.1 hr
  rfl

set_option maxHeartbeats 2000000 in
set_option maxRecDepth 100000 in
theorem same_ref6 (s t : PS) (w : World) {Za Va Sa Oa Zb Vb Sb Ob : Option Addr} {zca vca sca oca zcb vcb scb ocb : Nat} (hs : SRd w s Za Va Sa Oa) (ht : SRd w t Zb Vb Sb Ob) (kt : POk t) (q0 : s.cells = t.cells) (q1 : s.evs = t.evs) (q2 : s.sent = t.sent) (q3 : s.outs = t.outs) :
    Calls Try.prog 44 #[.agg #[.slice Za s.cells.length zca, .slice Va s.evs.length vca, .slice Sa s.sent.length sca, .slice Oa s.outs.length oca], .agg #[.slice Zb t.cells.length zcb, .slice Vb t.evs.length vcb, .slice Sb t.sent.length scb, .slice Ob t.outs.length ocb]] w fun e w' => e = .returned (.bool true) ∧ Below w.heap.size w w' := by
  obtain ⟨n0, hn0⟩ : ∃ x, t.cells.length = x := ⟨_, rfl⟩
  obtain ⟨n1, hn1⟩ : ∃ x, t.evs.length = x := ⟨_, rfl⟩
  obtain ⟨n2, hn2⟩ : ∃ x, t.sent.length = x := ⟨_, rfl⟩
  obtain ⟨n3, hn3⟩ : ∃ x, t.outs.length = x := ⟨_, rfl⟩
  obtain ⟨a0, a1, a2, a3⟩ := hs
  obtain ⟨b0, b1, b2, b3⟩ := ht
  rw [q0] at a0
  rw [q1] at a1
  rw [q2] at a2
  rw [q3] at a3
  rw [q0, q1, q2, q3]
  simp only [hn0] at a0 b0 ⊢
  simp only [hn1] at a1 b1 ⊢
  simp only [hn2] at a2 b2 ⊢
  simp only [hn3] at a3 b3 ⊢
  have HE0 : Hid (∀ w', Below w.heap.size w w' → Calls Try.prog 66 #[.slice Za n0 zca, .slice Zb n0 zcb] w' fun e w'' => e = .returned (.bool true) ∧ Below w'.heap.size w' w'') := by
    intro w' hb
    refine (sameI (t.cells.map fun x => [x]) (t.cells.map fun x => [x]) (ones_len _) (ones_len _) Za Zb n0 n0 zca zcb w' (by rw [rowC_ones]; exact a0.below (by decide) hb) (by simp [hn0]) (by rw [rowC_ones]; exact b0.below (by decide) hb) (by simp [hn0]) (by rw [← hn0]; exact kt.cells_few)).mono ?_
    rintro e w'' ⟨rfl, h⟩
    exact ⟨by simp, h⟩
  have HE1 : Hid (∀ w', Below w.heap.size w w' → Calls Try.prog 67 #[.slice Va n1 vca, .slice Vb n1 vcb] w' fun e w'' => e = .returned (.bool true) ∧ Below w'.heap.size w' w'') := by
    intro w' hb
    refine (sameE t.evs t.evs kt.evs kt.evs Va Vb n1 n1 vca vcb w' (a1.below (by decide) hb) hn1.symm (b1.below (by decide) hb) hn1.symm (by rw [← hn1]; exact kt.evs_few)).mono ?_
    rintro e w'' ⟨rfl, h⟩
    exact ⟨by simp, h⟩
  have HE2 : Hid (∀ w', Below w.heap.size w w' → Calls Try.prog 68 #[.slice Sa n2 sca, .slice Sb n2 scb] w' fun e w'' => e = .returned (.bool true) ∧ Below w'.heap.size w' w'') := by
    intro w' hb
    refine (sameS t.sent t.sent kt.sent kt.sent Sa Sb n2 n2 sca scb w' (a2.below (by decide) hb) hn2.symm (b2.below (by decide) hb) hn2.symm (by rw [← hn2]; exact kt.sent_few)).mono ?_
    rintro e w'' ⟨rfl, h⟩
    exact ⟨by simp, h⟩
  have HE3 : Hid (∀ w', Below w.heap.size w w' → Calls Try.prog 69 #[.slice Oa n3 oca, .slice Ob n3 ocb] w' fun e w'' => e = .returned (.bool true) ∧ Below w'.heap.size w' w'') := by
    intro w' hb
    refine (sameO t.outs t.outs kt.outs kt.outs Oa Ob n3 n3 oca ocb w' (a3.below (by decide) hb) hn3.symm (b3.below (by decide) hb) hn3.symm (by rw [← hn3]; exact kt.outs_few)).mono ?_
    rintro e w'' ⟨rfl, h⟩
    exact ⟨by simp, h⟩
  clear a0 a1 a2 a3 b0 b1 b2 b3 q0 q1 q2 q3 kt hn0 hn1 hn2 hn3
  obtain ⟨nb, hnb⟩ : ∃ x, w.heap.size = x := ⟨_, rfl⟩
  obtain ⟨W, hW⟩ : ∃ x, ((w.alloc (.cells #[.slice Za n0 zca, .slice Va n1 vca, .slice Sa n2 sca, .slice Oa n3 oca] 43)).alloc (.cells #[.slice Zb n0 zcb, .slice Vb n1 vcb, .slice Sb n2 scb, .slice Ob n3 ocb] 43)) = x := ⟨_, rfl⟩
  have hz0 : W.heap.size = nb + 1 + 1 := by rw [← hW, ← hnb]; simp only [new_size]
  have hb4 : Below w.heap.size w W := by rw [← hW]; exact (((Below.refl _ _).alloc (Nat.le_refl _) _).alloc (by simp only [new_size]; omega) _)
  have hB0 : W.heap[nb]? = some (.cells #[.slice Za n0 zca, .slice Va n1 vca, .slice Sa n2 sca, .slice Oa n3 oca] 43 (0, 0)) := by
    have h := new_blk w (.cells #[.slice Za n0 zca, .slice Va n1 vca, .slice Sa n2 sca, .slice Oa n3 oca] 43)
    rw [hnb] at h
    rw [← hW]; rw [alloc_blk _ _ (by simp only [new_size]; omega)]; exact h
  have hB1 : W.heap[nb + 1]? = some (.cells #[.slice Zb n0 zcb, .slice Vb n1 vcb, .slice Sb n2 scb, .slice Ob n3 ocb] 43 (0, 0)) := by
    have h := new_blk (w.alloc (.cells #[.slice Za n0 zca, .slice Va n1 vca, .slice Sa n2 sca, .slice Oa n3 oca] 43)) (.cells #[.slice Zb n0 zcb, .slice Vb n1 vcb, .slice Sb n2 scb, .slice Ob n3 ocb] 43)
    simp only [new_size, hnb] at h
    rw [← hW]; exact h
  have HB4 := Lib.hid hb4
  have HNB := Lib.hid hnb
  have HZ0 := Lib.hid hz0
  have H0 := Lib.hid hB0
  have H1 := Lib.hid hB1
  obtain ⟨c0, c1, c2, c3⟩ := box4 hB0
  obtain ⟨d0, d1, d2, d3⟩ := box4 hB1
  clear hb4 hz0 hB0 hB1
  go_enter Try.func44, Try.ntmps44
  go_upto_region 1 with fail
  clear hW
  go_wp2_with fail
  refine (HE0.out W HB4.out).mono ?_
  rintro e w1 ⟨rfl, hb1⟩
  have HB1 : Hid (Below w.heap.size w w1) := HB4.out.trans (hb1.mono HB4.out.size)
  clear HE0
  obtain ⟨c0, c1, c2, c3⟩ := box4 (below_blk hb1 H0.out)
  obtain ⟨d0, d1, d2, d3⟩ := box4 (below_blk hb1 H1.out)
  replace H0 := Lib.hid (below_blk hb1 H0.out)
  replace H1 := Lib.hid (below_blk hb1 H1.out)
  clear hb1
  go_wp2_with fail
  refine (HE1.out w1 HB1.out).mono ?_
  rintro e w2 ⟨rfl, hb2⟩
  have HB2 : Hid (Below w.heap.size w w2) := HB1.out.trans (hb2.mono HB1.out.size)
  clear HE1
  obtain ⟨c0, c1, c2, c3⟩ := box4 (below_blk hb2 H0.out)
  obtain ⟨d0, d1, d2, d3⟩ := box4 (below_blk hb2 H1.out)
  replace H0 := Lib.hid (below_blk hb2 H0.out)
  replace H1 := Lib.hid (below_blk hb2 H1.out)
  clear hb2
  go_wp2_with fail
  refine (HE2.out w2 HB2.out).mono ?_
  rintro e w3 ⟨rfl, hb3⟩
  have HB3 : Hid (Below w.heap.size w w3) := HB2.out.trans (hb3.mono HB2.out.size)
  clear HE2
  obtain ⟨c0, c1, c2, c3⟩ := box4 (below_blk hb3 H0.out)
  obtain ⟨d0, d1, d2, d3⟩ := box4 (below_blk hb3 H1.out)
  replace H0 := Lib.hid (below_blk hb3 H0.out)
  replace H1 := Lib.hid (below_blk hb3 H1.out)
  clear hb3
  go_wp2_with fail
  refine (HE3.out w3 HB3.out).mono ?_
  rintro e w4 ⟨rfl, hb4⟩
  have HB5 : Hid (Below w.heap.size w w4) := HB3.out.trans (hb4.mono HB3.out.size)
  clear HE3
  go_wp2_with fail
  go_ret
  exact ⟨rfl, by first | exact HB5.out | (rw [HNB.out]; exact HB5.out)⟩


/-- Numbers as rows. -/
theorem rows_of (k : Nat) : ∀ (n : Nat) (zs : List Int), zs.length = k * n → ∃ rows : List (List Int), rowC rows = zs.map (Value.int .i64) ∧ rows.length = n ∧ ∀ r ∈ rows, r.length = k
  | 0, zs, h => by
    have : zs = [] := List.eq_nil_of_length_eq_zero (by simpa using h)
    subst this
    exact ⟨[], rfl, rfl, fun r h => by simp at h⟩
  | n + 1, zs, h => by
    have hl : k ≤ zs.length := by rw [h, Nat.mul_add, Nat.mul_one]; exact Nat.le_add_left _ _
    obtain ⟨rows, h1, h2, h3⟩ := rows_of k n (zs.drop k) (by rw [List.length_drop, h, Nat.mul_add, Nat.mul_one, Nat.add_sub_cancel])
    refine ⟨zs.take k :: rows, ?_, by simp [h2], fun r hr => ?_⟩
    · rw [rowC_cons, h1, ← List.map_append, List.take_append_drop]
    · rcases List.mem_cons.1 hr with rfl | hr
      · rw [List.length_take]; omega
      · exact h3 r hr
/-- Same of the answer for two states that have the same numbers. -/
theorem same6_any (z0 z1 z2 z3 : List Int) (w : World) {A0 A1 A2 A3 B0 B1 B2 B3 : Option Addr} {n0 n1 n2 n3 c0 c1 c2 c3 d0 d1 d2 d3 : Nat}
    (h0 : RwAt w 1 (z0.map (Value.int .i64)) A0 n0) (h1 : RwAt w 7 (z1.map (Value.int .i64)) A1 n1) (h2 : RwAt w 4 (z2.map (Value.int .i64)) A2 n2) (h3 : RwAt w 2 (z3.map (Value.int .i64)) A3 n3)
    (k0 : RwAt w 1 (z0.map (Value.int .i64)) B0 n0) (k1 : RwAt w 7 (z1.map (Value.int .i64)) B1 n1) (k2 : RwAt w 4 (z2.map (Value.int .i64)) B2 n2) (k3 : RwAt w 2 (z3.map (Value.int .i64)) B3 n3)
    (l0 : n0 ≤ 1000000000) (l1 : n1 ≤ 1000000000) (l2 : n2 ≤ 1000000000) (l3 : n3 ≤ 1000000000) :
    Calls Try.prog 44 #[.agg #[.slice A0 n0 c0, .slice A1 n1 c1, .slice A2 n2 c2, .slice A3 n3 c3], .agg #[.slice B0 n0 d0, .slice B1 n1 d1, .slice B2 n2 d2, .slice B3 n3 d3]] w fun e w' => e = .returned (.bool true) ∧ Below w.heap.size w w' := by
  have e0 : n0 = z0.length := by have := h0.1; rw [List.length_map] at this; omega
  obtain ⟨r1, p1, q1, s1⟩ := rows_of 7 n1 z1 (by have := h1.1; rw [List.length_map] at this; omega)
  obtain ⟨r2, p2, q2, s2⟩ := rows_of 4 n2 z2 (by have := h2.1; rw [List.length_map] at this; omega)
  obtain ⟨r3, p3, q3, s3⟩ := rows_of 2 n3 z3 (by have := h3.1; rw [List.length_map] at this; omega)
  rw [← p1] at h1 k1
  rw [← p2] at h2 k2
  rw [← p3] at h3 k3
  subst e0 q1 q2 q3
  exact same_ref6 ⟨z0, r1, r2, r3⟩ ⟨z0, r1, r2, r3⟩ w ⟨h0, h1, h2, h3⟩ ⟨k0, k1, k2, k3⟩ ⟨s1, s2, s3, l0, l1, l2, l3⟩ rfl rfl rfl rfl
end Go.Proofs.Ytadikcioacaphaa
