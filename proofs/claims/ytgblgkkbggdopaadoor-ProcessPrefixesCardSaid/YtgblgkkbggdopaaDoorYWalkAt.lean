/-
  What At of package process returns (gens60.py writes this text). Conditions: those of Replay; the events lie in a slice whose capacity is not below its length.
-/
import Derived.Test.YtgblgkkbggdopaaDoorZax
import Derived.Deep.RegionHeld3
namespace Go.Proofs.YtgblgkkbggdopaaDoor
open Go.RowKit

set_option maxHeartbeats 2000000 in
set_option maxRecDepth 100000 in
theorem at_low (C0 : Option Addr) (C1 : Option Addr) (C2 : Option Addr) (C3 : Option Addr) (C4 : Option Addr) (k0 q0 k1 q1 k2 q2 k3 q3 k4 q4 : Nat) (self procs k : Int) (n0 n1 n2 n3 : Nat) (Z V S O : Option Addr) (zc vc sc oc : Nat) (w : World) (hk : k < 0) :
    Calls Tryd.prog 19 #[.agg #[.slice C0 k0 q0, .slice C1 k1 q1, .slice C2 k2 q2, .slice C3 k3 q3, .slice C4 k4 q4], .int .i64 self, .int .i64 procs, .agg #[.slice Z n0 zc, .slice V n1 vc, .slice S n2 sc, .slice O n3 oc], .int .i64 k] w fun e w' => e = .returned (.tuple #[.agg #[.slice none 0 0, .slice none 0 0, .slice none 0 0, .slice none 0 0], .bool false]) ∧ Below w.heap.size w w' := by
  obtain ⟨nb, hnb⟩ : ∃ x, w.heap.size = x := ⟨_, rfl⟩
  obtain ⟨W, hW⟩ : ∃ x, (((w.alloc (.cells #[.slice C0 k0 q0, .slice C1 k1 q1, .slice C2 k2 q2, .slice C3 k3 q3, .slice C4 k4 q4] 29)).alloc (.cells #[.slice Z n0 zc, .slice V n1 vc, .slice S n2 sc, .slice O n3 oc] 36)).alloc (.cells #[.slice none 0 0, .slice none 0 0, .slice none 0 0, .slice none 0 0] 36)) = x := ⟨_, rfl⟩
  have hz0 : W.heap.size = nb + 1 + 1 + 1 := by rw [← hW, ← hnb]; simp only [new_size]
  have hb4 : Below w.heap.size w W := by rw [← hW]; exact ((((Below.refl _ _).alloc (Nat.le_refl _) _).alloc (by simp only [new_size]; omega) _).alloc (by simp only [new_size]; omega) _)
  have hB0 : W.heap[nb]? = some (.cells #[.slice C0 k0 q0, .slice C1 k1 q1, .slice C2 k2 q2, .slice C3 k3 q3, .slice C4 k4 q4] 29 (0, 0)) := by
    have h := new_blk w (.cells #[.slice C0 k0 q0, .slice C1 k1 q1, .slice C2 k2 q2, .slice C3 k3 q3, .slice C4 k4 q4] 29)
    rw [hnb] at h
    rw [← hW]; rw [alloc_blk _ _ (by simp only [new_size]; omega)]; rw [alloc_blk _ _ (by simp only [new_size]; omega)]; exact h
  have hB1 : W.heap[nb + 1]? = some (.cells #[.slice Z n0 zc, .slice V n1 vc, .slice S n2 sc, .slice O n3 oc] 36 (0, 0)) := by
    have h := new_blk (w.alloc (.cells #[.slice C0 k0 q0, .slice C1 k1 q1, .slice C2 k2 q2, .slice C3 k3 q3, .slice C4 k4 q4] 29)) (.cells #[.slice Z n0 zc, .slice V n1 vc, .slice S n2 sc, .slice O n3 oc] 36)
    simp only [new_size, hnb] at h
    rw [← hW]; rw [alloc_blk _ _ (by simp only [new_size]; omega)]; exact h
  have hB2 : W.heap[nb + 1 + 1]? = some (.cells #[.slice none 0 0, .slice none 0 0, .slice none 0 0, .slice none 0 0] 36 (0, 0)) := by
    have h := new_blk ((w.alloc (.cells #[.slice C0 k0 q0, .slice C1 k1 q1, .slice C2 k2 q2, .slice C3 k3 q3, .slice C4 k4 q4] 29)).alloc (.cells #[.slice Z n0 zc, .slice V n1 vc, .slice S n2 sc, .slice O n3 oc] 36)) (.cells #[.slice none 0 0, .slice none 0 0, .slice none 0 0, .slice none 0 0] 36)
    simp only [new_size, hnb] at h
    rw [← hW]; exact h
  have HB4 := Lib.hid hb4
  have HNB := Lib.hid hnb
  have HZ0 := Lib.hid hz0
  have H0 := Lib.hid hB0
  have H1 := Lib.hid hB1
  have H2 := Lib.hid hB2
  obtain ⟨c0, c1, c2, c3, c4, _⟩ := box5 hB0
  obtain ⟨d0, d1, d2, d3⟩ := box4 hB1
  obtain ⟨e0, e1, e2, e3⟩ := box4 hB2
  have hzz : nb + 1 + 1 < W.heap.size := lt_of_block hB2
  have ef0 := frz hB2 0
  have ef1 := frz hB2 1
  have ef2 := frz hB2 2
  have ef3 := frz hB2 3
  clear hb4 hz0 hB0 hB1 hB2
  go_enter Tryd.func19, Tryd.ntmps19
  go_upto_region 1 with fail
  clear hW
  go_wp2_with fail
  refine bodyPost_ret (v := .tuple #[.agg #[.slice none 0 0, .slice none 0 0, .slice none 0 0, .slice none 0 0], .bool false]) ?_ rfl ?_
  · simp [results, Tryd.results19, go_sem, World.cell?_setCell_same, World.cell?_setCell_other, e0, e1, e2, e3]
  · exact ⟨rfl, by have h := HB4.out.trans (set4_below (B := w.heap.size) (n := nb + 1 + 1) W (by rw [HNB.out]; omega) (.slice none 0 0) (.slice none 0 0) (.slice none 0 0) (.slice none 0 0)); first | exact h | (rw [HNB.out] at h; exact h)⟩

set_option maxHeartbeats 2000000 in
set_option maxRecDepth 100000 in
theorem at_high (C0 : Option Addr) (C1 : Option Addr) (C2 : Option Addr) (C3 : Option Addr) (C4 : Option Addr) (k0 q0 k1 q1 k2 q2 k3 q3 k4 q4 : Nat) (self procs k : Int) (n0 n1 n2 n3 : Nat) (Z V S O : Option Addr) (zc vc sc oc : Nat) (w : World) (hk : ¬ k < 0) (hk2 : (n1 : Int) < k) :
    Calls Tryd.prog 19 #[.agg #[.slice C0 k0 q0, .slice C1 k1 q1, .slice C2 k2 q2, .slice C3 k3 q3, .slice C4 k4 q4], .int .i64 self, .int .i64 procs, .agg #[.slice Z n0 zc, .slice V n1 vc, .slice S n2 sc, .slice O n3 oc], .int .i64 k] w fun e w' => e = .returned (.tuple #[.agg #[.slice none 0 0, .slice none 0 0, .slice none 0 0, .slice none 0 0], .bool false]) ∧ Below w.heap.size w w' := by
  obtain ⟨nb, hnb⟩ : ∃ x, w.heap.size = x := ⟨_, rfl⟩
  obtain ⟨W, hW⟩ : ∃ x, (((w.alloc (.cells #[.slice C0 k0 q0, .slice C1 k1 q1, .slice C2 k2 q2, .slice C3 k3 q3, .slice C4 k4 q4] 29)).alloc (.cells #[.slice Z n0 zc, .slice V n1 vc, .slice S n2 sc, .slice O n3 oc] 36)).alloc (.cells #[.slice none 0 0, .slice none 0 0, .slice none 0 0, .slice none 0 0] 36)) = x := ⟨_, rfl⟩
  have hz0 : W.heap.size = nb + 1 + 1 + 1 := by rw [← hW, ← hnb]; simp only [new_size]
  have hb4 : Below w.heap.size w W := by rw [← hW]; exact ((((Below.refl _ _).alloc (Nat.le_refl _) _).alloc (by simp only [new_size]; omega) _).alloc (by simp only [new_size]; omega) _)
  have hB0 : W.heap[nb]? = some (.cells #[.slice C0 k0 q0, .slice C1 k1 q1, .slice C2 k2 q2, .slice C3 k3 q3, .slice C4 k4 q4] 29 (0, 0)) := by
    have h := new_blk w (.cells #[.slice C0 k0 q0, .slice C1 k1 q1, .slice C2 k2 q2, .slice C3 k3 q3, .slice C4 k4 q4] 29)
    rw [hnb] at h
    rw [← hW]; rw [alloc_blk _ _ (by simp only [new_size]; omega)]; rw [alloc_blk _ _ (by simp only [new_size]; omega)]; exact h
  have hB1 : W.heap[nb + 1]? = some (.cells #[.slice Z n0 zc, .slice V n1 vc, .slice S n2 sc, .slice O n3 oc] 36 (0, 0)) := by
    have h := new_blk (w.alloc (.cells #[.slice C0 k0 q0, .slice C1 k1 q1, .slice C2 k2 q2, .slice C3 k3 q3, .slice C4 k4 q4] 29)) (.cells #[.slice Z n0 zc, .slice V n1 vc, .slice S n2 sc, .slice O n3 oc] 36)
    simp only [new_size, hnb] at h
    rw [← hW]; rw [alloc_blk _ _ (by simp only [new_size]; omega)]; exact h
  have hB2 : W.heap[nb + 1 + 1]? = some (.cells #[.slice none 0 0, .slice none 0 0, .slice none 0 0, .slice none 0 0] 36 (0, 0)) := by
    have h := new_blk ((w.alloc (.cells #[.slice C0 k0 q0, .slice C1 k1 q1, .slice C2 k2 q2, .slice C3 k3 q3, .slice C4 k4 q4] 29)).alloc (.cells #[.slice Z n0 zc, .slice V n1 vc, .slice S n2 sc, .slice O n3 oc] 36)) (.cells #[.slice none 0 0, .slice none 0 0, .slice none 0 0, .slice none 0 0] 36)
    simp only [new_size, hnb] at h
    rw [← hW]; exact h
  have HB4 := Lib.hid hb4
  have HNB := Lib.hid hnb
  have HZ0 := Lib.hid hz0
  have H0 := Lib.hid hB0
  have H1 := Lib.hid hB1
  have H2 := Lib.hid hB2
  obtain ⟨c0, c1, c2, c3, c4, _⟩ := box5 hB0
  obtain ⟨d0, d1, d2, d3⟩ := box4 hB1
  obtain ⟨e0, e1, e2, e3⟩ := box4 hB2
  have hzz : nb + 1 + 1 < W.heap.size := lt_of_block hB2
  have ef0 := frz hB2 0
  have ef1 := frz hB2 1
  have ef2 := frz hB2 2
  have ef3 := frz hB2 3
  clear hb4 hz0 hB0 hB1 hB2
  go_enter Tryd.func19, Tryd.ntmps19
  go_upto_region 1 with fail
  clear hW
  go_wp2_with fail
  refine bodyPost_ret (v := .tuple #[.agg #[.slice none 0 0, .slice none 0 0, .slice none 0 0, .slice none 0 0], .bool false]) ?_ rfl ?_
  · simp [results, Tryd.results19, go_sem, World.cell?_setCell_same, World.cell?_setCell_other, e0, e1, e2, e3]
  · exact ⟨rfl, by have h := HB4.out.trans (set4_below (B := w.heap.size) (n := nb + 1 + 1) W (by rw [HNB.out]; omega) (.slice none 0 0) (.slice none 0 0) (.slice none 0 0) (.slice none 0 0)); first | exact h | (rw [HNB.out] at h; exact h)⟩

theorem RwAt.cut {w : World} {k n : Nat} {rows : List (List Int)} {A : Option Addr} (h : RwAt w k (rowC rows) A n) (hr : ∀ r ∈ rows, r.length = k) (hn : n = rows.length) (m : Nat) (hm : m ≤ n) : RwAt w k (rowC (rows.take m)) A m := by
  have hl : (rows.take m).length = m := by rw [List.length_take]; omega
  refine ⟨by rw [rowC_len k _ (fun r h => hr r (List.mem_of_mem_take h)), hl], fun h0 => ?_⟩
  obtain ⟨b, o, e, hc⟩ := h.2 (by omega)
  refine ⟨b, o, e, fun j u hj => hc j u ?_⟩
  have e2 : rowC rows = rowC (rows.take m) ++ rowC (rows.drop m) := by
    unfold rowC
    rw [← List.flatMap_append, List.take_append_drop]
  rw [e2, List.getElem?_append_left (List.getElem?_eq_some_iff.1 hj).1]
  exact hj

set_option maxHeartbeats 4000000 in
set_option maxRecDepth 100000 in
theorem at_any (B : Nat) (C0 : Option Addr) (C1 : Option Addr) (C2 : Option Addr) (C3 : Option Addr) (C4 : Option Addr) (k0 q0 k1 q1 k2 q2 k3 q3 k4 q4 : Nat) (c : Cd) (self procs : Int) (kk : Nat) (n0 n1 n2 n3 : Nat) (l : List (List Int)) (Z V S O : Option Addr) (zc vc sc oc : Nat) (w : World) (hv : RwAt w 7 (rowC l) V n1) (hn : n1 = l.length) (hl7 : ∀ r ∈ l, r.length = 7) (hl : l.length ≤ 100000) (hcap : n1 ≤ vc) (hk : kk ≤ n1) (hc : CdAt B w c C0 C1 C2 C3 C4 k0 q0 k1 q1 k2 q2 k3 q3 k4 q4) (hB : B ≤ w.heap.size) :
    Calls Tryd.prog 19 #[.agg #[.slice C0 k0 q0, .slice C1 k1 q1, .slice C2 k2 q2, .slice C3 k3 q3, .slice C4 k4 q4], .int .i64 self, .int .i64 procs, .agg #[.slice Z n0 zc, .slice V n1 vc, .slice S n2 sc, .slice O n3 oc], .int .i64 kk] w fun e w' => ∃ v, e = .returned (.tuple #[v, .bool true]) ∧ RdPost (replayP c self procs (l.take kk)) w (.returned v) w' := by
  obtain ⟨nb, hnb⟩ : ∃ x, w.heap.size = x := ⟨_, rfl⟩
  obtain ⟨W, hW⟩ : ∃ x, (((w.alloc (.cells #[.slice C0 k0 q0, .slice C1 k1 q1, .slice C2 k2 q2, .slice C3 k3 q3, .slice C4 k4 q4] 29)).alloc (.cells #[.slice Z n0 zc, .slice V n1 vc, .slice S n2 sc, .slice O n3 oc] 36)).alloc (.cells #[.slice none 0 0, .slice none 0 0, .slice none 0 0, .slice none 0 0] 36)) = x := ⟨_, rfl⟩
  have hz0 : W.heap.size = nb + 1 + 1 + 1 := by rw [← hW, ← hnb]; simp only [new_size]
  have hb4 : Below w.heap.size w W := by rw [← hW]; exact ((((Below.refl _ _).alloc (Nat.le_refl _) _).alloc (by simp only [new_size]; omega) _).alloc (by simp only [new_size]; omega) _)
  have hB0 : W.heap[nb]? = some (.cells #[.slice C0 k0 q0, .slice C1 k1 q1, .slice C2 k2 q2, .slice C3 k3 q3, .slice C4 k4 q4] 29 (0, 0)) := by
    have h := new_blk w (.cells #[.slice C0 k0 q0, .slice C1 k1 q1, .slice C2 k2 q2, .slice C3 k3 q3, .slice C4 k4 q4] 29)
    rw [hnb] at h
    rw [← hW]; rw [alloc_blk _ _ (by simp only [new_size]; omega)]; rw [alloc_blk _ _ (by simp only [new_size]; omega)]; exact h
  have hB1 : W.heap[nb + 1]? = some (.cells #[.slice Z n0 zc, .slice V n1 vc, .slice S n2 sc, .slice O n3 oc] 36 (0, 0)) := by
    have h := new_blk (w.alloc (.cells #[.slice C0 k0 q0, .slice C1 k1 q1, .slice C2 k2 q2, .slice C3 k3 q3, .slice C4 k4 q4] 29)) (.cells #[.slice Z n0 zc, .slice V n1 vc, .slice S n2 sc, .slice O n3 oc] 36)
    simp only [new_size, hnb] at h
    rw [← hW]; rw [alloc_blk _ _ (by simp only [new_size]; omega)]; exact h
  have hB2 : W.heap[nb + 1 + 1]? = some (.cells #[.slice none 0 0, .slice none 0 0, .slice none 0 0, .slice none 0 0] 36 (0, 0)) := by
    have h := new_blk ((w.alloc (.cells #[.slice C0 k0 q0, .slice C1 k1 q1, .slice C2 k2 q2, .slice C3 k3 q3, .slice C4 k4 q4] 29)).alloc (.cells #[.slice Z n0 zc, .slice V n1 vc, .slice S n2 sc, .slice O n3 oc] 36)) (.cells #[.slice none 0 0, .slice none 0 0, .slice none 0 0, .slice none 0 0] 36)
    simp only [new_size, hnb] at h
    rw [← hW]; exact h
  have HB4 := Lib.hid hb4
  have HNB := Lib.hid hnb
  have HZ0 := Lib.hid hz0
  have H0 := Lib.hid hB0
  have H1 := Lib.hid hB1
  have H2 := Lib.hid hB2
  obtain ⟨c0, c1, c2, c3, c4, _⟩ := box5 hB0
  obtain ⟨d0, d1, d2, d3⟩ := box4 hB1
  obtain ⟨e0, e1, e2, e3⟩ := box4 hB2
  have hzz : nb + 1 + 1 < W.heap.size := lt_of_block hB2
  have ef0 := frz hB2 0
  have ef1 := frz hB2 1
  have ef2 := frz hB2 2
  have ef3 := frz hB2 3
  have HRP := Lib.hid (fun (W' : World) (hw : Below w.heap.size w W') => replay_any B self procs C0 C1 C2 C3 C4 k0 q0 k1 q1 k2 q2 k3 q3 k4 q4 c W' (l.take kk) (fun r h => hl7 r (List.mem_of_mem_take h)) (by rw [List.length_take]; omega) V kk vc ((hv.cut hl7 hn kk hk).below (by decide) hw) (by rw [List.length_take]; omega) (hc.at' (fun k h => hw.block k (by omega))) (Nat.le_trans hB hw.size))
  have hkc : (kk : Int) ≤ (vc : Int) := by omega
  have hk0 : (0 : Int) ≤ (kk : Int) := by omega
  have hk1 : ¬ (n1 : Int) < (kk : Int) := by omega
  have hk2 : ¬ (kk : Int) < 0 := by omega
  clear hv hn hl7 hl hcap hk hc hB
  clear hb4 hz0 hB0 hB1 hB2
  go_enter Tryd.func19, Tryd.ntmps19
  go_upto_region 3 with fail
  clear hW
  have HS : Hid (∀ w', Below (nb + 1 + 1) W w' → w'.cell? ⟨nb, 0, none⟩ = some (.slice C0 k0 q0) ∧ w'.cell? ⟨nb, 1, none⟩ = some (.slice C1 k1 q1) ∧ w'.cell? ⟨nb, 2, none⟩ = some (.slice C2 k2 q2) ∧ w'.cell? ⟨nb, 3, none⟩ = some (.slice C3 k3 q3) ∧ w'.cell? ⟨nb, 4, none⟩ = some (.slice C4 k4 q4) ∧ w'.cell? ⟨nb + 1, 1, none⟩ = some (.slice V n1 vc)) := fun w' h => by
    obtain ⟨x0, x1, x2, x3, x4, _⟩ := box5 ((h.block nb (by omega)).trans H0.out)
    obtain ⟨y0, y1, y2, y3⟩ := box4 ((h.block (nb + 1) (by omega)).trans H1.out)
    exact ⟨x0, x1, x2, x3, x4, y1⟩
  clear c0 c1 c2 c3 c4 d0 d1 d2 d3 e0 e1 e2 e3 ef0 ef1 ef2 ef3
  have hD0 : Below W.heap.size W W.drew := below_drew1 W
  have hS0 : Below (nb + 1 + 1) W W.drew := hD0.mono (by have := HZ0.out; omega)
  refine wp_region_held_drew (S := fun w' => Below (nb + 1 + 1) W w') (by kernel_rfl) hS0 (fun _ => ?_)
  clear hD0 hS0
  obtain ⟨wd, hwd⟩ : ∃ x, W.drew = x := ⟨_, rfl⟩
  have hD : Below W.heap.size W wd := by rw [← hwd]; exact below_drew1 W
  have hS : Below (nb + 1 + 1) W wd := hD.mono (by have := HZ0.out; omega)
  rw [hwd]
  clear hwd
  refine' wpAnyH_take (i := 0) (v := _) ?hi1 (by kernel_rfl) (by kernel_rfl) (by kernel_rfl) ?hQ1 (Or.inl ⟨?hw1, ?hy1⟩) hS ?rest1
  case hi1 => (simp only [List.getElem?_toArray, List.getElem?_cons_zero]; rfl)
  case hQ1 => exact fun _ _ _ h => h
  case hw1 => rfl
  case hy1 =>
    rintro w9 hk9
    obtain ⟨b0, b1, b2, b3, b4, b5⟩ := HS.out _ hk9
    go_simp
    with_reducible rfl
  try simp only [Act.put, List.setIfInBounds_toArray, List.set_cons_zero, List.set_cons_succ]
  refine' wpAnyH_take (i := 1) (v := _) ?hi2 (by kernel_rfl) (by kernel_rfl) (by kernel_rfl) ?hQ2 (Or.inl ⟨?hw2, ?hy2⟩) hS ?rest2
  case hi2 => (simp only [List.getElem?_toArray, List.getElem?_cons_succ, List.getElem?_cons_zero]; rfl)
  case hQ2 => exact fun _ _ _ h => h
  case hw2 => rfl
  case hy2 =>
    rintro w9 -
    go_simp
    with_reducible rfl
  try simp only [Act.put, List.setIfInBounds_toArray, List.set_cons_zero, List.set_cons_succ]
  refine' wpAnyH_take (i := 2) (v := _) ?hi3 (by kernel_rfl) (by kernel_rfl) (by kernel_rfl) ?hQ3 (Or.inl ⟨?hw3, ?hy3⟩) hS ?rest3
  case hi3 => (simp only [List.getElem?_toArray, List.getElem?_cons_succ, List.getElem?_cons_zero]; rfl)
  case hQ3 => exact fun _ _ _ h => h
  case hw3 => rfl
  case hy3 =>
    rintro w9 -
    go_simp
    with_reducible rfl
  try simp only [Act.put, List.setIfInBounds_toArray, List.set_cons_zero, List.set_cons_succ]
  refine' wpAnyH_take (i := 3) (v := _) ?hi4 (by kernel_rfl) (by kernel_rfl) (by kernel_rfl) ?hQ4 (Or.inl ⟨?hw4, ?hy4⟩) hS ?rest4
  case hi4 => (simp only [List.getElem?_toArray, List.getElem?_cons_succ, List.getElem?_cons_zero]; rfl)
  case hQ4 => exact fun _ _ _ h => h
  case hw4 => rfl
  case hy4 =>
    rintro w9 -
    go_simp
    with_reducible rfl
  try simp only [Act.put, List.setIfInBounds_toArray, List.set_cons_zero, List.set_cons_succ]
  refine' wpAnyH_take (i := 4) (v := _) ?hi5 (by kernel_rfl) (by kernel_rfl) (by kernel_rfl) ?hQ5 (Or.inl ⟨?hw5, ?hy5⟩) hS ?rest5
  case hi5 => (simp only [List.getElem?_toArray, List.getElem?_cons_succ, List.getElem?_cons_zero]; rfl)
  case hQ5 => exact fun _ _ _ h => h
  case hw5 => rfl
  case hy5 =>
    rintro w9 hk9
    obtain ⟨b0, b1, b2, b3, b4, b5⟩ := HS.out _ hk9
    go_simp
    with_reducible rfl
  try simp only [Act.put, List.setIfInBounds_toArray, List.set_cons_zero, List.set_cons_succ]
  refine' wpAnyH_take (i := 5) (v := _) ?hi6 (by kernel_rfl) (by kernel_rfl) (by kernel_rfl) ?hQ6 (Or.inl ⟨?hw6, ?hy6⟩) hS ?rest6
  case hi6 => (simp only [List.getElem?_toArray, List.getElem?_cons_succ, List.getElem?_cons_zero]; rfl)
  case hQ6 => exact fun _ _ _ h => h
  case hw6 => rfl
  case hy6 =>
    rintro w9 -
    go_simp
    with_reducible rfl
  try simp only [Act.put, List.setIfInBounds_toArray, List.set_cons_zero, List.set_cons_succ]
  refine' wpAnyH_take (i := 6) (v := _) ?hi7 (by kernel_rfl) (by kernel_rfl) (by kernel_rfl) ?hQ7 (Or.inl ⟨?hw7, ?hy7⟩) hS ?rest7
  case hi7 => (simp only [List.getElem?_toArray, List.getElem?_cons_succ, List.getElem?_cons_zero]; rfl)
  case hQ7 => exact fun _ _ _ h => h
  case hw7 => rfl
  case hy7 =>
    rintro w9 -
    go_simp
    with_reducible rfl
  try simp only [Act.put, List.setIfInBounds_toArray, List.set_cons_zero, List.set_cons_succ]
  refine wpAnyH_ready (rs := [7]) (by kernel_rfl) (by simp) ?_
  refine' (AllReadyH.cons ?hi8 (fun K hK => ?op8) AllReadyH.nil)
  case hi8 => (simp only [List.getElem?_toArray, List.getElem?_cons_succ, List.getElem?_cons_zero]; rfl)
  go_simp
  go_at_call 17
  refine (HRP.out wd (HB4.out.trans (hD.mono HB4.out.size))).mono ?_
  rintro e9 w7 hrep
  obtain ⟨Z1, V1, S1, O1, zc1, vc1, sc1, oc1, rfl, hrd, hb7, hx7⟩ := rd_of_rep hrep
  have hD7 : Below W.heap.size W w7 := hD.trans (hb7.mono hD.size)
  have hS9 : Below (nb + 1 + 1) W w7 := hD7.mono (by have := HZ0.out; omega)
  obtain ⟨s1, hs1⟩ : ∃ x, replayP c self procs (l.take kk) = x := ⟨_, rfl⟩
  rw [hs1] at hrd
  simp only [hs1]
  have HRD := Lib.hid hrd
  have HS1 := Lib.hid hs1
  have HX7 : Hid (∀ b o, Z1 = some ⟨b, o, none⟩ ∨ V1 = some ⟨b, o, none⟩ ∨ S1 = some ⟨b, o, none⟩ ∨ O1 = some ⟨b, o, none⟩ → W.heap.size ≤ b ∧ b < w7.heap.size) := fun b o h => ⟨Nat.le_trans hD.size (hx7 b o h).1, (hx7 b o h).2⟩
  clear hrep hrd hb7 hx7 HRP hs1
  refine hK.out _ _ hS9 (fun _ => ?_)
  clear hK K hS
  have hS := hS9
  clear hS9
  try simp only [Act.put, List.setIfInBounds_toArray, List.set_cons_zero, List.set_cons_succ]
  have hb2 := below_blk hD7 H2.out
  obtain ⟨e0, e1, e2, e3⟩ := box4 hb2
  have ef0 := frz hb2 0
  have ef1 := frz hb2 1
  have ef2 := frz hb2 2
  have ef3 := frz hb2 3
  have hzq := lt_of_block hb2
  clear hb2
  refine wpAnyH_ready (rs := [8]) (by kernel_rfl) (by simp) ?_
  refine' (AllReadyH.cons ?hi9 (fun K hK => ?op9) AllReadyH.nil)
  case hi9 => (simp only [List.getElem?_toArray, List.getElem?_cons_succ, List.getElem?_cons_zero]; rfl)
  go_simp
  have hS9 : Below (nb + 1 + 1) W (set4 w7 (nb + 1 + 1) (.slice Z1 s1.cells.length zc1) (.slice V1 s1.evs.length vc1) (.slice S1 s1.sent.length sc1) (.slice O1 s1.outs.length oc1)) := hS.trans (set4_below w7 (Nat.le_refl _) _ _ _ _)
  have HD7 := Lib.hid hD7
  refine hK.out _ _ hS9 (fun _ => ?_)
  clear hK K hS e0 e1 e2 e3 ef0 ef1 ef2 ef3 hD7 hD
  have hS := hS9
  clear hS9
  try simp only [Act.put, List.setIfInBounds_toArray, List.set_cons_zero, List.set_cons_succ]
  refine wpAnyH_ready (rs := [9]) (by kernel_rfl) (by simp) ?_
  refine' (AllReadyH.cons ?hi10 (fun K hK => ?op10) AllReadyH.nil)
  case hi10 => (simp only [List.getElem?_toArray, List.getElem?_cons_succ, List.getElem?_cons_zero]; rfl)
  go_simp
  refine hK.out _ _ hS (fun _ => ?_)
  clear hK K
  try simp only [Act.put, List.setIfInBounds_toArray, List.set_cons_zero, List.set_cons_succ]
  refine wpAnyH_done (by kernel_rfl) ?_ _
  have hb2 := below_blk HD7.out H2.out
  obtain ⟨e0, e1, e2, e3⟩ := box4 hb2
  have HQ : Hid (RdPost s1 w (.returned (.agg #[.slice Z1 s1.cells.length zc1, .slice V1 s1.evs.length vc1, .slice S1 s1.sent.length sc1, .slice O1 s1.outs.length oc1])) (set4 w7 (nb + 1 + 1) (.slice Z1 s1.cells.length zc1) (.slice V1 s1.evs.length vc1) (.slice S1 s1.sent.length sc1) (.slice O1 s1.outs.length oc1))) := by
    refine ⟨Z1, V1, S1, O1, zc1, vc1, sc1, oc1, rfl, (sbox_early HRD.out hb2 fun b o h => by have := (HX7.out b o h).1; have := HZ0.out; omega).2, ?_, fun b o h => ?_⟩
    · exact (HB4.out.trans (HD7.out.mono HB4.out.size)).trans (set4_below w7 (by rw [HNB.out]; omega) _ _ _ _)
    · have h1 := HX7.out b o h
      have h2 := HB4.out.size
      exact ⟨by omega, by rw [set4_size]; omega⟩
  have hz9 := lt_of_block hb2
  clear HS hS HD7 hb2 HX7 HRD
  go_wp2_with fail
  refine bodyPost_ret (v := .tuple #[.agg #[.slice Z1 s1.cells.length zc1, .slice V1 s1.evs.length vc1, .slice S1 s1.sent.length sc1, .slice O1 s1.outs.length oc1], .bool true]) ?_ rfl ?_
  · simp [results, Tryd.results19, go_sem, World.cell?_setCell_same, World.cell?_setCell_other, e0, e1, e2, e3]
  · exact ⟨_, rfl, by rw [HS1.out]; exact HQ.out⟩
  done

end Go.Proofs.YtgblgkkbggdopaaDoor
