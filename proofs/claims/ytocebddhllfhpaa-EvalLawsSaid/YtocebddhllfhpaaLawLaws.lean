/-
  The walk of the law EvalLaws. Condition: its arguments are 64-bit ints.
-/
import Derived.Test.YtocebddhllfhpaaEvLa
namespace Go.Proofs.Ytocebddhllfhpaa
open Go.RowKit

set_option maxHeartbeats 400000 in
theorem not_any (n : Int) (w : World) : Calls Try.prog 10 #[.int .i64 n] w fun e w' => e = .returned (.int .i64 (apS 9 n 0)) ∧ Below w.heap.size w w' := by
  obtain ⟨R, hR⟩ : ∃ R, apS 9 n 0 = R := ⟨_, rfl⟩
  have HA := Lib.hid (apply_any 9 n 0 w)
  rw [hR] at HA ⊢
  clear hR
  go_enter Try.func10, Try.ntmps10
  go_wp2_with fail
  refine HA.out.mono ?_
  rintro e w1 ⟨rfl, hb⟩
  have HB := Lib.hid hb
  clear hb
  go_wp2_with fail
  go_ret
  exact ⟨rfl, HB.out⟩

theorem cm_cells {w : World} {n : Nat} {T : TypeId} {fr : Nat × Nat} (h : w.heap[n]? = some (.cells #[.int .i64 10, .int .i64 12, .int .i64 19, .int .i64 20, .int .i64 21, .int .i64 22] T fr)) : ∀ k, k < 6 → w.cell? ⟨n, k, none⟩ = some (.int .i64 (cmL k)) := fun k hk => by
  rw [Lib.cell_of_heap h]
  match k, hk with
  | 0, _ => rfl
  | 1, _ => rfl
  | 2, _ => rfl
  | 3, _ => rfl
  | 4, _ => rfl
  | 5, _ => rfl
theorem op_cells {w : World} {n : Nat} {T : TypeId} {fr : Nat × Nat} (h : w.heap[n]? = some (.cells #[.int .i64 15, .int .i64 18, .int .i64 16, .int .i64 17, .int .i64 19, .int .i64 20] T fr)) : ∀ k, k < 3 → w.cell? ⟨n, k * 2, none⟩ = some (.int .i64 (opL0 k)) ∧ w.cell? ⟨n, k * 2 + 1, none⟩ = some (.int .i64 (opL1 k)) := fun k hk => by
  rw [Lib.cell_of_heap h, Lib.cell_of_heap h]
  match k, hk with
  | 0, _ => exact ⟨rfl, rfl⟩
  | 1, _ => exact ⟨rfl, rfl⟩
  | 2, _ => exact ⟨rfl, rfl⟩

set_option maxHeartbeats 4000000 in
set_option maxRecDepth 100000 in
theorem evalLaws_any (a b : Int) (ha : -9223372036854775808 ≤ a ∧ a ≤ 9223372036854775807) (w : World) : Calls Try.prog 4 #[.int .i64 a, .int .i64 b] w fun e w' => e = .returned (.bool true) ∧ Below w.heap.size w w' := by
  have HCM : Hid (∀ k, k < 6 → ∃ R, (∀ w, Calls Try.prog 8 #[.int .i64 (cmL k), .int .i64 a, .int .i64 b] w fun e w' => e = .returned (.int .i64 R) ∧ Below w.heap.size w w') ∧ (∀ w, Calls Try.prog 8 #[.int .i64 (cmL k), .int .i64 b, .int .i64 a] w fun e w' => e = .returned (.int .i64 R) ∧ Below w.heap.size w w')) := fun k hk =>
    ⟨_, apply_any (cmL k) a b, by rw [ap_comm a b k hk]; exact apply_any (cmL k) b a⟩
  have HOP : Hid (∀ k, k < 3 → ∃ x y, (∀ w, Calls Try.prog 8 #[.int .i64 (opL0 k), .int .i64 a, .int .i64 b] w fun e w' => e = .returned (.int .i64 x) ∧ Below w.heap.size w w') ∧ (∀ w, Calls Try.prog 8 #[.int .i64 (opL1 k), .int .i64 a, .int .i64 b] w fun e w' => e = .returned (.int .i64 y) ∧ Below w.heap.size w w') ∧ x + y = 1 ∧ 0 ≤ x ∧ 0 ≤ y) := fun k hk => by
    obtain ⟨x, y, hx, hy, h1, h2, h3⟩ := ap_opp a b k hk
    exact ⟨x, y, hx ▸ apply_any (opL0 k) a b, hy ▸ apply_any (opL1 k) a b, h1, h2, h3⟩
  have HAA := Lib.hid ha
  clear ha
  go_enter Try.func4, Try.ntmps4
  go_wp2_with fail
  refine (awake4_any _).mono ?_
  rintro e w1 ⟨rfl, hb⟩
  have HB1 := Lib.hid hb
  clear hb
  go_wp2_with fail
  have HX1 := Lib.hid (new_blk w1 (.cells #[.int .i64 10, .int .i64 12, .int .i64 19, .int .i64 20, .int .i64 21, .int .i64 22] 3))
  have HB2 := Lib.hid (HB1.out.alloc HB1.out.size (.cells #[.int .i64 10, .int .i64 12, .int .i64 19, .int .i64 20, .int .i64 21, .int .i64 22] 3))
  have hz1 : w1.heap.size < (w1.alloc (.cells #[.int .i64 10, .int .i64 12, .int .i64 19, .int .i64 20, .int .i64 21, .int .i64 22] 3)).heap.size := by rw [new_size]; omega
  obtain ⟨W2, hW2⟩ : ∃ W2, w1.alloc (.cells #[.int .i64 10, .int .i64 12, .int .i64 19, .int .i64 20, .int .i64 21, .int .i64 22] 3) = W2 := ⟨_, rfl⟩
  rw [hW2] at HX1 HB2 hz1
  simp only [hW2]
  clear hW2
  go_loopg [6, 17] 6 (fun g _ i wx => ∃ k : Nat, k + g = 6 ∧ i = .int .i64 k ∧ Hid (Below W2.heap.size W2 wx))
  case atStart => exact ⟨0, rfl, rfl, Below.refl _ _⟩
  case round =>
    obtain ⟨k, hkg, rfl, HB⟩ := hrel
    cases gk with
    | succ g =>
      have hlt : k < 6 := by omega
      obtain ⟨R, h1, h2⟩ := HCM.out k hlt
      have H1 := Lib.hid h1
      have H2 := Lib.hid h2
      have c := cm_cells (below_blk HB.out HX1.out) k hlt
      have HG := Lib.hid hkg
      clear hkg h1 h2
      go_wp2_with fail
      refine (H1.out _).mono ?_
      rintro e w3 ⟨rfl, hb⟩
      have HB3 := Lib.hid (HB.out.trans (hb.mono HB.out.size))
      clear hb c
      go_wp2_with fail
      refine (H2.out _).mono ?_
      rintro e w4 ⟨rfl, hb⟩
      have HB4 := Lib.hid (HB3.out.trans (hb.mono HB3.out.size))
      clear hb
      go_wp2_with fail
      go_roundg g
      case rel => exact ⟨k + 1, by have := HG.out; omega, by go_num, HB4.out⟩
      case measure => omega
    | zero =>
      obtain rfl : k = 6 := by omega
      clear hkg
      go_wp2_with fail
      have HB2b := Lib.hid (HB2.out.trans (HB.out.mono HB2.out.size))
      have HX2 := Lib.hid (new_blk wr (.cells #[.int .i64 15, .int .i64 18, .int .i64 16, .int .i64 17, .int .i64 19, .int .i64 20] 27))
      have HB3 := Lib.hid (HB2b.out.alloc HB2b.out.size (.cells #[.int .i64 15, .int .i64 18, .int .i64 16, .int .i64 17, .int .i64 19, .int .i64 20] 27))
      have hz2 : wr.heap.size < (wr.alloc (.cells #[.int .i64 15, .int .i64 18, .int .i64 16, .int .i64 17, .int .i64 19, .int .i64 20] 27)).heap.size := by rw [new_size]; omega
      obtain ⟨W3, hW3⟩ : ∃ W3, wr.alloc (.cells #[.int .i64 15, .int .i64 18, .int .i64 16, .int .i64 17, .int .i64 19, .int .i64 20] 27) = W3 := ⟨_, rfl⟩
      rw [hW3] at HX2 HB3 hz2
      simp only [hW3]
      clear hW3 HB HB2 HB2b HX1 hz1
      obtain ⟨n2, hn2⟩ : ∃ x, wr.heap.size = x := ⟨_, rfl⟩
      rw [hn2] at HX2 hz2
      simp only [hn2]
      clear hn2
      go_loopg [9, 37] 3 (fun g _ i wx => ∃ k : Nat, k + g = 3 ∧ i = .int .i64 k ∧ Hid (Below W3.heap.size W3 wx))
      case atStart => exact ⟨0, rfl, rfl, Below.refl _ _⟩
      case round =>
        obtain ⟨k, hkg, rfl, HB⟩ := hrel
        cases gk with
        | succ g =>
          have hlt : k < 3 := by omega
          obtain ⟨x, y, h1, h2, h3, h4, h5⟩ := HOP.out k hlt
          obtain ⟨c0, c1⟩ := op_cells (below_blk HB.out HX2.out) k hlt
          have HG := Lib.hid hkg
          obtain ⟨o0, ho0⟩ : ∃ o, opL0 k = o := ⟨_, rfl⟩
          obtain ⟨o1, ho1⟩ : ∃ o, opL1 k = o := ⟨_, rfl⟩
          rw [ho0] at h1 c0
          rw [ho1] at h2 c1
          clear hkg ho0 ho1
          go_upto_region 13 with fail
          have hb4 : Below wr.heap.size wr (wr.alloc (.cells #[.int .i64 o0, .int .i64 o1] 27)) := (Below.refl _ _).alloc (Nat.le_refl _) _
          have hx4 := new_blk wr (.cells #[.int .i64 o0, .int .i64 o1] 27)
          obtain ⟨W4, hW4⟩ : ∃ W4, wr.alloc (.cells #[.int .i64 o0, .int .i64 o1] 27) = W4 := ⟨_, rfl⟩
          rw [hW4] at hb4 hx4
          simp only [hW4]
          have hs0 : Below wr.heap.size wr W4.drew ∧ W4.drew.cell? ⟨wr.heap.size, 0, none⟩ = some (.int .i64 o0) ∧ W4.drew.cell? ⟨wr.heap.size, 1, none⟩ = some (.int .i64 o1) := ⟨hb4.drew, by show W4.cell? _ = _; rw [Lib.cell_of_heap hx4]; rfl, by show W4.cell? _ = _; rw [Lib.cell_of_heap hx4]; rfl⟩
          have H1 : Hid (∀ wc, (Below wr.heap.size wr wc ∧ wc.cell? ⟨wr.heap.size, 0, none⟩ = some (.int .i64 o0) ∧ wc.cell? ⟨wr.heap.size, 1, none⟩ = some (.int .i64 o1)) → Calls Try.prog 8 #[.int .i64 o0, .int .i64 a, .int .i64 b] wc fun e' w' => e' = .returned (.int .i64 x) ∧ (Below wr.heap.size wr w' ∧ w'.cell? ⟨wr.heap.size, 0, none⟩ = some (.int .i64 o0) ∧ w'.cell? ⟨wr.heap.size, 1, none⟩ = some (.int .i64 o1))) := fun wc hs => by
            refine (h1 wc).mono ?_
            rintro e' w' ⟨he, hb⟩
            exact ⟨he, hs.1.trans (hb.mono hs.1.size), (hb.cell (p := ⟨wr.heap.size, 0, none⟩) (World.block_lt_of_cell? wc _ hs.2.1)).trans hs.2.1, (hb.cell (p := ⟨wr.heap.size, 1, none⟩) (World.block_lt_of_cell? wc _ hs.2.2)).trans hs.2.2⟩
          have H2 : Hid (∀ wc, (Below wr.heap.size wr wc ∧ wc.cell? ⟨wr.heap.size, 0, none⟩ = some (.int .i64 o0) ∧ wc.cell? ⟨wr.heap.size, 1, none⟩ = some (.int .i64 o1)) → Calls Try.prog 8 #[.int .i64 o1, .int .i64 a, .int .i64 b] wc fun e' w' => e' = .returned (.int .i64 y) ∧ (Below wr.heap.size wr w' ∧ w'.cell? ⟨wr.heap.size, 0, none⟩ = some (.int .i64 o0) ∧ w'.cell? ⟨wr.heap.size, 1, none⟩ = some (.int .i64 o1))) := fun wc hs => by
            refine (h2 wc).mono ?_
            rintro e' w' ⟨he, hb⟩
            exact ⟨he, hs.1.trans (hb.mono hs.1.size), (hb.cell (p := ⟨wr.heap.size, 0, none⟩) (World.block_lt_of_cell? wc _ hs.2.1)).trans hs.2.1, (hb.cell (p := ⟨wr.heap.size, 1, none⟩) (World.block_lt_of_cell? wc _ hs.2.2)).trans hs.2.2⟩
          have hxy : (x + y : Int) = 1 := h3
          have hwxy : IntKind.i64.wrap (x + y) = 1 := by rw [h3]; rfl
          clear hW4 hb4 hx4 c0 c1 h1 h2
          go_region_held3 (fun w' => Below wr.heap.size wr w' ∧ w'.cell? ⟨wr.heap.size, 0, none⟩ = some (.int .i64 o0) ∧ w'.cell? ⟨wr.heap.size, 1, none⟩ = some (.int .i64 o1)) (assumption) (first | (go_at_call 8; ((with_reducible refine (H1.out _ ?_).mono ?_)); assumption; rintro e' w6 ⟨rfl, hs6⟩) | (go_at_call 8; ((with_reducible refine (H2.out _ ?_).mono ?_)); assumption; rintro e' w7 ⟨rfl, hs7⟩))
          have HB7 := Lib.hid (HB.out.trans (hs7.1.mono HB.out.size))
          clear hs0 hs6 hs7
          go_wp2_with fail
          go_roundg g
          case rel => exact ⟨k + 1, by have := HG.out; omega, by go_num, HB7.out⟩
          case measure => omega
        | zero =>
          obtain rfl : k = 3 := by omega
          clear hkg
          go_wp2_with fail
          have HBk := Lib.hid (HB3.out.trans (HB.out.mono HB3.out.size))
          clear HB HX2 HB3 hz2
          obtain ⟨R1, hR1⟩ : ∃ x, apS 10 a b = x := ⟨_, rfl⟩
          obtain ⟨X2, hX2⟩ : ∃ x, apS 21 a b = x := ⟨_, rfl⟩
          obtain ⟨N1, hN1⟩ : ∃ x, apS 9 a 0 = x := ⟨_, rfl⟩
          obtain ⟨N2, hN2⟩ : ∃ x, apS 9 b 0 = x := ⟨_, rfl⟩
          obtain ⟨Y, hY⟩ : ∃ x, apS 9 X2 0 = x := ⟨_, rfl⟩
          obtain ⟨X3, hX3⟩ : ∃ x, apS 8 a b = x := ⟨_, rfl⟩
          obtain ⟨Z, hZ⟩ : ∃ x, apS 15 a b = x := ⟨_, rfl⟩
          have T1 := Lib.hid (apply_any 10 a b)
          have T2 := Lib.hid (apply_any 11 R1 b)
          have T3 := Lib.hid (apply_any 21 a b)
          have T4 := Lib.hid (not_any X2)
          have T5 := Lib.hid (not_any a)
          have T6 := Lib.hid (not_any b)
          have T7 := Lib.hid (apply_any 22 N1 N2)
          have T8 := Lib.hid (apply_any 8 a b)
          have T9 := Lib.hid (apply_any 8 X3 a)
          have T10 := Lib.hid (apply_any 15 a b)
          have T11 := Lib.hid (apply_any 17 b a)
          rw [hR1] at T1
          rw [show apS 11 R1 b = a by rw [← hR1]; exact ap_sub a b HAA.out] at T2
          rw [hX2] at T3
          rw [hY] at T4
          rw [hN1] at T5
          rw [hN2] at T6
          rw [show apS 22 N1 N2 = Y by rw [← hY, ← hN1, ← hN2, ← hX2]; exact ap_not a b] at T7
          rw [hX3] at T8
          rw [show apS 8 X3 a = a by rw [← hX3]; exact ap_neg a b HAA.out] at T9
          rw [hZ] at T10
          rw [show apS 17 b a = Z by rw [← hZ]; exact (ap_less a b).symm] at T11
          clear hR1 hX2 hN1 hN2 hY hX3 hZ
          obtain ⟨q, hq⟩ : ∃ q, apS 13 a b = q := ⟨_, rfl⟩
          obtain ⟨r, hr⟩ : ∃ q, apS 14 a b = q := ⟨_, rfl⟩
          have A13 := Lib.hid (apply_any 13 a b)
          have A14 := Lib.hid (apply_any 14 a b)
          rw [hq] at A13
          rw [hr] at A14
          have HQ := Lib.hid (ap_div a b HAA.out)
          rw [hq, hr] at HQ
          have HQ0 : Hid (b = 0 → q = 0 ∧ r = 0) := fun h => by subst h; rw [← hq, ← hr]; exact ap_div0 a
          clear hq hr
          refine (A13.out _).mono ?_
          rintro e w3 ⟨rfl, hb⟩
          have HB4 := Lib.hid (HBk.out.trans (hb.mono HBk.out.size))
          clear hb HBk
          go_wp2_with fail
          refine (A14.out _).mono ?_
          rintro e w4 ⟨rfl, hb⟩
          have HB5 := Lib.hid (HB4.out.trans (hb.mono HB4.out.size))
          clear hb HB4
          by_cases hb0 : b = 0
          · obtain ⟨rfl, rfl⟩ := HQ0.out hb0
            subst hb0
            go_wp2_with fail
            refine (T1.out _).mono ?_
            rintro e v1 ⟨rfl, hb⟩
            have HC1 := Lib.hid (HB5.out.trans (hb.mono HB5.out.size))
            clear hb HB5
            go_wp2_with fail
            refine (T2.out _).mono ?_
            rintro e v2 ⟨rfl, hb⟩
            have HC2 := Lib.hid (HC1.out.trans (hb.mono HC1.out.size))
            clear hb HC1
            go_wp2_with fail
            refine (T3.out _).mono ?_
            rintro e v3 ⟨rfl, hb⟩
            have HC3 := Lib.hid (HC2.out.trans (hb.mono HC2.out.size))
            clear hb HC2
            go_wp2_with fail
            refine (T4.out _).mono ?_
            rintro e v4 ⟨rfl, hb⟩
            have HC4 := Lib.hid (HC3.out.trans (hb.mono HC3.out.size))
            clear hb HC3
            go_wp2_with fail
            refine (T5.out _).mono ?_
            rintro e v5 ⟨rfl, hb⟩
            have HC5 := Lib.hid (HC4.out.trans (hb.mono HC4.out.size))
            clear hb HC4
            go_wp2_with fail
            refine (T6.out _).mono ?_
            rintro e v6 ⟨rfl, hb⟩
            have HC6 := Lib.hid (HC5.out.trans (hb.mono HC5.out.size))
            clear hb HC5
            go_wp2_with fail
            refine (T7.out _).mono ?_
            rintro e v7 ⟨rfl, hb⟩
            have HC7 := Lib.hid (HC6.out.trans (hb.mono HC6.out.size))
            clear hb HC6
            go_wp2_with fail
            refine (T8.out _).mono ?_
            rintro e v8 ⟨rfl, hb⟩
            have HC8 := Lib.hid (HC7.out.trans (hb.mono HC7.out.size))
            clear hb HC7
            go_wp2_with fail
            refine (T9.out _).mono ?_
            rintro e v9 ⟨rfl, hb⟩
            have HC9 := Lib.hid (HC8.out.trans (hb.mono HC8.out.size))
            clear hb HC8
            go_wp2_with fail
            refine (T10.out _).mono ?_
            rintro e v10 ⟨rfl, hb⟩
            have HC10 := Lib.hid (HC9.out.trans (hb.mono HC9.out.size))
            clear hb HC9
            go_wp2_with fail
            refine (T11.out _).mono ?_
            rintro e v11 ⟨rfl, hb⟩
            have HC11 := Lib.hid (HC10.out.trans (hb.mono HC10.out.size))
            clear hb HC10
            go_wp2_with fail
            go_ret
            exact ⟨rfl, HC11.out⟩
          · have hb0' : (b != 0) = true := by simpa using hb0
            have hb0'' : (b == 0) = false := by simpa using hb0
            have hqr : (wrap64 (wrap64 (q * b) + r) != a) = false := by have := HQ.out hb0; simpa using this
            go_wp2_with fail
            refine (T1.out _).mono ?_
            rintro e v1 ⟨rfl, hb⟩
            have HC1 := Lib.hid (HB5.out.trans (hb.mono HB5.out.size))
            clear hb HB5
            go_wp2_with fail
            refine (T2.out _).mono ?_
            rintro e v2 ⟨rfl, hb⟩
            have HC2 := Lib.hid (HC1.out.trans (hb.mono HC1.out.size))
            clear hb HC1
            go_wp2_with fail
            refine (T3.out _).mono ?_
            rintro e v3 ⟨rfl, hb⟩
            have HC3 := Lib.hid (HC2.out.trans (hb.mono HC2.out.size))
            clear hb HC2
            go_wp2_with fail
            refine (T4.out _).mono ?_
            rintro e v4 ⟨rfl, hb⟩
            have HC4 := Lib.hid (HC3.out.trans (hb.mono HC3.out.size))
            clear hb HC3
            go_wp2_with fail
            refine (T5.out _).mono ?_
            rintro e v5 ⟨rfl, hb⟩
            have HC5 := Lib.hid (HC4.out.trans (hb.mono HC4.out.size))
            clear hb HC4
            go_wp2_with fail
            refine (T6.out _).mono ?_
            rintro e v6 ⟨rfl, hb⟩
            have HC6 := Lib.hid (HC5.out.trans (hb.mono HC5.out.size))
            clear hb HC5
            go_wp2_with fail
            refine (T7.out _).mono ?_
            rintro e v7 ⟨rfl, hb⟩
            have HC7 := Lib.hid (HC6.out.trans (hb.mono HC6.out.size))
            clear hb HC6
            go_wp2_with fail
            refine (T8.out _).mono ?_
            rintro e v8 ⟨rfl, hb⟩
            have HC8 := Lib.hid (HC7.out.trans (hb.mono HC7.out.size))
            clear hb HC7
            go_wp2_with fail
            refine (T9.out _).mono ?_
            rintro e v9 ⟨rfl, hb⟩
            have HC9 := Lib.hid (HC8.out.trans (hb.mono HC8.out.size))
            clear hb HC8
            go_wp2_with fail
            refine (T10.out _).mono ?_
            rintro e v10 ⟨rfl, hb⟩
            have HC10 := Lib.hid (HC9.out.trans (hb.mono HC9.out.size))
            clear hb HC9
            go_wp2_with fail
            refine (T11.out _).mono ?_
            rintro e v11 ⟨rfl, hb⟩
            have HC11 := Lib.hid (HC10.out.trans (hb.mono HC10.out.size))
            clear hb HC10
            go_wp2_with fail
            go_ret
            exact ⟨rfl, HC11.out⟩
end Go.Proofs.Ytocebddhllfhpaa
