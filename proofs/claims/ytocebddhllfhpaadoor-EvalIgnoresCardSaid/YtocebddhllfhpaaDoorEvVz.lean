/-
  What Value of package eval returns. Condition: the list of cells has at most 2^63 - 1 cells.
-/
import Derived.Test.YtocebddhllfhpaaDoorEvVl
namespace Go.Proofs.YtocebddhllfhpaaDoor
open Go.RowKit

/-- The cells of the two blocks that Value lays. -/
def VaS (w : World) (op value : Int) (s : ByteArray) (slot size : Int) (A : Option Addr) (m q : Nat) (self procs src va : Int) (wc : World) : Prop := Below w.heap.size w wc ∧ wc.cell? ⟨w.heap.size, 0, none⟩ = some (.int .i64 op) ∧ wc.cell? ⟨w.heap.size, 1, none⟩ = some (.int .i64 value) ∧ wc.cell? ⟨w.heap.size, 2, none⟩ = some (.string s) ∧ wc.cell? ⟨w.heap.size, 3, none⟩ = some (.int .i64 slot) ∧ wc.cell? ⟨w.heap.size, 4, none⟩ = some (.int .i64 size) ∧ wc.cell? ⟨w.heap.size, 5, none⟩ = some (.slice A m q) ∧ wc.cell? ⟨w.heap.size + 1, 0, none⟩ = some (.int .i64 self) ∧ wc.cell? ⟨w.heap.size + 1, 1, none⟩ = some (.int .i64 procs) ∧ wc.cell? ⟨w.heap.size + 1, 2, none⟩ = some (.int .i64 src) ∧ wc.cell? ⟨w.heap.size + 1, 3, none⟩ = some (.int .i64 va)

theorem vas_two {w wc : World} {op value : Int} {s : ByteArray} {slot size : Int} {A : Option Addr} {m q : Nat} {v : En} (h : Two w wc w.heap.size [.int .i64 op, .int .i64 value, .string s, .int .i64 slot, .int .i64 size, .slice A m q] v) : VaS w op value s slot size A m q v.self v.procs v.src v.value wc := by
  obtain ⟨x0, x1, x2, x3, x4, x5, _⟩ := box6 (show wc.heap[w.heap.size]? = some (.cells #[.int .i64 op, .int .i64 value, .string s, .int .i64 slot, .int .i64 size, .slice A m q] 31 (0, 0)) from h.x)
  obtain ⟨y0, y1, y2, y3⟩ := box4 h.y
  exact ⟨h.b, x0, x1, x2, x3, x4, x5, y0, y1, y2, y3⟩
theorem vas_drew {w wc : World} {op value : Int} {s : ByteArray} {slot size : Int} {A : Option Addr} {m q : Nat} {self procs src va : Int} (h : VaS w op value s slot size A m q self procs src va wc) : VaS w op value s slot size A m q self procs src va wc.drew := by
  obtain ⟨b, r0, r1, r2, r3, r4, r5, r6, r7, r8, r9⟩ := h
  exact ⟨b.drew, r0, r1, r2, r3, r4, r5, r6, r7, r8, r9⟩
theorem vas_below {w wc w' : World} {op value : Int} {s : ByteArray} {slot size : Int} {A : Option Addr} {m q : Nat} {self procs src va : Int} (h : VaS w op value s slot size A m q self procs src va wc) (hb : Below wc.heap.size wc w') : VaS w op value s slot size A m q self procs src va w' := by
  obtain ⟨b, r0, r1, r2, r3, r4, r5, r6, r7, r8, r9⟩ := h
  have hl : ∀ (p : Addr) u, wc.cell? p = some u → w'.cell? p = some u := fun p u hu => (hb.cell (p := p) (World.block_lt_of_cell? wc _ hu)).trans hu
  exact ⟨b.trans (hb.mono b.size), hl _ _ r0, hl _ _ r1, hl _ _ r2, hl _ _ r3, hl _ _ r4, hl _ _ r5, hl _ _ r6, hl _ _ r7, hl _ _ r8, hl _ _ r9⟩

set_option maxHeartbeats 8000000 in
set_option maxRecDepth 100000 in
theorem value_step (zs : List Int) (v : En) (n : Nat) (ih : VlC zs v n) : VlC zs v (n + 1) := by
  intro e he S w a b s c d A l q Z zn zc hl hz
  have hop := fun i w' h1 h2 => operand_of zs v n ih e he i S w' a b s c d A l q Z zn zc h1 h2
  cases e with
  | mk op value name slot size args =>
  have hl0 := hl
  simp only [Ex.args] at hop
  simp only [ExL] at hl
  obtain ⟨A', c', e1, hc, hr⟩ := hl
  simp only [exCells, List.cons.injEq, Value.slice.injEq, and_true] at e1
  obtain ⟨e1, e2, e3, e4, e5, rfl, rfl, rfl⟩ := e1
  injection e1 with _ e1
  injection e2 with _ e2
  injection e3 with e3
  injection e4 with _ e4
  injection e5 with _ e5
  subst e1 e2 e3 e4 e5
  simp only [valS]
  obtain ⟨m, hm⟩ : ∃ x, args.length = x := ⟨_, rfl⟩
  rw [hm] at hl0 hop ⊢
  obtain ⟨V0, hV0⟩ : ∃ x, argS zs v args 0 = x := ⟨_, rfl⟩
  obtain ⟨V1, hV1⟩ : ∃ x, argS zs v args 1 = x := ⟨_, rfl⟩
  have hT := two_new w [.int .i64 a, .int .i64 b, .string (strB name), .int .i64 c, .int .i64 d, .slice A m q] v
  obtain ⟨self, procs, src, va⟩ := v
  have h1 := vas_two hT
  simp only at h1
  obtain ⟨W, hW⟩ : ∃ W, (w.alloc (.cells [Value.int .i64 a, .int .i64 b, .string (strB name), .int .i64 c, .int .i64 d, .slice A m q].toArray 31)).alloc (.cells #[.int .i64 self, .int .i64 procs, .int .i64 src, .int .i64 va] 25) = W := ⟨_, rfl⟩
  simp only [hW] at h1 hT
  have HO : Hid (∀ (i : Nat) wc, VaS w a b (strB name) c d A m q self procs src va wc → Calls Tryd.prog 21 #[.agg #[.int .i64 a, .int .i64 b, .string (strB name), .int .i64 c, .int .i64 d, .slice A m q], .int .i64 i, .slice Z zn zc, .agg #[.int .i64 self, .int .i64 procs, .int .i64 src, .int .i64 va]] wc fun e' w' => e' = .returned (.int .i64 (argS zs ⟨self, procs, src, va⟩ args i)) ∧ VaS w a b (strB name) c d A m q self procs src va w') := fun i wc h => by
    refine (hop i wc (ExL.still (fun k hk1 hk2 => ⟨hk1, h.1.block k hk2⟩) _ _ hl0) (hz.below h.1)).mono ?_
    rintro e' w' ⟨he, hb⟩
    exact ⟨he, vas_below h hb⟩
  have HE : Hid (∀ wc, VaS w a b (strB name) c d A m q self procs src va wc → Calls Tryd.prog 20 #[.agg #[.int .i64 a, .int .i64 b, .string (strB name), .int .i64 c, .int .i64 d, .slice A m q], .int .i64 V0, .slice Z zn zc] wc fun e' w' => e' = .returned (.int .i64 (elmS zs c d V0)) ∧ VaS w a b (strB name) c d A m q self procs src va w') := fun wc h => by
    refine (element_any zs Z zn zc a b (strB name) c d (.slice A m q) V0 wc (hz.below h.1)).mono ?_
    rintro e' w' ⟨he, hb⟩
    exact ⟨he, vas_below h hb⟩
  have HC : Hid (∀ wc, VaS w a b (strB name) c d A m q self procs src va wc → Calls Tryd.prog 19 #[.slice Z zn zc, .int .i64 c] wc fun e' w' => e' = .returned (.int .i64 (celS zs c)) ∧ w' = wc) := fun wc h => cell_any zs Z zn zc c wc (hz.below h.1)
  have HA : Hid (∀ wc, VaS w a b (strB name) c d A m q self procs src va wc → Calls Tryd.prog 17 #[.int .i64 a, .int .i64 V0, .int .i64 V1] wc fun e' w' => e' = .returned (.int .i64 (apS a V0 V1)) ∧ VaS w a b (strB name) c d A m q self procs src va w') := fun wc h => by
    refine (apply_any a V0 V1 wc).mono ?_
    rintro e' w' ⟨he, hb⟩
    exact ⟨he, vas_below h hb⟩
  have HO0 : Hid (∀ wc, VaS w a b (strB name) c d A m q self procs src va wc → Calls Tryd.prog 21 #[.agg #[.int .i64 a, .int .i64 b, .string (strB name), .int .i64 c, .int .i64 d, .slice A m q], .int .i64 0, .slice Z zn zc, .agg #[.int .i64 self, .int .i64 procs, .int .i64 src, .int .i64 va]] wc fun e' w' => e' = .returned (.int .i64 V0) ∧ VaS w a b (strB name) c d A m q self procs src va w') := by
    have := HO.out 0
    rw [hV0] at this
    exact this
  have HO1 : Hid (∀ wc, VaS w a b (strB name) c d A m q self procs src va wc → Calls Tryd.prog 21 #[.agg #[.int .i64 a, .int .i64 b, .string (strB name), .int .i64 c, .int .i64 d, .slice A m q], .int .i64 1, .slice Z zn zc, .agg #[.int .i64 self, .int .i64 procs, .int .i64 src, .int .i64 va]] wc fun e' w' => e' = .returned (.int .i64 V1) ∧ VaS w a b (strB name) c d A m q self procs src va w') := by
    have := HO.out 1
    rw [hV1] at this
    exact this
  rw [hV0, hV1]
  clear HO hop hl0 hr hz hV0 hV1 hm hc ih he hT
  have HS := Lib.hid h1
  unfold VaS at HO0 HO1 HE HC HA
  obtain ⟨b0, r0, r1, r2, r3, r4, r5, r6, r7, r8, r9⟩ := h1
  have HB := Lib.hid b0
  clear b0
  by_cases h1 : a = 1
  · subst h1
    simp only [if_true]
    go_enter Tryd.func10, Tryd.ntmps10
    go_wp2_with fail
    go_ret
    exact ⟨rfl, HB.out⟩
  rw [if_neg h1]
  by_cases h2 : a = 2
  · subst h2
    rw [if_pos rfl]
    obtain ⟨R, hR⟩ : ∃ R, celS zs c = R := ⟨_, rfl⟩
    rw [hR] at HC ⊢
    clear hR h1
    go_enter Tryd.func10, Tryd.ntmps10
    go_wp2_with fail
    refine (HC.out _ HS.out).mono ?_
    rintro e' w2 ⟨rfl, rfl⟩
    go_wp2_with fail
    go_ret
    exact ⟨rfl, HB.out⟩
  rw [if_neg h2]
  by_cases h3 : a = 3
  · subst h3
    rw [if_pos rfl]
    obtain ⟨R, hR⟩ : ∃ R, elmS zs c d V0 = R := ⟨_, rfl⟩
    rw [hR] at HE ⊢
    clear hR h1 h2
    go_enter Tryd.func10, Tryd.ntmps10
    go_upto_region 7 with fail
    clear hW
    have hs0 := vas_drew HS.out
    unfold VaS at hs0
    clear r0 r1 r2 r3 r4 r5 r6 r7 r8 r9
    go_region_held3 (fun w' => Below w.heap.size w w' ∧ w'.cell? ⟨w.heap.size, 0, none⟩ = some (.int .i64 3) ∧ w'.cell? ⟨w.heap.size, 1, none⟩ = some (.int .i64 b) ∧ w'.cell? ⟨w.heap.size, 2, none⟩ = some (.string (strB name)) ∧ w'.cell? ⟨w.heap.size, 3, none⟩ = some (.int .i64 c) ∧ w'.cell? ⟨w.heap.size, 4, none⟩ = some (.int .i64 d) ∧ w'.cell? ⟨w.heap.size, 5, none⟩ = some (.slice A m q) ∧ w'.cell? ⟨w.heap.size + 1, 0, none⟩ = some (.int .i64 self) ∧ w'.cell? ⟨w.heap.size + 1, 1, none⟩ = some (.int .i64 procs) ∧ w'.cell? ⟨w.heap.size + 1, 2, none⟩ = some (.int .i64 src) ∧ w'.cell? ⟨w.heap.size + 1, 3, none⟩ = some (.int .i64 va)) (assumption) (first | (go_at_call 21; ((with_reducible refine (HO0.out _ ?_).mono ?_)); assumption; rintro e' w6 ⟨rfl, hs6⟩) | (go_at_call 20; ((with_reducible refine (HE.out _ ?_).mono ?_)); assumption; rintro e' w7 ⟨rfl, hs7⟩))
    have HB7 := Lib.hid hs7.1
    clear hs0 hs6 hs7
    go_wp2_with fail
    go_ret
    exact ⟨rfl, HB7.out⟩
  rw [if_neg h3]
  by_cases h4 : a = 4
  · subst h4
    simp only [if_true]
    go_enter Tryd.func10, Tryd.ntmps10
    go_wp2_with fail
    go_ret
    exact ⟨rfl, HB.out⟩
  rw [if_neg h4]
  by_cases h5 : a = 5
  · subst h5
    simp only [if_true]
    go_enter Tryd.func10, Tryd.ntmps10
    go_wp2_with fail
    go_ret
    exact ⟨rfl, HB.out⟩
  rw [if_neg h5]
  by_cases h6 : a = 6
  · subst h6
    simp only [if_true]
    go_enter Tryd.func10, Tryd.ntmps10
    go_wp2_with fail
    go_ret
    exact ⟨rfl, HB.out⟩
  rw [if_neg h6]
  by_cases h7 : a = 7
  · subst h7
    simp only [if_true]
    go_enter Tryd.func10, Tryd.ntmps10
    go_wp2_with fail
    go_ret
    exact ⟨rfl, HB.out⟩
  rw [if_neg h7]
  obtain ⟨R, hR⟩ : ∃ R, apS a V0 V1 = R := ⟨_, rfl⟩
  rw [hR] at HA ⊢
  clear hR
  have q1 : (a == 1) = false := beq_eq_false_iff_ne.2 h1
  have q2 : (a == 2) = false := beq_eq_false_iff_ne.2 h2
  have q3 : (a == 3) = false := beq_eq_false_iff_ne.2 h3
  have q4 : (a == 4) = false := beq_eq_false_iff_ne.2 h4
  have q5 : (a == 5) = false := beq_eq_false_iff_ne.2 h5
  have q6 : (a == 6) = false := beq_eq_false_iff_ne.2 h6
  have q7 : (a == 7) = false := beq_eq_false_iff_ne.2 h7
  clear h1 h2 h3 h4 h5 h6 h7
  go_enter Tryd.func10, Tryd.ntmps10
  go_upto_region 16 with fail
  clear hW
  have hs0 := vas_drew HS.out
  unfold VaS at hs0
  clear r0 r1 r2 r3 r4 r5 r6 r7 r8 r9
  go_region_held3 (fun w' => Below w.heap.size w w' ∧ w'.cell? ⟨w.heap.size, 0, none⟩ = some (.int .i64 a) ∧ w'.cell? ⟨w.heap.size, 1, none⟩ = some (.int .i64 b) ∧ w'.cell? ⟨w.heap.size, 2, none⟩ = some (.string (strB name)) ∧ w'.cell? ⟨w.heap.size, 3, none⟩ = some (.int .i64 c) ∧ w'.cell? ⟨w.heap.size, 4, none⟩ = some (.int .i64 d) ∧ w'.cell? ⟨w.heap.size, 5, none⟩ = some (.slice A m q) ∧ w'.cell? ⟨w.heap.size + 1, 0, none⟩ = some (.int .i64 self) ∧ w'.cell? ⟨w.heap.size + 1, 1, none⟩ = some (.int .i64 procs) ∧ w'.cell? ⟨w.heap.size + 1, 2, none⟩ = some (.int .i64 src) ∧ w'.cell? ⟨w.heap.size + 1, 3, none⟩ = some (.int .i64 va)) (assumption) (first | (go_at_call 21; ((with_reducible refine (HO0.out _ ?_).mono ?_)); assumption; rintro e' w6 ⟨rfl, hs6⟩) | (go_at_call 21; ((with_reducible refine (HO1.out _ ?_).mono ?_)); assumption; rintro e' w7 ⟨rfl, hs7⟩) | (go_at_call 17; ((with_reducible refine (HA.out _ ?_).mono ?_)); assumption; rintro e' w8 ⟨rfl, hs8⟩))
  have HB8 := Lib.hid hs8.1
  clear hs0 hs6 hs7 hs8
  go_wp2_with fail
  go_ret
  exact ⟨rfl, HB8.out⟩

theorem value_all (zs : List Int) (v : En) : ∀ n, VlC zs v n
  | 0 => fun e h => by cases e; simp [Ex.big] at h
  | n + 1 => value_step zs v n (value_all zs v n)
/-- Value, at every expression. -/
theorem value_any (zs : List Int) (v : En) (e : Ex) (S : Nat → Prop) (w : World) (a b : Int) (s : ByteArray) (c d : Int) (A : Option Addr) (l q : Nat) (Z : Option Addr) (zn zc : Nat) (hl : ExL S w e [.int .i64 a, .int .i64 b, .string s, .int .i64 c, .int .i64 d, .slice A l q]) (hz : ZsAt w zs Z zn) :
    Calls Tryd.prog 10 #[.agg #[.int .i64 a, .int .i64 b, .string s, .int .i64 c, .int .i64 d, .slice A l q], .slice Z zn zc, enV v] w fun e' w' => e' = .returned (.int .i64 (valS zs v e)) ∧ Below w.heap.size w w' :=
  value_all zs v e.big e (Nat.le_refl _) S w a b s c d A l q Z zn zc hl hz
end Go.Proofs.YtocebddhllfhpaaDoor
