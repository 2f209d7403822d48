/-
  SameExpr of the document's answer returns true for two readings of one expression. Condition: the expression has at most 100000 parts.
-/
import Derived.Test.YtgkioompcmgmdaaDoorWalkDb
namespace Go.Proofs.YtgkioompcmgmdaaDoor
open Go.RowKit

set_option maxHeartbeats 2000000 in
set_option maxRecDepth 100000 in
theorem sameExpr_all : ∀ (n : Nat) (e : Ex), e.big ≤ n → n ≤ 100000 → ∀ (S : Nat → Prop) (w : World) (a b : Int) (s : ByteArray) (c d : Int) (A : Option Addr) (l q : Nat) (a' b' : Int) (s' : ByteArray) (c' d' : Int) (A' : Option Addr) (l' q' : Nat),
    ExL S w e [.int .i64 a, .int .i64 b, .string s, .int .i64 c, .int .i64 d, .slice A l q] → ExL S w e [.int .i64 a', .int .i64 b', .string s', .int .i64 c', .int .i64 d', .slice A' l' q'] →
    Calls Tryd.prog 28 #[.agg #[.int .i64 a, .int .i64 b, .string s, .int .i64 c, .int .i64 d, .slice A l q], .agg #[.int .i64 a', .int .i64 b', .string s', .int .i64 c', .int .i64 d', .slice A' l' q']] w fun e' w' => e' = .returned (.bool true) ∧ Below w.heap.size w w'
  | 0, .mk _ _ _ _ _ _, h, _ => by simp only [Ex.big] at h; omega
  | n + 1, .mk op value name slot size args, h, hn => by
    intro S w a b s c d A l q a' b' s' c' d' A' l' q' hl hl'
    have ih := sameExpr_all n
    simp only [Ex.big] at h
    have hlq : args.length ≤ 100000 := by have := Ex.len_big args; omega
    simp only [ExL] at hl hl'
    obtain ⟨B, qc, e1, hc, hr⟩ := hl
    obtain ⟨B', qc', e2, hc', hr'⟩ := hl'
    simp only [exCells, List.cons.injEq, Value.int.injEq, Value.string.injEq, Value.slice.injEq, true_and, and_true] at e1 e2
    obtain ⟨rfl, rfl, rfl, rfl, rfl, rfl, rfl, rfl⟩ := e1
    obtain ⟨rfl, rfl, rfl, rfl, rfl, rfl, rfl, rfl⟩ := e2
    have IH := Lib.hid ih
    have HR := Lib.hid hr
    have HR' := Lib.hid hr'
    have HD := Lib.hid h
    obtain ⟨m, hm⟩ : ∃ x, args.length = x := ⟨_, rfl⟩
    obtain ⟨nm, hnm⟩ : ∃ x, strB name = x := ⟨_, rfl⟩
    have HM := Lib.hid hm
    rw [hm] at hlq ⊢
    rw [hnm]
    clear ih hr hr' hm h hc hc' hnm
    go_enter Tryd.func28, Tryd.ntmps28
    go_wp2_with fail
    go_loopg [5] m (fun g i wr => ∃ k : Nat, k + g = m ∧ i = .int .i64 k ∧ Below w.heap.size w wr ∧ w.heap.size + 2 ≤ wr.heap.size ∧ wr.cell? ⟨w.heap.size, 5, none⟩ = some (.slice A m q) ∧ wr.cell? ⟨w.heap.size + 1, 5, none⟩ = some (.slice A' m q'))
    case atStart => exact ⟨0, by omega, rfl, ((Below.refl _ _).alloc (Nat.le_refl _) _).alloc (by simp) _, by simp, by simp [go_sem], by simp [go_sem]⟩
    case round =>
      obtain ⟨k, hkg, rfl, hb, hsz, z0, z1⟩ := hrel
      have HB := Lib.hid hb
      clear hb
      cases gk with
      | zero =>
        have hge : m ≤ k := by omega
        clear hkg
        go_wp2_with fail
        go_ret
        exact ⟨rfl, HB.out⟩
      | succ g =>
        have hlt : k < m := by omega
        have HG := Lib.hid hkg
        clear hkg
        obtain ⟨e1, he1⟩ : ∃ e1, args[k]? = some e1 := ⟨_, List.getElem?_eq_getElem (by have := HM.out; omega)⟩
        have hbg := Ex.big_at args k e1 he1
        have hdd := HD.out
        have hne : args ≠ [] := fun e => by have := HM.out; rw [e] at this; simp at this; omega
        obtain ⟨bb, o, rfl, hS, hrow⟩ := HR.out hne
        obtain ⟨cs, hcs, hex⟩ := ExRow.get args bb o k e1 hrow he1
        obtain ⟨a1, b1, s1, c1, d1, A1, l1, q1, rfl⟩ := hex.plain
        obtain ⟨bb', o', rfl, hS', hrow'⟩ := HR'.out hne
        obtain ⟨cs', hcs', hex'⟩ := ExRow.get args bb' o' k e1 hrow' he1
        obtain ⟨a2, b2, s2, c2, d2, A2, l2, q2, rfl⟩ := hex'.plain
        have hbb : bb < w.heap.size := hcs.lt
        have hbb' : bb' < w.heap.size := hcs'.lt
        have hw : ∀ i j u, i < w.heap.size → w.cell? ⟨i, j, none⟩ = some u → wr.cell? ⟨i, j, none⟩ = some u := fun i j u hi hu => (HB.out.cell (p := ⟨i, j, none⟩) hi).trans hu
        have y0 := hw _ _ _ hbb (hcs 0 _ rfl)
        have y1 := hw _ _ _ hbb (hcs 1 _ rfl)
        have y2 := hw _ _ _ hbb (hcs 2 _ rfl)
        have y3 := hw _ _ _ hbb (hcs 3 _ rfl)
        have y4 := hw _ _ _ hbb (hcs 4 _ rfl)
        have y5 := hw _ _ _ hbb (hcs 5 _ rfl)
        rw [Nat.add_zero] at y0
        have x0 := hw _ _ _ hbb' (hcs' 0 _ rfl)
        have x1 := hw _ _ _ hbb' (hcs' 1 _ rfl)
        have x2 := hw _ _ _ hbb' (hcs' 2 _ rfl)
        have x3 := hw _ _ _ hbb' (hcs' 3 _ rfl)
        have x4 := hw _ _ _ hbb' (hcs' 4 _ rfl)
        have x5 := hw _ _ _ hbb' (hcs' 5 _ rfl)
        rw [Nat.add_zero] at x0
        have HST : Hid (Still S S w wr) := fun k hk1 hk2 => ⟨hk1, HB.out.block k hk2⟩
        have hS0 : Below wr.heap.size wr wr.drew ∧ wr.drew.cell? ⟨w.heap.size, 5, none⟩ = some (.slice (some ⟨bb, o, none⟩) m q) ∧ wr.drew.cell? ⟨w.heap.size + 1, 5, none⟩ = some (.slice (some ⟨bb', o', none⟩) m q') ∧ wr.drew.cell? ⟨bb, o + k * 6, none⟩ = some (.int .i64 a1) ∧ wr.drew.cell? ⟨bb, o + k * 6 + 1, none⟩ = some (.int .i64 b1) ∧ wr.drew.cell? ⟨bb, o + k * 6 + 2, none⟩ = some (.string s1) ∧ wr.drew.cell? ⟨bb, o + k * 6 + 3, none⟩ = some (.int .i64 c1) ∧ wr.drew.cell? ⟨bb, o + k * 6 + 4, none⟩ = some (.int .i64 d1) ∧ wr.drew.cell? ⟨bb, o + k * 6 + 5, none⟩ = some (.slice A1 l1 q1) ∧ wr.drew.cell? ⟨bb', o' + k * 6, none⟩ = some (.int .i64 a2) ∧ wr.drew.cell? ⟨bb', o' + k * 6 + 1, none⟩ = some (.int .i64 b2) ∧ wr.drew.cell? ⟨bb', o' + k * 6 + 2, none⟩ = some (.string s2) ∧ wr.drew.cell? ⟨bb', o' + k * 6 + 3, none⟩ = some (.int .i64 c2) ∧ wr.drew.cell? ⟨bb', o' + k * 6 + 4, none⟩ = some (.int .i64 d2) ∧ wr.drew.cell? ⟨bb', o' + k * 6 + 5, none⟩ = some (.slice A2 l2 q2) := ⟨(Below.refl _ _).drew, z0, z1, y0, y1, y2, y3, y4, y5, x0, x1, x2, x3, x4, x5⟩
        have HC : Hid (∀ wc, (Below wr.heap.size wr wc ∧ wc.cell? ⟨w.heap.size, 5, none⟩ = some (.slice (some ⟨bb, o, none⟩) m q) ∧ wc.cell? ⟨w.heap.size + 1, 5, none⟩ = some (.slice (some ⟨bb', o', none⟩) m q') ∧ wc.cell? ⟨bb, o + k * 6, none⟩ = some (.int .i64 a1) ∧ wc.cell? ⟨bb, o + k * 6 + 1, none⟩ = some (.int .i64 b1) ∧ wc.cell? ⟨bb, o + k * 6 + 2, none⟩ = some (.string s1) ∧ wc.cell? ⟨bb, o + k * 6 + 3, none⟩ = some (.int .i64 c1) ∧ wc.cell? ⟨bb, o + k * 6 + 4, none⟩ = some (.int .i64 d1) ∧ wc.cell? ⟨bb, o + k * 6 + 5, none⟩ = some (.slice A1 l1 q1) ∧ wc.cell? ⟨bb', o' + k * 6, none⟩ = some (.int .i64 a2) ∧ wc.cell? ⟨bb', o' + k * 6 + 1, none⟩ = some (.int .i64 b2) ∧ wc.cell? ⟨bb', o' + k * 6 + 2, none⟩ = some (.string s2) ∧ wc.cell? ⟨bb', o' + k * 6 + 3, none⟩ = some (.int .i64 c2) ∧ wc.cell? ⟨bb', o' + k * 6 + 4, none⟩ = some (.int .i64 d2) ∧ wc.cell? ⟨bb', o' + k * 6 + 5, none⟩ = some (.slice A2 l2 q2)) → Calls Tryd.prog 28 #[.agg #[.int .i64 a1, .int .i64 b1, .string s1, .int .i64 c1, .int .i64 d1, .slice A1 l1 q1], .agg #[.int .i64 a2, .int .i64 b2, .string s2, .int .i64 c2, .int .i64 d2, .slice A2 l2 q2]] wc fun e' w' => e' = .returned (.bool true) ∧ (Below wr.heap.size wr w' ∧ w'.cell? ⟨w.heap.size, 5, none⟩ = some (.slice (some ⟨bb, o, none⟩) m q) ∧ w'.cell? ⟨w.heap.size + 1, 5, none⟩ = some (.slice (some ⟨bb', o', none⟩) m q') ∧ w'.cell? ⟨bb, o + k * 6, none⟩ = some (.int .i64 a1) ∧ w'.cell? ⟨bb, o + k * 6 + 1, none⟩ = some (.int .i64 b1) ∧ w'.cell? ⟨bb, o + k * 6 + 2, none⟩ = some (.string s1) ∧ w'.cell? ⟨bb, o + k * 6 + 3, none⟩ = some (.int .i64 c1) ∧ w'.cell? ⟨bb, o + k * 6 + 4, none⟩ = some (.int .i64 d1) ∧ w'.cell? ⟨bb, o + k * 6 + 5, none⟩ = some (.slice A1 l1 q1) ∧ w'.cell? ⟨bb', o' + k * 6, none⟩ = some (.int .i64 a2) ∧ w'.cell? ⟨bb', o' + k * 6 + 1, none⟩ = some (.int .i64 b2) ∧ w'.cell? ⟨bb', o' + k * 6 + 2, none⟩ = some (.string s2) ∧ w'.cell? ⟨bb', o' + k * 6 + 3, none⟩ = some (.int .i64 c2) ∧ w'.cell? ⟨bb', o' + k * 6 + 4, none⟩ = some (.int .i64 d2) ∧ w'.cell? ⟨bb', o' + k * 6 + 5, none⟩ = some (.slice A2 l2 q2))) := by
          intro wc hs
          obtain ⟨b0, r0, r1, r2, r3, r4, r5, r6, r7, r8, r9, r10, r11, r12, r13⟩ := hs
          have hst : Still S S w wc := fun j hSj hlt => ⟨hSj, (b0.block j (Nat.lt_of_lt_of_le hlt HB.out.size)).trans (HB.out.block j hlt)⟩
          refine (IH.out e1 (by omega) (by omega) S wc _ _ _ _ _ _ _ _ _ _ _ _ _ _ _ _ (ExL.still hst e1 _ hex) (ExL.still hst e1 _ hex')).mono ?_
          rintro e' w' ⟨h1, hb⟩
          have hl : ∀ (p : Addr) u, wc.cell? p = some u → w'.cell? p = some u := fun p u hu => (hb.cell (p := p) (World.block_lt_of_cell? wc _ hu)).trans hu
          exact ⟨h1, b0.trans (hb.mono b0.size), hl _ _ r0, hl _ _ r1, hl _ _ r2, hl _ _ r3, hl _ _ r4, hl _ _ r5, hl _ _ r6, hl _ _ r7, hl _ _ r8, hl _ _ r9, hl _ _ r10, hl _ _ r11, hl _ _ r12, hl _ _ r13⟩
        clear hw hcs hrow he1 hcs' hrow' hex hex' hne
        go_wp2_with fail
        clear z0 z1 y0 y1 y2 y3 y4 y5 x0 x1 x2 x3 x4 x5
        go_region_held3 (fun w' => Below wr.heap.size wr w' ∧ w'.cell? ⟨w.heap.size, 5, none⟩ = some (.slice (some ⟨bb, o, none⟩) m q) ∧ w'.cell? ⟨w.heap.size + 1, 5, none⟩ = some (.slice (some ⟨bb', o', none⟩) m q') ∧ w'.cell? ⟨bb, o + k * 6, none⟩ = some (.int .i64 a1) ∧ w'.cell? ⟨bb, o + k * 6 + 1, none⟩ = some (.int .i64 b1) ∧ w'.cell? ⟨bb, o + k * 6 + 2, none⟩ = some (.string s1) ∧ w'.cell? ⟨bb, o + k * 6 + 3, none⟩ = some (.int .i64 c1) ∧ w'.cell? ⟨bb, o + k * 6 + 4, none⟩ = some (.int .i64 d1) ∧ w'.cell? ⟨bb, o + k * 6 + 5, none⟩ = some (.slice A1 l1 q1) ∧ w'.cell? ⟨bb', o' + k * 6, none⟩ = some (.int .i64 a2) ∧ w'.cell? ⟨bb', o' + k * 6 + 1, none⟩ = some (.int .i64 b2) ∧ w'.cell? ⟨bb', o' + k * 6 + 2, none⟩ = some (.string s2) ∧ w'.cell? ⟨bb', o' + k * 6 + 3, none⟩ = some (.int .i64 c2) ∧ w'.cell? ⟨bb', o' + k * 6 + 4, none⟩ = some (.int .i64 d2) ∧ w'.cell? ⟨bb', o' + k * 6 + 5, none⟩ = some (.slice A2 l2 q2)) (assumption) (first | (go_at_call 28; ((with_reducible refine (HC.out _ ?_).mono ?_)); assumption; rintro e' w6 ⟨rfl, hs6⟩))
        obtain ⟨b0, v0, v1, _⟩ := hs6
        have HB2 := Lib.hid (HB.out.trans (b0.mono HB.out.size))
        have hsz2 : w.heap.size + 2 ≤ w6.heap.size := Nat.le_trans hsz b0.size
        clear b0 hS0
        go_wp2_with fail
        go_roundg g
        case rel => exact ⟨k + 1, by have := HG.out; omega, by go_num, HB2.out, hsz2, v0, v1⟩
        case measure => omega
end Go.Proofs.YtgkioompcmgmdaaDoor
