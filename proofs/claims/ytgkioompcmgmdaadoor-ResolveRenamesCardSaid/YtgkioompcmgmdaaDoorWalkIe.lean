/-
  What isExpr of package syntax returns for an expression that is as parsing makes it: true. Conditions: the table of symbols holds what start-up laid; names have at most 4096 bytes; an expression has at most 100000 parts.
-/
import Derived.Test.YtgkioompcmgmdaaDoorWalkSo
namespace Go.Proofs.YtgkioompcmgmdaaDoor
open Go.RowKit

theorem goodL_at : ∀ (l : List Ex) (k : Nat) (e : Ex), Ex.goodL l = true → l[k]? = some e → e.good = true
  | [], _, _, _, h => by simp at h
  | x :: r, 0, e, hs, h => by
    simp only [List.getElem?_cons_zero, Option.some.injEq] at h
    subst h
    simp only [Ex.goodL, Bool.and_eq_true] at hs
    exact hs.1
  | x :: r, k + 1, e, hs, h => by
    simp only [List.getElem?_cons_succ] at h
    simp only [Ex.goodL, Bool.and_eq_true] at hs
    exact goodL_at r k e hs.2 h

set_option maxHeartbeats 2000000 in
set_option maxRecDepth 100000 in
theorem isExpr_good : ∀ (n : Nat) (e : Ex), e.big ≤ n → n ≤ 100000 → e.short → e.good = true → ∀ (S : Nat → Prop) (w : World) (a b : Int) (s : ByteArray) (c d : Int) (A : Option Addr) (l q : Nat), SymAt w → ExL S w e [.int .i64 a, .int .i64 b, .string s, .int .i64 c, .int .i64 d, .slice A l q] →
    Calls Tryd.prog 60 #[.agg #[.int .i64 a, .int .i64 b, .string s, .int .i64 c, .int .i64 d, .slice A l q]] w fun e' w' => e' = .returned (.bool true) ∧ Below w.heap.size w w'
  | 0, .mk _ _ _ _ _ _, h, _, _, _ => by simp only [Ex.big] at h; omega
  | n + 1, .mk op value name slot size args, h, hn, hsh, hgd => by
    intro S w a b s c d A l q hsy hl
    have ih := isExpr_good n
    simp only [Ex.big] at h
    simp only [Ex.short] at hsh
    simp only [Ex.good, Bool.and_eq_true, decide_eq_true_eq] at hgd
    have hlq : args.length ≤ 100000 := by have := Ex.len_big args; omega
    simp only [ExL] at hl
    obtain ⟨A', c', e1, hc, hr⟩ := hl
    simp only [exCells, List.cons.injEq, Value.slice.injEq, and_true] at e1
    obtain ⟨e1, e2, e3, e4, e5, rfl, rfl, rfl⟩ := e1
    injection e1 with _ e1
    injection e2 with _ e2
    injection e3 with e3
    injection e4 with _ e4
    injection e5 with _ e5
    subst e1 e2 e3 e4 e5
    obtain ⟨⟨⟨⟨⟨rfl, rfl⟩, hnm⟩, hval⟩, hop⟩, hga⟩ := hgd
    have IH := Lib.hid ih
    have HR := Lib.hid hr
    have HD := Lib.hid h
    have HSH := Lib.hid hsh.2
    have HGA := Lib.hid hga
    obtain ⟨m, hm⟩ : ∃ x, args.length = x := ⟨_, rfl⟩
    have HM := Lib.hid hm
    rw [hm] at hop hlq ⊢
    have HOP := Lib.hid (fun w h => operands_any a w h)
    rw [hop] at HOP
    simp only [opV] at HOP
    have hm64 : (m : Int) ≤ 100000 := by omega
    have hvb : 0 ≤ b ∧ (a = 1 ∨ b = 0) := by
      simp only [Bool.not_eq_true', Bool.or_eq_false_iff, Bool.and_eq_false_iff, decide_eq_false_iff_not] at hval
      omega
    have HSYA : Hid (SymAt (w.alloc (.cells #[.int .i64 a, .int .i64 b, .string (strB name), .int .i64 0, .int .i64 0, .slice A m q] 55))) := hsy.below ((Below.refl _ _).alloc (Nat.le_refl _) _)
    have HNM := Lib.hid (fun b w => isNamed_any name b w hsh.1)
    obtain ⟨nb, hnb⟩ : ∃ x, (decide (a = 2) || decide (a = 3)) = x := ⟨_, rfl⟩
    rw [hnb] at hnm
    have HNB : Hid (∀ w, Calls Tryd.prog 58 #[.string (strB name), .bool nb] w fun e w' => e = .returned (.bool true) ∧ w' = w) := fun w => hnm ▸ HNM.out nb w
    have h23 : (a = 2 ∧ nb = true ∧ b = 0) ∨ (a = 3 ∧ nb = true ∧ b = 0) ∨ (a = 1 ∧ nb = false ∧ b = 0) ∨ (a = 1 ∧ nb = false ∧ 0 < b) ∨ ((a == 1) = false ∧ (a == 2) = false ∧ (a == 3) = false ∧ nb = false ∧ b = 0) := by
      by_cases h2 : a = 2
      · left; subst h2; exact ⟨rfl, by simpa using hnb.symm, by omega⟩
      · by_cases h3 : a = 3
        · right; left; subst h3; exact ⟨rfl, by simpa using hnb.symm, by omega⟩
        · by_cases h1 : a = 1
          · have hnf : nb = false := by simpa [h2, h3] using hnb.symm
            by_cases hbz : b = 0
            · right; right; left; exact ⟨h1, hnf, hbz⟩
            · right; right; right; left; exact ⟨h1, hnf, by omega⟩
          · right; right; right; right; exact ⟨by simp [h1], by simp [h2], by simp [h3], by simpa [h2, h3] using hnb.symm, by omega⟩
    have hb0 := hvb.1
    clear ih hr h hsh hga hm hop hval hsy hnm hnb HNM hvb hc
    rcases h23 with ⟨rfl, rfl, rfl⟩ | ⟨rfl, rfl, rfl⟩ | ⟨rfl, rfl, rfl⟩ | ⟨rfl, rfl, hbp⟩ | ⟨ha1, ha2, ha3, rfl, rfl⟩
    all_goals
      go_enter Tryd.func60, Tryd.ntmps60
      go_wp2_with fail
      refine (HNB.out _).mono ?_
      rintro e w1 ⟨rfl, rfl⟩
      go_wp2_with fail
      refine (HOP.out _ HSYA.out).mono ?_
      rintro e w1 ⟨rfl, hb⟩
      have HB1 : Hid (Below w.heap.size w w1) := ((Below.refl _ _).alloc (Nat.le_refl _) _).trans (hb.mono (by rw [new_size]; omega))
      have HSY1 := Lib.hid (HSYA.out.below hb)
      have hx1 := below_blk hb (new_blk w _)
      have z5 : w1.cell? ⟨w.heap.size, 5, none⟩ = some (.slice A m q) := by rw [Lib.cell_of_heap hx1]; rfl
      clear hb hx1
      go_wp2_with fail
      clear z5
      go_loopg [62] m (fun g i wr => ∃ k : Nat, k + g = m ∧ i = .int .i64 k ∧ Hid (SymAt wr) ∧ Hid (Below w.heap.size w wr))
      case atStart => exact ⟨0, by omega, rfl, HSY1.out, HB1.out⟩
      case round =>
        obtain ⟨k, hkg, rfl, HSYr, HB⟩ := hrel
        cases gk with
        | zero =>
          have hge : m ≤ k := by omega
          clear hkg
          go_wp2_with fail
          go_ret
          exact ⟨rfl, HB.out⟩
        | succ g =>
          have hlt : k < m := by omega
          have HG := Lib.hid hkg
          clear hkg
          obtain ⟨e1, he1⟩ : ∃ e1, args[k]? = some e1 := ⟨_, List.getElem?_eq_getElem (by have := HM.out; omega)⟩
          have hg1 := goodL_at args k e1 HGA.out he1
          have hbg := Ex.big_at args k e1 he1
          have hsh1 := Ex.shortL_at args k e1 HSH.out he1
          obtain ⟨bb, o, rfl, hS, hrow⟩ := HR.out (fun e => by have := HM.out; rw [e] at this; simp at this; omega)
          obtain ⟨cs, hcs, hex⟩ := ExRow.get args bb o k e1 hrow he1
          obtain ⟨a1, b1, s1, c1, d1, A1, l1, q1, rfl⟩ := hex.plain
          have hbb : bb < w.heap.size := hcs.lt
          have hw : ∀ j u, w.cell? ⟨bb, j, none⟩ = some u → wr.cell? ⟨bb, j, none⟩ = some u := fun j u hu => (HB.out.cell (p := ⟨bb, j, none⟩) hbb).trans hu
          have y0 := hw _ _ (hcs 0 _ rfl)
          have y1 := hw _ _ (hcs 1 _ rfl)
          have y2 := hw _ _ (hcs 2 _ rfl)
          have y3 := hw _ _ (hcs 3 _ rfl)
          have y4 := hw _ _ (hcs 4 _ rfl)
          have y5 := hw _ _ (hcs 5 _ rfl)
          rw [Nat.add_zero] at y0
          have hd0 := HD.out
          have HEX := Lib.hid (fun (W : World) (h : Below w.heap.size w W) (hs : SymAt W) => IH.out e1 (by omega) (by omega) hsh1 hg1 S W a1 b1 s1 c1 d1 A1 l1 q1 hs (ExL.still (fun k hk1 hk2 => ⟨hk1, h.block k hk2⟩) e1 _ hex))
          clear hw hcs hrow he1 hex hbg hsh1 hd0 hg1
          go_wp2_with fail
          refine (HEX.out _ (HB.out.alloc HB.out.size _) (HSYr.out.below ((Below.refl _ _).alloc (Nat.le_refl _) _))).mono ?_
          rintro e' w2 ⟨rfl, hb⟩
          have HB2 := Lib.hid ((HB.out.alloc HB.out.size (.cells #[.int .i64 a1, .int .i64 b1, .string s1, .int .i64 c1, .int .i64 d1, .slice A1 l1 q1] 55)).trans (hb.mono (by rw [new_size]; have := HB.out.size; omega)))
          have HSY2 := Lib.hid ((HSYr.out.below ((Below.refl _ _).alloc (Nat.le_refl _) (.cells #[.int .i64 a1, .int .i64 b1, .string s1, .int .i64 c1, .int .i64 d1, .slice A1 l1 q1] 55))).below hb)
          clear hb y0 y1 y2 y3 y4 y5
          go_wp2_with fail
          go_roundg g
          case rel => exact ⟨k + 1, by have := HG.out; omega, by go_num, HSY2, HB2⟩
          case measure => omega
end Go.Proofs.YtgkioompcmgmdaaDoor
