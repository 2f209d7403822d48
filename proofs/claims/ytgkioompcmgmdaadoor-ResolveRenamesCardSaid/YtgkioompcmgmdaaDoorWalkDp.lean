/-
  What Depth of package syntax and its parts return. Condition: the program is less than 100000 levels deep.
-/
import Derived.Test.YtgkioompcmgmdaaDoorWalkZb
import Derived.Test.YtgkioompcmgmdaaDoorMathB
namespace Go.Proofs.YtgkioompcmgmdaaDoor
open Go.RowKit

theorem ExRow.get {S : Nat → Prop} {w : World} : ∀ (l : List Ex) (b o k : Nat) (e : Ex), ExRow S w l b o → l[k]? = some e → ∃ cs, CellsAt w b (o + k * 6) cs ∧ ExL S w e cs
  | [], _, _, _, _, _, h => by simp at h
  | x :: r, b, o, 0, e, h, hk => by
    simp only [List.getElem?_cons_zero, Option.some.injEq] at hk
    subst hk
    simp only [ExRow] at h
    simpa using h.1
  | x :: r, b, o, k + 1, e, h, hk => by
    simp only [List.getElem?_cons_succ] at hk
    simp only [ExRow] at h
    obtain ⟨cs, h1, h2⟩ := ExRow.get r b (o + 6) k e h.2 hk
    exact ⟨cs, by rw [show o + (k + 1) * 6 = o + 6 + k * 6 by omega]; exact h1, h2⟩
theorem ExL.plain {S : Nat → Prop} {w : World} {e : Ex} {cs : List Value} (h : ExL S w e cs) : ∃ (a b : Int) (s : ByteArray) (c d : Int) (A : Option Addr) (l q : Nat), cs = [.int .i64 a, .int .i64 b, .string s, .int .i64 c, .int .i64 d, .slice A l q] := by
  cases e
  simp only [ExL] at h
  obtain ⟨A, c, rfl, _⟩ := h
  exact ⟨_, _, _, _, _, _, _, _, rfl⟩
theorem deepL_take : ∀ (l : List Ex) (k : Nat) (e : Ex), l[k]? = some e → Ex.deepL (l.take (k + 1)) = max (Ex.deepL (l.take k)) e.deep
  | [], _, _, h => by simp at h
  | x :: r, 0, e, h => by
    simp only [List.getElem?_cons_zero, Option.some.injEq] at h
    subst h
    simp [Ex.deepL]
  | x :: r, k + 1, e, h => by
    simp only [List.getElem?_cons_succ] at h
    have := deepL_take r k e h
    simp only [List.take_succ_cons, Ex.deepL] at this ⊢
    rw [this]; omega
theorem deepL_le : ∀ (l : List Ex) (k : Nat) (e : Ex), l[k]? = some e → e.deep ≤ Ex.deepL l
  | [], _, _, h => by simp at h
  | x :: r, 0, e, h => by
    simp only [List.getElem?_cons_zero, Option.some.injEq] at h
    subst h
    simp only [Ex.deepL]; omega
  | x :: r, k + 1, e, h => by
    simp only [List.getElem?_cons_succ] at h
    have := deepL_le r k e h
    simp only [Ex.deepL]; omega
theorem deepL_take_le : ∀ (l : List Ex) (k : Nat), Ex.deepL (l.take k) ≤ Ex.deepL l
  | [], k => by simp
  | x :: r, 0 => by simp [Ex.deepL]
  | x :: r, k + 1 => by
    have := deepL_take_le r k
    simp only [List.take_succ_cons, Ex.deepL]; omega

set_option maxHeartbeats 1000000 in
set_option maxRecDepth 100000 in
theorem exprDepth_all : ∀ (n : Nat) (e : Ex), e.big ≤ n → n ≤ 100000 → ∀ (S : Nat → Prop) (w : World) (a b : Int) (s : ByteArray) (c d : Int) (A : Option Addr) (l q : Nat), ExL S w e [.int .i64 a, .int .i64 b, .string s, .int .i64 c, .int .i64 d, .slice A l q] →
    Calls Tryd.prog 54 #[.agg #[.int .i64 a, .int .i64 b, .string s, .int .i64 c, .int .i64 d, .slice A l q]] w fun e' w' => e' = .returned (.int .i64 e.deep) ∧ Below w.heap.size w w'
  | 0, .mk _ _ _ _ _ _, h, _ => by simp only [Ex.big] at h; omega
  | n + 1, .mk op value name slot size args, h, hn => by
    intro S w a b s c d A l q hl
    have ih := exprDepth_all n
    simp only [Ex.big] at h
    simp only [Ex.deep]
    have hlq : args.length ≤ 100000 := by have := Ex.len_big args; omega
    have hdb := Ex.deepL_big args
    simp only [ExL] at hl
    obtain ⟨A', c', e1, hc, hr⟩ := hl
    simp only [exCells, List.cons.injEq, Value.slice.injEq, and_true] at e1
    obtain ⟨_, _, _, _, _, rfl, rfl, rfl⟩ := e1
    have IH := Lib.hid ih
    have HR := Lib.hid hr
    have HD := Lib.hid h
    have HDB := Lib.hid hdb
    obtain ⟨m, hm⟩ : ∃ x, args.length = x := ⟨_, rfl⟩
    have HM := Lib.hid hm
    rw [hm] at hlq ⊢
    clear ih hr hm h hc hdb
    go_enter Tryd.func54, Tryd.ntmps54
    go_wp2_with fail
    go_loopg [3, 9] m (fun g dv i wr => ∃ k : Nat, k + g = m ∧ i = .int .i64 k ∧ dv = .int .i64 (Ex.deepL (args.take k)) ∧ Below w.heap.size w wr)
    case atStart => exact ⟨0, by omega, rfl, by simp [Ex.deepL], (Below.refl _ _).alloc (Nat.le_refl _) _⟩
    case round =>
      obtain ⟨k, hkg, rfl, rfl, hb⟩ := hrel
      have HB := Lib.hid hb
      clear hb
      have hle := deepL_take_le args k
      have hdd := HD.out
      have hdb2 := HDB.out
      cases gk with
      | zero =>
        have hge : m ≤ k := by omega
        have HT : Hid (args.take k = args) := List.take_of_length_le (by have := HM.out; omega)
        rw [HT.out]
        clear hkg hle
        have h63 : (Ex.deepL args : Int) ≤ 100000 := by omega
        clear hdd hdb2
        go_wp2_with fail
        go_ret
        exact ⟨ret_int (by omega), HB.out⟩
      | succ g =>
        have hlt : k < m := by omega
        have HG := Lib.hid hkg
        clear hkg
        obtain ⟨e1, he1⟩ : ∃ e1, args[k]? = some e1 := ⟨_, List.getElem?_eq_getElem (by have := HM.out; omega)⟩
        have HT := Lib.hid (deepL_take args k e1 he1)
        have hle1 := deepL_le args k e1 he1
        have hbg := Ex.big_at args k e1 he1
        obtain ⟨bb, o, rfl, hS, hrow⟩ := HR.out (fun e => by have := HM.out; rw [e] at this; simp at this; omega)
        obtain ⟨cs, hcs, hex⟩ := ExRow.get args bb o k e1 hrow he1
        obtain ⟨a1, b1, s1, c1, d1, A1, l1, q1, rfl⟩ := hex.plain
        have hbb : bb < w.heap.size := hcs.lt
        have hw : ∀ j u, w.cell? ⟨bb, j, none⟩ = some u → wr.cell? ⟨bb, j, none⟩ = some u := fun j u hu => (HB.out.cell (p := ⟨bb, j, none⟩) hbb).trans hu
        have y0 := hw _ _ (hcs 0 _ rfl)
        have y1 := hw _ _ (hcs 1 _ rfl)
        have y2 := hw _ _ (hcs 2 _ rfl)
        have y3 := hw _ _ (hcs 3 _ rfl)
        have y4 := hw _ _ (hcs 4 _ rfl)
        have y5 := hw _ _ (hcs 5 _ rfl)
        rw [Nat.add_zero] at y0
        have HEX := Lib.hid hex
        clear hw hcs hrow he1
        go_wp2_with fail
        refine (IH.out e1 (by omega) (by omega) S _ _ _ _ _ _ _ _ _ (ExL.still (fun k hk1 hk2 => ⟨hk1, (alloc_blk wr _ (by have := HB.out.size; omega)).trans (HB.out.block k hk2)⟩) e1 _ HEX.out)).mono ?_
        rintro e' w2 ⟨rfl, hb⟩
        have HB2 := Lib.hid ((HB.out.alloc HB.out.size _).trans (hb.mono (by rw [new_size]; have := HB.out.size; omega)))
        clear hb y0 y1 y2 y3 y4 y5
        go_wp2_with fail
        all_goals
          go_roundg g
          case rel => exact ⟨k + 1, by have := HG.out; omega, by go_num, congrArg (Value.int .i64) (by rw [HT.out]; omega), HB2.out⟩
          case measure => omega
end Go.Proofs.YtgkioompcmgmdaaDoor
