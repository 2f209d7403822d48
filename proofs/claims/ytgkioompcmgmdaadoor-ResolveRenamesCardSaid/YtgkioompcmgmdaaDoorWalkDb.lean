/-
  What bodyDepth of package syntax returns. Condition: the statements have at most 100000 parts.
-/
import Derived.Test.YtgkioompcmgmdaaDoorWalkDp
namespace Go.Proofs.YtgkioompcmgmdaaDoor
open Go.RowKit

theorem step_max4 {P : Program} {ops : Array Oper} {o : Oper} {a : Act} {w : World} {K : Act → World → Prop} {Q : Exit → Act → World → Prop} {E : Prop}
    (hg : o.guard = none) (x y z u : Operand) (ts : Array TypeId) (hop : o.op = Op.call { callee := Callee.builtin Builtin.max, args := #[x, y, z, u], argTypes := ts })
    (p q r s : Int) (hx : a.eval x = .int .i64 p) (hy : a.eval y = .int .i64 q) (hz : a.eval z = .int .i64 r) (hu : a.eval u = .int .i64 s)
    (hK : K (a.put o.dst (.int .i64 (max p (max q (max r s))))) w) : if Region.wanted o (yielded ops a.tmps) = true then Oper.wp P o a w K Q else E := by
  have hw : Region.wanted o (yielded ops a.tmps) = true := by simp [Region.wanted, hg]
  rw [if_pos hw]
  have e : ∀ m n : Int, (if n > m then n else m) = max m n := fun m n => by split <;> omega
  unfold Oper.wp
  simp [execOp, hop, resolve, invoke, builtin, Builtin.max_, Builtin.max2, hx, hy, hz, hu, e]
  exact hK

theorem StRow.get {S : Nat → Prop} {w : World} : ∀ (l : List St) (b o k : Nat) (e : St), StRow S w l b o → l[k]? = some e → ∃ cs, CellsAt w b (o + k * 18) cs ∧ StL S w e cs
  | [], _, _, _, _, _, h => by simp at h
  | x :: r, b, o, 0, e, h, hk => by
    simp only [List.getElem?_cons_zero, Option.some.injEq] at hk
    subst hk
    simp only [StRow] at h
    simpa using h.1
  | x :: r, b, o, k + 1, e, h, hk => by
    simp only [List.getElem?_cons_succ] at hk
    simp only [StRow] at h
    obtain ⟨cs, h1, h2⟩ := StRow.get r b (o + 18) k e h.2 hk
    exact ⟨cs, by rw [show o + (k + 1) * 18 = o + 18 + k * 18 by omega]; exact h1, h2⟩
theorem sdeepL_take : ∀ (l : List St) (k : Nat) (e : St), l[k]? = some e → St.deepL (l.take (k + 1)) = max (St.deepL (l.take k)) e.deep
  | [], _, _, h => by simp at h
  | x :: r, 0, e, h => by
    simp only [List.getElem?_cons_zero, Option.some.injEq] at h
    subst h
    simp [St.deepL]
  | x :: r, k + 1, e, h => by
    simp only [List.getElem?_cons_succ] at h
    have := sdeepL_take r k e h
    simp only [List.take_succ_cons, St.deepL] at this ⊢
    rw [this]; omega
theorem sdeepL_le : ∀ (l : List St) (k : Nat) (e : St), l[k]? = some e → e.deep ≤ St.deepL l
  | [], _, _, h => by simp at h
  | x :: r, 0, e, h => by
    simp only [List.getElem?_cons_zero, Option.some.injEq] at h
    subst h
    simp only [St.deepL]; omega
  | x :: r, k + 1, e, h => by
    simp only [List.getElem?_cons_succ] at h
    have := sdeepL_le r k e h
    simp only [St.deepL]; omega
theorem sdeepL_take_le : ∀ (l : List St) (k : Nat), St.deepL (l.take k) ≤ St.deepL l
  | [], k => by simp
  | x :: r, 0 => by simp [St.deepL]
  | x :: r, k + 1 => by
    have := sdeepL_take_le r k
    simp only [List.take_succ_cons, St.deepL]; omega

set_option maxHeartbeats 8000000 in
set_option maxRecDepth 100000 in
theorem bodyDepth_all : ∀ (n : Nat) (ls : List St), St.bigL ls ≤ n → n ≤ 100000 → ∀ (S : Nat → Prop) (w : World) (A : Option Addr) (l q : Nat), StSlice S w ls (.slice A l q) →
    Calls Tryd.prog 44 #[.slice A l q] w fun e' w' => e' = .returned (.int .i64 (St.deepL ls)) ∧ Below w.heap.size w w' := by
  intro n
  induction n using Nat.strongRecOn with
  | ind n ih =>
  intro ls h hn S w A l q hl
  have IH : Hid (∀ (ls' : List St), St.bigL ls' < n → ∀ (S : Nat → Prop) (w : World) (A : Option Addr) (l q : Nat), StSlice S w ls' (.slice A l q) → Calls Tryd.prog 44 #[.slice A l q] w fun e' w' => e' = .returned (.int .i64 (St.deepL ls')) ∧ Below w.heap.size w w') :=
    fun ls' h' => ih _ h' ls' (Nat.le_refl _) (by omega)
  clear ih
  obtain ⟨A', c', e1, hc, hr⟩ := hl
  simp only [Value.slice.injEq] at e1
  obtain ⟨rfl, rfl, rfl⟩ := e1
  have hlq : ls.length ≤ 100000 := by have := St.len_big ls; omega
  have hdb := St.deepL_big ls
  have HR := Lib.hid hr
  have HD := Lib.hid h
  have HDB := Lib.hid hdb
  obtain ⟨m, hm⟩ : ∃ x, ls.length = x := ⟨_, rfl⟩
  have HM := Lib.hid hm
  rw [hm] at hlq ⊢
  clear hr hm h hc hdb
  go_enter Tryd.func44, Tryd.ntmps44
  go_wp2_with fail
  go_loopg [3, 9] m (fun g dv i wr => ∃ k : Nat, k + g = m ∧ i = .int .i64 k ∧ dv = .int .i64 (St.deepL (ls.take k)) ∧ Below w.heap.size w wr)
  case atStart => exact ⟨0, by omega, rfl, by simp [St.deepL], Below.refl _ _⟩
  case round =>
    obtain ⟨k, hkg, rfl, rfl, hb⟩ := hrel
    have HB := Lib.hid hb
    clear hb
    have hle := sdeepL_take_le ls k
    have hdd := HD.out
    have hdb2 := HDB.out
    cases gk with
    | zero =>
      have hge : m ≤ k := by omega
      have HT : Hid (ls.take k = ls) := List.take_of_length_le (by have := HM.out; omega)
      rw [HT.out]
      clear hkg hle hdd hdb2
      go_wp2_with fail
      go_ret
      exact ⟨rfl, HB.out⟩
    | succ g =>
      have hlt : k < m := by omega
      have HG := Lib.hid hkg
      clear hkg
      obtain ⟨e1, he1⟩ : ∃ e1, ls[k]? = some e1 := ⟨_, List.getElem?_eq_getElem (by have := HM.out; omega)⟩
      have HT := Lib.hid (sdeepL_take ls k e1 he1)
      have hle1 := sdeepL_le ls k e1 he1
      have hbg := St.big_at ls k e1 he1
      obtain ⟨bb, o, rfl, hS, hrow⟩ := HR.out (fun e => by have := HM.out; rw [e] at this; simp at this; omega)
      obtain ⟨cs, hcs, hex⟩ := StRow.get ls bb o k e1 hrow he1
      obtain ⟨kind, name, slot, size, place, value, body, els⟩ := e1
      simp only [St.big] at hbg
      simp only [St.deep] at HT hle1
      have hex0 := hex
      simp only [StL] at hex
      obtain ⟨cp, cv, A3, c3, A4, c4, rfl, hp, hv, h3, h4, h5, h6⟩ := hex
      obtain ⟨p0, p1, p2, p3, p4, P1, P2, P3, rfl⟩ := hp.plain
      obtain ⟨v0, v1, v2, v3, v4, V1, V2, V3, rfl⟩ := hv.plain
      have hbb : bb < w.heap.size := hcs.lt
      have hw : ∀ j u, w.cell? ⟨bb, j, none⟩ = some u → wr.cell? ⟨bb, j, none⟩ = some u := fun j u hu => (HB.out.cell (p := ⟨bb, j, none⟩) hbb).trans hu
      have HRG : Hid (wr.rangeAt bb (o + k * 18) (stCells kind name slot size [.int .i64 p0, .int .i64 p1, .string p2, .int .i64 p3, .int .i64 p4, .slice P1 P2 P3] [.int .i64 v0, .int .i64 v1, .string v2, .int .i64 v3, .int .i64 v4, .slice V1 V2 V3] (.slice A3 body.length c3) (.slice A4 els.length c4))) := fun j v hv => hw _ _ (hcs j v hv)
      have HX := Lib.hid hex0
      have HP := Lib.hid hp
      have HV := Lib.hid hv
      have HBO : Hid (StSlice S w body (.slice A3 body.length c3)) := ⟨A3, c3, rfl, h3, h5⟩
      have HEL : Hid (StSlice S w els (.slice A4 els.length c4)) := ⟨A4, c4, rfl, h4, h6⟩
      clear hw hcs hrow he1 hp hv h5 h6 hex0
      go_wp2_with (first | (refine wpList_load_mid rfl 58 _ rfl bb (o + k * 18) rfl _ _ HRG.out Tryd.underlying58 rfl (by kernel_rfl) ?_) | (refine wpList_store_row rfl 58 _ _ rfl wr.heap.size _ rfl rfl _ _ (new_blk wr stZ) HX.out.info HX.out.size18 HX.out.one ?_))
      have h5 : ((wr.alloc stZ).setRow wr.heap.size (stCells kind name slot size [.int .i64 p0, .int .i64 p1, .string p2, .int .i64 p3, .int .i64 p4, .slice P1 P2 P3] [.int .i64 v0, .int .i64 v1, .string v2, .int .i64 v3, .int .i64 v4, .slice V1 V2 V3] (.slice A3 body.length c3) (.slice A4 els.length c4)).toArray).heap[wr.heap.size]? = some (.cells (stCells kind name slot size [.int .i64 p0, .int .i64 p1, .string p2, .int .i64 p3, .int .i64 p4, .slice P1 P2 P3] [.int .i64 v0, .int .i64 v1, .string v2, .int .i64 v3, .int .i64 v4, .slice V1 V2 V3] (.slice A3 body.length c3) (.slice A4 els.length c4)).toArray 58 (0, 0)) := setRow_same (new_blk wr stZ)
      have HB5 : Hid (Below w.heap.size w ((wr.alloc stZ).setRow wr.heap.size (stCells kind name slot size [.int .i64 p0, .int .i64 p1, .string p2, .int .i64 p3, .int .i64 p4, .slice P1 P2 P3] [.int .i64 v0, .int .i64 v1, .string v2, .int .i64 v3, .int .i64 v4, .slice V1 V2 V3] (.slice A3 body.length c3) (.slice A4 els.length c4)).toArray)) := by
        have hz := HB.out.size
        have h1 := HB.out.alloc hz stZ
        exact ⟨h1.os, h1.tape, h1.output, by have := h1.size; simpa using this, fun k hk => (setRow_blk (wr.alloc stZ) wr.heap.size _ (by omega)).trans (h1.block k hk)⟩
      obtain ⟨w5, hw5⟩ : ∃ x, (wr.alloc stZ).setRow wr.heap.size (stCells kind name slot size [.int .i64 p0, .int .i64 p1, .string p2, .int .i64 p3, .int .i64 p4, .slice P1 P2 P3] [.int .i64 v0, .int .i64 v1, .string v2, .int .i64 v3, .int .i64 v4, .slice V1 V2 V3] (.slice A3 body.length c3) (.slice A4 els.length c4)).toArray = x := ⟨_, rfl⟩
      rw [hw5] at h5 HB5 ⊢
      clear hw5
      have q0 : w5.cell? ⟨wr.heap.size, 4, none⟩ = some (.int .i64 p0) := by rw [Lib.cell_of_heap h5]; rfl
      have q1 : w5.cell? ⟨wr.heap.size, 5, none⟩ = some (.int .i64 p1) := by rw [Lib.cell_of_heap h5]; rfl
      have q2 : w5.cell? ⟨wr.heap.size, 6, none⟩ = some (.string p2) := by rw [Lib.cell_of_heap h5]; rfl
      have q3 : w5.cell? ⟨wr.heap.size, 7, none⟩ = some (.int .i64 p3) := by rw [Lib.cell_of_heap h5]; rfl
      have q4 : w5.cell? ⟨wr.heap.size, 8, none⟩ = some (.int .i64 p4) := by rw [Lib.cell_of_heap h5]; rfl
      have q5 : w5.cell? ⟨wr.heap.size, 9, none⟩ = some (.slice P1 P2 P3) := by rw [Lib.cell_of_heap h5]; rfl
      have q6 : w5.cell? ⟨wr.heap.size, 10, none⟩ = some (.int .i64 v0) := by rw [Lib.cell_of_heap h5]; rfl
      have q7 : w5.cell? ⟨wr.heap.size, 11, none⟩ = some (.int .i64 v1) := by rw [Lib.cell_of_heap h5]; rfl
      have q8 : w5.cell? ⟨wr.heap.size, 12, none⟩ = some (.string v2) := by rw [Lib.cell_of_heap h5]; rfl
      have q9 : w5.cell? ⟨wr.heap.size, 13, none⟩ = some (.int .i64 v3) := by rw [Lib.cell_of_heap h5]; rfl
      have q10 : w5.cell? ⟨wr.heap.size, 14, none⟩ = some (.int .i64 v4) := by rw [Lib.cell_of_heap h5]; rfl
      have q11 : w5.cell? ⟨wr.heap.size, 15, none⟩ = some (.slice V1 V2 V3) := by rw [Lib.cell_of_heap h5]; rfl
      have q12 : w5.cell? ⟨wr.heap.size, 16, none⟩ = some (.slice A3 body.length c3) := by rw [Lib.cell_of_heap h5]; rfl
      have q13 : w5.cell? ⟨wr.heap.size, 17, none⟩ = some (.slice A4 els.length c4) := by rw [Lib.cell_of_heap h5]; rfl
      have hS0 : Below w5.heap.size w5 w5.drew ∧ w5.drew.cell? ⟨wr.heap.size, 4, none⟩ = some (.int .i64 p0) ∧ w5.drew.cell? ⟨wr.heap.size, 5, none⟩ = some (.int .i64 p1) ∧ w5.drew.cell? ⟨wr.heap.size, 6, none⟩ = some (.string p2) ∧ w5.drew.cell? ⟨wr.heap.size, 7, none⟩ = some (.int .i64 p3) ∧ w5.drew.cell? ⟨wr.heap.size, 8, none⟩ = some (.int .i64 p4) ∧ w5.drew.cell? ⟨wr.heap.size, 9, none⟩ = some (.slice P1 P2 P3) ∧ w5.drew.cell? ⟨wr.heap.size, 10, none⟩ = some (.int .i64 v0) ∧ w5.drew.cell? ⟨wr.heap.size, 11, none⟩ = some (.int .i64 v1) ∧ w5.drew.cell? ⟨wr.heap.size, 12, none⟩ = some (.string v2) ∧ w5.drew.cell? ⟨wr.heap.size, 13, none⟩ = some (.int .i64 v3) ∧ w5.drew.cell? ⟨wr.heap.size, 14, none⟩ = some (.int .i64 v4) ∧ w5.drew.cell? ⟨wr.heap.size, 15, none⟩ = some (.slice V1 V2 V3) ∧ w5.drew.cell? ⟨wr.heap.size, 16, none⟩ = some (.slice A3 body.length c3) ∧ w5.drew.cell? ⟨wr.heap.size, 17, none⟩ = some (.slice A4 els.length c4) := ⟨(Below.refl _ _).drew, q0, q1, q2, q3, q4, q5, q6, q7, q8, q9, q10, q11, q12, q13⟩
      have hst : ∀ wc, Below w5.heap.size w5 wc → Still S S w wc := fun wc hb b hSb hlt => ⟨hSb, (hb.block b (Nat.lt_of_lt_of_le hlt HB5.out.size)).trans (HB5.out.block b hlt)⟩
      have hnext : ∀ wc w', (Below w5.heap.size w5 wc ∧ wc.cell? ⟨wr.heap.size, 4, none⟩ = some (.int .i64 p0) ∧ wc.cell? ⟨wr.heap.size, 5, none⟩ = some (.int .i64 p1) ∧ wc.cell? ⟨wr.heap.size, 6, none⟩ = some (.string p2) ∧ wc.cell? ⟨wr.heap.size, 7, none⟩ = some (.int .i64 p3) ∧ wc.cell? ⟨wr.heap.size, 8, none⟩ = some (.int .i64 p4) ∧ wc.cell? ⟨wr.heap.size, 9, none⟩ = some (.slice P1 P2 P3) ∧ wc.cell? ⟨wr.heap.size, 10, none⟩ = some (.int .i64 v0) ∧ wc.cell? ⟨wr.heap.size, 11, none⟩ = some (.int .i64 v1) ∧ wc.cell? ⟨wr.heap.size, 12, none⟩ = some (.string v2) ∧ wc.cell? ⟨wr.heap.size, 13, none⟩ = some (.int .i64 v3) ∧ wc.cell? ⟨wr.heap.size, 14, none⟩ = some (.int .i64 v4) ∧ wc.cell? ⟨wr.heap.size, 15, none⟩ = some (.slice V1 V2 V3) ∧ wc.cell? ⟨wr.heap.size, 16, none⟩ = some (.slice A3 body.length c3) ∧ wc.cell? ⟨wr.heap.size, 17, none⟩ = some (.slice A4 els.length c4)) → Below wc.heap.size wc w' → (Below w5.heap.size w5 w' ∧ w'.cell? ⟨wr.heap.size, 4, none⟩ = some (.int .i64 p0) ∧ w'.cell? ⟨wr.heap.size, 5, none⟩ = some (.int .i64 p1) ∧ w'.cell? ⟨wr.heap.size, 6, none⟩ = some (.string p2) ∧ w'.cell? ⟨wr.heap.size, 7, none⟩ = some (.int .i64 p3) ∧ w'.cell? ⟨wr.heap.size, 8, none⟩ = some (.int .i64 p4) ∧ w'.cell? ⟨wr.heap.size, 9, none⟩ = some (.slice P1 P2 P3) ∧ w'.cell? ⟨wr.heap.size, 10, none⟩ = some (.int .i64 v0) ∧ w'.cell? ⟨wr.heap.size, 11, none⟩ = some (.int .i64 v1) ∧ w'.cell? ⟨wr.heap.size, 12, none⟩ = some (.string v2) ∧ w'.cell? ⟨wr.heap.size, 13, none⟩ = some (.int .i64 v3) ∧ w'.cell? ⟨wr.heap.size, 14, none⟩ = some (.int .i64 v4) ∧ w'.cell? ⟨wr.heap.size, 15, none⟩ = some (.slice V1 V2 V3) ∧ w'.cell? ⟨wr.heap.size, 16, none⟩ = some (.slice A3 body.length c3) ∧ w'.cell? ⟨wr.heap.size, 17, none⟩ = some (.slice A4 els.length c4)) := fun wc w' hs hb => by
        obtain ⟨b0, q0, q1, q2, q3, q4, q5, q6, q7, q8, q9, q10, q11, q12, q13⟩ := hs
        have hz := b0.size
        have hl : ∀ j u, wc.cell? ⟨wr.heap.size, j, none⟩ = some u → w'.cell? ⟨wr.heap.size, j, none⟩ = some u := fun j u hu => (hb.cell (p := ⟨wr.heap.size, j, none⟩) (World.block_lt_of_cell? wc _ hu)).trans hu
        exact ⟨b0.trans (hb.mono hz), hl _ _ q0, hl _ _ q1, hl _ _ q2, hl _ _ q3, hl _ _ q4, hl _ _ q5, hl _ _ q6, hl _ _ q7, hl _ _ q8, hl _ _ q9, hl _ _ q10, hl _ _ q11, hl _ _ q12, hl _ _ q13⟩
      have CP : Hid (∀ wc, (Below w5.heap.size w5 wc ∧ wc.cell? ⟨wr.heap.size, 4, none⟩ = some (.int .i64 p0) ∧ wc.cell? ⟨wr.heap.size, 5, none⟩ = some (.int .i64 p1) ∧ wc.cell? ⟨wr.heap.size, 6, none⟩ = some (.string p2) ∧ wc.cell? ⟨wr.heap.size, 7, none⟩ = some (.int .i64 p3) ∧ wc.cell? ⟨wr.heap.size, 8, none⟩ = some (.int .i64 p4) ∧ wc.cell? ⟨wr.heap.size, 9, none⟩ = some (.slice P1 P2 P3) ∧ wc.cell? ⟨wr.heap.size, 10, none⟩ = some (.int .i64 v0) ∧ wc.cell? ⟨wr.heap.size, 11, none⟩ = some (.int .i64 v1) ∧ wc.cell? ⟨wr.heap.size, 12, none⟩ = some (.string v2) ∧ wc.cell? ⟨wr.heap.size, 13, none⟩ = some (.int .i64 v3) ∧ wc.cell? ⟨wr.heap.size, 14, none⟩ = some (.int .i64 v4) ∧ wc.cell? ⟨wr.heap.size, 15, none⟩ = some (.slice V1 V2 V3) ∧ wc.cell? ⟨wr.heap.size, 16, none⟩ = some (.slice A3 body.length c3) ∧ wc.cell? ⟨wr.heap.size, 17, none⟩ = some (.slice A4 els.length c4)) → Calls Tryd.prog 54 #[.agg #[.int .i64 p0, .int .i64 p1, .string p2, .int .i64 p3, .int .i64 p4, .slice P1 P2 P3]] wc fun e' w' => e' = .returned (.int .i64 place.deep) ∧ (Below w5.heap.size w5 w' ∧ w'.cell? ⟨wr.heap.size, 4, none⟩ = some (.int .i64 p0) ∧ w'.cell? ⟨wr.heap.size, 5, none⟩ = some (.int .i64 p1) ∧ w'.cell? ⟨wr.heap.size, 6, none⟩ = some (.string p2) ∧ w'.cell? ⟨wr.heap.size, 7, none⟩ = some (.int .i64 p3) ∧ w'.cell? ⟨wr.heap.size, 8, none⟩ = some (.int .i64 p4) ∧ w'.cell? ⟨wr.heap.size, 9, none⟩ = some (.slice P1 P2 P3) ∧ w'.cell? ⟨wr.heap.size, 10, none⟩ = some (.int .i64 v0) ∧ w'.cell? ⟨wr.heap.size, 11, none⟩ = some (.int .i64 v1) ∧ w'.cell? ⟨wr.heap.size, 12, none⟩ = some (.string v2) ∧ w'.cell? ⟨wr.heap.size, 13, none⟩ = some (.int .i64 v3) ∧ w'.cell? ⟨wr.heap.size, 14, none⟩ = some (.int .i64 v4) ∧ w'.cell? ⟨wr.heap.size, 15, none⟩ = some (.slice V1 V2 V3) ∧ w'.cell? ⟨wr.heap.size, 16, none⟩ = some (.slice A3 body.length c3) ∧ w'.cell? ⟨wr.heap.size, 17, none⟩ = some (.slice A4 els.length c4))) :=
        fun wc hs => (exprDepth_all place.big place (Nat.le_refl _) (by omega) S wc _ _ _ _ _ _ _ _ (ExL.still (hst wc hs.1) place _ HP.out)).mono fun e' w' ⟨h1, h2⟩ => ⟨h1, hnext wc w' hs h2⟩
      have CV : Hid (∀ wc, (Below w5.heap.size w5 wc ∧ wc.cell? ⟨wr.heap.size, 4, none⟩ = some (.int .i64 p0) ∧ wc.cell? ⟨wr.heap.size, 5, none⟩ = some (.int .i64 p1) ∧ wc.cell? ⟨wr.heap.size, 6, none⟩ = some (.string p2) ∧ wc.cell? ⟨wr.heap.size, 7, none⟩ = some (.int .i64 p3) ∧ wc.cell? ⟨wr.heap.size, 8, none⟩ = some (.int .i64 p4) ∧ wc.cell? ⟨wr.heap.size, 9, none⟩ = some (.slice P1 P2 P3) ∧ wc.cell? ⟨wr.heap.size, 10, none⟩ = some (.int .i64 v0) ∧ wc.cell? ⟨wr.heap.size, 11, none⟩ = some (.int .i64 v1) ∧ wc.cell? ⟨wr.heap.size, 12, none⟩ = some (.string v2) ∧ wc.cell? ⟨wr.heap.size, 13, none⟩ = some (.int .i64 v3) ∧ wc.cell? ⟨wr.heap.size, 14, none⟩ = some (.int .i64 v4) ∧ wc.cell? ⟨wr.heap.size, 15, none⟩ = some (.slice V1 V2 V3) ∧ wc.cell? ⟨wr.heap.size, 16, none⟩ = some (.slice A3 body.length c3) ∧ wc.cell? ⟨wr.heap.size, 17, none⟩ = some (.slice A4 els.length c4)) → Calls Tryd.prog 54 #[.agg #[.int .i64 v0, .int .i64 v1, .string v2, .int .i64 v3, .int .i64 v4, .slice V1 V2 V3]] wc fun e' w' => e' = .returned (.int .i64 value.deep) ∧ (Below w5.heap.size w5 w' ∧ w'.cell? ⟨wr.heap.size, 4, none⟩ = some (.int .i64 p0) ∧ w'.cell? ⟨wr.heap.size, 5, none⟩ = some (.int .i64 p1) ∧ w'.cell? ⟨wr.heap.size, 6, none⟩ = some (.string p2) ∧ w'.cell? ⟨wr.heap.size, 7, none⟩ = some (.int .i64 p3) ∧ w'.cell? ⟨wr.heap.size, 8, none⟩ = some (.int .i64 p4) ∧ w'.cell? ⟨wr.heap.size, 9, none⟩ = some (.slice P1 P2 P3) ∧ w'.cell? ⟨wr.heap.size, 10, none⟩ = some (.int .i64 v0) ∧ w'.cell? ⟨wr.heap.size, 11, none⟩ = some (.int .i64 v1) ∧ w'.cell? ⟨wr.heap.size, 12, none⟩ = some (.string v2) ∧ w'.cell? ⟨wr.heap.size, 13, none⟩ = some (.int .i64 v3) ∧ w'.cell? ⟨wr.heap.size, 14, none⟩ = some (.int .i64 v4) ∧ w'.cell? ⟨wr.heap.size, 15, none⟩ = some (.slice V1 V2 V3) ∧ w'.cell? ⟨wr.heap.size, 16, none⟩ = some (.slice A3 body.length c3) ∧ w'.cell? ⟨wr.heap.size, 17, none⟩ = some (.slice A4 els.length c4))) :=
        fun wc hs => (exprDepth_all value.big value (Nat.le_refl _) (by omega) S wc _ _ _ _ _ _ _ _ (ExL.still (hst wc hs.1) value _ HV.out)).mono fun e' w' ⟨h1, h2⟩ => ⟨h1, hnext wc w' hs h2⟩
      have hpp := Ex.big_pos place
      have CB : Hid (∀ wc, (Below w5.heap.size w5 wc ∧ wc.cell? ⟨wr.heap.size, 4, none⟩ = some (.int .i64 p0) ∧ wc.cell? ⟨wr.heap.size, 5, none⟩ = some (.int .i64 p1) ∧ wc.cell? ⟨wr.heap.size, 6, none⟩ = some (.string p2) ∧ wc.cell? ⟨wr.heap.size, 7, none⟩ = some (.int .i64 p3) ∧ wc.cell? ⟨wr.heap.size, 8, none⟩ = some (.int .i64 p4) ∧ wc.cell? ⟨wr.heap.size, 9, none⟩ = some (.slice P1 P2 P3) ∧ wc.cell? ⟨wr.heap.size, 10, none⟩ = some (.int .i64 v0) ∧ wc.cell? ⟨wr.heap.size, 11, none⟩ = some (.int .i64 v1) ∧ wc.cell? ⟨wr.heap.size, 12, none⟩ = some (.string v2) ∧ wc.cell? ⟨wr.heap.size, 13, none⟩ = some (.int .i64 v3) ∧ wc.cell? ⟨wr.heap.size, 14, none⟩ = some (.int .i64 v4) ∧ wc.cell? ⟨wr.heap.size, 15, none⟩ = some (.slice V1 V2 V3) ∧ wc.cell? ⟨wr.heap.size, 16, none⟩ = some (.slice A3 body.length c3) ∧ wc.cell? ⟨wr.heap.size, 17, none⟩ = some (.slice A4 els.length c4)) → Calls Tryd.prog 44 #[.slice A3 body.length c3] wc fun e' w' => e' = .returned (.int .i64 (St.deepL body)) ∧ (Below w5.heap.size w5 w' ∧ w'.cell? ⟨wr.heap.size, 4, none⟩ = some (.int .i64 p0) ∧ w'.cell? ⟨wr.heap.size, 5, none⟩ = some (.int .i64 p1) ∧ w'.cell? ⟨wr.heap.size, 6, none⟩ = some (.string p2) ∧ w'.cell? ⟨wr.heap.size, 7, none⟩ = some (.int .i64 p3) ∧ w'.cell? ⟨wr.heap.size, 8, none⟩ = some (.int .i64 p4) ∧ w'.cell? ⟨wr.heap.size, 9, none⟩ = some (.slice P1 P2 P3) ∧ w'.cell? ⟨wr.heap.size, 10, none⟩ = some (.int .i64 v0) ∧ w'.cell? ⟨wr.heap.size, 11, none⟩ = some (.int .i64 v1) ∧ w'.cell? ⟨wr.heap.size, 12, none⟩ = some (.string v2) ∧ w'.cell? ⟨wr.heap.size, 13, none⟩ = some (.int .i64 v3) ∧ w'.cell? ⟨wr.heap.size, 14, none⟩ = some (.int .i64 v4) ∧ w'.cell? ⟨wr.heap.size, 15, none⟩ = some (.slice V1 V2 V3) ∧ w'.cell? ⟨wr.heap.size, 16, none⟩ = some (.slice A3 body.length c3) ∧ w'.cell? ⟨wr.heap.size, 17, none⟩ = some (.slice A4 els.length c4))) :=
        fun wc hs => (IH.out body (by omega) S wc _ _ _ (StSlice.still HBO.out (hst wc hs.1))).mono fun e' w' ⟨h1, h2⟩ => ⟨h1, hnext wc w' hs h2⟩
      have CE : Hid (∀ wc, (Below w5.heap.size w5 wc ∧ wc.cell? ⟨wr.heap.size, 4, none⟩ = some (.int .i64 p0) ∧ wc.cell? ⟨wr.heap.size, 5, none⟩ = some (.int .i64 p1) ∧ wc.cell? ⟨wr.heap.size, 6, none⟩ = some (.string p2) ∧ wc.cell? ⟨wr.heap.size, 7, none⟩ = some (.int .i64 p3) ∧ wc.cell? ⟨wr.heap.size, 8, none⟩ = some (.int .i64 p4) ∧ wc.cell? ⟨wr.heap.size, 9, none⟩ = some (.slice P1 P2 P3) ∧ wc.cell? ⟨wr.heap.size, 10, none⟩ = some (.int .i64 v0) ∧ wc.cell? ⟨wr.heap.size, 11, none⟩ = some (.int .i64 v1) ∧ wc.cell? ⟨wr.heap.size, 12, none⟩ = some (.string v2) ∧ wc.cell? ⟨wr.heap.size, 13, none⟩ = some (.int .i64 v3) ∧ wc.cell? ⟨wr.heap.size, 14, none⟩ = some (.int .i64 v4) ∧ wc.cell? ⟨wr.heap.size, 15, none⟩ = some (.slice V1 V2 V3) ∧ wc.cell? ⟨wr.heap.size, 16, none⟩ = some (.slice A3 body.length c3) ∧ wc.cell? ⟨wr.heap.size, 17, none⟩ = some (.slice A4 els.length c4)) → Calls Tryd.prog 44 #[.slice A4 els.length c4] wc fun e' w' => e' = .returned (.int .i64 (St.deepL els)) ∧ (Below w5.heap.size w5 w' ∧ w'.cell? ⟨wr.heap.size, 4, none⟩ = some (.int .i64 p0) ∧ w'.cell? ⟨wr.heap.size, 5, none⟩ = some (.int .i64 p1) ∧ w'.cell? ⟨wr.heap.size, 6, none⟩ = some (.string p2) ∧ w'.cell? ⟨wr.heap.size, 7, none⟩ = some (.int .i64 p3) ∧ w'.cell? ⟨wr.heap.size, 8, none⟩ = some (.int .i64 p4) ∧ w'.cell? ⟨wr.heap.size, 9, none⟩ = some (.slice P1 P2 P3) ∧ w'.cell? ⟨wr.heap.size, 10, none⟩ = some (.int .i64 v0) ∧ w'.cell? ⟨wr.heap.size, 11, none⟩ = some (.int .i64 v1) ∧ w'.cell? ⟨wr.heap.size, 12, none⟩ = some (.string v2) ∧ w'.cell? ⟨wr.heap.size, 13, none⟩ = some (.int .i64 v3) ∧ w'.cell? ⟨wr.heap.size, 14, none⟩ = some (.int .i64 v4) ∧ w'.cell? ⟨wr.heap.size, 15, none⟩ = some (.slice V1 V2 V3) ∧ w'.cell? ⟨wr.heap.size, 16, none⟩ = some (.slice A3 body.length c3) ∧ w'.cell? ⟨wr.heap.size, 17, none⟩ = some (.slice A4 els.length c4))) :=
        fun wc hs => (IH.out els (by omega) S wc _ _ _ (StSlice.still HEL.out (hst wc hs.1))).mono fun e' w' ⟨h1, h2⟩ => ⟨h1, hnext wc w' hs h2⟩
      clear hst hnext h5 hpp
      have HLE := Lib.hid hle1
      have HLE0 := Lib.hid hle
      clear hle1 hle hdd hdb2 hbg h3 h4 q0 q1 q2 q3 q4 q5 q6 q7 q8 q9 q10 q11 q12 q13
      go_region_held3 (fun w' => Below w5.heap.size w5 w' ∧ w'.cell? ⟨wr.heap.size, 4, none⟩ = some (.int .i64 p0) ∧ w'.cell? ⟨wr.heap.size, 5, none⟩ = some (.int .i64 p1) ∧ w'.cell? ⟨wr.heap.size, 6, none⟩ = some (.string p2) ∧ w'.cell? ⟨wr.heap.size, 7, none⟩ = some (.int .i64 p3) ∧ w'.cell? ⟨wr.heap.size, 8, none⟩ = some (.int .i64 p4) ∧ w'.cell? ⟨wr.heap.size, 9, none⟩ = some (.slice P1 P2 P3) ∧ w'.cell? ⟨wr.heap.size, 10, none⟩ = some (.int .i64 v0) ∧ w'.cell? ⟨wr.heap.size, 11, none⟩ = some (.int .i64 v1) ∧ w'.cell? ⟨wr.heap.size, 12, none⟩ = some (.string v2) ∧ w'.cell? ⟨wr.heap.size, 13, none⟩ = some (.int .i64 v3) ∧ w'.cell? ⟨wr.heap.size, 14, none⟩ = some (.int .i64 v4) ∧ w'.cell? ⟨wr.heap.size, 15, none⟩ = some (.slice V1 V2 V3) ∧ w'.cell? ⟨wr.heap.size, 16, none⟩ = some (.slice A3 body.length c3) ∧ w'.cell? ⟨wr.heap.size, 17, none⟩ = some (.slice A4 els.length c4)) (assumption) (first | (go_at_call 54; ((with_reducible refine (CP.out _ ?_).mono ?_)); assumption; rintro e' w6 ⟨rfl, hs6⟩) | (go_at_call 54; ((with_reducible refine (CV.out _ ?_).mono ?_)); assumption; rintro e' w6 ⟨rfl, hs6⟩) | (go_at_call 44; ((with_reducible refine (CB.out _ ?_).mono ?_)); assumption; rintro e' w6 ⟨rfl, hs6⟩) | (go_at_call 44; ((with_reducible refine (CE.out _ ?_).mono ?_)); assumption; rintro e' w6 ⟨rfl, hs6⟩) | (refine step_max4 rfl _ _ _ _ _ rfl _ _ _ _ rfl rfl rfl rfl ?_))
      have HB6 := Lib.hid (HB5.out.trans (hs6.1.mono HB5.out.size))
      have hm1 := HLE.out
      have hm2 := HLE0.out
      have hm3 := HDB.out
      have hm4 := HD.out
      clear hs6
      have hx1 : (max (place.deep : Int) (max (value.deep : Int) (max (St.deepL body : Int) (St.deepL els : Int)))) ≤ 100000 := by omega
      have hx0 : 0 ≤ (max (place.deep : Int) (max (value.deep : Int) (max (St.deepL body : Int) (St.deepL els : Int)))) := by omega
      obtain ⟨mx, hmx⟩ : ∃ y, (max (place.deep : Int) (max (value.deep : Int) (max (St.deepL body : Int) (St.deepL els : Int)))) = y := ⟨_, rfl⟩
      have HMX := Lib.hid hmx
      rw [hmx] at hx0 hx1 ⊢
      clear hmx hm1 hm2 hm3 hm4
      go_wp2_with fail
      all_goals
        go_roundg g
        case rel => exact ⟨k + 1, by have := HG.out; omega, by go_num, congrArg (Value.int .i64) (by rw [HT.out]; have := HMX.out; omega), HB6.out⟩
        case measure => omega
end Go.Proofs.YtgkioompcmgmdaaDoor
