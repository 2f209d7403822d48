/-
  Texts of a walk, laid together by a program of the prover's own (merge.py). No conditions beyond those that each text names.
-/
import Derived.Test.YtgblgkkbggdopaaDoorZaf
import Derived.Test.YtgblgkkbggdopaaDoorZah
import Derived.Deep.LoopGhost
import Derived.Lib.Walk
import Derived.Lib.SliceRun
import Derived.Defers
import Derived.Recover
import Derived.Laws.Pointers
import Derived.Tactics2
import Derived.Test.YtgblgkkbggdopaaDoorZae
/-
  What bodyDepth of package syntax returns. Condition: the statements have at most 100000 parts.
-/
namespace Go.Proofs.YtgblgkkbggdopaaDoor
open Go.RowKit

theorem step_max4 {P : Program} {ops : Array Oper} {o : Oper} {a : Act} {w : World} {K : Act → World → Prop} {Q : Exit → Act → World → Prop} {E : Prop}
    (hg : o.guard = none) (x y z u : Operand) (ts : Array TypeId) (hop : o.op = Op.call { callee := Callee.builtin Builtin.max, args := #[x, y, z, u], argTypes := ts })
    (p q r s : Int) (hx : a.eval x = .int .i64 p) (hy : a.eval y = .int .i64 q) (hz : a.eval z = .int .i64 r) (hu : a.eval u = .int .i64 s)
    (hK : K (a.put o.dst (.int .i64 (max p (max q (max r s))))) w) : if Region.wanted o (yielded ops a.tmps) = true then Oper.wp P o a w K Q else E := by
  have hw : Region.wanted o (yielded ops a.tmps) = true := by simp [Region.wanted, hg]
  rw [if_pos hw]
  have e : ∀ m n : Int, (if n > m then n else m) = max m n := fun m n => by split <;> omega
  unfold Oper.wp
  simp [execOp, hop, resolve, invoke, builtin, Builtin.max_, Builtin.max2, hx, hy, hz, hu, e]
  exact hK

theorem StRow.get {S : Nat → Prop} {w : World} : ∀ (l : List St) (b o k : Nat) (e : St), StRow S w l b o → l[k]? = some e → ∃ cs, CellsAt w b (o + k * 18) cs ∧ StL S w e cs
  | [], _, _, _, _, _, h => by simp at h
  | x :: r, b, o, 0, e, h, hk => by
    simp only [List.getElem?_cons_zero, Option.some.injEq] at hk
    subst hk
    simp only [StRow] at h
    simpa using h.1
  | x :: r, b, o, k + 1, e, h, hk => by
    simp only [List.getElem?_cons_succ] at hk
    simp only [StRow] at h
    obtain ⟨cs, h1, h2⟩ := StRow.get r b (o + 18) k e h.2 hk
    exact ⟨cs, by rw [show o + (k + 1) * 18 = o + 18 + k * 18 by omega]; exact h1, h2⟩
theorem sdeepL_take : ∀ (l : List St) (k : Nat) (e : St), l[k]? = some e → St.deepL (l.take (k + 1)) = max (St.deepL (l.take k)) e.deep
  | [], _, _, h => by simp at h
  | x :: r, 0, e, h => by
    simp only [List.getElem?_cons_zero, Option.some.injEq] at h
    subst h
    simp [St.deepL]
  | x :: r, k + 1, e, h => by
    simp only [List.getElem?_cons_succ] at h
    have := sdeepL_take r k e h
    simp only [List.take_succ_cons, St.deepL] at this ⊢
    rw [this]; omega
theorem sdeepL_le : ∀ (l : List St) (k : Nat) (e : St), l[k]? = some e → e.deep ≤ St.deepL l
  | [], _, _, h => by simp at h
  | x :: r, 0, e, h => by
    simp only [List.getElem?_cons_zero, Option.some.injEq] at h
    subst h
    simp only [St.deepL]; omega
  | x :: r, k + 1, e, h => by
    simp only [List.getElem?_cons_succ] at h
    have := sdeepL_le r k e h
    simp only [St.deepL]; omega
theorem sdeepL_take_le : ∀ (l : List St) (k : Nat), St.deepL (l.take k) ≤ St.deepL l
  | [], k => by simp
  | x :: r, 0 => by simp [St.deepL]
  | x :: r, k + 1 => by
    have := sdeepL_take_le r k
    simp only [List.take_succ_cons, St.deepL]; omega

end Go.Proofs.YtgblgkkbggdopaaDoor

/-
  What statement and list of the machine of package interp do. Conditions: those of WalkMc (gens46.py writes this text).
-/
namespace Go.Proofs.YtgblgkkbggdopaaDoor
open Go.RowKit

/-- A call of statement, with at most n units of fuel. -/
def StmC (en : En) (n : Nat) : Prop := ∀ (s : St) (r : RS), r.fuel ≤ n → s.big ≤ 100000 → ∀ (base mb n0 : Nat) (w : World) (cs : List Value), MSt base mb n0 en r w → StL (fun k => k < base) w s cs →
    Calls Tryd.prog 83 #[.pointer (some ⟨mb, 0, none⟩), .agg cs.toArray] w (Done base mb n0 en (exec1 en n s r) w)

theorem Done.mk' {base mb n0 : Nat} {en : En} {R R' : RS × Bool} {w w1 w2 : World} {e : Ending} (hf : Fr mb w w1) (h : Done base mb n0 en R w1 e w2) (he : R = R') : Done base mb n0 en R' w e w2 := by
  subst he
  exact ⟨h.1, h.2.1, hf.trans h.2.2⟩

set_option maxHeartbeats 4000000 in
set_option maxRecDepth 100000 in
theorem statement_zero (base mb n0 n : Nat) (en : En) (r : RS) (w : World) (kind : Int) (name : List UInt8) (slot size : Int) (place value : Ex) (body els : List St) (p0 p1 : Int) (p2 : ByteArray) (p3 p4 : Int) (P1 : Option Addr) (P2 P3 : Nat) (v0 v1 : Int) (v2 : ByteArray) (v3 v4 : Int) (V1 : Option Addr) (V2 V3 : Nat) (A3 : Option Addr) (c3 : Nat) (A4 : Option Addr) (c4 : Nat) (hf : r.fuel = 0) (h : MSt base mb n0 en r w) :
    Calls Tryd.prog 83 #[.pointer (some ⟨mb, 0, none⟩), .agg #[.int .i64 kind, .string (strB name), .int .i64 slot, .int .i64 size, .int .i64 p0, .int .i64 p1, .string p2, .int .i64 p3, .int .i64 p4, .slice P1 P2 P3, .int .i64 v0, .int .i64 v1, .string v2, .int .i64 v3, .int .i64 v4, .slice V1 V2 V3, .slice A3 body.length c3, .slice A4 els.length c4]] w (Done base mb n0 en (exec1 en n (.mk kind name slot size place value body els) r) w) := by
  have hb1 := rp_one1 w (.cells #[.int .i64 kind, .string (strB name), .int .i64 slot, .int .i64 size, .int .i64 p0, .int .i64 p1, .string p2, .int .i64 p3, .int .i64 p4, .slice P1 P2 P3, .int .i64 v0, .int .i64 v1, .string v2, .int .i64 v3, .int .i64 v4, .slice V1 V2 V3, .slice A3 body.length c3, .slice A4 els.length c4] 94)
  have hx := new_blk w (.cells #[.int .i64 kind, .string (strB name), .int .i64 slot, .int .i64 size, .int .i64 p0, .int .i64 p1, .string p2, .int .i64 p3, .int .i64 p4, .slice P1 P2 P3, .int .i64 v0, .int .i64 v1, .string v2, .int .i64 v3, .int .i64 v4, .slice V1 V2 V3, .slice A3 body.length c3, .slice A4 els.length c4] 94)
  have h' := h.below hb1
  have hfr := MSt.fresh h hb1 (by rw [new_size]; omega)
  have HF1 := Lib.hid (Fr.of_below hb1 h.lt)
  obtain ⟨W, hW⟩ : ∃ W, w.alloc (.cells #[.int .i64 kind, .string (strB name), .int .i64 slot, .int .i64 size, .int .i64 p0, .int .i64 p1, .string p2, .int .i64 p3, .int .i64 p4, .slice P1 P2 P3, .int .i64 v0, .int .i64 v1, .string v2, .int .i64 v3, .int .i64 v4, .slice V1 V2 V3, .slice A3 body.length c3, .slice A4 els.length c4] 94) = W := ⟨_, rfl⟩
  obtain ⟨nb, hnb⟩ : ∃ x, w.heap.size = x := ⟨_, rfl⟩
  rw [hW] at hb1 hx h' HF1 hfr
  rw [hnb] at hx hfr
  have HX := Lib.hid hx
  have HI := Lib.hid hfr
  have HM := Lib.hid h'
  have hnW : nb < W.heap.size := lt_of_block hx
  have he : exec1 en n (.mk kind name slot size place value body els) r = (r, false) := by
    cases n with
    | zero => rfl
    | succ k => rw [exec1, if_pos hf]
  rw [he]
  have HP := Lib.hid (pay_none base mb n0 en r W HM.out hf)
  clear hx hfr h' hb1 h hf he
  go_enter Tryd.func83, Tryd.ntmps83
  go_wp2_with fail
  clear hW
  refine HP.out.mono ?_
  rintro e' w1 ⟨rfl, rfl⟩
  have HQ : Hid (Done base mb n0 en (r, false) w (.panicked [spent]) W) := ⟨rfl, HM.out, HF1.out⟩
  go_wp2_with fail
  exact ⟨rfl, HQ.out⟩

set_option maxHeartbeats 8000000 in
set_option maxRecDepth 100000 in
theorem statement_step (n : Nat) (en : En) (hL : ∀ m, m ≤ n → LstC en m) (base mb n0 : Nat) (r : RS) (w : World) (kind : Int) (name : List UInt8) (slot size : Int) (place value : Ex) (body els : List St) (p0 p1 : Int) (p2 : ByteArray) (p3 p4 : Int) (P1 : Option Addr) (P2 P3 : Nat) (v0 v1 : Int) (v2 : ByteArray) (v3 v4 : Int) (V1 : Option Addr) (V2 V3 : Nat) (A3 : Option Addr) (c3 : Nat) (A4 : Option Addr) (c4 : Nat) (hf : r.fuel ≤ n + 1) (hf0 : r.fuel ≠ 0) (hbb : St.bigL body ≤ 100000) (hbe : St.bigL els ≤ 100000) (h : MSt base mb n0 en r w)
    (hp : ExL (fun k => k < base) w place [.int .i64 p0, .int .i64 p1, .string p2, .int .i64 p3, .int .i64 p4, .slice P1 P2 P3]) (hv : ExL (fun k => k < base) w value [.int .i64 v0, .int .i64 v1, .string v2, .int .i64 v3, .int .i64 v4, .slice V1 V2 V3]) (hbo : StSlice (fun k => k < base) w body (.slice A3 body.length c3)) (hel : StSlice (fun k => k < base) w els (.slice A4 els.length c4)) :
    Calls Tryd.prog 83 #[.pointer (some ⟨mb, 0, none⟩), .agg #[.int .i64 kind, .string (strB name), .int .i64 slot, .int .i64 size, .int .i64 p0, .int .i64 p1, .string p2, .int .i64 p3, .int .i64 p4, .slice P1 P2 P3, .int .i64 v0, .int .i64 v1, .string v2, .int .i64 v3, .int .i64 v4, .slice V1 V2 V3, .slice A3 body.length c3, .slice A4 els.length c4]] w (Done base mb n0 en (exec1 en (n + 1) (.mk kind name slot size place value body els) r) w) := by
  have he : exec1 en (n + 1) (.mk kind name slot size place value body els) r = (if kind = 3 then listS (exec1 en n) (if valS r.paid.cells en value ≠ 0 then body else els) r.paid else if kind = 4 then repW en n (.mk kind name slot size place value body els) value body r.paid else (doS en kind slot size place value r.paid, true)) := by
    by_cases hk : kind = 4
    · rw [if_neg (by omega), if_pos hk]
      exact exec_while en n kind name slot size place value body els r hf0 hk
    · rw [exec1, if_neg hf0, if_neg hk, if_neg hk]
      rfl
  rw [he]
  have hb1 := rp_one1 w (.cells #[.int .i64 kind, .string (strB name), .int .i64 slot, .int .i64 size, .int .i64 p0, .int .i64 p1, .string p2, .int .i64 p3, .int .i64 p4, .slice P1 P2 P3, .int .i64 v0, .int .i64 v1, .string v2, .int .i64 v3, .int .i64 v4, .slice V1 V2 V3, .slice A3 body.length c3, .slice A4 els.length c4] 94)
  have hx := new_blk w (.cells #[.int .i64 kind, .string (strB name), .int .i64 slot, .int .i64 size, .int .i64 p0, .int .i64 p1, .string p2, .int .i64 p3, .int .i64 p4, .slice P1 P2 P3, .int .i64 v0, .int .i64 v1, .string v2, .int .i64 v3, .int .i64 v4, .slice V1 V2 V3, .slice A3 body.length c3, .slice A4 els.length c4] 94)
  have h' := h.below hb1
  have hfr := MSt.fresh h hb1 (by rw [new_size]; omega)
  have HF1 := Lib.hid (Fr.of_below hb1 h.lt)
  obtain ⟨W, hW⟩ : ∃ W, w.alloc (.cells #[.int .i64 kind, .string (strB name), .int .i64 slot, .int .i64 size, .int .i64 p0, .int .i64 p1, .string p2, .int .i64 p3, .int .i64 p4, .slice P1 P2 P3, .int .i64 v0, .int .i64 v1, .string v2, .int .i64 v3, .int .i64 v4, .slice V1 V2 V3, .slice A3 body.length c3, .slice A4 els.length c4] 94) = W := ⟨_, rfl⟩
  obtain ⟨nb, hnb⟩ : ∃ x, w.heap.size = x := ⟨_, rfl⟩
  rw [hW] at hb1 hx h' HF1 hfr
  rw [hnb] at hx hfr
  have HX := Lib.hid hx
  have HI := Lib.hid hfr
  have HM := Lib.hid h'
  have hnW : nb < W.heap.size := lt_of_block hx
  have HP := Lib.hid (pay_some base mb n0 en r W HM.out hf0)
  have HIN : Hid (∀ W', Fr mb W W' → ExL (fun k => k < base) W' place [.int .i64 p0, .int .i64 p1, .string p2, .int .i64 p3, .int .i64 p4, .slice P1 P2 P3] ∧ ExL (fun k => k < base) W' value [.int .i64 v0, .int .i64 v1, .string v2, .int .i64 v3, .int .i64 v4, .slice V1 V2 V3] ∧ StSlice (fun k => k < base) W' body (.slice A3 body.length c3) ∧ StSlice (fun k => k < base) W' els (.slice A4 els.length c4)) := fun W' hf' => by
    have hst : Still (fun k => k < base) (fun k => k < base) w W' := fun k h1 h2 => ⟨h1, ((HM.out.bel hf').block k h1).trans (hb1.block k h2)⟩
    exact ⟨ExL.still hst place _ hp, ExL.still hst value _ hv, hbo.still hst, hel.still hst⟩
  have HL := Lib.hid hL
  have hpf : r.paid.fuel ≤ n := by simp only [RS.paid]; omega
  obtain ⟨r1, hr1⟩ : ∃ x, r.paid = x := ⟨_, rfl⟩
  rw [hr1] at HP hpf ⊢
  obtain ⟨T, hT⟩ : ∃ x, (if kind = 3 then listS (exec1 en n) (if valS r1.cells en value ≠ 0 then body else els) r1 else if kind = 4 then repW en n (.mk kind name slot size place value body els) value body r1 else (doS en kind slot size place value r1, true)) = x := ⟨_, rfl⟩
  rw [hT]
  clear hr1 hx hfr h' hb1 h hf hf0 he hp hv hbo hel hL
  go_enter Tryd.func83, Tryd.ntmps83
  go_wp2_with fail
  clear hW
  refine HP.out.mono ?_
  rintro e' w1 ⟨rfl, hm, hf⟩
  have HM1 := Lib.hid hm
  have HF2 := Lib.hid hf
  have HX1 : Hid (w1.heap[nb]? = some (.cells #[.int .i64 kind, .string (strB name), .int .i64 slot, .int .i64 size, .int .i64 p0, .int .i64 p1, .string p2, .int .i64 p3, .int .i64 p4, .slice P1 P2 P3, .int .i64 v0, .int .i64 v1, .string v2, .int .i64 v3, .int .i64 v4, .slice V1 V2 V3, .slice A3 body.length c3, .slice A4 els.length c4] 94 (0, 0))) := (hf.blk nb HI.out).1.trans HX.out
  have y0 : w1.cell? ⟨nb, 0, none⟩ = some (.int .i64 kind) := by rw [Lib.cell_of_heap HX1.out]; rfl
  have y1 : w1.cell? ⟨nb, 1, none⟩ = some (.string (strB name)) := by rw [Lib.cell_of_heap HX1.out]; rfl
  have y2 : w1.cell? ⟨nb, 2, none⟩ = some (.int .i64 slot) := by rw [Lib.cell_of_heap HX1.out]; rfl
  have y3 : w1.cell? ⟨nb, 3, none⟩ = some (.int .i64 size) := by rw [Lib.cell_of_heap HX1.out]; rfl
  have y4 : w1.cell? ⟨nb, 4, none⟩ = some (.int .i64 p0) := by rw [Lib.cell_of_heap HX1.out]; rfl
  have y5 : w1.cell? ⟨nb, 5, none⟩ = some (.int .i64 p1) := by rw [Lib.cell_of_heap HX1.out]; rfl
  have y6 : w1.cell? ⟨nb, 6, none⟩ = some (.string p2) := by rw [Lib.cell_of_heap HX1.out]; rfl
  have y7 : w1.cell? ⟨nb, 7, none⟩ = some (.int .i64 p3) := by rw [Lib.cell_of_heap HX1.out]; rfl
  have y8 : w1.cell? ⟨nb, 8, none⟩ = some (.int .i64 p4) := by rw [Lib.cell_of_heap HX1.out]; rfl
  have y9 : w1.cell? ⟨nb, 9, none⟩ = some (.slice P1 P2 P3) := by rw [Lib.cell_of_heap HX1.out]; rfl
  have y10 : w1.cell? ⟨nb, 10, none⟩ = some (.int .i64 v0) := by rw [Lib.cell_of_heap HX1.out]; rfl
  have y11 : w1.cell? ⟨nb, 11, none⟩ = some (.int .i64 v1) := by rw [Lib.cell_of_heap HX1.out]; rfl
  have y12 : w1.cell? ⟨nb, 12, none⟩ = some (.string v2) := by rw [Lib.cell_of_heap HX1.out]; rfl
  have y13 : w1.cell? ⟨nb, 13, none⟩ = some (.int .i64 v3) := by rw [Lib.cell_of_heap HX1.out]; rfl
  have y14 : w1.cell? ⟨nb, 14, none⟩ = some (.int .i64 v4) := by rw [Lib.cell_of_heap HX1.out]; rfl
  have y15 : w1.cell? ⟨nb, 15, none⟩ = some (.slice V1 V2 V3) := by rw [Lib.cell_of_heap HX1.out]; rfl
  have y16 : w1.cell? ⟨nb, 16, none⟩ = some (.slice A3 body.length c3) := by rw [Lib.cell_of_heap HX1.out]; rfl
  have y17 : w1.cell? ⟨nb, 17, none⟩ = some (.slice A4 els.length c4) := by rw [Lib.cell_of_heap HX1.out]; rfl
  have hnw1 : nb < w1.heap.size := lt_of_block HX1.out
  have HPO := Lib.hid (HIN.out w1 hf).1
  have HVA := Lib.hid (HIN.out w1 hf).2.1
  have HBO := Lib.hid (HIN.out w1 hf).2.2.1
  have HEL := Lib.hid (HIN.out w1 hf).2.2.2
  have HFW := Lib.hid (HF1.out.trans hf)
  have HBB := Lib.hid hbb
  have HBE := Lib.hid hbe
  have HPF := Lib.hid hpf
  clear hm hf hbb hbe hpf HP HIN
  by_cases hk3 : kind = 3
  · rw [if_pos hk3] at hT
    subst hk3
    have HC := Lib.hid (choose_any base mb n0 n en r1 w1 3 name slot size value body els p0 p1 p2 p3 p4 P1 P2 P3 v0 v1 v2 v3 v4 V1 V2 V3 A3 c3 A4 c4 (HL.out n (Nat.le_refl n)) HPF.out HM1.out HBB.out HBE.out HVA.out HBO.out HEL.out)
    obtain ⟨R, hR⟩ : ∃ x, listS (exec1 en n) (if valS r1.cells en value ≠ 0 then body else els) r1 = x := ⟨_, rfl⟩
    rw [hR] at HC hT
    subst hT
    clear hR y1 y2 y3 y4 y5 y6 y7 y8 y9 y10 y11 y12 y13 y14 y15 y16 y17
    go_wp2_with (refine wpList_load_row rfl 94 _ rfl nb rfl 94 _ (0, 0) _ HX1.out Tryd.underlying94 rfl (by kernel_rfl) ?_)
    refine HC.out.mono ?_
    intro e' w2 hd
    obtain ⟨⟨hR, rfl⟩ | ⟨hR, rfl⟩, hm, hf⟩ := done_cases hd
    · have HQ : Hid (Done base mb n0 en R w (.returned (.tuple #[])) w2) := ⟨by rw [if_pos hR], hm, HFW.out.trans hf⟩
      clear hd hR hm hf HC
      go_wp2_with fail
      exact bodyPost_end (results_none rfl _ _ _) rfl HQ.out
    · have HQ : Hid (Done base mb n0 en R w (.panicked [spent]) w2) := ⟨by rw [hR]; rfl, hm, HFW.out.trans hf⟩
      clear hd hR hm hf HC
      go_wp2_with fail
      exact ⟨rfl, HQ.out⟩
  rw [if_neg hk3] at hT
  by_cases hk4 : kind = 4
  · rw [if_pos hk4] at hT
    subst hk4
    have HC := Lib.hid (repeat_any base mb n0 n en r1 w1 4 name slot size place value body els p0 p1 p2 p3 p4 P1 P2 P3 v0 v1 v2 v3 v4 V1 V2 V3 A3 c3 A4 c4 rfl HL.out HPF.out HM1.out HBB.out HVA.out HBO.out)
    obtain ⟨R, hR⟩ : ∃ x, repW en n (.mk 4 name slot size place value body els) value body r1 = x := ⟨_, rfl⟩
    rw [hR] at HC hT
    subst hT
    clear hR hk3 y1 y2 y3 y4 y5 y6 y7 y8 y9 y10 y11 y12 y13 y14 y15 y16 y17
    go_wp2_with (refine wpList_load_row rfl 94 _ rfl nb rfl 94 _ (0, 0) _ HX1.out Tryd.underlying94 rfl (by kernel_rfl) ?_)
    refine HC.out.mono ?_
    intro e' w2 hd
    obtain ⟨⟨hR, rfl⟩ | ⟨hR, rfl⟩, hm, hf⟩ := done_cases hd
    · have HQ : Hid (Done base mb n0 en R w (.returned (.tuple #[])) w2) := ⟨by rw [if_pos hR], hm, HFW.out.trans hf⟩
      clear hd hR hm hf HC
      go_wp2_with fail
      exact bodyPost_end (results_none rfl _ _ _) rfl HQ.out
    · have HQ : Hid (Done base mb n0 en R w (.panicked [spent]) w2) := ⟨by rw [hR]; rfl, hm, HFW.out.trans hf⟩
      clear hd hR hm hf HC
      go_wp2_with fail
      exact ⟨rfl, HQ.out⟩
  rw [if_neg hk4] at hT
  obtain ⟨X, hX⟩ : ∃ x, valS r1.cells en place = x := ⟨_, rfl⟩
  obtain ⟨Y, hY⟩ : ∃ x, valS r1.cells en value = x := ⟨_, rfl⟩
  have HPV : Hid (∀ W', Below w1.heap.size w1 W' → Calls Tryd.prog 89 #[.pointer (some ⟨mb, 0, none⟩), .agg #[.int .i64 p0, .int .i64 p1, .string p2, .int .i64 p3, .int .i64 p4, .slice P1 P2 P3]] W' fun e' w' => e' = .returned (.int .i64 X) ∧ Below w1.heap.size w1 w') := fun W' hb => by
    have h1 := mvalue_any base mb n0 en r1 W' (HM1.out.below hb) place (fun k => k < base) p0 p1 p2 p3 p4 P1 P2 P3 (ExL.still (fun k h1 h2 => ⟨h1, hb.block k h2⟩) place _ HPO.out)
    rw [hX] at h1
    exact h1.mono fun e' w' ⟨he, hb'⟩ => ⟨he, hb.trans (hb'.mono hb.size)⟩
  have HVV : Hid (∀ W', Below w1.heap.size w1 W' → Calls Tryd.prog 89 #[.pointer (some ⟨mb, 0, none⟩), .agg #[.int .i64 v0, .int .i64 v1, .string v2, .int .i64 v3, .int .i64 v4, .slice V1 V2 V3]] W' fun e' w' => e' = .returned (.int .i64 Y) ∧ Below w1.heap.size w1 w') := fun W' hb => by
    have h1 := mvalue_any base mb n0 en r1 W' (HM1.out.below hb) value (fun k => k < base) v0 v1 v2 v3 v4 V1 V2 V3 (ExL.still (fun k h1 h2 => ⟨h1, hb.block k h2⟩) value _ HVA.out)
    rw [hY] at h1
    exact h1.mono fun e' w' ⟨he, hb'⟩ => ⟨he, hb.trans (hb'.mono hb.size)⟩
  have HMB : Hid (∀ W', Below w1.heap.size w1 W' → MSt base mb n0 en r1 W' ∧ Fr mb w1 W') := fun W' hb => ⟨HM1.out.below hb, (Fr.refl mb w1).down HM1.out.lt hb⟩
  have HFS : Hid (∀ w', Fr mb w1 w' → Fr mb w1 w' ∧ w'.cell? ⟨nb, 2, none⟩ = some (.int .i64 slot) ∧ w'.cell? ⟨nb, 3, none⟩ = some (.int .i64 size) ∧ w'.cell? ⟨nb, 4, none⟩ = some (.int .i64 p0) ∧ w'.cell? ⟨nb, 5, none⟩ = some (.int .i64 p1) ∧ w'.cell? ⟨nb, 6, none⟩ = some (.string p2) ∧ w'.cell? ⟨nb, 7, none⟩ = some (.int .i64 p3) ∧ w'.cell? ⟨nb, 8, none⟩ = some (.int .i64 p4) ∧ w'.cell? ⟨nb, 9, none⟩ = some (.slice P1 P2 P3) ∧ w'.cell? ⟨nb, 10, none⟩ = some (.int .i64 v0) ∧ w'.cell? ⟨nb, 11, none⟩ = some (.int .i64 v1) ∧ w'.cell? ⟨nb, 12, none⟩ = some (.string v2) ∧ w'.cell? ⟨nb, 13, none⟩ = some (.int .i64 v3) ∧ w'.cell? ⟨nb, 14, none⟩ = some (.int .i64 v4) ∧ w'.cell? ⟨nb, 15, none⟩ = some (.slice V1 V2 V3)) := fun w' hf => by
    have hx := (hf.blk nb (HF2.out.blk nb HI.out).2).1.trans HX1.out
    exact ⟨hf, by rw [Lib.cell_of_heap hx]; rfl, by rw [Lib.cell_of_heap hx]; rfl, by rw [Lib.cell_of_heap hx]; rfl, by rw [Lib.cell_of_heap hx]; rfl, by rw [Lib.cell_of_heap hx]; rfl, by rw [Lib.cell_of_heap hx]; rfl, by rw [Lib.cell_of_heap hx]; rfl, by rw [Lib.cell_of_heap hx]; rfl, by rw [Lib.cell_of_heap hx]; rfl, by rw [Lib.cell_of_heap hx]; rfl, by rw [Lib.cell_of_heap hx]; rfl, by rw [Lib.cell_of_heap hx]; rfl, by rw [Lib.cell_of_heap hx]; rfl, by rw [Lib.cell_of_heap hx]; rfl⟩
  have hs0 := HFS.out _ (HMB.out _ (below_drew1 w1)).2
  by_cases hk1 : kind = 1
  · have hd : doS en kind slot size place value r1 = r1.setC slot Y := by unfold doS; rw [if_pos hk1, hY]
    rw [hd] at hT
    have HT := Lib.hid hT
    subst hk1
    clear hX hY hd hk3 hk4 hT
    go_wp2_with fail
    go_region_held3 (fun w' => Fr mb w1 w' ∧ w'.cell? ⟨nb, 2, none⟩ = some (.int .i64 slot) ∧ w'.cell? ⟨nb, 3, none⟩ = some (.int .i64 size) ∧ w'.cell? ⟨nb, 4, none⟩ = some (.int .i64 p0) ∧ w'.cell? ⟨nb, 5, none⟩ = some (.int .i64 p1) ∧ w'.cell? ⟨nb, 6, none⟩ = some (.string p2) ∧ w'.cell? ⟨nb, 7, none⟩ = some (.int .i64 p3) ∧ w'.cell? ⟨nb, 8, none⟩ = some (.int .i64 p4) ∧ w'.cell? ⟨nb, 9, none⟩ = some (.slice P1 P2 P3) ∧ w'.cell? ⟨nb, 10, none⟩ = some (.int .i64 v0) ∧ w'.cell? ⟨nb, 11, none⟩ = some (.int .i64 v1) ∧ w'.cell? ⟨nb, 12, none⟩ = some (.string v2) ∧ w'.cell? ⟨nb, 13, none⟩ = some (.int .i64 v3) ∧ w'.cell? ⟨nb, 14, none⟩ = some (.int .i64 v4) ∧ w'.cell? ⟨nb, 15, none⟩ = some (.slice V1 V2 V3)) (assumption) (first
      | (go_at_call 89; ((with_reducible refine (HVV.out _ (below_drew1 w1)).mono ?_)); rintro e' w6 ⟨rfl, hb6⟩; have HB6 := Lib.hid hb6; have hs6 := HFS.out _ (HMB.out _ hb6).2; clear hb6)
      | (go_at_call 88; ((with_reducible refine (set_any base mb n0 en r1 _ slot Y (HMB.out _ HB6.out).1).mono ?_)); rintro e' w7 ⟨rfl, hm7, hf7⟩; have HM7 := Lib.hid hm7; have hs7 := HFS.out _ ((HMB.out _ HB6.out).2.trans hf7); clear hm7 hf7))
    have HF7 := Lib.hid (HFW.out.trans hs7.1)
    clear hs0 hs6 hs7
    go_wp2_with fail
    exact bodyPost_end (results_none rfl _ _ _) rfl (by rw [← HT.out]; exact ⟨rfl, HM7.out, HF7.out⟩)
  by_cases hk2 : kind = 2
  · have hd : doS en kind slot size place value r1 = (if 0 ≤ X ∧ X < size then r1.setC (wrap64 (slot + X)) Y else r1) := by unfold doS; rw [if_neg hk1, if_pos hk2, hX, hY]
    rw [hd] at hT
    have HT := Lib.hid hT
    subst hk2
    have HC := Lib.hid (store_any base mb n0 en r1 w1 (fun k => k < base) 2 name slot size place value body els p0 p1 p2 p3 p4 P1 P2 P3 v0 v1 v2 v3 v4 V1 V2 V3 A3 c3 A4 c4 HM1.out HPO.out HVA.out)
    rw [hX, hY] at HC
    clear hX hY hd hk3 hk4 hT hs0 HFS HPV HVV y1 y2 y3 y4 y5 y6 y7 y8 y9 y10 y11 y12 y13 y14 y15 y16 y17
    go_wp2_with (refine wpList_load_row rfl 94 _ rfl nb rfl 94 _ (0, 0) _ HX1.out Tryd.underlying94 rfl (by kernel_rfl) ?_)
    refine HC.out.mono ?_
    rintro e' w2 ⟨rfl, hm, hf⟩
    have HM2 := Lib.hid hm
    have HF2' := Lib.hid (HFW.out.trans hf)
    clear hm hf HC
    go_wp2_with fail
    exact bodyPost_end (results_none rfl _ _ _) rfl (by rw [← HT.out]; exact ⟨rfl, HM2.out, HF2'.out⟩)
  by_cases hk5 : kind = 5
  · have hd : doS en kind slot size place value r1 = (if 0 ≤ X ∧ X < en.procs ∧ X ≠ en.self then r1.eff (1, X, Y) else r1) := by unfold doS; rw [if_neg hk1, if_neg hk2, if_pos hk5, hX, hY]
    rw [hd] at hT
    have HT := Lib.hid hT
    subst hk5
    clear hX hY hd hk3 hk4 hk1 hk2 hT
    go_wp2_with fail
    go_region_held3 (fun w' => Fr mb w1 w' ∧ w'.cell? ⟨nb, 2, none⟩ = some (.int .i64 slot) ∧ w'.cell? ⟨nb, 3, none⟩ = some (.int .i64 size) ∧ w'.cell? ⟨nb, 4, none⟩ = some (.int .i64 p0) ∧ w'.cell? ⟨nb, 5, none⟩ = some (.int .i64 p1) ∧ w'.cell? ⟨nb, 6, none⟩ = some (.string p2) ∧ w'.cell? ⟨nb, 7, none⟩ = some (.int .i64 p3) ∧ w'.cell? ⟨nb, 8, none⟩ = some (.int .i64 p4) ∧ w'.cell? ⟨nb, 9, none⟩ = some (.slice P1 P2 P3) ∧ w'.cell? ⟨nb, 10, none⟩ = some (.int .i64 v0) ∧ w'.cell? ⟨nb, 11, none⟩ = some (.int .i64 v1) ∧ w'.cell? ⟨nb, 12, none⟩ = some (.string v2) ∧ w'.cell? ⟨nb, 13, none⟩ = some (.int .i64 v3) ∧ w'.cell? ⟨nb, 14, none⟩ = some (.int .i64 v4) ∧ w'.cell? ⟨nb, 15, none⟩ = some (.slice V1 V2 V3)) (assumption) (first
      | (go_at_call 89; ((with_reducible refine (HPV.out _ (below_drew1 w1)).mono ?_)); rintro e' w6 ⟨rfl, hb6⟩; have HB6 := Lib.hid hb6; have hs6 := HFS.out _ (HMB.out _ hb6).2; clear hb6)
      | (go_at_call 89; ((with_reducible refine (HVV.out _ HB6.out).mono ?_)); rintro e' w7 ⟨rfl, hb7⟩; have HB7 := Lib.hid hb7; have hs7 := HFS.out _ (HMB.out _ hb7).2; clear hb7)
      | (go_at_call 93; ((with_reducible refine (put_any base mb n0 en r1 _ X Y (HMB.out _ HB7.out).1).mono ?_)); rintro e' w8 ⟨rfl, hm8, hf8⟩; have HM8 := Lib.hid hm8; have hs8 := HFS.out _ ((HMB.out _ HB7.out).2.trans hf8); clear hm8 hf8))
    have HF8 := Lib.hid (HFW.out.trans hs8.1)
    clear hs0 hs6 hs7 hs8
    go_wp2_with fail
    exact bodyPost_end (results_none rfl _ _ _) rfl (by rw [← HT.out]; exact ⟨rfl, HM8.out, HF8.out⟩)
  by_cases hk6 : kind = 6
  · have hd : doS en kind slot size place value r1 = r1.eff (2, 0, Y) := by unfold doS; rw [if_neg hk1, if_neg hk2, if_neg hk5, if_pos hk6, hY]
    rw [hd] at hT
    have HT := Lib.hid hT
    subst hk6
    clear hX hY hd hk3 hk4 hk1 hk2 hk5 hT hs0 HFS HPV
    go_wp2_with fail
    refine (HVV.out _ (Below.refl _ _)).mono ?_
    rintro e' w2 ⟨rfl, hb⟩
    have HMB2 := Lib.hid (HMB.out _ hb)
    clear hb y1 y2 y3 y4 y5 y6 y7 y8 y9 y10 y11 y12 y13 y14 y15 y16 y17
    go_wp2_with fail
    refine (effect_any base mb n0 en r1 _ 2 0 Y HMB2.out.1).mono ?_
    rintro e' w3 ⟨rfl, hm, hf⟩
    have HM3 := Lib.hid hm
    have HF3 := Lib.hid (HFW.out.trans (HMB2.out.2.trans hf))
    clear hm hf
    go_wp2_with fail
    exact bodyPost_end (results_none rfl _ _ _) rfl (by rw [← HT.out]; exact ⟨rfl, HM3.out, HF3.out⟩)
  have hd : doS en kind slot size place value r1 = r1 := by unfold doS; rw [if_neg hk1, if_neg hk2, if_neg hk5, if_neg hk6]
  rw [hd] at hT
  have HT := Lib.hid hT
  have q1 : (kind == 1) = false := by simpa using hk1
  have q2 : (kind == 2) = false := by simpa using hk2
  have q3 : (kind == 3) = false := by simpa using hk3
  have q4 : (kind == 4) = false := by simpa using hk4
  have q5 : (kind == 5) = false := by simpa using hk5
  have q6 : (kind == 6) = false := by simpa using hk6
  clear hX hY hd hk3 hk4 hk1 hk2 hk5 hk6 hT hs0 HFS HPV HVV y1 y2 y3 y4 y5 y6 y7 y8 y9 y10 y11 y12 y13 y14 y15 y16 y17
  go_wp2_with fail
  exact bodyPost_end (results_none rfl _ _ _) rfl (by rw [← HT.out]; exact ⟨rfl, HM1.out, HFW.out⟩)

theorem statement_all (n : Nat) (en : En) (hL : ∀ m, m + 1 ≤ n → LstC en m) : StmC en n := by
  intro s r hf hbig base mb n0 w cs h hs
  cases s with
  | mk kind name slot size place value body els =>
  simp only [St.big] at hbig
  have hs0 := hs
  simp only [StL] at hs
  obtain ⟨cp, cv, A3, c3, A4, c4, rfl, hp, hv, h3, h4, h5, h6⟩ := hs
  obtain ⟨p0, p1, p2, p3, p4, P1, P2, P3, rfl⟩ := hp.plain
  obtain ⟨v0, v1, v2, v3, v4, V1, V2, V3, rfl⟩ := hv.plain
  by_cases hz : r.fuel = 0
  · exact statement_zero base mb n0 n en r w kind name slot size place value body els p0 p1 p2 p3 p4 P1 P2 P3 v0 v1 v2 v3 v4 V1 V2 V3 A3 c3 A4 c4 hz h
  · cases n with
    | zero => omega
    | succ n =>
      exact statement_step n en (fun m hm => hL m (by omega)) base mb n0 r w kind name slot size place value body els p0 p1 p2 p3 p4 P1 P2 P3 v0 v1 v2 v3 v4 V1 V2 V3 A3 c3 A4 c4 hf hz (by omega) (by omega) h hp hv ⟨A3, c3, rfl, h3, h5⟩ ⟨A4, c4, rfl, h4, h6⟩

set_option maxHeartbeats 4000000 in
set_option maxRecDepth 100000 in
theorem list_step (n : Nat) (en : En) (hS : StmC en n) : LstC en n := by
  intro ls r hf hbig base mb n0 w A len c h hl
  obtain ⟨A', c', e1, hc, hr⟩ := hl
  simp only [Value.slice.injEq] at e1
  obtain ⟨rfl, rfl, rfl⟩ := e1
  have hlq : ls.length ≤ 100000 := by have := St.len_big ls; omega
  have HR := Lib.hid hr
  have HD := Lib.hid hbig
  have HS := Lib.hid hS
  have HM := Lib.hid h
  obtain ⟨m, hm⟩ : ∃ x, ls.length = x := ⟨_, rfl⟩
  have HLN := Lib.hid hm
  obtain ⟨R, hR⟩ : ∃ x, listS (exec1 en n) ls r = x := ⟨_, rfl⟩
  rw [hm] at hlq ⊢
  rw [hR]
  have HRR : Hid (listS (exec1 en n) (ls.drop 0) r = R) := by rw [List.drop_zero]; exact hR
  clear hr hm h hc hbig hS hR
  go_enter Tryd.func77, Tryd.ntmps77
  go_wp2_with fail
  go_loopg [8] m (fun g i wr => ∃ (k : Nat) (r' : RS), k + g = m ∧ i = .int .i64 k ∧ r'.fuel ≤ n ∧ Hid (MSt base mb n0 en r' wr) ∧ Hid (Fr mb w wr) ∧ Hid (listS (exec1 en n) (ls.drop k) r' = R))
  case atStart => exact ⟨0, r, by omega, rfl, hf, HM, Fr.refl _ _, HRR⟩
  case round =>
    obtain ⟨k, r', hkg, rfl, hf', HM', HF', HR'⟩ := hrel
    cases gk with
    | zero =>
      have hge : m ≤ k := by omega
      have HQ : Hid (Done base mb n0 en R w (.returned (.tuple #[])) wr) := by
        have e := HR'.out
        rw [List.drop_eq_nil_of_le (by have := HLN.out; omega)] at e
        simp only [listS] at e
        subst e
        exact ⟨rfl, HM'.out, HF'.out⟩
      clear hkg hf hf'
      go_wp2_with fail
      exact bodyPost_end (results_none rfl _ _ _) rfl HQ.out
    | succ g =>
      have hlt : k < m := by omega
      have HG := Lib.hid hkg
      clear hkg
      obtain ⟨e1, he1⟩ : ∃ e1, ls[k]? = some e1 := ⟨_, List.getElem?_eq_getElem (by have := HLN.out; omega)⟩
      have hbg := St.big_at ls k e1 he1
      have HDR : Hid (ls.drop k = e1 :: ls.drop (k + 1)) := by
        show _ = _
        obtain ⟨hk, he⟩ := List.getElem?_eq_some_iff.1 he1
        rw [← he]
        exact List.drop_eq_getElem_cons hk
      obtain ⟨bb, o, rfl, hSb, hrow⟩ := HR.out (fun e => by have := HLN.out; rw [e] at this; simp at this; omega)
      obtain ⟨cs, hcs, hex⟩ := StRow.get ls bb o k e1 hrow he1
      have hbW := HM.out.bel HF'.out
      have HRG : Hid (wr.rangeAt bb (o + k * 18) cs) := fun j v hv => (hbW.cell (p := ⟨bb, _, none⟩) hSb).trans (hcs j v hv)
      have HX := Lib.hid hex
      have HEX : Hid (∀ W, Below wr.heap.size wr W → StL (fun k => k < base) W e1 cs) := fun W hb => StL.still (fun k h1 h2 => ⟨h1, (hb.block k (by have := HM'.out.lo; have := HM'.out.lt; omega)).trans (hbW.block k h1)⟩) e1 _ hex
      have HBG : Hid (e1.big ≤ 100000) := by show _ ≤ _; have := HD.out; omega
      have HFU := Lib.hid hf'
      clear hcs hrow he1 hex hbg hbW hSb hf' hf
      go_upto_region 3 with (first | (refine wpList_load_mid rfl 94 _ rfl bb (o + k * 18) rfl _ _ HRG.out Tryd.underlying94 rfl HX.out.info ?_) | (refine wpList_store_row rfl 94 _ _ rfl wr.heap.size _ rfl rfl _ _ (new_blk wr stZ) HX.out.info HX.out.size18 HX.out.one ?_))
      have h5 : ((wr.alloc stZ).setRow wr.heap.size cs.toArray).heap[wr.heap.size]? = some (.cells cs.toArray 94 (0, 0)) := setRow_same (new_blk wr stZ)
      have HB5 : Hid (Below wr.heap.size wr ((wr.alloc stZ).setRow wr.heap.size cs.toArray)) := by
        have h1 := (Below.refl wr.heap.size wr).alloc (Nat.le_refl _) stZ
        exact ⟨h1.os, h1.tape, h1.output, by simp, fun k hk => (setRow_blk (wr.alloc stZ) wr.heap.size _ (by omega)).trans (h1.block k hk)⟩
      obtain ⟨w5, hw5⟩ : ∃ x, (wr.alloc stZ).setRow wr.heap.size cs.toArray = x := ⟨_, rfl⟩
      rw [hw5] at h5 HB5 ⊢
      clear hw5
      have H5 := Lib.hid h5
      have HC := Lib.hid (HS.out e1 r' HFU.out HBG.out base mb n0 w5 cs (HM'.out.below HB5.out) (HEX.out w5 HB5.out))
      have HF5 := Lib.hid (HF'.out.down HM'.out.lt HB5.out)
      clear h5
      go_wp2_with (refine wpList_load_row rfl 94 _ rfl wr.heap.size rfl 94 _ (0, 0) _ H5.out Tryd.underlying94 rfl HX.out.info ?_)
      refine HC.out.mono ?_
      intro e' w6 hd
      have HRR2 := HR'.out
      rw [HDR.out] at HRR2
      simp only [listS] at HRR2
      obtain ⟨⟨hb, rfl⟩ | ⟨hb, rfl⟩, hm, hf⟩ := done_cases hd
      · have HM6 := Lib.hid hm
        have HF6 := Lib.hid (HF5.out.trans hf)
        have HQ : Hid (listS (exec1 en n) (ls.drop (k + 1)) (exec1 en n e1 r').1 = R) := by
          show _ = _
          obtain ⟨r2, b2, hlr⟩ : ∃ r2 b2, exec1 en n e1 r' = (r2, b2) := ⟨_, _, rfl⟩
          rw [hlr] at HRR2 hb ⊢
          simp only at hb
          subst hb
          exact HRR2
        have HFL : Hid ((exec1 en n e1 r').1.fuel ≤ n) := Nat.le_trans (exec1_le en n e1 r').fuel HFU.out
        clear hd hb hm hf HC HRR2
        go_wp2_with fail
        go_roundg g
        case rel => exact ⟨k + 1, _, by have := HG.out; omega, by go_num, HFL.out, HM6, HF6, HQ⟩
        case measure => omega
      · have HQ : Hid (Done base mb n0 en R w (.panicked [spent]) w6) := by
          obtain ⟨r2, b2, hlr⟩ : ∃ r2 b2, exec1 en n e1 r' = (r2, b2) := ⟨_, _, rfl⟩
          rw [hlr] at HRR2 hb hm
          simp only at hb hm
          subst hb
          simp only at HRR2
          subst HRR2
          exact ⟨rfl, hm, HF5.out.trans hf⟩
        clear hd hb hm hf HC HRR2
        go_wp2_with fail
        exact ⟨rfl, HQ.out⟩

theorem list_all (en : En) (n : Nat) : LstC en n := by
  induction n using Nat.strongRecOn with
  | ind n ih => exact list_step n en (statement_all n en fun m hm => ih m (by omega))
end Go.Proofs.YtgblgkkbggdopaaDoor

/-
  Slices of structs of ints, and what slices.Clone returns of them (gens47.py writes this text). Condition: fewer than 2^40 elements.
-/
namespace Go.Proofs.YtgblgkkbggdopaaDoor
open Go.RowKit

/-- A slice of elements of k cells reads as cs. -/
def RwAt (w : World) (k : Nat) (cs : List Value) (A : Option Addr) (n : Nat) : Prop := cs.length = n * k ∧ (0 < n → ∃ b o, A = some ⟨b, o, none⟩ ∧ CellsAt w b o cs)
theorem RwAt.below {w w' : World} {k n : Nat} {cs : List Value} {A : Option Addr} (hk : 0 < k) (h : RwAt w k cs A n) (hb : Below w.heap.size w w') : RwAt w' k cs A n := by
  refine ⟨h.1, fun h0 => ?_⟩
  obtain ⟨b, o, hA, hc⟩ := h.2 h0
  have hl : 0 < cs.length := by rw [h.1]; exact Nat.mul_pos h0 hk
  obtain ⟨v, r, e⟩ := List.exists_cons_of_length_pos hl
  have : b < w.heap.size := by rw [e] at hc; exact hc.lt
  exact ⟨b, o, hA, hc.of_block (hb.block b this)⟩
/-- The same with blocks below B alone. -/
theorem RwAt.own {w : World} {base k n c : Nat} {T : TypeId} {A : Option Addr} {cs : List Value} (h : w.ownsRow base T k (.slice A n c) n cs) : RwAt w k cs A n := by
  refine ⟨h.1, fun h0 => ?_⟩
  rcases h.2 with ⟨_, e⟩ | ⟨g, cap, cur, e, _⟩
  · omega
  · injection e with e1 _ e3
    subst e1 e3
    refine ⟨g, 0, rfl, fun j u hj => ?_⟩
    have := h.cells (g := g) rfl j u hj
    rwa [Addr.add_lit] at this
/-- The cells of rows of ints. -/
def rowC (rows : List (List Int)) : List Value := rows.flatMap fun r => r.map (Value.int .i64)
theorem rowC_one (rows : List (List Int)) : ∀ u ∈ rowC rows, u.oneCell' = true := by
  intro u hu
  obtain ⟨r, _, hu⟩ := List.mem_flatMap.1 hu
  obtain ⟨x, _, rfl⟩ := List.mem_map.1 hu
  rfl
theorem rowC_snoc (rows : List (List Int)) (r : List Int) : rowC (rows ++ [r]) = rowC rows ++ r.map (Value.int .i64) := by simp [rowC]
theorem rowC_cons (rows : List (List Int)) (r : List Int) : rowC (r :: rows) = r.map (Value.int .i64) ++ rowC rows := by simp [rowC]
theorem rowC_len (k : Nat) : ∀ (rows : List (List Int)), (∀ r ∈ rows, r.length = k) → (rowC rows).length = rows.length * k
  | [], _ => by simp [rowC]
  | r :: l, h => by
    rw [rowC_cons, List.length_append, List.length_map, h r (List.mem_cons_self ..), rowC_len k l (fun x hx => h x (List.mem_cons_of_mem _ hx)), List.length_cons, Nat.add_mul]
    omega
theorem ints_one (xs : List Int) : ∀ u ∈ xs.map (Value.int .i64), u.oneCell' = true := by
  intro u hu
  obtain ⟨x, _, rfl⟩ := List.mem_map.1 hu
  rfl
/-- Row i of rows of k ints. -/
theorem rowC_at (k : Nat) : ∀ (rows : List (List Int)) (i j : Nat) (r : List Int) (x : Int), (∀ r ∈ rows, r.length = k) → rows[i]? = some r → r[j]? = some x → (rowC rows)[i * k + j]? = some (.int .i64 x)
  | [], _, _, _, _, _, h, _ => by simp at h
  | a :: l, 0, j, r, x, hk, h, hx => by
    simp only [List.getElem?_cons_zero, Option.some.injEq] at h
    subst h
    rw [rowC_cons, Nat.zero_mul, Nat.zero_add, List.getElem?_append_left (by rw [List.length_map]; exact (List.getElem?_eq_some_iff.1 hx).1), List.getElem?_map, hx]
    rfl
  | a :: l, i + 1, j, r, x, hk, h, hx => by
    simp only [List.getElem?_cons_succ] at h
    have ha := hk a (List.mem_cons_self ..)
    rw [rowC_cons, List.getElem?_append_right (by rw [List.length_map, ha, Nat.add_mul]; omega), List.length_map, ha, show (i + 1) * k + j - k = i * k + j by rw [Nat.add_mul]; omega]
    exact rowC_at k l i j r x (fun y hy => hk y (List.mem_cons_of_mem _ hy)) h hx
/-- A row of a slice of rows. -/
theorem RwAt.row {w : World} {k : Nat} {rows : List (List Int)} {A : Option Addr} {n : Nat} (h : RwAt w k (rowC rows) A n) (hk : ∀ r ∈ rows, r.length = k) (hn : n = rows.length) {b o i : Nat} (hA : A = some ⟨b, o, none⟩) {r : List Int} (hi : rows[i]? = some r) : ∀ j x, r[j]? = some x → w.cell? ⟨b, o + i * k + j, none⟩ = some (.int .i64 x) := by
  intro j x hx
  have hlt := (List.getElem?_eq_some_iff.1 hi).1
  obtain ⟨b', o', hA', hc⟩ := h.2 (by omega)
  rw [hA] at hA'
  injection hA' with e
  injection e with e1 e2
  subst e1 e2
  have := hc _ _ (rowC_at k rows i j r x hk hi hx)
  rwa [← Nat.add_assoc] at this

theorem info_ints : (Tryd.prog.info? 3).map (fun i => (i.zero, i.size, i.bytes)) = some (some (.int .i64 0), 1, 8) := by kernel_rfl
set_option maxHeartbeats 2000000 in
set_option maxRecDepth 100000 in
theorem clone_ints (cs : List Value) (A : Option Addr) (n c : Nat) (w : World) (h : RwAt w 1 cs A n) (h1 : ∀ u ∈ cs, u.oneCell' = true) (hn : n ≤ 1000000000) :
    Calls Tryd.prog 67 #[.slice A n c] w fun e w' => ∃ A' c', e = .returned (.slice A' n c') ∧ w'.ownsRow w.heap.size 3 1 (.slice A' n c') n cs ∧ Below w.heap.size w w' := by
  have q : ∀ (w : World) (a : Option Addr) (n c n' c' : Nat), (binOp .eql 26 (.slice a n c) (.slice none n' c')).run Tryd.prog w = .ok (.bool a.isNone) w := fun w a n c n' c' => Lib.run_eql_slice_nil w _ _ a n c n' c' Tryd.underlying26
  have u : ∀ w, Sem.run Tryd.prog (underlying 26) w = .ok (TypeDesc.slice 3) w := run_underlying Tryd.underlying26
  obtain ⟨i0, hi, hz0, hz1, hz2⟩ := info_parts info_ints
  have HI := Lib.hid hi
  have HI0 := Lib.hid hz0
  have HI1 := Lib.hid hz1
  have HI2 := Lib.hid hz2
  have H := Lib.hid h
  have H1 := Lib.hid h1
  clear hi hz0 hz1 hz2 h h1
  cases A with
  | none =>
    have h0 : n = 0 := by
      rcases Nat.eq_zero_or_pos n with h | h
      · exact h
      · obtain ⟨_, _, e, _⟩ := H.out.2 h
        cases e
    subst h0
    have hc : cs = [] := List.eq_nil_of_length_eq_zero (by have := H.out.1; omega)
    subst hc
    clear hn
    go_enter Tryd.func67, Tryd.ntmps67
    go_wp2_with fail
    go_ret
    exact ⟨none, 0, rfl, World.ownsRow_nil _ _ _ _, Below.refl _ _⟩
  | some ad =>
    have HC : Hid (∀ (W : World), (∀ k, k < w.heap.size → W.heap[k]? = w.heap[k]?) → ∀ j u, cs[j]? = some u → W.cell? (ad.add j) = some u) := fun W hW j u hj => by
      have hjl := (List.getElem?_eq_some_iff.1 hj).1
      rw [H.out.1] at hjl
      have h0 : 0 < n := Nat.pos_of_ne_zero (fun e => by subst e; omega)
      obtain ⟨b, o, e, hc⟩ := H.out.2 h0
      injection e with e
      subst e
      have hx := hc j u hj
      rw [Addr.add_lit]
      exact (World.cell?_of_block (w := w) (a := ⟨b, o + j, none⟩) (hW b (World.block_lt_of_cell? w _ hx))).trans hx
    have HL := Lib.hid H.out.1
    have hn1 := Lib.hid hn
    clear H hn
    go_enter Tryd.func67, Tryd.ntmps67
    go_wp2_with (at_builtin; refine wpList_append_own _ rfl _ _ 26 rfl w.heap.size 3 i0 (.int .i64 0) 1 8 Tryd.underlying26 HI.out HI0.out HI1.out HI2.out rfl (by decide) _ _ _ rfl (World.ownsRow_made w #[] 0 (Nat.le_refl _) (Nat.zero_le _) rfl) ad n c cs rfl HL.out ?qc2 H1.out ?qc4 ?qc5 ?qc6 ?_)
    case qc2 => exact HC.out _ (fun k hk => alloc_blk w _ hk)
    case qc4 => have := hn1.out; unfold maxLen; omega
    case qc5 => have := hn1.out; omega
    case qc6 => simp
    intro v' w1 hown hgrow hnil
    obtain ⟨A', c', rfl⟩ := own_slice hown
    have HO := Lib.hid hown
    have HG := Lib.hid hgrow
    clear hown hgrow hnil
    go_wp2_with fail
    go_ret
    refine ⟨A', c', by simp, by simpa using HO.out, ?_⟩
    exact ((Below.refl _ w).alloc (Nat.le_refl _) _).grown HG.out (by simp) (by intro k hk; simp [Value.ownBlock] at hk; omega)

theorem info_evs : (Tryd.prog.info? 42).map (fun i => (i.zero, i.size, i.bytes)) = some (some (.agg #[.int .i64 0, .int .i64 0, .int .i64 0, .int .i64 0, .int .i64 0, .int .i64 0, .int .i64 0]), 7, 56) := by kernel_rfl
set_option maxHeartbeats 2000000 in
set_option maxRecDepth 100000 in
theorem clone_evs (cs : List Value) (A : Option Addr) (n c : Nat) (w : World) (h : RwAt w 7 cs A n) (h1 : ∀ u ∈ cs, u.oneCell' = true) (hn : n ≤ 1000000000) :
    Calls Tryd.prog 39 #[.slice A n c] w fun e w' => ∃ A' c', e = .returned (.slice A' n c') ∧ w'.ownsRow w.heap.size 42 7 (.slice A' n c') n cs ∧ Below w.heap.size w w' := by
  have q : ∀ (w : World) (a : Option Addr) (n c n' c' : Nat), (binOp .eql 31 (.slice a n c) (.slice none n' c')).run Tryd.prog w = .ok (.bool a.isNone) w := fun w a n c n' c' => Lib.run_eql_slice_nil w _ _ a n c n' c' Tryd.underlying31
  have u : ∀ w, Sem.run Tryd.prog (underlying 31) w = .ok (TypeDesc.slice 42) w := run_underlying Tryd.underlying31
  obtain ⟨i0, hi, hz0, hz1, hz2⟩ := info_parts info_evs
  have HI := Lib.hid hi
  have HI0 := Lib.hid hz0
  have HI1 := Lib.hid hz1
  have HI2 := Lib.hid hz2
  have H := Lib.hid h
  have H1 := Lib.hid h1
  clear hi hz0 hz1 hz2 h h1
  cases A with
  | none =>
    have h0 : n = 0 := by
      rcases Nat.eq_zero_or_pos n with h | h
      · exact h
      · obtain ⟨_, _, e, _⟩ := H.out.2 h
        cases e
    subst h0
    have hc : cs = [] := List.eq_nil_of_length_eq_zero (by have := H.out.1; omega)
    subst hc
    clear hn
    go_enter Tryd.func39, Tryd.ntmps39
    go_wp2_with fail
    go_ret
    exact ⟨none, 0, rfl, World.ownsRow_nil _ _ _ _, Below.refl _ _⟩
  | some ad =>
    have HC : Hid (∀ (W : World), (∀ k, k < w.heap.size → W.heap[k]? = w.heap[k]?) → ∀ j u, cs[j]? = some u → W.cell? (ad.add j) = some u) := fun W hW j u hj => by
      have hjl := (List.getElem?_eq_some_iff.1 hj).1
      rw [H.out.1] at hjl
      have h0 : 0 < n := Nat.pos_of_ne_zero (fun e => by subst e; omega)
      obtain ⟨b, o, e, hc⟩ := H.out.2 h0
      injection e with e
      subst e
      have hx := hc j u hj
      rw [Addr.add_lit]
      exact (World.cell?_of_block (w := w) (a := ⟨b, o + j, none⟩) (hW b (World.block_lt_of_cell? w _ hx))).trans hx
    have HL := Lib.hid H.out.1
    have hn1 := Lib.hid hn
    clear H hn
    go_enter Tryd.func39, Tryd.ntmps39
    go_wp2_with (at_builtin; refine wpList_append_own _ rfl _ _ 31 rfl w.heap.size 42 i0 (.agg #[.int .i64 0, .int .i64 0, .int .i64 0, .int .i64 0, .int .i64 0, .int .i64 0, .int .i64 0]) 7 56 Tryd.underlying31 HI.out HI0.out HI1.out HI2.out rfl (by decide) _ _ _ rfl (World.ownsRow_made w #[] 0 (Nat.le_refl _) (Nat.zero_le _) rfl) ad n c cs rfl HL.out ?qc2 H1.out ?qc4 ?qc5 ?qc6 ?_)
    case qc2 => exact HC.out _ (fun k hk => alloc_blk w _ hk)
    case qc4 => have := hn1.out; unfold maxLen; omega
    case qc5 => have := hn1.out; omega
    case qc6 => simp
    intro v' w1 hown hgrow hnil
    obtain ⟨A', c', rfl⟩ := own_slice hown
    have HO := Lib.hid hown
    have HG := Lib.hid hgrow
    clear hown hgrow hnil
    go_wp2_with fail
    go_ret
    refine ⟨A', c', by simp, by simpa using HO.out, ?_⟩
    exact ((Below.refl _ w).alloc (Nat.le_refl _) _).grown HG.out (by simp) (by intro k hk; simp [Value.ownBlock] at hk; omega)

theorem info_sends : (Tryd.prog.info? 64).map (fun i => (i.zero, i.size, i.bytes)) = some (some (.agg #[.int .i64 0, .int .i64 0, .int .i64 0, .int .i64 0]), 4, 32) := by kernel_rfl
set_option maxHeartbeats 2000000 in
set_option maxRecDepth 100000 in
theorem clone_sends (cs : List Value) (A : Option Addr) (n c : Nat) (w : World) (h : RwAt w 4 cs A n) (h1 : ∀ u ∈ cs, u.oneCell' = true) (hn : n ≤ 1000000000) :
    Calls Tryd.prog 40 #[.slice A n c] w fun e w' => ∃ A' c', e = .returned (.slice A' n c') ∧ w'.ownsRow w.heap.size 64 4 (.slice A' n c') n cs ∧ Below w.heap.size w w' := by
  have q : ∀ (w : World) (a : Option Addr) (n c n' c' : Nat), (binOp .eql 33 (.slice a n c) (.slice none n' c')).run Tryd.prog w = .ok (.bool a.isNone) w := fun w a n c n' c' => Lib.run_eql_slice_nil w _ _ a n c n' c' Tryd.underlying33
  have u : ∀ w, Sem.run Tryd.prog (underlying 33) w = .ok (TypeDesc.slice 64) w := run_underlying Tryd.underlying33
  obtain ⟨i0, hi, hz0, hz1, hz2⟩ := info_parts info_sends
  have HI := Lib.hid hi
  have HI0 := Lib.hid hz0
  have HI1 := Lib.hid hz1
  have HI2 := Lib.hid hz2
  have H := Lib.hid h
  have H1 := Lib.hid h1
  clear hi hz0 hz1 hz2 h h1
  cases A with
  | none =>
    have h0 : n = 0 := by
      rcases Nat.eq_zero_or_pos n with h | h
      · exact h
      · obtain ⟨_, _, e, _⟩ := H.out.2 h
        cases e
    subst h0
    have hc : cs = [] := List.eq_nil_of_length_eq_zero (by have := H.out.1; omega)
    subst hc
    clear hn
    go_enter Tryd.func40, Tryd.ntmps40
    go_wp2_with fail
    go_ret
    exact ⟨none, 0, rfl, World.ownsRow_nil _ _ _ _, Below.refl _ _⟩
  | some ad =>
    have HC : Hid (∀ (W : World), (∀ k, k < w.heap.size → W.heap[k]? = w.heap[k]?) → ∀ j u, cs[j]? = some u → W.cell? (ad.add j) = some u) := fun W hW j u hj => by
      have hjl := (List.getElem?_eq_some_iff.1 hj).1
      rw [H.out.1] at hjl
      have h0 : 0 < n := Nat.pos_of_ne_zero (fun e => by subst e; omega)
      obtain ⟨b, o, e, hc⟩ := H.out.2 h0
      injection e with e
      subst e
      have hx := hc j u hj
      rw [Addr.add_lit]
      exact (World.cell?_of_block (w := w) (a := ⟨b, o + j, none⟩) (hW b (World.block_lt_of_cell? w _ hx))).trans hx
    have HL := Lib.hid H.out.1
    have hn1 := Lib.hid hn
    clear H hn
    go_enter Tryd.func40, Tryd.ntmps40
    go_wp2_with (at_builtin; refine wpList_append_own _ rfl _ _ 33 rfl w.heap.size 64 i0 (.agg #[.int .i64 0, .int .i64 0, .int .i64 0, .int .i64 0]) 4 32 Tryd.underlying33 HI.out HI0.out HI1.out HI2.out rfl (by decide) _ _ _ rfl (World.ownsRow_made w #[] 0 (Nat.le_refl _) (Nat.zero_le _) rfl) ad n c cs rfl HL.out ?qc2 H1.out ?qc4 ?qc5 ?qc6 ?_)
    case qc2 => exact HC.out _ (fun k hk => alloc_blk w _ hk)
    case qc4 => have := hn1.out; unfold maxLen; omega
    case qc5 => have := hn1.out; omega
    case qc6 => simp
    intro v' w1 hown hgrow hnil
    obtain ⟨A', c', rfl⟩ := own_slice hown
    have HO := Lib.hid hown
    have HG := Lib.hid hgrow
    clear hown hgrow hnil
    go_wp2_with fail
    go_ret
    refine ⟨A', c', by simp, by simpa using HO.out, ?_⟩
    exact ((Below.refl _ w).alloc (Nat.le_refl _) _).grown HG.out (by simp) (by intro k hk; simp [Value.ownBlock] at hk; omega)

theorem info_outs : (Tryd.prog.info? 66).map (fun i => (i.zero, i.size, i.bytes)) = some (some (.agg #[.int .i64 0, .int .i64 0]), 2, 16) := by kernel_rfl
set_option maxHeartbeats 2000000 in
set_option maxRecDepth 100000 in
theorem clone_outs (cs : List Value) (A : Option Addr) (n c : Nat) (w : World) (h : RwAt w 2 cs A n) (h1 : ∀ u ∈ cs, u.oneCell' = true) (hn : n ≤ 1000000000) :
    Calls Tryd.prog 41 #[.slice A n c] w fun e w' => ∃ A' c', e = .returned (.slice A' n c') ∧ w'.ownsRow w.heap.size 66 2 (.slice A' n c') n cs ∧ Below w.heap.size w w' := by
  have q : ∀ (w : World) (a : Option Addr) (n c n' c' : Nat), (binOp .eql 34 (.slice a n c) (.slice none n' c')).run Tryd.prog w = .ok (.bool a.isNone) w := fun w a n c n' c' => Lib.run_eql_slice_nil w _ _ a n c n' c' Tryd.underlying34
  have u : ∀ w, Sem.run Tryd.prog (underlying 34) w = .ok (TypeDesc.slice 66) w := run_underlying Tryd.underlying34
  obtain ⟨i0, hi, hz0, hz1, hz2⟩ := info_parts info_outs
  have HI := Lib.hid hi
  have HI0 := Lib.hid hz0
  have HI1 := Lib.hid hz1
  have HI2 := Lib.hid hz2
  have H := Lib.hid h
  have H1 := Lib.hid h1
  clear hi hz0 hz1 hz2 h h1
  cases A with
  | none =>
    have h0 : n = 0 := by
      rcases Nat.eq_zero_or_pos n with h | h
      · exact h
      · obtain ⟨_, _, e, _⟩ := H.out.2 h
        cases e
    subst h0
    have hc : cs = [] := List.eq_nil_of_length_eq_zero (by have := H.out.1; omega)
    subst hc
    clear hn
    go_enter Tryd.func41, Tryd.ntmps41
    go_wp2_with fail
    go_ret
    exact ⟨none, 0, rfl, World.ownsRow_nil _ _ _ _, Below.refl _ _⟩
  | some ad =>
    have HC : Hid (∀ (W : World), (∀ k, k < w.heap.size → W.heap[k]? = w.heap[k]?) → ∀ j u, cs[j]? = some u → W.cell? (ad.add j) = some u) := fun W hW j u hj => by
      have hjl := (List.getElem?_eq_some_iff.1 hj).1
      rw [H.out.1] at hjl
      have h0 : 0 < n := Nat.pos_of_ne_zero (fun e => by subst e; omega)
      obtain ⟨b, o, e, hc⟩ := H.out.2 h0
      injection e with e
      subst e
      have hx := hc j u hj
      rw [Addr.add_lit]
      exact (World.cell?_of_block (w := w) (a := ⟨b, o + j, none⟩) (hW b (World.block_lt_of_cell? w _ hx))).trans hx
    have HL := Lib.hid H.out.1
    have hn1 := Lib.hid hn
    clear H hn
    go_enter Tryd.func41, Tryd.ntmps41
    go_wp2_with (at_builtin; refine wpList_append_own _ rfl _ _ 34 rfl w.heap.size 66 i0 (.agg #[.int .i64 0, .int .i64 0]) 2 16 Tryd.underlying34 HI.out HI0.out HI1.out HI2.out rfl (by decide) _ _ _ rfl (World.ownsRow_made w #[] 0 (Nat.le_refl _) (Nat.zero_le _) rfl) ad n c cs rfl HL.out ?qc2 H1.out ?qc4 ?qc5 ?qc6 ?_)
    case qc2 => exact HC.out _ (fun k hk => alloc_blk w _ hk)
    case qc4 => have := hn1.out; unfold maxLen; omega
    case qc5 => have := hn1.out; omega
    case qc6 => simp
    intro v' w1 hown hgrow hnil
    obtain ⟨A', c', rfl⟩ := own_slice hown
    have HO := Lib.hid hown
    have HG := Lib.hid hgrow
    clear hown hgrow hnil
    go_wp2_with fail
    go_ret
    refine ⟨A', c', by simp, by simpa using HO.out, ?_⟩
    exact ((Below.refl _ w).alloc (Nat.le_refl _) _).grown HG.out (by simp) (by intro k hk; simp [Value.ownBlock] at hk; omega)
end Go.Proofs.YtgblgkkbggdopaaDoor

/-
  What handler and Run of package interp do. Conditions: those of WalkMd.
-/
namespace Go.Proofs.YtgblgkkbggdopaaDoor
open Go.RowKit

set_option maxHeartbeats 1000000 in
set_option maxRecDepth 100000 in
theorem caught (w : World) :
    CallsD Tryd.prog 76 #[] (.panicking [spent]) w fun e u' w' => e = .returned (.tuple #[]) ∧ u' = .panicking [{ spent with recovered := true }] ∧ w' = w := by
  have hta : ∀ w, (Instr.typeAssert (.iface 133 (.agg #[])) 20 133 true).run Tryd.prog w = .ok (.tuple #[.agg #[], .bool true]) w := fun w => by kernel_rfl
  have heq : ∀ w, (binOp .eql 20 (.iface 133 (.agg #[])) .nilIface).run Tryd.prog w = .ok (.bool false) w := fun w => by kernel_rfl
  refine callsD_of_wpS Tryd.func76 rfl fun c₀ cs hu => ?_
  apply wpS_seq
  apply wpS_region
  simp [wpOpsS, go_sem, recoverD, hu, Tryd.ntmps76, Exit.thenS, spent]
  refine wpS_of_wp ?_
  go_wp2_with fail
  cases c₀
  simp_all [bodyPostS, results, Tryd.results76]

set_option maxHeartbeats 1000000 in
set_option maxRecDepth 100000 in
theorem caught_none (w : World) :
    CallsD Tryd.prog 76 #[] .returning w fun e u' w' => e = .returned (.tuple #[]) ∧ u' = .returning ∧ w' = w := by
  have hta : ∀ w, (Instr.typeAssert .nilIface 20 133 true).run Tryd.prog w = .ok (.tuple #[.agg #[], .bool false]) w := fun w => by kernel_rfl
  have heq : ∀ w, (binOp .eql 20 .nilIface .nilIface).run Tryd.prog w = .ok (.bool true) w := fun w => by kernel_rfl
  refine callsD_of_wpS Tryd.func76 rfl fun c₀ cs hu => ?_
  apply wpS_seq
  apply wpS_region
  simp [wpOpsS, go_sem, recoverD, hu, Tryd.ntmps76, Exit.thenS]
  refine wpS_of_wp ?_
  go_wp2_with fail
  cases c₀
  simp_all [bodyPostS, results, Tryd.results76]

set_option maxHeartbeats 1000000 in
set_option maxRecDepth 100000 in
theorem handler_any (base mb n0 : Nat) (en : En) (l : List St) (r : RS) (hbig : St.bigL l ≤ 100000) (w : World) (A : Option Addr) (len c : Nat) (h : MSt base mb n0 en r w) (hl : StSlice (fun k => k < base) w l (.slice A len c)) :
    Calls Tryd.prog 68 #[.pointer (some ⟨mb, 0, none⟩), .slice A len c] w fun e w' => e = .returned (.tuple #[]) ∧ MSt base mb n0 en (listS (exec1 en 400) l r).1 w' ∧ Fr mb w w' := by
  have HC := Lib.hid (list_all en 400 l r h.fuel hbig base mb n0 w A len c h hl)
  obtain ⟨R, hR⟩ : ∃ x, listS (exec1 en 400) l r = x := ⟨_, rfl⟩
  rw [hR] at HC ⊢
  clear hR h hl hbig
  go_enter_defers Tryd.func68, Tryd.ntmps68
  go_wp2_with fail
  refine HC.out.mono ?_
  intro e w1 hd
  obtain ⟨⟨hb, rfl⟩ | ⟨hb, rfl⟩, hm, hf⟩ := done_cases hd
  · clear hd hb HC
    go_wp2_with fail
    refine leaves_cons (f := 76) (args := #[]) (by simp) (by simp [go_sem]) ?_
    refine (caught_none _).mono ?_
    rintro e u' w'' ⟨rfl, rfl, rfl⟩
    simp [Leaves, settle, results, Tryd.results68, go_sem]
    exact ⟨hm, hf⟩
  · clear hd hb HC
    go_wp2_with fail
    refine leaves_cons (f := 76) (args := #[]) (by simp) (by simp [go_sem]) ?_
    refine (caught _).mono ?_
    rintro e u' w'' ⟨rfl, rfl, rfl⟩
    simp [Leaves, settle, results, Tryd.results68, go_sem]
    exact ⟨hm, hf⟩
end Go.Proofs.YtgblgkkbggdopaaDoor

/-
  What Depth of package syntax returns. Condition: the program has at most 100000 parts.
-/
namespace Go.Proofs.YtgblgkkbggdopaaDoor
open Go.RowKit

section
variable (A1 A2 A3 A4 : Option Addr) (l1 l2 l3 l4 c1 c2 c3 c4 : Nat)
def hA : Nat → Option Addr | 0 => A1 | 1 => A2 | 2 => A3 | _ => A4
def hN (x1 x2 x3 x4 : Nat) : Nat → Nat | 0 => x1 | 1 => x2 | 2 => x3 | _ => x4
end
def hB (p : Pr) : Nat → List St | 0 => p.start | 1 => p.message | 2 => p.tick | _ => p.input
def pd (p : Pr) : Nat → Nat | 0 => 0 | k + 1 => max (pd p k) (St.deepL (hB p k))
theorem pd_four (p : Pr) : pd p 4 = p.deep := by simp only [pd, hB, Pr.deep]; omega
theorem pd_le (p : Pr) : ∀ k, k ≤ 4 → pd p k ≤ p.deep
  | 0, _ => by simp only [pd]; omega
  | 1, _ => by simp only [pd, hB, Pr.deep]; omega
  | 2, _ => by simp only [pd, hB, Pr.deep]; omega
  | 3, _ => by simp only [pd, hB, Pr.deep]; omega
  | 4, _ => by rw [pd_four]; omega
  | k + 5, h => by omega
theorem deep_big (p : Pr) : p.deep ≤ p.big := by
  unfold Pr.deep Pr.big
  have := St.deepL_big p.start
  have := St.deepL_big p.message
  have := St.deepL_big p.tick
  have := St.deepL_big p.input
  omega
theorem hB_big (p : Pr) : ∀ k, St.bigL (hB p k) ≤ p.big
  | 0 => by simp only [hB, Pr.big]; omega
  | 1 => by simp only [hB, Pr.big]; omega
  | 2 => by simp only [hB, Pr.big]; omega
  | k + 3 => by simp only [hB, Pr.big]; omega

end Go.Proofs.YtgblgkkbggdopaaDoor

/-
  What isVar and Check of package syntax return. Conditions: names have at most 2^47 bytes; a program has at most 100000 parts and declarations; what areStmts returns for the handlers is given.
-/
namespace Go.Proofs.YtgblgkkbggdopaaDoor
open Go.RowKit

/-- The error of a program, where bs says whether the statements of a handler are as parsing makes them. -/
def chkS (p : Pr) (bs : Nat → Bool) : Int :=
  if 16 < p.deep then 6 else if p.vars.all varOK = false then 7 else if (bs 0 && bs 1 && bs 2 && bs 3) = false then 7 else 0

theorem all_drop {l : List Vr} {k : Nat} {v : Vr} (h : l[k]? = some v) : (l.drop k).all varOK = (varOK v && (l.drop (k + 1)).all varOK) := by
  have hlt := (List.getElem?_eq_some_iff.1 h).1
  have hv : l[k] = v := (List.getElem?_eq_some_iff.1 h).2
  rw [List.drop_eq_getElem_cons hlt, hv]
  rfl

/-- What is left of the handlers. -/
def bsFrom (bs : Nat → Bool) : Nat → Bool
  | 0 => bs 0 && bs 1 && bs 2 && bs 3
  | 1 => bs 1 && bs 2 && bs 3
  | 2 => bs 2 && bs 3
  | 3 => bs 3
  | _ => true
theorem bsFrom_step (bs : Nat → Bool) : ∀ k, k < 4 → bsFrom bs k = (bs k && bsFrom bs (k + 1))
  | 0, _ => by simp [bsFrom, Bool.and_assoc]
  | 1, _ => by simp [bsFrom, Bool.and_assoc]
  | 2, _ => by simp [bsFrom]
  | 3, _ => by simp [bsFrom]
  | k + 4, h => absurd h (by omega)

end Go.Proofs.YtgblgkkbggdopaaDoor
