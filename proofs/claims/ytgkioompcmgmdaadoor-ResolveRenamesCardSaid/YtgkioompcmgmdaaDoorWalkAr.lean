/-
  What areStmts of package syntax returns for statements that are as parsing makes them: true. Conditions: as for isExpr.
-/
import Derived.Test.YtgkioompcmgmdaaDoorWalkIs
namespace Go.Proofs.YtgkioompcmgmdaaDoor
open Go.RowKit

mutual
/-- Whether a statement is as parsing makes it, with all statements in it. -/
def St.goodR : St → Bool
  | .mk kind nm sl sz place value body els => (St.mk kind nm sl sz place value body els).good1 && St.goodRL body && St.goodRL els
def St.goodRL : List St → Bool
  | [] => true
  | s :: r => s.goodR && St.goodRL r
end
mutual
/-- All names are short. -/
def St.shortR : St → Prop
  | .mk kind nm sl sz place value body els => (St.mk kind nm sl sz place value body els).short1 ∧ St.shortRL body ∧ St.shortRL els
def St.shortRL : List St → Prop
  | [] => True
  | s :: r => s.shortR ∧ St.shortRL r
end
theorem goodRL_at : ∀ (l : List St) (k : Nat) (e : St), St.goodRL l = true → l[k]? = some e → e.goodR = true
  | [], _, _, _, h => by simp at h
  | x :: r, 0, e, hs, h => by
    simp only [List.getElem?_cons_zero, Option.some.injEq] at h
    subst h
    simp only [St.goodRL, Bool.and_eq_true] at hs
    exact hs.1
  | x :: r, k + 1, e, hs, h => by
    simp only [List.getElem?_cons_succ] at h
    simp only [St.goodRL, Bool.and_eq_true] at hs
    exact goodRL_at r k e hs.2 h
theorem shortRL_at : ∀ (l : List St) (k : Nat) (e : St), St.shortRL l → l[k]? = some e → e.shortR
  | [], _, _, _, h => by simp at h
  | x :: r, 0, e, hs, h => by
    simp only [List.getElem?_cons_zero, Option.some.injEq] at h
    subst h
    simp only [St.shortRL] at hs
    exact hs.1
  | x :: r, k + 1, e, hs, h => by
    simp only [List.getElem?_cons_succ] at h
    simp only [St.shortRL] at hs
    exact shortRL_at r k e hs.2 h

set_option maxHeartbeats 8000000 in
set_option maxRecDepth 100000 in
theorem areStmts_good : ∀ (n : Nat) (ls : List St), St.bigL ls ≤ n → n ≤ 100000 → St.shortRL ls → St.goodRL ls = true → ∀ (S : Nat → Prop) (w : World) (A : Option Addr) (l q : Nat), SymAt w → StSlice S w ls (.slice A l q) →
    Calls Tryd.prog 34 #[.slice A l q] w fun e' w' => e' = .returned (.bool true) ∧ Below w.heap.size w w' := by
  intro n
  induction n using Nat.strongRecOn with
  | ind n ih =>
  intro ls h hn hsh hg S w A l q hsy hl
  have IH : Hid (∀ (ls' : List St), St.bigL ls' < n → St.shortRL ls' → St.goodRL ls' = true → ∀ (S : Nat → Prop) (w : World) (A : Option Addr) (l q : Nat), SymAt w → StSlice S w ls' (.slice A l q) → Calls Tryd.prog 34 #[.slice A l q] w fun e' w' => e' = .returned (.bool true) ∧ Below w.heap.size w w') :=
    fun ls' h' h1 h2 => ih _ h' ls' (Nat.le_refl _) (by omega) h1 h2
  clear ih
  obtain ⟨A', c', e1, hc, hr⟩ := hl
  simp only [Value.slice.injEq] at e1
  obtain ⟨rfl, rfl, rfl⟩ := e1
  have hlq : ls.length ≤ 100000 := by have := St.len_big ls; omega
  have HR := Lib.hid hr
  have HD := Lib.hid h
  have HSH := Lib.hid hsh
  have HGD := Lib.hid hg
  have HSY := Lib.hid hsy
  obtain ⟨m, hm⟩ : ∃ x, ls.length = x := ⟨_, rfl⟩
  have HM := Lib.hid hm
  rw [hm] at hlq ⊢
  clear hr hm h hc hsh hg hsy
  go_enter Tryd.func34, Tryd.ntmps34
  go_wp2_with fail
  go_loopg [7] m (fun g i wr => ∃ k : Nat, k + g = m ∧ i = .int .i64 k ∧ Hid (Below w.heap.size w wr))
  case atStart => exact ⟨0, by omega, rfl, Below.refl _ _⟩
  case round =>
    obtain ⟨k, hkg, rfl, HB⟩ := hrel
    cases gk with
    | zero =>
      have hge : m ≤ k := by omega
      clear hkg
      go_wp2_with fail
      go_ret
      exact ⟨rfl, HB.out⟩
    | succ g =>
      have hlt : k < m := by omega
      have HG := Lib.hid hkg
      clear hkg
      obtain ⟨e1, he1⟩ : ∃ e1, ls[k]? = some e1 := ⟨_, List.getElem?_eq_getElem (by have := HM.out; omega)⟩
      have hg1 := goodRL_at ls k e1 HGD.out he1
      have hs1 := shortRL_at ls k e1 HSH.out he1
      have hbg := St.big_at ls k e1 he1
      obtain ⟨bb, o, rfl, hS, hrow⟩ := HR.out (fun e => by have := HM.out; rw [e] at this; simp at this; omega)
      obtain ⟨cs, hcs, hex⟩ := StRow.get ls bb o k e1 hrow he1
      obtain ⟨kind, name, slot, size, place, value, body, els⟩ := e1
      simp only [St.big] at hbg
      simp only [St.goodR, Bool.and_eq_true] at hg1
      simp only [St.shortR] at hs1
      have hex0 := hex
      simp only [StL] at hex
      obtain ⟨cp, cv, A3, c3, A4, c4, rfl, hp, hv, h3, h4, h5, h6⟩ := hex
      obtain ⟨p0, p1, p2, p3, p4, P1, P2, P3, rfl⟩ := hp.plain
      obtain ⟨v0, v1, v2, v3, v4, V1, V2, V3, rfl⟩ := hv.plain
      have hbb : bb < w.heap.size := hcs.lt
      have hw : ∀ j u, w.cell? ⟨bb, j, none⟩ = some u → wr.cell? ⟨bb, j, none⟩ = some u := fun j u hu => (HB.out.cell (p := ⟨bb, j, none⟩) hbb).trans hu
      have HRG : Hid (wr.rangeAt bb (o + k * 18) (stCells kind name slot size [.int .i64 p0, .int .i64 p1, .string p2, .int .i64 p3, .int .i64 p4, .slice P1 P2 P3] [.int .i64 v0, .int .i64 v1, .string v2, .int .i64 v3, .int .i64 v4, .slice V1 V2 V3] (.slice A3 body.length c3) (.slice A4 els.length c4))) := fun j v hv => hw _ _ (hcs j v hv)
      have HX := Lib.hid hex0
      have hd0 := HD.out
      have hpp := Ex.big_pos place
      have hpv := Ex.big_pos value
      have hlb := St.len_big body
      have hle := St.len_big els
      have HIS := Lib.hid (fun (W : World) (hb : Below w.heap.size w W) => isStmt_good kind name slot size place value body els (by omega) (by omega) hs1.1 hg1.1.1 S W (HSY.out.below hb) p0 p1 p2 p3 p4 P1 P2 P3 v0 v1 v2 v3 v4 V1 V2 V3 A3 A4 c3 c4 (ExL.still (fun k h1 h2 => ⟨h1, hb.block k h2⟩) place _ hp) (ExL.still (fun k h1 h2 => ⟨h1, hb.block k h2⟩) value _ hv) (by omega) (by omega))
      have HBO := Lib.hid (fun (W : World) (hb : Below w.heap.size w W) => IH.out body (by omega) hs1.2.1 hg1.1.2 S W A3 body.length c3 (HSY.out.below hb) (StSlice.still ⟨A3, c3, rfl, h3, h5⟩ (fun k h1 h2 => ⟨h1, hb.block k h2⟩)))
      have HEL := Lib.hid (fun (W : World) (hb : Below w.heap.size w W) => IH.out els (by omega) hs1.2.2 hg1.2 S W A4 els.length c4 (HSY.out.below hb) (StSlice.still ⟨A4, c4, rfl, h4, h6⟩ (fun k h1 h2 => ⟨h1, hb.block k h2⟩)))
      clear hw hcs hrow he1 hp hv h5 h6 hex0 hg1 hs1 hbg hd0 hpp hpv hlb hle
      go_upto_region 4 with (first | (refine wpList_load_mid rfl 58 _ rfl bb (o + k * 18) rfl _ _ HRG.out Tryd.underlying58 rfl (by kernel_rfl) ?_) | (refine wpList_store_row rfl 58 _ _ rfl wr.heap.size _ rfl rfl _ _ (new_blk wr stZ) HX.out.info HX.out.size18 HX.out.one ?_))
      have h5 : ((wr.alloc stZ).setRow wr.heap.size (stCells kind name slot size [.int .i64 p0, .int .i64 p1, .string p2, .int .i64 p3, .int .i64 p4, .slice P1 P2 P3] [.int .i64 v0, .int .i64 v1, .string v2, .int .i64 v3, .int .i64 v4, .slice V1 V2 V3] (.slice A3 body.length c3) (.slice A4 els.length c4)).toArray).heap[wr.heap.size]? = some (.cells (stCells kind name slot size [.int .i64 p0, .int .i64 p1, .string p2, .int .i64 p3, .int .i64 p4, .slice P1 P2 P3] [.int .i64 v0, .int .i64 v1, .string v2, .int .i64 v3, .int .i64 v4, .slice V1 V2 V3] (.slice A3 body.length c3) (.slice A4 els.length c4)).toArray 58 (0, 0)) := setRow_same (new_blk wr stZ)
      have HB5 : Hid (Below w.heap.size w ((wr.alloc stZ).setRow wr.heap.size (stCells kind name slot size [.int .i64 p0, .int .i64 p1, .string p2, .int .i64 p3, .int .i64 p4, .slice P1 P2 P3] [.int .i64 v0, .int .i64 v1, .string v2, .int .i64 v3, .int .i64 v4, .slice V1 V2 V3] (.slice A3 body.length c3) (.slice A4 els.length c4)).toArray)) := by
        have hz := HB.out.size
        have h1 := HB.out.alloc hz stZ
        exact ⟨h1.os, h1.tape, h1.output, by have := h1.size; simpa using this, fun k hk => (setRow_blk (wr.alloc stZ) wr.heap.size _ (by omega)).trans (h1.block k hk)⟩
      have HIS2 : Hid (∀ (W : World), Below w.heap.size w W → Calls Tryd.prog 46 #[.agg (stCells kind name slot size [.int .i64 p0, .int .i64 p1, .string p2, .int .i64 p3, .int .i64 p4, .slice P1 P2 P3] [.int .i64 v0, .int .i64 v1, .string v2, .int .i64 v3, .int .i64 v4, .slice V1 V2 V3] (.slice A3 body.length c3) (.slice A4 els.length c4)).toArray] W fun e' w' => e' = .returned (.bool true) ∧ Below W.heap.size W w') := HIS.out
      obtain ⟨w5, hw5⟩ : ∃ x, (wr.alloc stZ).setRow wr.heap.size (stCells kind name slot size [.int .i64 p0, .int .i64 p1, .string p2, .int .i64 p3, .int .i64 p4, .slice P1 P2 P3] [.int .i64 v0, .int .i64 v1, .string v2, .int .i64 v3, .int .i64 v4, .slice V1 V2 V3] (.slice A3 body.length c3) (.slice A4 els.length c4)).toArray = x := ⟨_, rfl⟩
      rw [hw5] at h5 HB5 ⊢
      clear hw5 HIS
      have H5 := Lib.hid h5
      go_wp2_with (refine wpList_load_row rfl 58 _ rfl wr.heap.size rfl 58 _ (0, 0) _ H5.out Tryd.underlying58 rfl (by kernel_rfl) ?_)
      refine (HIS2.out _ HB5.out).mono ?_
      rintro e w6 ⟨rfl, hb⟩
      have HB6 := Lib.hid (HB5.out.trans (hb.mono HB5.out.size))
      have H6 := Lib.hid (below_blk hb H5.out)
      have q12 : w6.cell? ⟨wr.heap.size, 16, none⟩ = some (.slice A3 body.length c3) := by rw [Lib.cell_of_heap H6.out]; rfl
      clear hb h5
      go_wp2_with fail
      refine (HBO.out _ HB6.out).mono ?_
      rintro e w7 ⟨rfl, hb⟩
      have HB7 := Lib.hid (HB6.out.trans (hb.mono HB6.out.size))
      have H7 := Lib.hid (below_blk hb H6.out)
      have q13 : w7.cell? ⟨wr.heap.size, 17, none⟩ = some (.slice A4 els.length c4) := by rw [Lib.cell_of_heap H7.out]; rfl
      clear hb q12
      go_wp2_with fail
      refine (HEL.out _ HB7.out).mono ?_
      rintro e w8 ⟨rfl, hb⟩
      have HB8 := Lib.hid (HB7.out.trans (hb.mono HB7.out.size))
      clear hb q13
      go_wp2_with fail
      go_roundg g
      case rel => exact ⟨k + 1, by have := HG.out; omega, by go_num, HB8.out⟩
      case measure => omega
end Go.Proofs.YtgkioompcmgmdaaDoor
