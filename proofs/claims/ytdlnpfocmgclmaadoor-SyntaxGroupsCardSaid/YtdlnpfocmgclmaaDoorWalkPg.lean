/-
  What program of package syntax's parser does. Conditions: the parser lies at block R.
-/
import Derived.Test.YtdlnpfocmgclmaaDoorWalkBo
namespace Go.Proofs.YtdlnpfocmgclmaaDoor
open Go.RowKit

theorem st_all : ∀ f, ∀ g, g ≤ f → BlkC g ∧ StmC g
  | 0, g, hg => by
    obtain rfl : g = 0 := by omega
    exact ⟨fun R en toks ts w r hr hne _ => absurd hr.symm hne, fun R en toks ts w r hr hne _ => absurd hr.symm hne⟩
  | f + 1, g, hg => by
    by_cases h : g ≤ f
    · exact st_all f g h
    · obtain rfl : g = f + 1 := by omega
      have ih := st_all f
      exact ⟨block_step f fun g hg => (ih g hg).2, stmt_step f (ih f (Nat.le_refl _)).1⟩
theorem blk_all (f : Nat) : BlkC f := (st_all f f (Nat.le_refl _)).1

/-- What a program reads as, whose lists lie in blocks that meet S. -/
def PrAt (S : Nat → Prop) (w : World) (p : Pr) (c0 c1 c2 c3 c4 : Value) : Prop := VrSlice S w p.vars c0 ∧ StSlice S w p.start c1 ∧ StSlice S w p.message c2 ∧ StSlice S w p.tick c3 ∧ StSlice S w p.input c4
def VPr (n : Nat) (w : World) (p : Pr) (v : Value) : Prop :=
  ∃ (A0 A1 A2 A3 A4 : Option Addr) (l0 q0 l1 q1 l2 q2 l3 q3 l4 q4 : Nat), v = .agg #[.slice A0 l0 q0, .slice A1 l1 q1, .slice A2 l2 q2, .slice A3 l3 q3, .slice A4 l4 q4] ∧ PrAt (From n) w p (.slice A0 l0 q0) (.slice A1 l1 q1) (.slice A2 l2 q2) (.slice A3 l3 q3) (.slice A4 l4 q4)

theorem VrSlice.still {S S' : Nat → Prop} {w w' : World} {l : List Vr} {v : Value} (h : VrSlice S w l v) (hs : Still S S' w w') : VrSlice S' w' l v := by
  obtain ⟨A, c, rfl, hc, hr⟩ := h
  refine ⟨A, c, rfl, hc, fun hne => ?_⟩
  obtain ⟨b, o, hA, hS, hrow⟩ := hr hne
  have hb : b < w.heap.size := by
    cases l with
    | nil => exact absurd rfl hne
    | cons e r => exact CellsAt.lt (v := .string (strB e.name)) (cs := [.int .i64 e.size, .int .i64 e.init] ++ r.flatMap vrCells) hrow
  exact ⟨b, o, hA, (hs b hS hb).1, hrow.of_block (hs b hS hb).2⟩
theorem PrAt.still {S S' : Nat → Prop} {w w' : World} {p : Pr} {c0 c1 c2 c3 c4 : Value} (h : PrAt S w p c0 c1 c2 c3 c4) (hs : Still S S' w w') : PrAt S' w' p c0 c1 c2 c3 c4 :=
  ⟨h.1.still hs, h.2.1.still hs, h.2.2.1.still hs, h.2.2.2.1.still hs, h.2.2.2.2.still hs⟩

theorem bd_look {m n b : Nat} {w : World} {D : DataW Value} {bd : Bd} (h : BdIs m w D bd) (ho : w.ownsMap Tryd.prog 9 Rv b n D) (s : List UInt8) (hs : s.length ≤ 4096) (x : Option (List St)) (hx : bd.get s = some x) :
    ∃ A l q, (Instr.lookup mapT (.map (some b)) (.string (strB s)) false).run Tryd.prog w = .ok (.slice A l q) w ∧ VSts m w (x.getD []) (.slice A l q) := by
  cases x with
  | none => exact ⟨none, 0, 0, look_no ho s hs false ((h s).2 fun l hl => by rw [hx] at hl; cases hl), sts_nil _ _⟩
  | some l =>
    obtain ⟨v, h1, h2⟩ := (h s).1 l hx
    obtain ⟨A, c, rfl, h3⟩ := h2
    exact ⟨A, l.length, c, look_yes ho s hs false _ h1, ⟨A, c, rfl, h3⟩⟩

abbrev prZ : Obj := .cells #[.slice none 0 0, .slice none 0 0, .slice none 0 0, .slice none 0 0, .slice none 0 0] 28
theorem box5 {w : World} {n : Nat} {a0 a1 a2 a3 a4 : Value} {T : TypeId} (h : w.heap[n]? = some (.cells #[a0, a1, a2, a3, a4] T (0, 0))) :
    w.cell? ⟨n, 0, none⟩ = some a0 ∧ w.cell? ⟨n, 1, none⟩ = some a1 ∧ w.cell? ⟨n, 2, none⟩ = some a2 ∧ w.cell? ⟨n, 3, none⟩ = some a3 ∧ w.cell? ⟨n, 4, none⟩ = some a4 ∧
    w.frozen? ⟨n, 0, none⟩ = false ∧ w.frozen? ⟨n, 1, none⟩ = false ∧ w.frozen? ⟨n, 2, none⟩ = false ∧ w.frozen? ⟨n, 3, none⟩ = false ∧ w.frozen? ⟨n, 4, none⟩ = false ∧ n < w.heap.size :=
  ⟨by rw [Lib.cell_of_heap h]; rfl, by rw [Lib.cell_of_heap h]; rfl, by rw [Lib.cell_of_heap h]; rfl, by rw [Lib.cell_of_heap h]; rfl, by rw [Lib.cell_of_heap h]; rfl,
   Lib.frozen_of_heap h 0, Lib.frozen_of_heap h 1, Lib.frozen_of_heap h 2, Lib.frozen_of_heap h 3, Lib.frozen_of_heap h 4, lt_of_block h⟩
def set5 (w : World) (n : Nat) (a0 a1 a2 a3 a4 : Value) : World :=
  ((((w.setCell ⟨n, 0, none⟩ a0).setCell ⟨n, 1, none⟩ a1).setCell ⟨n, 2, none⟩ a2).setCell ⟨n, 3, none⟩ a3).setCell ⟨n, 4, none⟩ a4
theorem set5_blk (w : World) (n : Nat) (a0 a1 a2 a3 a4 : Value) {k : Nat} (h : k ≠ n) : (set5 w n a0 a1 a2 a3 a4).heap[k]? = w.heap[k]? := by
  unfold set5
  iterate 5 rw [Below.heap_setCell _ _ _ _ h]
theorem Keep.set5 {R n : Nat} {a w : World} (h : Keep R a w) (hn : a.heap.size ≤ n) (a0 a1 a2 a3 a4 : Value) : Keep R a (set5 w n a0 a1 a2 a3 a4) :=
  ((((h.setNew (p := ⟨n, 0, none⟩) hn a0).setNew (p := ⟨n, 1, none⟩) hn a1).setNew (p := ⟨n, 2, none⟩) hn a2).setNew (p := ⟨n, 3, none⟩) hn a3).setNew (p := ⟨n, 4, none⟩) hn a4

set_option maxHeartbeats 4000000 in
set_option maxRecDepth 100000 in
theorem program_any (f R en : Nat) (toks ts : List Tok) (w : World) (r : Res Pr) (hr : pProg f ts = r) (hne : r ≠ .out) (h : PSt R toks en w ts) :
    Calls Tryd.prog 17 #[.pointer (some ⟨R, 0, none⟩)] w (PP R toks en (VPr w.heap.size) r w) := by
  have hR := h.lt
  have HNE := Lib.hid hne
  have H := Lib.hid h
  unfold pProg at hr
  obtain ⟨r1, hr1⟩ : ∃ r1, pDecls f [] ts = r1 := ⟨_, rfl⟩
  rw [hr1] at hr
  have hne1 : r1 ≠ .out := fun e => by rw [e] at hr; exact HNE.out hr.symm
  have HC := Lib.hid (decls_any f R en toks ts (w.alloc prZ) r1 hr1 hne1 (h.more _))
  have HR := Lib.hid hr
  clear hne h hr hr1
  go_enter Tryd.func17, Tryd.ntmps17
  go_wp2_with fail
  refine HC.out.mono ?_
  clear HC
  cases r1 with
  | out => exact absurd rfl hne1
  | fail t =>
    rintro e w1 ⟨rfl, hk⟩
    have HQ : Hid (.fail t = r) := HR.out
    clear HR hne1
    go_wp2_with fail
    rw [← HQ.out]
    exact ⟨rfl, rfl, ((Keep.refl R w).alloc _).trans hk⟩
  | ok vs t1 =>
    rintro e w1 ⟨v, rfl, hv, hp, hk⟩
    have HV1 := Lib.hid hv
    have HP1 := Lib.hid hp
    have HK1 := Lib.hid (((Keep.refl R w).alloc prZ).trans hk)
    have HX1 := Lib.hid (hk.blk (new_blk w prZ) (by omega))
    have hz1 := hk.size
    rw [new_size] at hz1
    obtain ⟨A0, q0, rfl, _, _⟩ := hv
    obtain ⟨r2, hr2⟩ : ∃ r2, pBodies f bd0 t1 = r2 := ⟨_, rfl⟩
    have HR1 : Hid (r2.bind (fun b t => if t = [] then .ok ⟨vs, b.start.getD [], b.message.getD [], b.tick.getD [], b.input.getD []⟩ [] else .fail t) = r) := by rw [← hr2]; exact HR.out
    have hne2 : r2 ≠ .out := fun e => by have := HR1.out; rw [e] at this; exact HNE.out this.symm
    have HC := Lib.hid (bodies_any f (fun g _ => blk_all g) R en toks t1 w1 r2 hr2 hne2 hp)
    clear HR hne1 hp hk hr2
    go_wp2_with fail
    refine HC.out.mono ?_
    clear HC
    cases r2 with
    | out => exact absurd rfl hne2
    | fail t =>
      rintro e w2 ⟨rfl, hk⟩
      have HQ : Hid (.fail t = r) := HR1.out
      clear HR1 hne2
      go_wp2_with fail
      rw [← HQ.out]
      exact ⟨rfl, rfl, HK1.out.trans hk⟩
    | ok bd t2 =>
      rintro e w2 ⟨v, rfl, ⟨b, n, D, rfl, hbm, ho, hbd⟩, hp, hk⟩
      have HV2 := Lib.hid (VrSlice.still (S' := From (w.heap.size + 1)) HV1.out (fun j (h1 : _ ≤ j) h2 => ⟨(by rw [new_size] at h1; exact h1), hk.block j h2 (by rw [new_size] at h1; omega)⟩))
      have HP2 := Lib.hid hp
      have HK2 := Lib.hid (HK1.out.trans hk)
      have HX2 := Lib.hid (hk.blk HX1.out (by omega))
      have HO2 := Lib.hid ho
      have HD2 := Lib.hid hbd
      obtain ⟨k, k1, k2, c1⟩ := hp.at'
      obtain ⟨A, c, c0, _⟩ := hp.sl
      have hlen := hp.len
      obtain ⟨tn, htn⟩ : ∃ x, toks.length = x := ⟨_, rfl⟩
      rw [htn] at c0 hlen k1
      by_cases ht : t2 = []
      · have hge : tn ≤ k := by rw [ht] at k1; simp at k1; omega
        have HQ : Hid (.ok ⟨vs, bd.start.getD [], bd.message.getD [], bd.tick.getD [], bd.input.getD []⟩ [] = r) := by
          have := HR1.out
          simp only [Res.bind, if_pos ht] at this; exact this
        have HT := Lib.hid ht
        clear HR1 hne2 hp hk ho hbd k1 k2 htn ht
        go_wp2_with fail
        go_quiet (fail)
        obtain ⟨A1, l1, q1, h1, v1⟩ := bd_look (w := w2.drewN nq) (HD2.out.still fun _ h _ => ⟨h, rfl⟩) (map_keep HO2.out ((Keep.refl R w2).drewN nq) (by omega)) [115, 116, 97, 114, 116] (by simp) bd.start rfl
        obtain ⟨A2, l2, q2, h2, v2⟩ := bd_look (w := w2.drewN nq) (HD2.out.still fun _ h _ => ⟨h, rfl⟩) (map_keep HO2.out ((Keep.refl R w2).drewN nq) (by omega)) [109, 101, 115, 115, 97, 103, 101] (by simp) bd.message rfl
        obtain ⟨A3, l3, q3, h3, v3⟩ := bd_look (w := w2.drewN nq) (HD2.out.still fun _ h _ => ⟨h, rfl⟩) (map_keep HO2.out ((Keep.refl R w2).drewN nq) (by omega)) [116, 105, 99, 107] (by simp) bd.tick rfl
        obtain ⟨A4, l4, q4, h4, v4⟩ := bd_look (w := w2.drewN nq) (HD2.out.still fun _ h _ => ⟨h, rfl⟩) (map_keep HO2.out ((Keep.refl R w2).drewN nq) (by omega)) [105, 110, 112, 117, 116] (by simp) bd.input rfl
        simp only [strB] at h1 h2 h3 h4
        obtain ⟨d0, d1, d2, d3, d4, f0, f1, f2, f3, f4, hz⟩ := box5 (w := w2.drewN nq) HX2.out
        have HPR : Hid (PrAt (From (w.heap.size + 1)) (w2.drewN nq) ⟨vs, bd.start.getD [], bd.message.getD [], bd.tick.getD [], bd.input.getD []⟩ (.slice A0 vs.length q0) (.slice A1 l1 q1) (.slice A2 l2 q2) (.slice A3 l3 q3) (.slice A4 l4 q4)) := by
          have hl : ∀ {l : List St} {v : Value}, VSts (w1.heap.size + 1) (w2.drewN nq) l v → StSlice (From (w.heap.size + 1)) (w2.drewN nq) l v := fun hh => StSlice.still hh (Still.low (by omega))
          exact ⟨VrSlice.still HV2.out (fun j h1 _ => ⟨h1, rfl⟩), hl v1, hl v2, hl v3, hl v4⟩
        clear v1 v2 v3 v4
        go_wp2_with fail
        rw [← HQ.out]
        refine bodyPost_ret (v := .agg #[.slice A0 vs.length q0, .slice A1 l1 q1, .slice A2 l2 q2, .slice A3 l3 q3, .slice A4 l4 q4]) ?_ rfl ?_
        · simp [results, Tryd.results17, go_sem, World.cell?_setCell_same, World.cell?_setCell_other, d0, d1, d2, d3, d4]
        · have hp5 : PSt R toks en (set5 (w2.drewN nq) w.heap.size (.slice A0 vs.length q0) (.slice A1 l1 q1) (.slice A2 l2 q2) (.slice A3 l3 q3) (.slice A4 l4 q4)) [] := by
            have := HP2.out
            rw [HT.out] at this
            exact this.up fun j hj => (set5_blk (w2.drewN nq) w.heap.size _ _ _ _ _ (by omega))
          exact ⟨_, rfl, ⟨A0, A1, A2, A3, A4, _, _, _, _, _, _, _, _, _, _, rfl, HPR.out.still fun j (h1 : _ ≤ j) _ => ⟨show w.heap.size ≤ j by omega, set5_blk (w2.drewN nq) w.heap.size _ _ _ _ _ (by omega)⟩⟩, hp5, (HK2.out.drewN nq).set5 (Nat.le_refl _) _ _ _ _ _⟩
      · have hlt : k < tn := by
          have : 0 < t2.length := List.length_pos_iff.2 ht
          omega
        have hlt' : (k : Int) < (tn : Int) := by omega
        have HQ : Hid (.fail t2 = r) := by
          have := HR1.out
          simp only [Res.bind, if_neg ht] at this; exact this
        clear HR1 hne2 hp hk ho hbd k1 k2 htn ht
        go_wp2_with fail
        go_quiet (fail)
        go_wp2_with fail
        refine (fail_any _ _ _ _ _ (HP2.out.up (w' := w2.drewN nq) fun _ _ => rfl)).mono ?_
        rintro e w4 ⟨rfl, hb⟩
        have HK4 := Lib.hid ((HK2.out.drewN nq).trans (Keep.of_below hb))
        clear hb
        go_wp2_with fail
        rw [← HQ.out]
        exact ⟨rfl, rfl, HK4.out⟩
end Go.Proofs.YtdlnpfocmgclmaaDoor
