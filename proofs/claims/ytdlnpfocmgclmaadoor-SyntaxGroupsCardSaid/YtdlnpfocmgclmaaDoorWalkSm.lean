/-
  Same of the document's answer returns true for two readings of one program. Condition: the program has at most 100000 parts.
-/
import Derived.Test.YtdlnpfocmgclmaaDoorWalkSs
import Derived.Test.YtdlnpfocmgclmaaDoorWalkDq
namespace Go.Proofs.YtdlnpfocmgclmaaDoor
open Go.RowKit

theorem vr_get : ∀ (l : List Vr) (k j : Nat) (e : Vr), l[k]? = some e → j < 3 → (l.flatMap vrCells)[k * 3 + j]? = (vrCells e)[j]?
  | [], _, _, _, h, _ => by simp at h
  | x :: r, 0, j, e, h, hj => by
    simp only [List.getElem?_cons_zero, Option.some.injEq] at h
    subst h
    rw [List.flatMap_cons, List.getElem?_append_left (by simp [vrCells]; omega)]
    simp
  | x :: r, k + 1, j, e, h, hj => by
    simp only [List.getElem?_cons_succ] at h
    rw [List.flatMap_cons, List.getElem?_append_right (by simp [vrCells]; omega)]
    have := vr_get r k j e h hj
    rw [← this]
    congr 1
    simp [vrCells]; omega

set_option maxHeartbeats 4000000 in
set_option maxRecDepth 100000 in
theorem same2_any (p : Pr) (hbig : p.big ≤ 100000) (hlb : p.vars.length ≤ 100000) (S : Nat → Prop) (w : World) (A0 A1 A2 A3 A4 : Option Addr) (l0 l1 l2 l3 l4 c0 c1 c2 c3 c4 : Nat) (B0 B1 B2 B3 B4 : Option Addr) (k0 k1 k2 k3 k4 d0 d1 d2 d3 d4 : Nat)
    (hp : PrAt S w p (.slice A0 l0 c0) (.slice A1 l1 c1) (.slice A2 l2 c2) (.slice A3 l3 c3) (.slice A4 l4 c4)) (hq : PrAt S w p (.slice B0 k0 d0) (.slice B1 k1 d1) (.slice B2 k2 d2) (.slice B3 k3 d3) (.slice B4 k4 d4)) :
    Calls Tryd.prog 7 #[.agg #[.slice A0 l0 c0, .slice A1 l1 c1, .slice A2 l2 c2, .slice A3 l3 c3, .slice A4 l4 c4], .agg #[.slice B0 k0 d0, .slice B1 k1 d1, .slice B2 k2 d2, .slice B3 k3 d3, .slice B4 k4 d4]] w fun e w' => e = .returned (.bool true) ∧ Below w.heap.size w w' := by
  obtain ⟨⟨a0, q0, e0, hc0, hr0⟩, hp1, hp2, hp3, hp4⟩ := hp
  obtain ⟨⟨a0', q0', e0', hc0', hr0'⟩, hq1, hq2, hq3, hq4⟩ := hq
  simp only [Value.slice.injEq] at e0 e0'
  obtain ⟨rfl, rfl, rfl⟩ := e0
  obtain ⟨rfl, rfl, rfl⟩ := e0'
  have b1 : St.bigL p.start ≤ 100000 := Nat.le_trans (hB_big p 0) hbig
  have b2 : St.bigL p.message ≤ 100000 := Nat.le_trans (hB_big p 1) hbig
  have b3 : St.bigL p.tick ≤ 100000 := Nat.le_trans (hB_big p 2) hbig
  have b4 : St.bigL p.input ≤ 100000 := Nat.le_trans (hB_big p 3) hbig
  have C1 : Hid (∀ wx, Below w.heap.size w wx → Calls Tryd.prog 11 #[.slice A1 l1 c1, .slice B1 k1 d1] wx fun e' w' => e' = .returned (.bool true) ∧ Below wx.heap.size wx w') := fun wx hb => sameStmts_all _ p.start (Nat.le_refl _) b1 S wx _ _ _ _ _ _ (StSlice.still hp1 fun j hSj hlt => ⟨hSj, hb.block j hlt⟩) (StSlice.still hq1 fun j hSj hlt => ⟨hSj, hb.block j hlt⟩)
  have C2 : Hid (∀ wx, Below w.heap.size w wx → Calls Tryd.prog 11 #[.slice A2 l2 c2, .slice B2 k2 d2] wx fun e' w' => e' = .returned (.bool true) ∧ Below wx.heap.size wx w') := fun wx hb => sameStmts_all _ p.message (Nat.le_refl _) b2 S wx _ _ _ _ _ _ (StSlice.still hp2 fun j hSj hlt => ⟨hSj, hb.block j hlt⟩) (StSlice.still hq2 fun j hSj hlt => ⟨hSj, hb.block j hlt⟩)
  have C3 : Hid (∀ wx, Below w.heap.size w wx → Calls Tryd.prog 11 #[.slice A3 l3 c3, .slice B3 k3 d3] wx fun e' w' => e' = .returned (.bool true) ∧ Below wx.heap.size wx w') := fun wx hb => sameStmts_all _ p.tick (Nat.le_refl _) b3 S wx _ _ _ _ _ _ (StSlice.still hp3 fun j hSj hlt => ⟨hSj, hb.block j hlt⟩) (StSlice.still hq3 fun j hSj hlt => ⟨hSj, hb.block j hlt⟩)
  have C4 : Hid (∀ wx, Below w.heap.size w wx → Calls Tryd.prog 11 #[.slice A4 l4 c4, .slice B4 k4 d4] wx fun e' w' => e' = .returned (.bool true) ∧ Below wx.heap.size wx w') := fun wx hb => sameStmts_all _ p.input (Nat.le_refl _) b4 S wx _ _ _ _ _ _ (StSlice.still hp4 fun j hSj hlt => ⟨hSj, hb.block j hlt⟩) (StSlice.still hq4 fun j hSj hlt => ⟨hSj, hb.block j hlt⟩)
  have HR := Lib.hid hr0
  have HR' := Lib.hid hr0'
  obtain ⟨vs, hvs⟩ : ∃ x, p.vars = x := ⟨_, rfl⟩
  rw [hvs] at HR HR' hlb ⊢
  obtain ⟨m, hm⟩ : ∃ x, vs.length = x := ⟨_, rfl⟩
  have HM := Lib.hid hm
  rw [hm] at hlb ⊢
  clear hp1 hp2 hp3 hp4 hq1 hq2 hq3 hq4 hr0 hr0' hc0 hc0' b1 b2 b3 b4 hbig hvs hm
  go_enter Tryd.func7, Tryd.ntmps7
  go_wp2_with fail
  go_loopg [5] m (fun g i wr => ∃ k : Nat, k + g = m ∧ i = .int .i64 k ∧ Below w.heap.size w wr ∧ wr.heap[w.heap.size]? = some (.cells #[.slice A0 m c0, .slice A1 l1 c1, .slice A2 l2 c2, .slice A3 l3 c3, .slice A4 l4 c4] 28 (0, 0)) ∧ wr.heap[w.heap.size + 1]? = some (.cells #[.slice B0 m d0, .slice B1 k1 d1, .slice B2 k2 d2, .slice B3 k3 d3, .slice B4 k4 d4] 28 (0, 0)))
  case atStart =>
    have hs : ∀ o, (w.alloc o).heap.size = w.heap.size + 1 := fun o => by simp
    refine ⟨0, by omega, rfl, ((Below.refl _ _).alloc (Nat.le_refl _) _).alloc (by simp) _, (alloc_blk (w.alloc _) _ (by rw [hs]; omega)).trans (new_blk w _), ?_⟩
    have := new_blk (w.alloc (.cells #[.slice A0 m c0, .slice A1 l1 c1, .slice A2 l2 c2, .slice A3 l3 c3, .slice A4 l4 c4] 28)) (.cells #[.slice B0 m d0, .slice B1 k1 d1, .slice B2 k2 d2, .slice B3 k3 d3, .slice B4 k4 d4] 28)
    rwa [hs] at this
  case round =>
    obtain ⟨k, hkg, rfl, hb, x0, x1⟩ := hrel
    have HB := Lib.hid hb
    clear hb
    have X0 := Lib.hid x0
    have X1 := Lib.hid x1
    obtain ⟨y0, y1, y2, y3, y4, _, _, _, _, _, hz⟩ := box5 x0
    obtain ⟨z0, z1, z2, z3, z4, _, _, _, _, _, hz'⟩ := box5 x1
    clear x0 x1
    cases gk with
    | zero =>
      have hge : m ≤ k := by omega
      clear hkg
      go_wp2_with fail
      refine (C1.out _ HB.out).mono ?_
      rintro e' w1 ⟨rfl, hb⟩
      have HB := Lib.hid (HB.out.trans (hb.mono HB.out.size))
      have X0 := Lib.hid (below_blk hb X0.out)
      have X1 := Lib.hid (below_blk hb X1.out)
      clear y0 y1 y2 y3 y4 z0 z1 z2 z3 z4 hz hz' hb
      obtain ⟨y0, y1, y2, y3, y4, _, _, _, _, _, hz⟩ := box5 X0.out
      obtain ⟨z0, z1, z2, z3, z4, _, _, _, _, _, hz'⟩ := box5 X1.out
      go_wp2_with fail
      refine (C2.out _ HB.out).mono ?_
      rintro e' w2 ⟨rfl, hb⟩
      have HB := Lib.hid (HB.out.trans (hb.mono HB.out.size))
      have X0 := Lib.hid (below_blk hb X0.out)
      have X1 := Lib.hid (below_blk hb X1.out)
      clear y0 y1 y2 y3 y4 z0 z1 z2 z3 z4 hz hz' hb
      obtain ⟨y0, y1, y2, y3, y4, _, _, _, _, _, hz⟩ := box5 X0.out
      obtain ⟨z0, z1, z2, z3, z4, _, _, _, _, _, hz'⟩ := box5 X1.out
      go_wp2_with fail
      refine (C3.out _ HB.out).mono ?_
      rintro e' w3 ⟨rfl, hb⟩
      have HB := Lib.hid (HB.out.trans (hb.mono HB.out.size))
      have X0 := Lib.hid (below_blk hb X0.out)
      have X1 := Lib.hid (below_blk hb X1.out)
      clear y0 y1 y2 y3 y4 z0 z1 z2 z3 z4 hz hz' hb
      obtain ⟨y0, y1, y2, y3, y4, _, _, _, _, _, hz⟩ := box5 X0.out
      obtain ⟨z0, z1, z2, z3, z4, _, _, _, _, _, hz'⟩ := box5 X1.out
      go_wp2_with fail
      refine (C4.out _ HB.out).mono ?_
      rintro e' w4 ⟨rfl, hb⟩
      have HB := Lib.hid (HB.out.trans (hb.mono HB.out.size))
      clear y0 y1 y2 y3 y4 z0 z1 z2 z3 z4 hz hz' hb
      go_wp2_with fail
      go_ret
      exact ⟨rfl, HB.out⟩
    | succ g =>
      have hlt : k < m := by omega
      have HG := Lib.hid hkg
      clear hkg
      obtain ⟨e1, he1⟩ : ∃ e1, vs[k]? = some e1 := ⟨_, List.getElem?_eq_getElem (by have := HM.out; omega)⟩
      have hne : vs ≠ [] := fun e => by have := HM.out; rw [e] at this; simp at this; omega
      obtain ⟨bb, o, rfl, hS, hrow⟩ := HR.out hne
      obtain ⟨bb', o', rfl, hS', hrow'⟩ := HR'.out hne
      have g0 := hrow (k * 3 + 0) _ (vr_get vs k 0 e1 he1 (by omega))
      have g1 := hrow (k * 3 + 1) _ (vr_get vs k 1 e1 he1 (by omega))
      have g2 := hrow (k * 3 + 2) _ (vr_get vs k 2 e1 he1 (by omega))
      have h0 := hrow' (k * 3 + 0) _ (vr_get vs k 0 e1 he1 (by omega))
      have h1 := hrow' (k * 3 + 1) _ (vr_get vs k 1 e1 he1 (by omega))
      have h2 := hrow' (k * 3 + 2) _ (vr_get vs k 2 e1 he1 (by omega))
      have hbb := World.block_lt_of_cell? w _ g0
      have hbb' := World.block_lt_of_cell? w _ h0
      simp only at hbb hbb'
      have hw : ∀ i j u, i < w.heap.size → w.cell? ⟨i, j, none⟩ = some u → wr.cell? ⟨i, j, none⟩ = some u := fun i j u hi hu => (HB.out.cell (p := ⟨i, j, none⟩) hi).trans hu
      replace g0 := hw _ _ _ hbb g0
      replace g1 := hw _ _ _ hbb g1
      replace g2 := hw _ _ _ hbb g2
      replace h0 := hw _ _ _ hbb' h0
      replace h1 := hw _ _ _ hbb' h1
      replace h2 := hw _ _ _ hbb' h2
      rw [Nat.add_zero] at g0 h0
      rw [← Nat.add_assoc] at g1 g2 h1 h2
      obtain ⟨nm, hnm⟩ : ∃ x, strB e1.name = x := ⟨_, rfl⟩
      simp only [hnm] at g0 h0
      clear hw hrow hrow' he1 hne hnm
      go_wp2_with fail
      go_quiet (fail)
      go_wp2_with fail
      go_roundg g
      case rel => exact ⟨k + 1, by have := HG.out; omega, by go_num, below_drewN HB.out nq, X0.out, X1.out⟩
      case measure => omega
end Go.Proofs.YtdlnpfocmgclmaaDoor
