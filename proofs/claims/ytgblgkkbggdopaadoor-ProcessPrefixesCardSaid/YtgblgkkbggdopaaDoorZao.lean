/-
  Texts of a walk, laid together by a program of the prover's own (merge.py). No conditions beyond those that each text names.
-/
import Derived.Test.YtgblgkkbggdopaaDoorZam
import Derived.Test.YtgblgkkbggdopaaDoorZan
import Derived.Test.YtgblgkkbggdopaaDoorZab
import Derived.Test.YtgblgkkbggdopaaDoorZaj
/-
  What Resolve of the document's answer returns for a good program: its code. Conditions: at most 100000 parts and 16 declarations; Check returns OK.
-/
namespace Go.Proofs.YtgblgkkbggdopaaDoor
open Go.RowKit

/-- How many cells declarations have, as they are counted. -/
def sum3 : List Vr → Int
  | [] => 0
  | v :: r => min (max v.size 1) 2147483649 + sum3 r
theorem sum3_take : ∀ (l : List Vr) (k : Nat) (v : Vr), l[k]? = some v → sum3 (l.take (k + 1)) = sum3 (l.take k) + min (max v.size 1) 2147483649
  | [], _, _, h => by simp at h
  | x :: r, 0, v, h => by
    simp only [List.getElem?_cons_zero, Option.some.injEq] at h
    subst h
    simp [sum3]
  | x :: r, k + 1, v, h => by
    simp only [List.getElem?_cons_succ] at h
    simp only [List.take_succ_cons, sum3]
    rw [sum3_take r k v h]
    omega
theorem sum3_pos : ∀ (l : List Vr), 0 ≤ sum3 l
  | [] => by simp [sum3]
  | x :: r => by have := sum3_pos r; simp only [sum3]; omega
/-- The initial values of declarations. -/
def ini3 : List Vr → List Int
  | [] => []
  | v :: r => (v.init :: List.replicate (v.size - 1).toNat 0) ++ ini3 r
theorem ini3_take : ∀ (l : List Vr) (k : Nat) (v : Vr), l[k]? = some v → ini3 (l.take (k + 1)) = ini3 (l.take k) ++ (v.init :: List.replicate (v.size - 1).toNat 0)
  | [], _, _, h => by simp at h
  | x :: r, 0, v, h => by
    simp only [List.getElem?_cons_zero, Option.some.injEq] at h
    subst h
    simp [ini3]
  | x :: r, k + 1, v, h => by
    simp only [List.getElem?_cons_succ] at h
    simp only [List.take_succ_cons, ini3]
    rw [ini3_take r k v h]
    simp
theorem ini3_len : ∀ (l : List Vr), sum3 l ≤ 32 → ((ini3 l).length : Int) ≤ sum3 l
  | [], _ => by simp [sum3, ini3]
  | x :: r, h => by
    simp only [sum3] at h ⊢
    have h1 := sum3_pos r
    have h2 := ini3_len r (by omega)
    simp only [ini3, List.length_append, List.length_cons, List.length_replicate]
    omega
/-- Nothing but two blocks has changed. -/
def Oth (a b : Nat) (w w' : World) : Prop := w.heap.size ≤ w'.heap.size ∧ ∀ k, k ≠ a → k ≠ b → k < w.heap.size → w'.heap[k]? = w.heap[k]?
theorem Oth.below {a b : Nat} {w w' : World} (h : Below w.heap.size w w') : Oth a b w w' := ⟨h.size, fun k _ _ hk => h.block k hk⟩
theorem Oth.trans {a b : Nat} {w w1 w2 : World} (h : Oth a b w w1) (g : Oth a b w1 w2) : Oth a b w w2 := ⟨Nat.le_trans h.1 g.1, fun k h1 h2 hk => (g.2 k h1 h2 (Nat.lt_of_lt_of_le hk h.1)).trans (h.2 k h1 h2 hk)⟩
theorem Oth.set2 {a b i j : Nat} (w : World) (u v : Value) : Oth a b w ((w.setCell ⟨a, i, none⟩ u).setCell ⟨b, j, none⟩ v) :=
  ⟨by simp [World.setCell], fun k h1 h2 _ => (Below.heap_setCell _ _ _ _ h2).trans (Below.heap_setCell _ _ _ _ h1)⟩
theorem vs_oth {a b n m : Nat} {w w' : World} {l : List St} {v : Value} (h : VSts n w l v) (h1 : a < n) (h2 : b < n) (hm : m ≤ n) (ho : Oth a b w w') : VSts m w' l v :=
  StSlice.still h fun k (hk : n ≤ k) h3 => ⟨Nat.le_trans hm hk, ho.2 k (by omega) (by omega) h3⟩
/-- The initial values so far: c.Init, in the box of the code. -/
structure I3 (w7 w16 : World) (nc : Nat) (b1 b2 b3 b4 : Value) (xs : List Int) (A : Option Addr) (L c : Nat) (wr : World) : Prop where
  len : L = xs.length
  own : wr.ownsRow w16.heap.size 3 1 (.slice A L c) L (xs.map (Value.int .i64))
  bel : Below w7.heap.size w7 wr
  box : wr.heap[nc]? = some (.cells #[.slice A L c, b1, b2, b3, b4] 29 (0, 0))
  oth : Oth nc nc w16 wr
section
variable {w7 w16 wr W w9 : World} {nc L c c9 : Nat} {b1 b2 b3 b4 : Value} {xs : List Int} {A A9 : Option Addr} {x : Int}
theorem I3.mid (h : I3 w7 w16 nc b1 b2 b3 b4 xs A L c wr) (hn : nc < w16.heap.size) (hW : Below wr.heap.size wr W) (hg : W.grownBy w9 (Value.slice A L c).ownBlock) : w9.heap[nc]? = some (.cells #[.slice A L c, b1, b2, b3, b4] 29 (0, 0)) := by
  have h1 : nc < wr.heap.size := Nat.lt_of_lt_of_le hn h.oth.1
  have h2 : nc < W.heap.size := Nat.lt_of_lt_of_le h1 hW.size
  exact (hg.block nc h2 (own_no' h.own hn)).trans ((hW.block nc h1).trans h.box)
theorem I3.next (h : I3 w7 w16 nc b1 b2 b3 b4 xs A L c wr) (hn : nc < w16.heap.size) (h7 : w7.heap.size ≤ nc) (hW : Below wr.heap.size wr W)
    (ho : w9.ownsRow w16.heap.size 3 1 (.slice A9 (L + 1) c9) (L + 1) (xs.map (Value.int .i64) ++ [.int .i64 x])) (hg : W.grownBy w9 (Value.slice A L c).ownBlock) :
    I3 w7 w16 nc b1 b2 b3 b4 (xs ++ [x]) A9 (L + 1) c9 (w9.setCell ⟨nc, 0, none⟩ (.slice A9 (L + 1) c9)) := by
  have hz : w7.heap.size ≤ wr.heap.size := h.bel.size
  have hz' := hW.size
  have hzn : nc < wr.heap.size := Nat.lt_of_lt_of_le hn h.oth.1
  have hb : Below w7.heap.size W w9 := ⟨hg.os, hg.tape, hg.output, hg.size, fun j hj => hg.block j (by omega) (own_no' h.own (by omega))⟩
  have hb1 : Below w7.heap.size w7 w9 := (h.bel.trans (hW.mono hz)).trans hb
  refine ⟨by rw [List.length_append, h.len]; rfl, ?_, hb1.setCell (p := ⟨nc, 0, none⟩) h7 _, ?_, ?_, ?_⟩
  · rw [List.map_append]
    exact own_blk ho (Nat.le_refl _) (fun g h1 _ => Below.heap_setCell _ _ _ _ (show g ≠ nc by omega))
  · have h' := blk_set (h.mid hn hW hg) 0 (.slice A9 (L + 1) c9)
    simpa using h'
  · have e1 : (w9.setCell ⟨nc, 0, none⟩ (.slice A9 (L + 1) c9)).heap.size = w9.heap.size := by simp [World.setCell]
    have := hg.size
    have := h.oth.1
    omega
  · intro k h1 _ h3
    have hk : k < wr.heap.size := Nat.lt_of_lt_of_le h3 h.oth.1
    exact (Below.heap_setCell _ _ _ _ h1).trans ((hg.block k (by omega) (own_no' h.own h3)).trans ((hW.block k hk).trans (h.oth.2 k h1 h1 h3)))
end
/-- What Resolve returns. -/
def R3Post (p : Pr) (w : World) (e : Ending) (w' : World) : Prop :=
  Below w.heap.size w w' ∧ ∃ (A B1 B2 B3 B4 : Option Addr) (c k1 k2 k3 k4 : Nat), e = .returned (.tuple #[.agg #[.slice A (ini3 p.vars).length c, .slice B1 (St.resL (plL p.vars) p.start).length k1, .slice B2 (St.resL (plL p.vars) p.message).length k2, .slice B3 (St.resL (plL p.vars) p.tick).length k3, .slice B4 (St.resL (plL p.vars) p.input).length k4], .int .i64 0]) ∧
    w'.ownsRow w.heap.size 3 1 (.slice A (ini3 p.vars).length c) (ini3 p.vars).length ((ini3 p.vars).map (Value.int .i64)) ∧
    VSts w.heap.size w' (St.resL (plL p.vars) p.start) (.slice B1 (St.resL (plL p.vars) p.start).length k1) ∧ VSts w.heap.size w' (St.resL (plL p.vars) p.message) (.slice B2 (St.resL (plL p.vars) p.message).length k2) ∧
    VSts w.heap.size w' (St.resL (plL p.vars) p.tick) (.slice B3 (St.resL (plL p.vars) p.tick).length k3) ∧ VSts w.heap.size w' (St.resL (plL p.vars) p.input) (.slice B4 (St.resL (plL p.vars) p.input).length k4)


theorem r3_end {p : Pr} {w w7 w16 wr : World} {nc L c k1 k2 k3 k4 : Nat} {A B1 B2 B3 B4 : Option Addr} (h7 : Below w.heap.size w w7) (hn : w.heap.size + 1 < nc) (hn16 : nc + 1 < w16.heap.size)
    (h : I3 w7 w16 nc (.slice B1 (St.resL (plL p.vars) p.start).length k1) (.slice B2 (St.resL (plL p.vars) p.message).length k2) (.slice B3 (St.resL (plL p.vars) p.tick).length k3) (.slice B4 (St.resL (plL p.vars) p.input).length k4) (ini3 p.vars) A L c wr)
    (f1 : VSts (nc + 2) w16 (St.resL (plL p.vars) p.start) (.slice B1 (St.resL (plL p.vars) p.start).length k1)) (f2 : VSts (nc + 2) w16 (St.resL (plL p.vars) p.message) (.slice B2 (St.resL (plL p.vars) p.message).length k2)) (f3 : VSts (nc + 2) w16 (St.resL (plL p.vars) p.tick) (.slice B3 (St.resL (plL p.vars) p.tick).length k3)) (f4 : VSts (nc + 2) w16 (St.resL (plL p.vars) p.input) (.slice B4 (St.resL (plL p.vars) p.input).length k4)) :
    R3Post p w (.returned (.tuple #[.agg #[.slice A L c, .slice B1 (St.resL (plL p.vars) p.start).length k1, .slice B2 (St.resL (plL p.vars) p.message).length k2, .slice B3 (St.resL (plL p.vars) p.tick).length k3, .slice B4 (St.resL (plL p.vars) p.input).length k4], .int .i64 0])) (set5 wr (w.heap.size + 1) (.slice A L c) (.slice B1 (St.resL (plL p.vars) p.start).length k1) (.slice B2 (St.resL (plL p.vars) p.message).length k2) (.slice B3 (St.resL (plL p.vars) p.tick).length k3) (.slice B4 (St.resL (plL p.vars) p.input).length k4)) := by
  have e := h.len
  subst e
  have hf : ∀ l v, VSts (nc + 2) w16 l v → VSts w.heap.size (set5 wr (w.heap.size + 1) (.slice A (ini3 p.vars).length c) (.slice B1 (St.resL (plL p.vars) p.start).length k1) (.slice B2 (St.resL (plL p.vars) p.message).length k2) (.slice B3 (St.resL (plL p.vars) p.tick).length k3) (.slice B4 (St.resL (plL p.vars) p.input).length k4)) l v := fun l v hv =>
    StSlice.still hv fun k (hk : nc + 2 ≤ k) h3 => ⟨show w.heap.size ≤ k by omega, (set5_blk wr (w.heap.size + 1) _ _ _ _ _ (by omega)).trans (h.oth.2 k (by omega) (by omega) h3)⟩
  exact ⟨set5_below (n := w.heap.size + 1) (h7.trans (h.bel.mono h7.size)) (by omega) _ _ _ _ _, A, B1, B2, B3, B4, c, k1, k2, k3, k4, rfl, own_blk h.own (by omega) (fun g h2 h3 => set5_blk wr (w.heap.size + 1) _ _ _ _ _ (by omega)), hf _ _ f1, hf _ _ f2, hf _ _ f3, hf _ _ f4⟩

set_option maxHeartbeats 40000000 in
set_option maxRecDepth 100000 in
theorem resolve3_good (p : Pr) (hbig : p.big ≤ 100000) (hvn : p.vars.length ≤ 16)
    (hds : ∀ (i j : Nat) (vi vj : Vr), j < i → p.vars[i]? = some vi → p.vars[j]? = some vj → vj.name ≠ vi.name) (hcs : ∀ k, k ≤ p.vars.length → sum3 (p.vars.take k) ≤ 32)
    (hdc : St.dclL (dclB p.vars) p.start = true ∧ St.dclL (dclB p.vars) p.message = true ∧ St.dclL (dclB p.vars) p.tick = true ∧ St.dclL (dclB p.vars) p.input = true)
    (hsh : St.shpL (zL p.vars) p.start = true ∧ St.shpL (zL p.vars) p.message = true ∧ St.shpL (zL p.vars) p.tick = true ∧ St.shpL (zL p.vars) p.input = true)
    (S : Nat → Prop) (w : World) (A0 A1 A2 A3 A4 : Option Addr) (l0 l1 l2 l3 l4 c0 c1 c2 c3 c4 : Nat)
    (hp : PrAt S w p (.slice A0 l0 c0) (.slice A1 l1 c1) (.slice A2 l2 c2) (.slice A3 l3 c3) (.slice A4 l4 c4))
    (hck : ∀ W, Below w.heap.size w W → Calls Tryd.prog 52 #[.agg #[.slice A0 l0 c0, .slice A1 l1 c1, .slice A2 l2 c2, .slice A3 l3 c3, .slice A4 l4 c4]] W fun e w' => e = .returned (.int .i64 0) ∧ Below W.heap.size W w') :
    Calls Tryd.prog 34 #[.agg #[.slice A0 l0 c0, .slice A1 l1 c1, .slice A2 l2 c2, .slice A3 l3 c3, .slice A4 l4 c4]] w (R3Post p w) := by
  have hnl : l0 = p.vars.length := by obtain ⟨⟨_, _, e, _⟩, _⟩ := hp; injection e
  have HNL := Lib.hid hnl
  have hl0 : l0 ≤ 16 := by omega
  have HDS := Lib.hid hds
  have HCS := Lib.hid hcs
  have HP := Lib.hid hp
  have HCK := Lib.hid hck
  have hst : ∀ W, Below w.heap.size w W → Still S S w W := fun W hb j h1 h2 => ⟨h1, hb.block j h2⟩
  have hbl : St.bigL p.start ≤ 100000 ∧ St.bigL p.message ≤ 100000 ∧ St.bigL p.tick ≤ 100000 ∧ St.bigL p.input ≤ 100000 := by unfold Pr.big at hbig; omega
  have HD1 : Hid (∀ W, Below w.heap.size w W → Calls Tryd.prog 54 #[.slice A0 l0 c0, .slice A1 l1 c1] W fun e w' => e = .returned (.bool true) ∧ Below W.heap.size W w') := fun W hb => by
    have h := declared_all p.vars (by omega) 100000 p.start hbl.1 (Nat.le_refl _) S W A0 l0 c0 A1 l1 c1 (hp.1.still (hst W hb)) (StSlice.still hp.2.1 (hst W hb))
    rwa [hdc.1] at h
  have HS1 : Hid (∀ W, Below w.heap.size w W → Calls Tryd.prog 55 #[.slice A0 l0 c0, .slice A1 l1 c1] W fun e w' => ∃ v, e = .returned (.tuple #[v, .bool true]) ∧ VSts W.heap.size w' (St.resL (plL p.vars) p.start) v ∧ Below W.heap.size W w') := fun W hb => by
    have h := xstmts_all p.vars (by omega) 100000 p.start hbl.1 (Nat.le_refl _) S W A0 l0 c0 A1 l1 c1 (hp.1.still (hst W hb)) (StSlice.still hp.2.1 (hst W hb))
    rwa [hsh.1] at h
  have HD2 : Hid (∀ W, Below w.heap.size w W → Calls Tryd.prog 54 #[.slice A0 l0 c0, .slice A2 l2 c2] W fun e w' => e = .returned (.bool true) ∧ Below W.heap.size W w') := fun W hb => by
    have h := declared_all p.vars (by omega) 100000 p.message hbl.2.1 (Nat.le_refl _) S W A0 l0 c0 A2 l2 c2 (hp.1.still (hst W hb)) (StSlice.still hp.2.2.1 (hst W hb))
    rwa [hdc.2.1] at h
  have HS2 : Hid (∀ W, Below w.heap.size w W → Calls Tryd.prog 55 #[.slice A0 l0 c0, .slice A2 l2 c2] W fun e w' => ∃ v, e = .returned (.tuple #[v, .bool true]) ∧ VSts W.heap.size w' (St.resL (plL p.vars) p.message) v ∧ Below W.heap.size W w') := fun W hb => by
    have h := xstmts_all p.vars (by omega) 100000 p.message hbl.2.1 (Nat.le_refl _) S W A0 l0 c0 A2 l2 c2 (hp.1.still (hst W hb)) (StSlice.still hp.2.2.1 (hst W hb))
    rwa [hsh.2.1] at h
  have HD3 : Hid (∀ W, Below w.heap.size w W → Calls Tryd.prog 54 #[.slice A0 l0 c0, .slice A3 l3 c3] W fun e w' => e = .returned (.bool true) ∧ Below W.heap.size W w') := fun W hb => by
    have h := declared_all p.vars (by omega) 100000 p.tick hbl.2.2.1 (Nat.le_refl _) S W A0 l0 c0 A3 l3 c3 (hp.1.still (hst W hb)) (StSlice.still hp.2.2.2.1 (hst W hb))
    rwa [hdc.2.2.1] at h
  have HS3 : Hid (∀ W, Below w.heap.size w W → Calls Tryd.prog 55 #[.slice A0 l0 c0, .slice A3 l3 c3] W fun e w' => ∃ v, e = .returned (.tuple #[v, .bool true]) ∧ VSts W.heap.size w' (St.resL (plL p.vars) p.tick) v ∧ Below W.heap.size W w') := fun W hb => by
    have h := xstmts_all p.vars (by omega) 100000 p.tick hbl.2.2.1 (Nat.le_refl _) S W A0 l0 c0 A3 l3 c3 (hp.1.still (hst W hb)) (StSlice.still hp.2.2.2.1 (hst W hb))
    rwa [hsh.2.2.1] at h
  have HD4 : Hid (∀ W, Below w.heap.size w W → Calls Tryd.prog 54 #[.slice A0 l0 c0, .slice A4 l4 c4] W fun e w' => e = .returned (.bool true) ∧ Below W.heap.size W w') := fun W hb => by
    have h := declared_all p.vars (by omega) 100000 p.input hbl.2.2.2 (Nat.le_refl _) S W A0 l0 c0 A4 l4 c4 (hp.1.still (hst W hb)) (StSlice.still hp.2.2.2.2 (hst W hb))
    rwa [hdc.2.2.2] at h
  have HS4 : Hid (∀ W, Below w.heap.size w W → Calls Tryd.prog 55 #[.slice A0 l0 c0, .slice A4 l4 c4] W fun e w' => ∃ v, e = .returned (.tuple #[v, .bool true]) ∧ VSts W.heap.size w' (St.resL (plL p.vars) p.input) v ∧ Below W.heap.size W w') := fun W hb => by
    have h := xstmts_all p.vars (by omega) 100000 p.input hbl.2.2.2 (Nat.le_refl _) S W A0 l0 c0 A4 l4 c4 (hp.1.still (hst W hb)) (StSlice.still hp.2.2.2.2 (hst W hb))
    rwa [hsh.2.2.2] at h
  clear hnl hds hcs hp hck hdc hsh hbig hbl hst hvn
  have hl0i : (l0 : Int) ≤ 16 := by omega
  have hl16 : ¬ (16 : Int) < (l0 : Int) := by omega
  go_enter Tryd.func34, Tryd.ntmps34
  go_upto_region 1 with fail
  obtain ⟨W1, hW1⟩ : ∃ x, (w.alloc (.cells #[.slice A0 l0 c0, .slice A1 l1 c1, .slice A2 l2 c2, .slice A3 l3 c3, .slice A4 l4 c4] 74)).alloc (.cells #[.slice none 0 0, .slice none 0 0, .slice none 0 0, .slice none 0 0, .slice none 0 0] 29) = x := ⟨_, rfl⟩
  have HB1 : Hid (Below w.heap.size w W1) := by rw [← hW1]; exact ((Below.refl _ _).alloc (Nat.le_refl _) _).alloc (by simp) _
  have HX1 : Hid (W1.heap[w.heap.size]? = some (.cells #[.slice A0 l0 c0, .slice A1 l1 c1, .slice A2 l2 c2, .slice A3 l3 c3, .slice A4 l4 c4] 74 (0, 0))) := by rw [← hW1]; exact (alloc_blk _ _ (by simp)).trans (new_blk w _)
  have HZ1 : Hid (W1.heap[w.heap.size + 1]? = some (.cells #[.slice none 0 0, .slice none 0 0, .slice none 0 0, .slice none 0 0, .slice none 0 0] 29 (0, 0))) := by rw [← hW1]; have h := new_blk (w.alloc (.cells #[.slice A0 l0 c0, .slice A1 l1 c1, .slice A2 l2 c2, .slice A3 l3 c3, .slice A4 l4 c4] 74)) (.cells #[.slice none 0 0, .slice none 0 0, .slice none 0 0, .slice none 0 0, .slice none 0 0] 29); rwa [show (w.alloc (.cells #[.slice A0 l0 c0, .slice A1 l1 c1, .slice A2 l2 c2, .slice A3 l3 c3, .slice A4 l4 c4] 74)).heap.size = w.heap.size + 1 by simp] at h
  simp only [hW1]
  clear hW1
  have d0 : W1.cell? ⟨w.heap.size, 0, none⟩ = some (.slice A0 l0 c0) := by rw [Lib.cell_of_heap HX1.out]; rfl
  have d1 : W1.cell? ⟨w.heap.size, 1, none⟩ = some (.slice A1 l1 c1) := by rw [Lib.cell_of_heap HX1.out]; rfl
  have d2 : W1.cell? ⟨w.heap.size, 2, none⟩ = some (.slice A2 l2 c2) := by rw [Lib.cell_of_heap HX1.out]; rfl
  have d3 : W1.cell? ⟨w.heap.size, 3, none⟩ = some (.slice A3 l3 c3) := by rw [Lib.cell_of_heap HX1.out]; rfl
  have d4 : W1.cell? ⟨w.heap.size, 4, none⟩ = some (.slice A4 l4 c4) := by rw [Lib.cell_of_heap HX1.out]; rfl
  go_wp2_with fail
  refine (HCK.out _ HB1.out).mono ?_
  rintro e w2 ⟨rfl, hb⟩
  have HB2 := Lib.hid (HB1.out.trans (hb.mono HB1.out.size))
  have HX2 := Lib.hid (below_blk hb HX1.out)
  have HZ2 := Lib.hid (below_blk hb HZ1.out)
  clear hb
  clear d0 d1 d2 d3 d4
  have d0 : w2.cell? ⟨w.heap.size, 0, none⟩ = some (.slice A0 l0 c0) := by rw [Lib.cell_of_heap HX2.out]; rfl
  go_wp2_with fail
  clear d0
  go_loopg [5, 6] l0 (fun g i _ wr => ∃ k : Nat, k + g = l0 ∧ i = .int .i64 k ∧ Hid (Below w.heap.size w wr) ∧ Hid (wr.heap[w.heap.size]? = some (.cells #[.slice A0 l0 c0, .slice A1 l1 c1, .slice A2 l2 c2, .slice A3 l3 c3, .slice A4 l4 c4] 74 (0, 0))) ∧ Hid (wr.heap[w.heap.size + 1]? = some (.cells #[.slice none 0 0, .slice none 0 0, .slice none 0 0, .slice none 0 0, .slice none 0 0] 29 (0, 0))))
  case atStart => exact ⟨0, by omega, rfl, HB2, HX2, HZ2⟩
  case round =>
    obtain ⟨k, hkg, rfl, HB, HX, HZ⟩ := hrel
    clear HB1 HX1 HZ1 HB2 HX2 HZ2
    have d0 : wr.cell? ⟨w.heap.size, 0, none⟩ = some (.slice A0 l0 c0) := by rw [Lib.cell_of_heap HX.out]; rfl
    cases gk with
    | succ g =>
      have hlt : k < l0 := by omega
      have HG := Lib.hid hkg
      clear hkg
      obtain ⟨v, hv⟩ : ∃ v, p.vars[k]? = some v := ⟨_, List.getElem?_eq_getElem (by have := HNL.out; omega)⟩
      have HV := Lib.hid hv
      obtain ⟨-, -, bb, o, rfl, -, hbb, -⟩ := HP.out.1.get hv
      clear hv
      go_wp2_with fail
      go_loopg [6] k (fun g2 i wr => ∃ j : Nat, j + g2 = k ∧ i = .int .i64 j ∧ Hid (Below w.heap.size w wr) ∧ Hid (wr.heap[w.heap.size]? = some (.cells #[.slice (some ⟨bb, o, none⟩) l0 c0, .slice A1 l1 c1, .slice A2 l2 c2, .slice A3 l3 c3, .slice A4 l4 c4] 74 (0, 0))) ∧ Hid (wr.heap[w.heap.size + 1]? = some (.cells #[.slice none 0 0, .slice none 0 0, .slice none 0 0, .slice none 0 0, .slice none 0 0] 29 (0, 0))))
      case atStart => exact ⟨0, by omega, rfl, HB, HX, HZ⟩
      case round =>
        obtain ⟨j, hjk, rfl, HB', HX', HZ'⟩ := hrel
        clear HB HX HZ d0
        have d0 : wr.cell? ⟨w.heap.size, 0, none⟩ = some (.slice (some ⟨bb, o, none⟩) l0 c0) := by rw [Lib.cell_of_heap HX'.out]; rfl
        cases gk with
        | zero =>
          have hge : k ≤ j := by omega
          go_wp2_with fail
          go_roundg g
          case rel => exact ⟨k + 1, by have := HG.out; omega, by go_num, HB', HX', HZ'⟩
          case measure => omega
        | succ g2 =>
          have hlt2 : j < k := by omega
          have hj0 : j < l0 := by omega
          obtain ⟨v2, hv2⟩ : ∃ v, p.vars[j]? = some v := ⟨_, List.getElem?_eq_getElem (by have := HNL.out; omega)⟩
          obtain ⟨-, -, b2, o2, e2, -, -, x0, -, -⟩ := HP.out.1.get hv2
          obtain ⟨-, -, b3, o3, e3, -, -, y0, -, -⟩ := HP.out.1.get HV.out
          simp only [Option.some.injEq, Addr.mk.injEq, and_true] at e2 e3
          obtain ⟨rfl, rfl⟩ := e2
          obtain ⟨rfl, rfl⟩ := e3
          have hw : ∀ j u, w.cell? ⟨bb, j, none⟩ = some u → wr.cell? ⟨bb, j, none⟩ = some u := fun j u hu => (HB'.out.cell (p := ⟨bb, j, none⟩) hbb).trans hu
          replace x0 := hw _ _ x0
          replace y0 := hw _ _ y0
          have ht := vr_ne (HDS.out k j _ _ hlt2 HV.out hv2)
          have HJK := Lib.hid hjk
          clear hw hv2 hjk
          go_wp2_with fail
          go_quiet (fail)
          go_wp2_with fail
          go_roundg g2
          case rel => exact ⟨j + 1, by have := HJK.out; omega, by go_num, below_drewN HB'.out _, HX', HZ'⟩
          case measure => omega
    | zero =>
      have hge : l0 ≤ k := by omega
      clear hkg
      go_wp2_with fail
      rw [show decide (k < l0) = false from by simp; omega]
      clear hge
      go_loopg [7, 8] l0 (fun g nv i wr => ∃ (k : Nat) (s : Int), k + g = l0 ∧ i = .int .i64 k ∧ nv = .int .i64 s ∧ s = sum3 (p.vars.take k) ∧ Hid (Below w.heap.size w wr) ∧ Hid (wr.heap[w.heap.size]? = some (.cells #[.slice A0 l0 c0, .slice A1 l1 c1, .slice A2 l2 c2, .slice A3 l3 c3, .slice A4 l4 c4] 74 (0, 0))) ∧ Hid (wr.heap[w.heap.size + 1]? = some (.cells #[.slice none 0 0, .slice none 0 0, .slice none 0 0, .slice none 0 0, .slice none 0 0] 29 (0, 0))))
      case atStart => exact ⟨0, 0, by omega, rfl, rfl, by simp [sum3], HB, HX, HZ⟩
      case round =>
        obtain ⟨k, s, hkg, rfl, rfl, hs, HB', HX', HZ'⟩ := hrel
        clear HB HX HZ d0
        have d0 : wr.cell? ⟨w.heap.size, 0, none⟩ = some (.slice A0 l0 c0) := by rw [Lib.cell_of_heap HX'.out]; rfl
        have d1 : wr.cell? ⟨w.heap.size, 1, none⟩ = some (.slice A1 l1 c1) := by rw [Lib.cell_of_heap HX'.out]; rfl
        have d2 : wr.cell? ⟨w.heap.size, 2, none⟩ = some (.slice A2 l2 c2) := by rw [Lib.cell_of_heap HX'.out]; rfl
        have d3 : wr.cell? ⟨w.heap.size, 3, none⟩ = some (.slice A3 l3 c3) := by rw [Lib.cell_of_heap HX'.out]; rfl
        have d4 : wr.cell? ⟨w.heap.size, 4, none⟩ = some (.slice A4 l4 c4) := by rw [Lib.cell_of_heap HX'.out]; rfl
        cases gk with
        | succ g =>
          have hlt : k < l0 := by omega
          have HG := Lib.hid hkg
          have hk0 := HCS.out k (by have := HNL.out; omega)
          have hk1 := HCS.out (k + 1) (by have := HNL.out; omega)
          obtain ⟨v, hv⟩ : ∃ v, p.vars[k]? = some v := ⟨_, List.getElem?_eq_getElem (by have := HNL.out; omega)⟩
          have hsu := sum3_take p.vars k v hv
          have hs0 := sum3_pos (p.vars.take k)
          obtain ⟨-, -, bb, o, rfl, -, hbb, x0, x1, x2⟩ := HP.out.1.get hv
          have hw : ∀ j u, w.cell? ⟨bb, j, none⟩ = some u → wr.cell? ⟨bb, j, none⟩ = some u := fun j u hu => (HB'.out.cell (p := ⟨bb, j, none⟩) hbb).trans hu
          replace x0 := hw _ _ x0
          replace x1 := hw _ _ x1
          replace x2 := hw _ _ x2
          obtain ⟨vn, vs, vi⟩ := v
          simp only at x0 x1 x2 hsu
          have HC := Lib.hid (fun w' => r3cells_any (strB vn) vs vi w')
          obtain ⟨mx, hmx⟩ : ∃ x, min (max vs 1) 2147483649 = x := ⟨_, rfl⟩
          have hm1 : 1 ≤ mx := by omega
          rw [hmx] at HC hsu
          have h32 : s + mx ≤ 32 := by omega
          have hsn : 0 ≤ s := by omega
          have HS1 : Hid (s + mx = sum3 (p.vars.take (k + 1))) := by show _ = _; omega
          have h33 : ¬ 32 < s + mx := by omega
          clear hkg hw hv hmx hsu hs0 hk0 hk1 hs
          go_wp2_with fail
          refine (HC.out _).mono ?_
          rintro e w3 ⟨rfl, hb⟩
          have HB3 := Lib.hid (HB'.out.trans (hb.mono HB'.out.size))
          have HX3 := Lib.hid (below_blk hb HX'.out)
          have HZ3 := Lib.hid (below_blk hb HZ'.out)
          clear hb d0 d1 d2 d3 d4 x0 x1 x2
          go_wp2_with fail
          go_roundg g
          case rel => exact ⟨k + 1, s + mx, by have := HG.out; omega, by go_num, rfl, HS1.out, HB3, HX3, HZ3⟩
          case measure => omega
        | zero =>
          have hge : l0 ≤ k := by omega
          clear hkg hs
          go_wp2_with fail
          refine (HD1.out _ HB'.out).mono ?_
          rintro e w4 ⟨rfl, hb⟩
          have HB4 := Lib.hid (HB'.out.trans (hb.mono HB'.out.size))
          have HX4 := Lib.hid (below_blk hb HX'.out)
          have HZ4 := Lib.hid (below_blk hb HZ'.out)
          clear hb d0 d1 d2 d3 d4
          have d0 : w4.cell? ⟨w.heap.size, 0, none⟩ = some (.slice A0 l0 c0) := by rw [Lib.cell_of_heap HX4.out]; rfl
          have d1 : w4.cell? ⟨w.heap.size, 1, none⟩ = some (.slice A1 l1 c1) := by rw [Lib.cell_of_heap HX4.out]; rfl
          have d2 : w4.cell? ⟨w.heap.size, 2, none⟩ = some (.slice A2 l2 c2) := by rw [Lib.cell_of_heap HX4.out]; rfl
          have d3 : w4.cell? ⟨w.heap.size, 3, none⟩ = some (.slice A3 l3 c3) := by rw [Lib.cell_of_heap HX4.out]; rfl
          have d4 : w4.cell? ⟨w.heap.size, 4, none⟩ = some (.slice A4 l4 c4) := by rw [Lib.cell_of_heap HX4.out]; rfl
          go_wp2_with fail
          refine (HD2.out _ HB4.out).mono ?_
          rintro e w5 ⟨rfl, hb⟩
          have HB5 := Lib.hid (HB4.out.trans (hb.mono HB4.out.size))
          have HX5 := Lib.hid (below_blk hb HX4.out)
          have HZ5 := Lib.hid (below_blk hb HZ4.out)
          clear hb d0 d1 d2 d3 d4
          have d0 : w5.cell? ⟨w.heap.size, 0, none⟩ = some (.slice A0 l0 c0) := by rw [Lib.cell_of_heap HX5.out]; rfl
          have d1 : w5.cell? ⟨w.heap.size, 1, none⟩ = some (.slice A1 l1 c1) := by rw [Lib.cell_of_heap HX5.out]; rfl
          have d2 : w5.cell? ⟨w.heap.size, 2, none⟩ = some (.slice A2 l2 c2) := by rw [Lib.cell_of_heap HX5.out]; rfl
          have d3 : w5.cell? ⟨w.heap.size, 3, none⟩ = some (.slice A3 l3 c3) := by rw [Lib.cell_of_heap HX5.out]; rfl
          have d4 : w5.cell? ⟨w.heap.size, 4, none⟩ = some (.slice A4 l4 c4) := by rw [Lib.cell_of_heap HX5.out]; rfl
          go_wp2_with fail
          refine (HD3.out _ HB5.out).mono ?_
          rintro e w6 ⟨rfl, hb⟩
          have HB6 := Lib.hid (HB5.out.trans (hb.mono HB5.out.size))
          have HX6 := Lib.hid (below_blk hb HX5.out)
          have HZ6 := Lib.hid (below_blk hb HZ5.out)
          clear hb d0 d1 d2 d3 d4
          have d0 : w6.cell? ⟨w.heap.size, 0, none⟩ = some (.slice A0 l0 c0) := by rw [Lib.cell_of_heap HX6.out]; rfl
          have d1 : w6.cell? ⟨w.heap.size, 1, none⟩ = some (.slice A1 l1 c1) := by rw [Lib.cell_of_heap HX6.out]; rfl
          have d2 : w6.cell? ⟨w.heap.size, 2, none⟩ = some (.slice A2 l2 c2) := by rw [Lib.cell_of_heap HX6.out]; rfl
          have d3 : w6.cell? ⟨w.heap.size, 3, none⟩ = some (.slice A3 l3 c3) := by rw [Lib.cell_of_heap HX6.out]; rfl
          have d4 : w6.cell? ⟨w.heap.size, 4, none⟩ = some (.slice A4 l4 c4) := by rw [Lib.cell_of_heap HX6.out]; rfl
          go_wp2_with fail
          refine (HD4.out _ HB6.out).mono ?_
          rintro e w7 ⟨rfl, hb⟩
          have HB7 := Lib.hid (HB6.out.trans (hb.mono HB6.out.size))
          have HX7 := Lib.hid (below_blk hb HX6.out)
          have HZ7 := Lib.hid (below_blk hb HZ6.out)
          clear hb d0 d1 d2 d3 d4
          have d0 : w7.cell? ⟨w.heap.size, 0, none⟩ = some (.slice A0 l0 c0) := by rw [Lib.cell_of_heap HX7.out]; rfl
          have d1 : w7.cell? ⟨w.heap.size, 1, none⟩ = some (.slice A1 l1 c1) := by rw [Lib.cell_of_heap HX7.out]; rfl
          have d2 : w7.cell? ⟨w.heap.size, 2, none⟩ = some (.slice A2 l2 c2) := by rw [Lib.cell_of_heap HX7.out]; rfl
          have d3 : w7.cell? ⟨w.heap.size, 3, none⟩ = some (.slice A3 l3 c3) := by rw [Lib.cell_of_heap HX7.out]; rfl
          have d4 : w7.cell? ⟨w.heap.size, 4, none⟩ = some (.slice A4 l4 c4) := by rw [Lib.cell_of_heap HX7.out]; rfl
          go_upto_region 25 with fail
          obtain ⟨w8, hw8⟩ : ∃ x, (w7.alloc (.cells #[.slice none 0 0, .slice none 0 0, .slice none 0 0, .slice none 0 0, .slice none 0 0] 29)).alloc (.cells #[.bool false, .bool false, .bool false, .bool false] 100) = x := ⟨_, rfl⟩
          have HK8 : Hid (Below w7.heap.size w7 w8) := by rw [← hw8]; exact ((Below.refl _ _).alloc (Nat.le_refl _) _).alloc (by simp) _
          obtain ⟨nc, hnc⟩ : ∃ x, w7.heap.size = x := ⟨_, rfl⟩
          have HNC := Lib.hid hnc
          have HC8 : Hid (w8.heap[nc]? = some (.cells #[.slice none 0 0, .slice none 0 0, .slice none 0 0, .slice none 0 0, .slice none 0 0] 29 (0, 0))) := by rw [← hw8, ← hnc]; exact (alloc_blk _ _ (by simp)).trans (new_blk w7 _)
          have HO8 : Hid (w8.heap[nc + 1]? = some (.cells #[.bool false, .bool false, .bool false, .bool false] 100 (0, 0))) := by rw [← hw8, ← hnc]; have h := new_blk (w7.alloc (.cells #[.slice none 0 0, .slice none 0 0, .slice none 0 0, .slice none 0 0, .slice none 0 0] 29)) (.cells #[.bool false, .bool false, .bool false, .bool false] 100); rwa [show (w7.alloc (.cells #[.slice none 0 0, .slice none 0 0, .slice none 0 0, .slice none 0 0, .slice none 0 0] 29)).heap.size = w7.heap.size + 1 by simp] at h
          simp only [hw8, hnc]
          have hn0 : w.heap.size + 1 < nc := by rw [← hnc]; exact lt_of_block HZ7.out
          have HN0 := Lib.hid hn0
          clear hw8 hnc d0 d1 d2 d3 d4 hn0
          have HB8 : Hid (Below w.heap.size w w8) := HB7.out.trans (HK8.out.mono HB7.out.size)
          have HX8 : Hid (w8.heap[w.heap.size]? = some (.cells #[.slice A0 l0 c0, .slice A1 l1 c1, .slice A2 l2 c2, .slice A3 l3 c3, .slice A4 l4 c4] 74 (0, 0))) := below_blk HK8.out HX7.out
          have HZ8 : Hid (w8.heap[w.heap.size + 1]? = some (.cells #[.slice none 0 0, .slice none 0 0, .slice none 0 0, .slice none 0 0, .slice none 0 0] 29 (0, 0))) := below_blk HK8.out HZ7.out
          have d0 : w8.cell? ⟨w.heap.size, 0, none⟩ = some (.slice A0 l0 c0) := by rw [Lib.cell_of_heap HX8.out]; rfl
          have d1 : w8.cell? ⟨w.heap.size, 1, none⟩ = some (.slice A1 l1 c1) := by rw [Lib.cell_of_heap HX8.out]; rfl
          go_wp2_with fail
          refine (HS1.out _ HB8.out).mono ?_
          rintro e w9 ⟨y1, rfl, ⟨B1, k1, rfl, hl, hr⟩, hb⟩
          have HV1 : Hid (VSts w8.heap.size w9 (St.resL (plL p.vars) p.start) (.slice B1 (St.resL (plL p.vars) p.start).length k1)) := ⟨B1, k1, rfl, hl, hr⟩
          have HK9 := Lib.hid (HK8.out.trans (hb.mono HK8.out.size))
          have HC9 := Lib.hid (below_blk hb HC8.out)
          have HO9 := Lib.hid (below_blk hb HO8.out)
          have HT9 : Hid (Oth nc (nc + 1) w8 w9) := Oth.below hb
          have HB9 := Lib.hid (HB8.out.trans (hb.mono HB8.out.size))
          have HX9 := Lib.hid (below_blk hb HX8.out)
          have HZ9 := Lib.hid (below_blk hb HZ8.out)
          clear hb hl hr d0 d1
          have r1 : w9.cell? ⟨nc, 1, none⟩ = some (.slice none 0 0) := by rw [Lib.cell_of_heap HC9.out]; rfl
          have r2 : w9.cell? ⟨nc + 1, 0, none⟩ = some (.bool false) := by rw [Lib.cell_of_heap HO9.out]; rfl
          have f1 : w9.frozen? ⟨nc, 1, none⟩ = false := Lib.frozen_of_heap HC9.out 1
          have f2 : w9.frozen? ⟨nc + 1, 0, none⟩ = false := Lib.frozen_of_heap HO9.out 0
          go_upto_region 26 with fail
          obtain ⟨w10, hw10⟩ : ∃ x, (w9.setCell ⟨nc, 1, none⟩ (.slice B1 (St.resL (plL p.vars) p.start).length k1)).setCell ⟨nc + 1, 0, none⟩ (.bool true) = x := ⟨_, rfl⟩
          have HT10 : Hid (Oth nc (nc + 1) w9 w10) := by rw [← hw10]; exact Oth.set2 _ _ _
          have HC10 : Hid (w10.heap[nc]? = some (.cells #[.slice none 0 0, .slice B1 (St.resL (plL p.vars) p.start).length k1, .slice none 0 0, .slice none 0 0, .slice none 0 0] 29 (0, 0))) := by
            rw [← hw10, Below.heap_setCell _ _ _ _ (show nc ≠ nc + 1 by omega)]
            have h' := blk_set HC9.out 1 (.slice B1 (St.resL (plL p.vars) p.start).length k1)
            simp only [List.setIfInBounds_toArray, List.set_cons_zero, List.set_cons_succ] at h'
            exact h'
          have HO10 : Hid (w10.heap[nc + 1]? = some (.cells #[.bool true, .bool false, .bool false, .bool false] 100 (0, 0))) := by
            rw [← hw10]
            have h' := blk_set (b := nc + 1) ((Below.heap_setCell w9 ⟨nc, 1, none⟩ (.slice B1 (St.resL (plL p.vars) p.start).length k1) (nc + 1) (show nc + 1 ≠ nc by omega)).trans HO9.out) 0 (.bool true)
            simp only [List.setIfInBounds_toArray, List.set_cons_zero] at h'
            exact h'
          have HK10 : Hid (Below w7.heap.size w7 w10) := by rw [← hw10]; exact (HK9.out.setCell (p := ⟨nc, 1, none⟩) (Nat.le_of_eq HNC.out) _).setCell (p := ⟨nc + 1, 0, none⟩) (Nat.le_trans (Nat.le_of_eq HNC.out) (Nat.le_succ _)) _
          simp only [hw10]
          clear hw10 r1 r2 f1 f2
          have HB10 : Hid (Below w.heap.size w w10) := HB7.out.trans (HK10.out.mono HB7.out.size)
          have HX10 : Hid (w10.heap[w.heap.size]? = some (.cells #[.slice A0 l0 c0, .slice A1 l1 c1, .slice A2 l2 c2, .slice A3 l3 c3, .slice A4 l4 c4] 74 (0, 0))) := below_blk HK10.out HX7.out
          have HZ10 : Hid (w10.heap[w.heap.size + 1]? = some (.cells #[.slice none 0 0, .slice none 0 0, .slice none 0 0, .slice none 0 0, .slice none 0 0] 29 (0, 0))) := below_blk HK10.out HZ7.out
          have d0 : w10.cell? ⟨w.heap.size, 0, none⟩ = some (.slice A0 l0 c0) := by rw [Lib.cell_of_heap HX10.out]; rfl
          have d2 : w10.cell? ⟨w.heap.size, 2, none⟩ = some (.slice A2 l2 c2) := by rw [Lib.cell_of_heap HX10.out]; rfl
          go_wp2_with fail
          refine (HS2.out _ HB10.out).mono ?_
          rintro e w11 ⟨y2, rfl, ⟨B2, k2, rfl, hl, hr⟩, hb⟩
          have HV2 : Hid (VSts w10.heap.size w11 (St.resL (plL p.vars) p.message) (.slice B2 (St.resL (plL p.vars) p.message).length k2)) := ⟨B2, k2, rfl, hl, hr⟩
          have HK11 := Lib.hid (HK10.out.trans (hb.mono HK10.out.size))
          have HC11 := Lib.hid (below_blk hb HC10.out)
          have HO11 := Lib.hid (below_blk hb HO10.out)
          have HT11 : Hid (Oth nc (nc + 1) w10 w11) := Oth.below hb
          have HB11 := Lib.hid (HB10.out.trans (hb.mono HB10.out.size))
          have HX11 := Lib.hid (below_blk hb HX10.out)
          have HZ11 := Lib.hid (below_blk hb HZ10.out)
          clear hb hl hr d0 d2
          have r1 : w11.cell? ⟨nc, 2, none⟩ = some (.slice none 0 0) := by rw [Lib.cell_of_heap HC11.out]; rfl
          have r2 : w11.cell? ⟨nc + 1, 1, none⟩ = some (.bool false) := by rw [Lib.cell_of_heap HO11.out]; rfl
          have f1 : w11.frozen? ⟨nc, 2, none⟩ = false := Lib.frozen_of_heap HC11.out 2
          have f2 : w11.frozen? ⟨nc + 1, 1, none⟩ = false := Lib.frozen_of_heap HO11.out 1
          go_upto_region 27 with fail
          obtain ⟨w12, hw12⟩ : ∃ x, (w11.setCell ⟨nc, 2, none⟩ (.slice B2 (St.resL (plL p.vars) p.message).length k2)).setCell ⟨nc + 1, 1, none⟩ (.bool true) = x := ⟨_, rfl⟩
          have HT12 : Hid (Oth nc (nc + 1) w11 w12) := by rw [← hw12]; exact Oth.set2 _ _ _
          have HC12 : Hid (w12.heap[nc]? = some (.cells #[.slice none 0 0, .slice B1 (St.resL (plL p.vars) p.start).length k1, .slice B2 (St.resL (plL p.vars) p.message).length k2, .slice none 0 0, .slice none 0 0] 29 (0, 0))) := by
            rw [← hw12, Below.heap_setCell _ _ _ _ (show nc ≠ nc + 1 by omega)]
            have h' := blk_set HC11.out 2 (.slice B2 (St.resL (plL p.vars) p.message).length k2)
            simp only [List.setIfInBounds_toArray, List.set_cons_zero, List.set_cons_succ] at h'
            exact h'
          have HO12 : Hid (w12.heap[nc + 1]? = some (.cells #[.bool true, .bool true, .bool false, .bool false] 100 (0, 0))) := by
            rw [← hw12]
            have h' := blk_set (b := nc + 1) ((Below.heap_setCell w11 ⟨nc, 2, none⟩ (.slice B2 (St.resL (plL p.vars) p.message).length k2) (nc + 1) (show nc + 1 ≠ nc by omega)).trans HO11.out) 1 (.bool true)
            simp only [List.setIfInBounds_toArray, List.set_cons_zero, List.set_cons_succ] at h'
            exact h'
          have HK12 : Hid (Below w7.heap.size w7 w12) := by rw [← hw12]; exact (HK11.out.setCell (p := ⟨nc, 2, none⟩) (Nat.le_of_eq HNC.out) _).setCell (p := ⟨nc + 1, 1, none⟩) (Nat.le_trans (Nat.le_of_eq HNC.out) (Nat.le_succ _)) _
          simp only [hw12]
          clear hw12 r1 r2 f1 f2
          have HB12 : Hid (Below w.heap.size w w12) := HB7.out.trans (HK12.out.mono HB7.out.size)
          have HX12 : Hid (w12.heap[w.heap.size]? = some (.cells #[.slice A0 l0 c0, .slice A1 l1 c1, .slice A2 l2 c2, .slice A3 l3 c3, .slice A4 l4 c4] 74 (0, 0))) := below_blk HK12.out HX7.out
          have HZ12 : Hid (w12.heap[w.heap.size + 1]? = some (.cells #[.slice none 0 0, .slice none 0 0, .slice none 0 0, .slice none 0 0, .slice none 0 0] 29 (0, 0))) := below_blk HK12.out HZ7.out
          have d0 : w12.cell? ⟨w.heap.size, 0, none⟩ = some (.slice A0 l0 c0) := by rw [Lib.cell_of_heap HX12.out]; rfl
          have d3 : w12.cell? ⟨w.heap.size, 3, none⟩ = some (.slice A3 l3 c3) := by rw [Lib.cell_of_heap HX12.out]; rfl
          go_wp2_with fail
          refine (HS3.out _ HB12.out).mono ?_
          rintro e w13 ⟨y3, rfl, ⟨B3, k3, rfl, hl, hr⟩, hb⟩
          have HV3 : Hid (VSts w12.heap.size w13 (St.resL (plL p.vars) p.tick) (.slice B3 (St.resL (plL p.vars) p.tick).length k3)) := ⟨B3, k3, rfl, hl, hr⟩
          have HK13 := Lib.hid (HK12.out.trans (hb.mono HK12.out.size))
          have HC13 := Lib.hid (below_blk hb HC12.out)
          have HO13 := Lib.hid (below_blk hb HO12.out)
          have HT13 : Hid (Oth nc (nc + 1) w12 w13) := Oth.below hb
          have HB13 := Lib.hid (HB12.out.trans (hb.mono HB12.out.size))
          have HX13 := Lib.hid (below_blk hb HX12.out)
          have HZ13 := Lib.hid (below_blk hb HZ12.out)
          clear hb hl hr d0 d3
          have r1 : w13.cell? ⟨nc, 3, none⟩ = some (.slice none 0 0) := by rw [Lib.cell_of_heap HC13.out]; rfl
          have r2 : w13.cell? ⟨nc + 1, 2, none⟩ = some (.bool false) := by rw [Lib.cell_of_heap HO13.out]; rfl
          have f1 : w13.frozen? ⟨nc, 3, none⟩ = false := Lib.frozen_of_heap HC13.out 3
          have f2 : w13.frozen? ⟨nc + 1, 2, none⟩ = false := Lib.frozen_of_heap HO13.out 2
          go_upto_region 28 with fail
          obtain ⟨w14, hw14⟩ : ∃ x, (w13.setCell ⟨nc, 3, none⟩ (.slice B3 (St.resL (plL p.vars) p.tick).length k3)).setCell ⟨nc + 1, 2, none⟩ (.bool true) = x := ⟨_, rfl⟩
          have HT14 : Hid (Oth nc (nc + 1) w13 w14) := by rw [← hw14]; exact Oth.set2 _ _ _
          have HC14 : Hid (w14.heap[nc]? = some (.cells #[.slice none 0 0, .slice B1 (St.resL (plL p.vars) p.start).length k1, .slice B2 (St.resL (plL p.vars) p.message).length k2, .slice B3 (St.resL (plL p.vars) p.tick).length k3, .slice none 0 0] 29 (0, 0))) := by
            rw [← hw14, Below.heap_setCell _ _ _ _ (show nc ≠ nc + 1 by omega)]
            have h' := blk_set HC13.out 3 (.slice B3 (St.resL (plL p.vars) p.tick).length k3)
            simp only [List.setIfInBounds_toArray, List.set_cons_zero, List.set_cons_succ] at h'
            exact h'
          have HO14 : Hid (w14.heap[nc + 1]? = some (.cells #[.bool true, .bool true, .bool true, .bool false] 100 (0, 0))) := by
            rw [← hw14]
            have h' := blk_set (b := nc + 1) ((Below.heap_setCell w13 ⟨nc, 3, none⟩ (.slice B3 (St.resL (plL p.vars) p.tick).length k3) (nc + 1) (show nc + 1 ≠ nc by omega)).trans HO13.out) 2 (.bool true)
            simp only [List.setIfInBounds_toArray, List.set_cons_zero, List.set_cons_succ] at h'
            exact h'
          have HK14 : Hid (Below w7.heap.size w7 w14) := by rw [← hw14]; exact (HK13.out.setCell (p := ⟨nc, 3, none⟩) (Nat.le_of_eq HNC.out) _).setCell (p := ⟨nc + 1, 2, none⟩) (Nat.le_trans (Nat.le_of_eq HNC.out) (Nat.le_succ _)) _
          simp only [hw14]
          clear hw14 r1 r2 f1 f2
          have HB14 : Hid (Below w.heap.size w w14) := HB7.out.trans (HK14.out.mono HB7.out.size)
          have HX14 : Hid (w14.heap[w.heap.size]? = some (.cells #[.slice A0 l0 c0, .slice A1 l1 c1, .slice A2 l2 c2, .slice A3 l3 c3, .slice A4 l4 c4] 74 (0, 0))) := below_blk HK14.out HX7.out
          have HZ14 : Hid (w14.heap[w.heap.size + 1]? = some (.cells #[.slice none 0 0, .slice none 0 0, .slice none 0 0, .slice none 0 0, .slice none 0 0] 29 (0, 0))) := below_blk HK14.out HZ7.out
          have d0 : w14.cell? ⟨w.heap.size, 0, none⟩ = some (.slice A0 l0 c0) := by rw [Lib.cell_of_heap HX14.out]; rfl
          have d4 : w14.cell? ⟨w.heap.size, 4, none⟩ = some (.slice A4 l4 c4) := by rw [Lib.cell_of_heap HX14.out]; rfl
          go_wp2_with fail
          refine (HS4.out _ HB14.out).mono ?_
          rintro e w15 ⟨y4, rfl, ⟨B4, k4, rfl, hl, hr⟩, hb⟩
          have HV4 : Hid (VSts w14.heap.size w15 (St.resL (plL p.vars) p.input) (.slice B4 (St.resL (plL p.vars) p.input).length k4)) := ⟨B4, k4, rfl, hl, hr⟩
          have HK15 := Lib.hid (HK14.out.trans (hb.mono HK14.out.size))
          have HC15 := Lib.hid (below_blk hb HC14.out)
          have HO15 := Lib.hid (below_blk hb HO14.out)
          have HT15 : Hid (Oth nc (nc + 1) w14 w15) := Oth.below hb
          have HB15 := Lib.hid (HB14.out.trans (hb.mono HB14.out.size))
          have HX15 := Lib.hid (below_blk hb HX14.out)
          have HZ15 := Lib.hid (below_blk hb HZ14.out)
          clear hb hl hr d0 d4
          have r1 : w15.cell? ⟨nc, 4, none⟩ = some (.slice none 0 0) := by rw [Lib.cell_of_heap HC15.out]; rfl
          have r2 : w15.cell? ⟨nc + 1, 3, none⟩ = some (.bool false) := by rw [Lib.cell_of_heap HO15.out]; rfl
          have f1 : w15.frozen? ⟨nc, 4, none⟩ = false := Lib.frozen_of_heap HC15.out 4
          have f2 : w15.frozen? ⟨nc + 1, 3, none⟩ = false := Lib.frozen_of_heap HO15.out 3
          go_upto_region 29 with fail
          obtain ⟨w16, hw16⟩ : ∃ x, (w15.setCell ⟨nc, 4, none⟩ (.slice B4 (St.resL (plL p.vars) p.input).length k4)).setCell ⟨nc + 1, 3, none⟩ (.bool true) = x := ⟨_, rfl⟩
          have HT16 : Hid (Oth nc (nc + 1) w15 w16) := by rw [← hw16]; exact Oth.set2 _ _ _
          have HC16 : Hid (w16.heap[nc]? = some (.cells #[.slice none 0 0, .slice B1 (St.resL (plL p.vars) p.start).length k1, .slice B2 (St.resL (plL p.vars) p.message).length k2, .slice B3 (St.resL (plL p.vars) p.tick).length k3, .slice B4 (St.resL (plL p.vars) p.input).length k4] 29 (0, 0))) := by
            rw [← hw16, Below.heap_setCell _ _ _ _ (show nc ≠ nc + 1 by omega)]
            have h' := blk_set HC15.out 4 (.slice B4 (St.resL (plL p.vars) p.input).length k4)
            simp only [List.setIfInBounds_toArray, List.set_cons_zero, List.set_cons_succ] at h'
            exact h'
          have HO16 : Hid (w16.heap[nc + 1]? = some (.cells #[.bool true, .bool true, .bool true, .bool true] 100 (0, 0))) := by
            rw [← hw16]
            have h' := blk_set (b := nc + 1) ((Below.heap_setCell w15 ⟨nc, 4, none⟩ (.slice B4 (St.resL (plL p.vars) p.input).length k4) (nc + 1) (show nc + 1 ≠ nc by omega)).trans HO15.out) 3 (.bool true)
            simp only [List.setIfInBounds_toArray, List.set_cons_zero, List.set_cons_succ] at h'
            exact h'
          have HK16 : Hid (Below w7.heap.size w7 w16) := by rw [← hw16]; exact (HK15.out.setCell (p := ⟨nc, 4, none⟩) (Nat.le_of_eq HNC.out) _).setCell (p := ⟨nc + 1, 3, none⟩) (Nat.le_trans (Nat.le_of_eq HNC.out) (Nat.le_succ _)) _
          simp only [hw16]
          clear hw16 r1 r2 f1 f2
          have HB16 : Hid (Below w.heap.size w w16) := HB7.out.trans (HK16.out.mono HB7.out.size)
          have HX16 : Hid (w16.heap[w.heap.size]? = some (.cells #[.slice A0 l0 c0, .slice A1 l1 c1, .slice A2 l2 c2, .slice A3 l3 c3, .slice A4 l4 c4] 74 (0, 0))) := below_blk HK16.out HX7.out
          have HZ16 : Hid (w16.heap[w.heap.size + 1]? = some (.cells #[.slice none 0 0, .slice none 0 0, .slice none 0 0, .slice none 0 0, .slice none 0 0] 29 (0, 0))) := below_blk HK16.out HZ7.out
          have r0 : w16.cell? ⟨nc + 1, 0, none⟩ = some (.bool true) := by rw [Lib.cell_of_heap HO16.out]; rfl
          have r1 : w16.cell? ⟨nc + 1, 1, none⟩ = some (.bool true) := by rw [Lib.cell_of_heap HO16.out]; rfl
          have r2 : w16.cell? ⟨nc + 1, 2, none⟩ = some (.bool true) := by rw [Lib.cell_of_heap HO16.out]; rfl
          have r3 : w16.cell? ⟨nc + 1, 3, none⟩ = some (.bool true) := by rw [Lib.cell_of_heap HO16.out]; rfl
          go_wp2_with fail
          clear r0 r1 r2 r3
          have HF1 : Hid (VSts (nc + 2) w16 (St.resL (plL p.vars) p.start) (.slice B1 (St.resL (plL p.vars) p.start).length k1)) := vs_oth HV1.out (lt_of_block HC8.out) (lt_of_block HO8.out) (lt_of_block HO8.out) ((((((HT10.out.trans HT11.out).trans HT12.out).trans HT13.out).trans HT14.out).trans HT15.out).trans HT16.out)
          have HF2 : Hid (VSts (nc + 2) w16 (St.resL (plL p.vars) p.message) (.slice B2 (St.resL (plL p.vars) p.message).length k2)) := vs_oth HV2.out (lt_of_block HC10.out) (lt_of_block HO10.out) (lt_of_block HO10.out) ((((HT12.out.trans HT13.out).trans HT14.out).trans HT15.out).trans HT16.out)
          have HF3 : Hid (VSts (nc + 2) w16 (St.resL (plL p.vars) p.tick) (.slice B3 (St.resL (plL p.vars) p.tick).length k3)) := vs_oth HV3.out (lt_of_block HC12.out) (lt_of_block HO12.out) (lt_of_block HO12.out) ((HT14.out.trans HT15.out).trans HT16.out)
          have HF4 : Hid (VSts (nc + 2) w16 (St.resL (plL p.vars) p.input) (.slice B4 (St.resL (plL p.vars) p.input).length k4)) := vs_oth HV4.out (lt_of_block HC14.out) (lt_of_block HO14.out) (lt_of_block HO14.out) HT16.out
          have hz16 : nc + 1 < w16.heap.size := lt_of_block HO16.out
          have HZ16S := Lib.hid hz16
          have HNW : Hid (nc < w16.heap.size) := Nat.lt_of_succ_lt hz16
          have HI0S : Hid (I3 w7 w16 nc (.slice B1 (St.resL (plL p.vars) p.start).length k1) (.slice B2 (St.resL (plL p.vars) p.message).length k2) (.slice B3 (St.resL (plL p.vars) p.tick).length k3) (.slice B4 (St.resL (plL p.vars) p.input).length k4) [] none 0 0 w16) := ⟨rfl, ⟨by simp, .inl ⟨rfl, rfl⟩⟩, HK16.out, HC16.out, ⟨Nat.le_refl _, fun _ _ _ _ => rfl⟩⟩
          clear HV1 HS1 HD1 HV2 HS2 HD2 HV3 HS3 HD3 HV4 HS4 HD4 HT9 HT10 HT11 HT12 HT13 HT14 HT15 HT16 HB8 HX8 HZ8 HB9 HX9 HZ9 HB10 HX10 HZ10 HB11 HX11 HZ11 HB12 HX12 HZ12 HB13 HX13 HZ13 HB14 HX14 HZ14 HB15 HX15 HZ15 HB16 HX16 HZ16 HO8 HO9 HO10 HO11 HO12 HO13 HO14 HO15 HO16 HC8 HC9 HC10 HC11 HC12 HC13 HC14 HC15 HC16 HK8 HK9 HK10 HK11 HK12 HK13 HK14 HK15 HK16 hz16
          go_loopg [11, 12] l0 (fun g i _ wr => ∃ (k : Nat) (A : Option Addr) (L c : Nat), k + g = l0 ∧ i = .int .i64 k ∧ Hid (I3 w7 w16 nc (.slice B1 (St.resL (plL p.vars) p.start).length k1) (.slice B2 (St.resL (plL p.vars) p.message).length k2) (.slice B3 (St.resL (plL p.vars) p.tick).length k3) (.slice B4 (St.resL (plL p.vars) p.input).length k4) (ini3 (p.vars.take k)) A L c wr))
          case atStart => exact ⟨0, none, 0, 0, by omega, rfl, HI0S⟩
          case round =>
            obtain ⟨k, A, L, c, hkg, rfl, HH⟩ := hrel
            clear HI0S
            have HX : Hid (wr.heap[w.heap.size]? = some (.cells #[.slice A0 l0 c0, .slice A1 l1 c1, .slice A2 l2 c2, .slice A3 l3 c3, .slice A4 l4 c4] 74 (0, 0))) := below_blk HH.out.bel HX7.out
            have d0 : wr.cell? ⟨w.heap.size, 0, none⟩ = some (.slice A0 l0 c0) := by rw [Lib.cell_of_heap HX.out]; rfl
            cases gk with
            | zero =>
              have HGZ := Lib.hid hkg
              have hge : l0 ≤ k := by omega
              clear hkg
              have HT : Hid (ini3 (p.vars.take k) = ini3 p.vars) := by show _ = _; rw [List.take_of_length_le (by have := HNL.out; have := HGZ.out; omega)]
              rw [HT.out] at HH
              have HZ : Hid (wr.heap[w.heap.size + 1]? = some (.cells #[.slice none 0 0, .slice none 0 0, .slice none 0 0, .slice none 0 0, .slice none 0 0] 29 (0, 0))) := below_blk HH.out.bel HZ7.out
              obtain ⟨e0, e1, e2, e3, e4, _, _, _, _, _, hqn⟩ := box5 HH.out.box
              obtain ⟨g0, g1, g2, g3, g4, y0, y1, y2, y3, y4, hyn⟩ := box5 HZ.out
              go_wp2_with fail
              refine bodyPost_ret (v := .tuple #[.agg #[.slice A L c, .slice B1 (St.resL (plL p.vars) p.start).length k1, .slice B2 (St.resL (plL p.vars) p.message).length k2, .slice B3 (St.resL (plL p.vars) p.tick).length k3, .slice B4 (St.resL (plL p.vars) p.input).length k4], .int .i64 0]) ?_ rfl ?_
              · have h := (blk_set (blk_set (blk_set (blk_set (blk_set HZ.out 0 (.slice A L c)) 1 (.slice B1 (St.resL (plL p.vars) p.start).length k1)) 2 (.slice B2 (St.resL (plL p.vars) p.message).length k2)) 3 (.slice B3 (St.resL (plL p.vars) p.tick).length k3)) 4 (.slice B4 (St.resL (plL p.vars) p.input).length k4))
                simp [results, Tryd.results34, go_sem, Lib.cell_of_heap h]
              · exact r3_end HB7.out HN0.out HZ16S.out HH.out HF1.out HF2.out HF3.out HF4.out
            | succ g =>
              have hlt : k < l0 := by omega
              have HG := Lib.hid hkg
              clear hkg
              obtain ⟨v, hv⟩ : ∃ v, p.vars[k]? = some v := ⟨_, List.getElem?_eq_getElem (by have := HNL.out; omega)⟩
              have hsu := ini3_take p.vars k v hv
              have hk1 := HCS.out (k + 1) (by have := HNL.out; omega)
              have hil := ini3_len (p.vars.take (k + 1)) (by omega)
              rw [hsu, List.length_append, List.length_cons, List.length_replicate] at hil
              obtain ⟨-, -, bb, o, rfl, -, hbb, -, x1, x2⟩ := HP.out.1.get hv
              have HCL : Hid (∀ W, Below w7.heap.size w7 W → W.cell? ⟨bb, o + k * 3 + 1, none⟩ = some (.int .i64 v.size) ∧ W.cell? ⟨bb, o + k * 3 + 2, none⟩ = some (.int .i64 v.init)) := fun W hb =>
                ⟨((HB7.out.trans (hb.mono HB7.out.size)).cell (p := ⟨bb, o + k * 3 + 1, none⟩) hbb).trans x1, ((HB7.out.trans (hb.mono HB7.out.size)).cell (p := ⟨bb, o + k * 3 + 2, none⟩) hbb).trans x2⟩
              clear x1 x2
              obtain ⟨vn, vs, vi⟩ := v
              simp only at HCL hsu hil
              obtain ⟨x1, x2⟩ := HCL.out wr HH.out.bel
              obtain ⟨XS, hXS⟩ : ∃ x, ini3 (p.vars.take k) = x := ⟨_, rfl⟩
              rw [hXS] at HH hil hsu
              have hl32 : L + 1 + (vs - 1).toNat ≤ 32 := by have := HH.out.len; omega
              have HL32 := Lib.hid hl32
              have HSU := Lib.hid hsu
              have q1 : wr.cell? ⟨nc, 0, none⟩ = some (.slice A L c) := by rw [Lib.cell_of_heap HH.out.box]; rfl
              have f1 : wr.frozen? ⟨nc, 0, none⟩ = false := Lib.frozen_of_heap HH.out.box 0
              have q3 : (wr.alloc (.cells #[.int .i64 vi] 3)).drew.cell? ⟨nc, 0, none⟩ = some (.slice A L c) := by
                have h := (alloc_blk wr (.cells #[.int .i64 vi] 3) (lt_of_block HH.out.box)).trans HH.out.box
                show (wr.alloc (.cells #[.int .i64 vi] 3)).cell? ⟨nc, 0, none⟩ = _
                rw [Lib.cell_of_heap h]; rfl
              obtain ⟨i0, hi, hz0, hz1, hz2⟩ := info_parts infoInt
              have HI := Lib.hid hi
              have HI0 := Lib.hid hz0
              have HI1 := Lib.hid hz1
              have HI2 := Lib.hid hz2
              clear hi hz0 hz1 hz2 hv hsu hk1 hil hl32 hXS
              go_wp2_with fail
              go_region_law (refine step_append_own_at rfl (.tmp 166) (.tmp 173) 26 rfl w16.heap.size 3 i0 _ 1 8 Tryd.underlying26 HI.out HI0.out HI1.out HI2.out rfl (by decide) (.slice A L c) L (XS.map (Value.int .i64)) (by simp [Act.eval]) (own_bel HH.out.own (((Below.refl _ _).alloc (Nat.le_refl _) (.cells #[.int .i64 vi] 3)).drew)) ⟨wr.heap.size, 0, none⟩ 1 1 [.int .i64 vi] (by simp [Act.eval]) rfl (fun j u hj => ex_new wr [.int .i64 vi] 3 j u hj) (by simp [Value.oneCell']) (by have := HL32.out; unfold maxLen; omega) (by have := HL32.out; omega) (Nat.le_trans HH.out.oth.1 (Below.size (((Below.refl _ _).alloc (Nat.le_refl _) (.cells #[.int .i64 vi] 3)).drew))) ?_; intro v9 w9 hown9 hgrow9 hob9; obtain ⟨A9, c9, rfl⟩ := own_slice hown9; have HOW9 := Lib.hid hown9; have HGR := Lib.hid hgrow9; have HC9 := Lib.hid (HH.out.mid HNW.out (((Below.refl _ _).alloc (Nat.le_refl _) (.cells #[.int .i64 vi] 3)).drew) hgrow9); have q2 : w9.cell? ⟨nc, 0, none⟩ = some (.slice A L c) := (by rw [Lib.cell_of_heap HC9.out]; rfl); have f2 : w9.frozen? ⟨nc, 0, none⟩ = false := Lib.frozen_of_heap HC9.out 0; clear hown9 hgrow9 hob9)
              all_goals
                have HN9 := Lib.hid (HH.out.next HNW.out (Nat.le_of_eq HNC.out) (((Below.refl _ _).alloc (Nat.le_refl _) (.cells #[.int .i64 vi] 3)).drew) HOW9.out HGR.out)
                obtain ⟨wa, hwa⟩ : ∃ x, w9.setCell ⟨nc, 0, none⟩ (.slice A9 (L + 1) c9) = x := ⟨_, rfl⟩
                rw [hwa] at HN9
                simp only [hwa]
                clear hwa q1 f1 q2 f2 q3 HOW9 HGR HC9 x1 x2 d0 HX
                obtain ⟨m, hm⟩ : ∃ x, (vs - 1).toNat = x := ⟨_, rfl⟩
                have HM := Lib.hid hm
                rw [hm] at HL32 HSU
                clear HH hm
                go_wp2_with fail
                go_loopg [12] m (fun g2 i wr => ∃ (j : Nat) (A : Option Addr) (L' c : Nat), j + g2 = m ∧ i = .int .i64 (j + 1) ∧ L' = L + 1 + j ∧ Hid (I3 w7 w16 nc (.slice B1 (St.resL (plL p.vars) p.start).length k1) (.slice B2 (St.resL (plL p.vars) p.message).length k2) (.slice B3 (St.resL (plL p.vars) p.tick).length k3) (.slice B4 (St.resL (plL p.vars) p.input).length k4) (XS ++ vi :: List.replicate j 0) A L' c wr))
                case atStart => exact ⟨0, A9, L + 1, c9, by omega, rfl, rfl, HN9⟩
                case round =>
                  obtain ⟨j, A, L', c, hjm, rfl, hL', HH⟩ := hrel
                  have HX : Hid (wr.heap[w.heap.size]? = some (.cells #[.slice (some ⟨bb, o, none⟩) l0 c0, .slice A1 l1 c1, .slice A2 l2 c2, .slice A3 l3 c3, .slice A4 l4 c4] 74 (0, 0))) := below_blk HH.out.bel HX7.out
                  have d0 : wr.cell? ⟨w.heap.size, 0, none⟩ = some (.slice (some ⟨bb, o, none⟩) l0 c0) := by rw [Lib.cell_of_heap HX.out]; rfl
                  obtain ⟨x1, x2⟩ := HCL.out wr HH.out.bel
                  clear x2
                  cases gk with
                  | zero =>
                    have hge : vs ≤ (j : Int) + 1 := by have := HM.out; omega
                    have HJM : Hid (j = m) := by show _ = _; omega
                    have HN : Hid (I3 w7 w16 nc (.slice B1 (St.resL (plL p.vars) p.start).length k1) (.slice B2 (St.resL (plL p.vars) p.message).length k2) (.slice B3 (St.resL (plL p.vars) p.tick).length k3) (.slice B4 (St.resL (plL p.vars) p.input).length k4) (ini3 (p.vars.take (k + 1))) A L' c wr) := by show I3 _ _ _ _ _ _ _ _ _ _ _ _; rw [HSU.out, ← HJM.out]; exact HH.out
                    clear hjm hL'
                    go_wp2_with fail
                    go_roundg g
                    case rel => exact ⟨k + 1, A, L', c, by have := HG.out; omega, by go_num, HN⟩
                    case measure => omega
                  | succ g2 =>
                    have hlt2 : (j : Int) + 1 < vs := by have := HM.out; omega
                    have HJM := Lib.hid hjm
                    have HLL := Lib.hid hL'
                    have hl32 : L' + 1 ≤ 32 := by have := HL32.out; omega
                    have hj32 : (j : Int) ≤ 32 := by omega
                    replace HL32 := Lib.hid hl32
                    clear hjm hL' hl32 HN9
                    obtain ⟨YS, hYS⟩ : ∃ x, XS ++ vi :: List.replicate j 0 = x := ⟨_, rfl⟩
                    have HYS : Hid (XS ++ vi :: List.replicate (j + 1) 0 = YS ++ [0]) := by
                      show _ = _
                      rw [← hYS, List.replicate_succ', List.append_assoc]; rfl
                    rw [hYS] at HH
                    clear hYS
                    have q1 : wr.cell? ⟨nc, 0, none⟩ = some (.slice A L' c) := by rw [Lib.cell_of_heap HH.out.box]; rfl
                    have f1 : wr.frozen? ⟨nc, 0, none⟩ = false := Lib.frozen_of_heap HH.out.box 0
                    go_wp2_with (at_builtin; refine wpList_append_own_at _ rfl (.tmp 187) (.tmp 188) 26 rfl w16.heap.size 3 i0 _ 1 8 Tryd.underlying26 HI.out HI0.out HI1.out HI2.out rfl (by decide) (.slice A L' c) L' (YS.map (Value.int .i64)) (by simp [Act.eval]) (own_bel HH.out.own ((Below.refl _ _).alloc (Nat.le_refl _) (.cells #[.int .i64 0] 3))) ⟨wr.heap.size, 0, none⟩ 1 1 [.int .i64 0] (by simp [Act.eval]) rfl (fun j u hj => ex_new wr [.int .i64 0] 3 j u hj) (by simp [Value.oneCell']) (by have := HL32.out; unfold maxLen; omega) (by have := HL32.out; omega) (Nat.le_trans HH.out.oth.1 (Below.size ((Below.refl _ _).alloc (Nat.le_refl _) (.cells #[.int .i64 0] 3)))) ?_; intro v9 w9 hown9 hgrow9 _ hob9; obtain ⟨A9, c9, rfl⟩ := own_slice hown9; have HOW9 := Lib.hid hown9; have HGR := Lib.hid hgrow9; have HC9 := Lib.hid (HH.out.mid HNW.out ((Below.refl _ _).alloc (Nat.le_refl _) (.cells #[.int .i64 0] 3)) hgrow9); have q2 : w9.cell? ⟨nc, 0, none⟩ = some (.slice A L' c) := (by rw [Lib.cell_of_heap HC9.out]; rfl); have f2 : w9.frozen? ⟨nc, 0, none⟩ = false := Lib.frozen_of_heap HC9.out 0; clear hown9 hgrow9 hob9)
                    have HN1 := Lib.hid (HH.out.next HNW.out (Nat.le_of_eq HNC.out) ((Below.refl _ _).alloc (Nat.le_refl _) (.cells #[.int .i64 0] 3)) HOW9.out HGR.out)
                    rw [← HYS.out] at HN1
                    go_roundg g2
                    case rel => exact ⟨j + 1, A9, L' + 1, c9, by have := HJM.out; omega, by go_num, by have := HLL.out; omega, HN1⟩
                    case measure => omega
end Go.Proofs.YtgblgkkbggdopaaDoor
