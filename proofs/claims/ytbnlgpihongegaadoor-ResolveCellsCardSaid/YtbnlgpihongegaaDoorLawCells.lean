/-
  The walk of the law ResolveCells. Conditions: its argument reads as a list of bytes; the tables of names and of operators hold what start-up laid.
-/
import Derived.Test.YtbnlgpihongegaaDoorWalkRg
import Derived.Test.YtbnlgpihongegaaDoorWalkPk
import Derived.Test.YtbnlgpihongegaaDoorWalkWi
import Derived.Test.YtbnlgpihongegaaDoorWalkA3
import Derived.Test.YtbnlgpihongegaaDoorWalkLk
import Derived.Test.YtbnlgpihongegaaDoorWalkMp
namespace Go.Proofs.YtbnlgpihongegaaDoor
open Go.RowKit

/-- Where the declarations of a drawn program lie. -/
def cOff (b : Nat) : Nat → Int
  | 0 => 0
  | 1 => 1
  | 2 => 2 + (b : Int)
  | 3 => 3 + (b : Int)
  | 4 => 4 + (b : Int)
  | _ => 6 + (b : Int)
/-- The initial values of a drawn program's cells. -/
def cIni (a b c : Nat) : List Int := [(a : Int) - 2] ++ List.replicate (1 + b) 0 ++ [0, (c : Int), 0, 0]
theorem cIni_len (a b c : Nat) : (cIni a b c).length = 6 + b := by simp [cIni]; omega
def cvB (a b c k : Nat) : Bool := match (drV a b c)[k]? with
  | none => false
  | some v => decide (lookS v.name (drV a b c) 0 = (cOff b k, v.size, true)) && decide (0 ≤ v.size) && decide (cOff b k + max v.size 1 = cOff b (k + 1)) && decide (cOff b (k + 1) ≤ 6 + (b : Int)) && decide (0 ≤ cOff b k) && (decide (v.size ≠ 0) || decide ((cIni a b c)[(cOff b k).toNat]? = some v.init)) && ((List.range v.size.toNat).all fun i => decide ((cIni a b c)[(cOff b k).toNat + i]? = some 0))
theorem cv_all : ((List.range 7).all fun a => (List.range 5).all fun b => (List.range 3).all fun c => (List.range 5).all fun k => cvB a b c k) = true := by decide +kernel
theorem cv_at {a b c k : Nat} (ha : a < 7) (hb : b < 5) (hc : c < 3) (hk : k < 5) : ∃ v, (drV a b c)[k]? = some v ∧ lookS v.name (drV a b c) 0 = (cOff b k, v.size, true) ∧ 0 ≤ v.size ∧ cOff b k + max v.size 1 = cOff b (k + 1) ∧ cOff b (k + 1) ≤ 6 + (b : Int) ∧ 0 ≤ cOff b k ∧
    (v.size = 0 → (cIni a b c)[(cOff b k).toNat]? = some v.init) ∧ (∀ i, i < v.size.toNat → (cIni a b c)[(cOff b k).toNat + i]? = some 0) := by
  have h := List.all_eq_true.1 (List.all_eq_true.1 (List.all_eq_true.1 (List.all_eq_true.1 cv_all a (List.mem_range.2 ha)) b (List.mem_range.2 hb)) c (List.mem_range.2 hc)) k (List.mem_range.2 hk)
  unfold cvB at h
  split at h
  · cases h
  · rename_i v hv
    simp only [Bool.and_eq_true, Bool.or_eq_true, decide_eq_true_eq, List.all_eq_true, List.mem_range] at h
    obtain ⟨⟨⟨⟨⟨⟨h1, h2⟩, h3⟩, h4⟩, h5⟩, h6⟩, h7⟩ := h
    exact ⟨v, hv, h1, h2, h3, h4, h5, fun hz => h6.resolve_left (fun hn => hn hz), h7⟩

mutual
theorem res_big (f : Pl) : ∀ e : Ex, (e.res f).big = e.big
  | .mk op v nm sl sz args => by
    have h := resL_big f args
    simp only [Ex.res]
    split <;> simp only [Ex.big, h]
theorem resL_big (f : Pl) : ∀ l : List Ex, Ex.bigL (Ex.resL f l) = Ex.bigL l
  | [] => rfl
  | e :: r => by simp only [Ex.resL, Ex.bigL, res_big f e, resL_big f r]
end
mutual
theorem sres_big (f : Pl) : ∀ s : St, (s.res f).big = s.big
  | .mk kind nm sl sz p v b e => by
    have h1 := sresL_big f b
    have h2 := sresL_big f e
    simp only [St.res]
    split <;> simp only [St.big, h1, h2, res_big]
theorem sresL_big (f : Pl) : ∀ l : List St, St.bigL (St.resL f l) = St.bigL l
  | [] => rfl
  | s :: r => by simp only [St.resL, St.bigL, sres_big f s, sresL_big f r]
end

/-- A drawn program resolves, and its places lie within its cells. -/
theorem drawn_resolve (p : Pr) (hp : drP p) : ∃ (a b c : Nat), a < 7 ∧ b < 5 ∧ c < 3 ∧ p.vars = drV a b c ∧ (declS p.vars).2.1 = cIni a b c ∧
    (witL (6 + (b : Int)) (St.resL (declS p.vars).2.2 p.start) ∧ witL (6 + (b : Int)) (St.resL (declS p.vars).2.2 p.message) ∧ witL (6 + (b : Int)) (St.resL (declS p.vars).2.2 p.tick) ∧ witL (6 + (b : Int)) (St.resL (declS p.vars).2.2 p.input)) ∧ p.big ≤ 100000 ∧
    ∀ (S : Nat → Prop) (w : World), SymAt w → ∀ (A0 A1 A2 A3 A4 : Option Addr) (l0 l1 l2 l3 l4 c0 c1 c2 c3 c4 : Nat), PrAt S w p (.slice A0 l0 c0) (.slice A1 l1 c1) (.slice A2 l2 c2) (.slice A3 l3 c3) (.slice A4 l4 c4) →
      Calls Tryd.prog 10 #[.agg #[.slice A0 l0 c0, .slice A1 l1 c1, .slice A2 l2 c2, .slice A3 l3 c3, .slice A4 l4 c4]] w (RgPost p w) := by
  obtain ⟨a, b, c, ha, hb, hc, hv, hbig, hdp, hg⟩ := drP_ok p hp
  obtain ⟨n1, n2, n3, _⟩ := drV_names a ha b hb c hc
  have e : dPl a b c = (declS p.vars).2.2 := by rw [hv]; rfl
  rw [e] at hg
  have g1 := hg p.start (.inl rfl)
  have g2 := hg p.message (.inr (.inl rfl))
  have g3 := hg p.tick (.inr (.inr (.inl rfl)))
  have g4 := hg p.input (.inr (.inr (.inr rfl)))
  refine ⟨a, b, c, ha, hb, hc, hv, by rw [hv]; exact n2, ⟨g1.2.2.2, g2.2.2.2, g3.2.2.2, g4.2.2.2⟩, hbig, ?_⟩
  intro S w hsy A0 A1 A2 A3 A4 l0 l1 l2 l3 l4 c0 c1 c2 c3 c4 h
  exact resolve_good p hbig (by rw [hv]; simp [drV]) (fun v hvm => by rw [hv] at hvm; simp only [drV, List.mem_cons, List.not_mem_nil, or_false] at hvm; rcases hvm with rfl | rfl | rfl | rfl | rfl <;> simp) hdp (by rw [hv]; exact n3) (by rw [hv]; exact n1)
    ⟨g1.1, g1.2.1, g1.2.2.1⟩ ⟨g2.1, g2.2.1, g2.2.2.1⟩ ⟨g3.1, g3.2.1, g3.2.2.1⟩ ⟨g4.1, g4.2.1, g4.2.2.1⟩ S w hsy A0 A1 A2 A3 A4 l0 l1 l2 l3 l4 c0 c1 c2 c3 c4 h

/-- The cells of a list of ints that is owned. -/
theorem own_ints {w : World} {base L c : Nat} {A : Option Addr} {xs : List Int} (h : w.ownsRow base 3 1 (.slice A L c) L (xs.map (Value.int .i64))) (hL : 0 < L) : ∃ g, A = some ⟨g, 0, none⟩ ∧ L ≤ c ∧ base ≤ g ∧ ∀ i x, xs[i]? = some x → w.cell? ⟨g, i, none⟩ = some (.int .i64 x) := by
  obtain ⟨hl, ⟨_, hz⟩ | ⟨g, cap, cur, e, hg, hb, h1, h2, h3, h4⟩⟩ := h
  · omega
  · injection e with e1 e2 e3
    subst e1 e3
    refine ⟨g, rfl, h1, hg, fun i x hx => ?_⟩
    have hi : i < xs.length := (List.getElem?_eq_some_iff.1 hx).1
    rw [List.length_map, Nat.mul_one] at hl
    have hm : (xs.map (Value.int .i64))[i]? = some (.int .i64 x) := by rw [List.getElem?_map, hx]; rfl
    rw [← h4, Nat.mul_one, List.getElem?_take_of_lt (by omega)] at hm
    rw [Lib.cell_of_heap hb, ← Array.getElem?_toList]
    exact hm

set_option maxHeartbeats 8000000 in
set_option maxRecDepth 100000 in
theorem resolveCells_any (codes : Value) (w : World) (hcd : BytesIn w.heap.size w codes) (hg : GlAt w) (hgt : glTop ≤ w.heap.size) (hsy : SymAt w) :
    Calls Tryd.prog 4 #[codes] w fun e w' => e = .returned (.bool true) ∧ Below w.heap.size w w' := by
  have HCD := Lib.hid hcd
  have HG := Lib.hid hg
  have HSY := Lib.hid hsy
  clear hcd hg hsy
  go_enter Tryd.func4, Tryd.ntmps4
  go_wp2_with fail
  refine (awake3_any _).mono ?_
  rintro e w1 ⟨rfl, hb⟩
  have HB1 := Lib.hid hb
  clear hb
  go_wp2_with fail
  refine (new_any w.heap.size codes 200 w1 (HCD.out.below HB1.out) HB1.out.size (by decide)).mono ?_
  rintro e w2 ⟨cb, A, n, c, rfl, -, hcs, hcb1, hb⟩
  have HB2 := Lib.hid (HB1.out.trans (hb.mono HB1.out.size))
  have HC2 : Hid (CodesIn w.heap.size w2 cb) := ⟨A, n, c, 0, hcs⟩
  have hcb : w.heap.size ≤ cb := Nat.le_trans HB1.out.size hcb1
  have hgt' : glTop ≤ cb := Nat.le_trans hgt hcb
  have hg2 : GlAt w2 := by
    obtain ⟨⟨T, fr, h1⟩, ⟨T', fr', h2⟩⟩ := HG.out
    exact ⟨⟨T, fr, below_blk HB2.out h1⟩, ⟨T', fr', below_blk HB2.out h2⟩⟩
  have HG2 := Lib.hid hg2
  clear hb hcs hcb1 HB1 hg2
  go_wp2_with fail
  refine (mp_any w.heap.size cb w2 HC2.out HG2.out hgt').mono ?_
  rintro e w3 ⟨p, v, rfl, ⟨A0, A1, A2, A3, A4, l0, q0, l1, q1, l2, q2, l3, q3, l4, q4, rfl, hp⟩, hdp, -, hk⟩
  obtain ⟨a, b, c', ha, hb, hc, hv, hini, hwit, hbig, hres⟩ := drawn_resolve p hdp
  have hl0 : l0 = 5 := by obtain ⟨⟨_, _, e, _⟩, _⟩ := hp; injection e with _ e; rw [e, hv]; rfl
  subst hl0
  have HB3 := Lib.hid (HB2.out.trans (hk.below HB2.out.size hcb))
  have HPR := Lib.hid hp
  have HWI := Lib.hid hwit
  have HRS := Lib.hid hres
  have HIN := Lib.hid hini
  have HV := Lib.hid hv
  have HBG := Lib.hid hbig
  clear hp hdp hk hv hini hwit hbig hres HC2 HG2 hcb hgt'
  go_upto_region 4 with fail
  obtain ⟨W4, hW4⟩ : ∃ x, w3.alloc (.cells #[.slice A0 5 q0, .slice A1 l1 q1, .slice A2 l2 q2, .slice A3 l3 q3, .slice A4 l4 q4] 29) = x := ⟨_, rfl⟩
  obtain ⟨np, hnp⟩ : ∃ x, w3.heap.size = x := ⟨_, rfl⟩
  have HX4 := Lib.hid (show W4.heap[np]? = some (.cells #[.slice A0 5 q0, .slice A1 l1 q1, .slice A2 l2 q2, .slice A3 l3 q3, .slice A4 l4 q4] 29 (0, 0)) by rw [← hW4, ← hnp]; exact new_blk w3 _)
  have h34 : Below w3.heap.size w3 W4 := by rw [← hW4]; exact (Below.refl _ _).alloc (Nat.le_refl _) _
  have HB4 := Lib.hid (HB3.out.trans (h34.mono HB3.out.size))
  have HP4 := Lib.hid (HPR.out.still (S' := fun _ => True) fun k _ h2 => ⟨trivial, h34.block k h2⟩)
  have hnw : w.heap.size ≤ np := by rw [← hnp]; exact HB3.out.size
  simp only [hW4, hnp]
  clear hW4 hnp h34 HPR HB3
  obtain ⟨d0, d1, d2, d3, d4, _, _, _, _, _, hn4⟩ := box5 HX4.out
  go_wp2_with fail
  refine (HRS.out _ W4 (HSY.out.below HB4.out) A0 A1 A2 A3 A4 5 l1 l2 l3 l4 q0 q1 q2 q3 q4 HP4.out).mono ?_
  rintro e w5 ⟨hb5, Ai, B1, B2, B3, B4, ci, k1, k2, k3, k4, rfl, hown, hv1, hv2, hv3, hv4⟩
  rw [HIN.out, cIni_len] at hown ⊢
  obtain ⟨gi, rfl, hci, hgi, hcell⟩ := own_ints hown (by omega)
  have HCL := Lib.hid hcell
  have HV1 := Lib.hid hv1
  have HV2 := Lib.hid hv2
  have HV3 := Lib.hid hv3
  have HV4 := Lib.hid hv4
  have HB5 := Lib.hid (HB4.out.trans (hb5.mono HB4.out.size))
  have HX5 := Lib.hid (below_blk hb5 HX4.out)
  have HP5 := Lib.hid (HP4.out.still (S' := fun _ => True) fun k _ h2 => ⟨trivial, hb5.block k h2⟩)
  clear hown hcell hv1 hv2 hv3 hv4 HRS HIN HX4 HP4 d0 d1 d2 d3 d4 hb5
  go_upto_region 5 with fail
  obtain ⟨W6, hW6⟩ : ∃ x, w5.alloc (.cells #[.slice (some ⟨gi, 0, none⟩) (6 + b) ci, .slice B1 p.start.length k1, .slice B2 p.message.length k2, .slice B3 p.tick.length k3, .slice B4 p.input.length k4] 35) = x := ⟨_, rfl⟩
  obtain ⟨nc, hnc⟩ : ∃ x, w5.heap.size = x := ⟨_, rfl⟩
  have h56 : Below w5.heap.size w5 W6 := by rw [← hW6]; exact (Below.refl _ _).alloc (Nat.le_refl _) _
  have HX6 := Lib.hid (show W6.heap[nc]? = some (.cells #[.slice (some ⟨gi, 0, none⟩) (6 + b) ci, .slice B1 p.start.length k1, .slice B2 p.message.length k2, .slice B3 p.tick.length k3, .slice B4 p.input.length k4] 35 (0, 0)) by rw [← hW6, ← hnc]; exact new_blk w5 _)
  have HY6 := Lib.hid (below_blk h56 HX5.out)
  have HB6 := Lib.hid (HB5.out.trans (h56.mono HB5.out.size))
  have HC6 : Hid (∀ (i : Nat) (x : Int), (cIni a b c')[i]? = some x → W6.cell? ⟨gi, i, none⟩ = some (.int .i64 x)) := fun i x h => (h56.cell (p := ⟨gi, i, none⟩) (World.block_lt_of_cell? _ _ (HCL.out i x h))).trans (HCL.out i x h)
  have HP6 : Hid (VrSlice (fun _ => True) W6 (drV a b c') (.slice A0 5 q0)) := by have h := HP5.out.1; rw [HV.out] at h; exact h.still fun k _ h2 => ⟨trivial, h56.block k h2⟩
  have HW1 : Hid (∀ W, Below W6.heap.size W6 W → Calls Tryd.prog 14 #[.slice B1 p.start.length k1, .int .i64 (6 + (b : Int))] W fun e' w' => e' = .returned (.bool true) ∧ Below W.heap.size W w') := fun W hb => within_all _ (by omega) 100000 _ (by rw [sresL_big]; have := HBG.out; unfold Pr.big at this; omega) (Nat.le_refl _) HWI.out.1 _ W B1 _ k1 (StSlice.still (S' := fun _ => True) HV1.out fun k _ h2 => ⟨trivial, (hb.block k (Nat.lt_of_lt_of_le h2 h56.size)).trans (h56.block k h2)⟩)
  have HW2 : Hid (∀ W, Below W6.heap.size W6 W → Calls Tryd.prog 14 #[.slice B2 p.message.length k2, .int .i64 (6 + (b : Int))] W fun e' w' => e' = .returned (.bool true) ∧ Below W.heap.size W w') := fun W hb => within_all _ (by omega) 100000 _ (by rw [sresL_big]; have := HBG.out; unfold Pr.big at this; omega) (Nat.le_refl _) HWI.out.2.1 _ W B2 _ k2 (StSlice.still (S' := fun _ => True) HV2.out fun k _ h2 => ⟨trivial, (hb.block k (Nat.lt_of_lt_of_le h2 h56.size)).trans (h56.block k h2)⟩)
  have HW3 : Hid (∀ W, Below W6.heap.size W6 W → Calls Tryd.prog 14 #[.slice B3 p.tick.length k3, .int .i64 (6 + (b : Int))] W fun e' w' => e' = .returned (.bool true) ∧ Below W.heap.size W w') := fun W hb => within_all _ (by omega) 100000 _ (by rw [sresL_big]; have := HBG.out; unfold Pr.big at this; omega) (Nat.le_refl _) HWI.out.2.2.1 _ W B3 _ k3 (StSlice.still (S' := fun _ => True) HV3.out fun k _ h2 => ⟨trivial, (hb.block k (Nat.lt_of_lt_of_le h2 h56.size)).trans (h56.block k h2)⟩)
  have HW4 : Hid (∀ W, Below W6.heap.size W6 W → Calls Tryd.prog 14 #[.slice B4 p.input.length k4, .int .i64 (6 + (b : Int))] W fun e' w' => e' = .returned (.bool true) ∧ Below W.heap.size W w') := fun W hb => within_all _ (by omega) 100000 _ (by rw [sresL_big]; have := HBG.out; unfold Pr.big at this; omega) (Nat.le_refl _) HWI.out.2.2.2 _ W B4 _ k4 (StSlice.still (S' := fun _ => True) HV4.out fun k _ h2 => ⟨trivial, (hb.block k (Nat.lt_of_lt_of_le h2 h56.size)).trans (h56.block k h2)⟩)
  simp only [hW6, hnc]
  have HA := Lib.hid (And.intro ha (And.intro hb hc))
  obtain ⟨y0, _, _, _, _, _, _, _, _, _, hyn⟩ := box5 HY6.out
  clear hW6 hnc h56 HWI HV HBG HV1 HV2 HV3 HV4 HB5 HX5 HP5 HB4 HCL hgi hn4 hnw ha hc HSY HG HCD HB2 hgt
  go_wp2_with fail
  go_loopg [6, 9, 10, 11, 12, 28] 5 (fun g nx _ _ _ _ i wr => ∃ k : Nat, k + g = 5 ∧ i = .int .i64 k ∧ nx = .int .i64 (cOff b k) ∧ Hid (Below W6.heap.size W6 wr))
  case atStart => exact ⟨0, rfl, rfl, rfl, Below.refl _ _⟩
  case round =>
    obtain ⟨k, hkg, rfl, rfl, HBr⟩ := hrel
    have HXr := Lib.hid (below_blk HBr.out HX6.out)
    have HYr := Lib.hid (below_blk HBr.out HY6.out)
    obtain ⟨x0, x1, x2, x3, x4, _, _, _, _, _, hxn⟩ := box5 HXr.out
    cases gk with
    | zero =>
      have hk5 : k = 5 := by omega
      subst hk5
      simp only [cOff]
      clear hkg
      go_wp2_with fail
      refine (HW1.out _ HBr.out).mono ?_
      rintro e w11 ⟨rfl, hb⟩
      have HBa1 := Lib.hid (HBr.out.trans (hb.mono HBr.out.size))
      have HXa1 := Lib.hid (below_blk hb HXr.out)
      clear hb x0 x1 x2 x3 x4
      have x : w11.cell? ⟨nc, 2, none⟩ = some (.slice B2 p.message.length k2) := by rw [Lib.cell_of_heap HXa1.out]; rfl
      go_wp2_with fail
      refine (HW2.out _ HBa1.out).mono ?_
      rintro e w12 ⟨rfl, hb⟩
      have HBa2 := Lib.hid (HBa1.out.trans (hb.mono HBa1.out.size))
      have HXa2 := Lib.hid (below_blk hb HXa1.out)
      clear hb x
      have x : w12.cell? ⟨nc, 3, none⟩ = some (.slice B3 p.tick.length k3) := by rw [Lib.cell_of_heap HXa2.out]; rfl
      go_wp2_with fail
      refine (HW3.out _ HBa2.out).mono ?_
      rintro e w13 ⟨rfl, hb⟩
      have HBa3 := Lib.hid (HBa2.out.trans (hb.mono HBa2.out.size))
      have HXa3 := Lib.hid (below_blk hb HXa2.out)
      clear hb x
      have x : w13.cell? ⟨nc, 4, none⟩ = some (.slice B4 p.input.length k4) := by rw [Lib.cell_of_heap HXa3.out]; rfl
      go_wp2_with fail
      refine (HW4.out _ HBa3.out).mono ?_
      rintro e w14 ⟨rfl, hb⟩
      have HBa4 := Lib.hid (HBa3.out.trans (hb.mono HBa3.out.size))
      have HXa4 := Lib.hid (below_blk hb HXa3.out)
      clear hb x
      go_wp2_with fail
      go_ret
      exact ⟨rfl, HB6.out.trans (HBa4.out.mono HB6.out.size)⟩
    | succ g =>
      have hlt : k < 5 := by omega
      have hlt' : (k : Int) < 5 := by omega
      have HG := Lib.hid hkg
      clear hkg
      obtain ⟨v, hvk, f1, f2, f3, f4, f5, f6, f7⟩ := cv_at HA.out.1 HA.out.2.1 HA.out.2.2 hlt
      obtain ⟨-, -, bb, o, rfl, -, hbb, z0, z1, z2⟩ := HP6.out.get hvk
      obtain ⟨nm, size, init⟩ := v
      simp only at f1 f2 f3 f4 f5 f6 f7 z0 z1 z2
      replace z0 := (HBr.out.cell (p := ⟨bb, _, none⟩) hbb).trans z0
      replace z1 := (HBr.out.cell (p := ⟨bb, _, none⟩) hbb).trans z1
      replace z2 := (HBr.out.cell (p := ⟨bb, _, none⟩) hbb).trans z2
      obtain ⟨oN, ho⟩ := Int.eq_ofNat_of_zero_le f5
      have ht : (cOff b k).toNat = oN := by omega
      rw [ho] at f1 f3 ⊢
      rw [ht] at f6 f7
      have F1 := Lib.hid f1
      have F3 := Lib.hid f3
      have F4 := Lib.hid f4
      have F6 := Lib.hid f6
      have F7 := Lib.hid f7
      obtain ⟨yr0, _⟩ := box5 HYr.out
      clear f1 f3 f4 f5 f6 f7 hvk ho ht hbb y0 x1 x2 x3 x4
      go_upto_region 11 with fail
      obtain ⟨W7, hW7⟩ : ∃ x, wr.alloc (.cells #[.string (strB nm), .int .i64 size, .int .i64 init] 42) = x := ⟨_, rfl⟩
      obtain ⟨nv, hnv⟩ : ∃ x, wr.heap.size = x := ⟨_, rfl⟩
      have hw7 : Below wr.heap.size wr W7 := by rw [← hW7]; exact (Below.refl _ _).alloc (Nat.le_refl _) _
      have HV7 := Lib.hid (show W7.heap[nv]? = some (.cells #[.string (strB nm), .int .i64 size, .int .i64 init] 42 (0, 0)) by rw [← hW7, ← hnv]; exact new_blk wr _)
      have HB7 := Lib.hid (HBr.out.trans (hw7.mono HBr.out.size))
      simp only [hW7, hnv]
      clear hW7 hnv hw7 z0 z1 z2 yr0 x0 hxn HXr HYr HBr
      have yv0 : W7.cell? ⟨nv, 0, none⟩ = some (.string (strB nm)) := by rw [Lib.cell_of_heap HV7.out]; rfl
      have yp0 : W7.cell? ⟨np, 0, none⟩ = some (.slice (some ⟨bb, o, none⟩) 5 q0) := by rw [Lib.cell_of_heap (below_blk HB7.out HY6.out)]; rfl
      have hlk := lookup_any (fun _ => True) (drV a b c') nm (some ⟨bb, o, none⟩) 5 q0 W7 (HP6.out.still fun j _ h2 => ⟨trivial, HB7.out.block j h2⟩) (by simp [drV])
      rw [F1.out] at hlk
      have HLK := Lib.hid hlk
      clear hlk
      go_wp2_with fail
      refine HLK.out.mono ?_
      rintro e w8 ⟨rfl, hb⟩
      have HB8 := Lib.hid (HB7.out.trans (hb.mono HB7.out.size))
      have HV8 := Lib.hid (below_blk hb HV7.out)
      have HX8 := Lib.hid (below_blk HB8.out HX6.out)
      have v1 : w8.cell? ⟨nv, 1, none⟩ = some (.int .i64 size) := by rw [Lib.cell_of_heap HV8.out]; rfl
      have v2 : w8.cell? ⟨nv, 2, none⟩ = some (.int .i64 init) := by rw [Lib.cell_of_heap HV8.out]; rfl
      have x0 : w8.cell? ⟨nc, 0, none⟩ = some (.slice (some ⟨gi, 0, none⟩) (6 + b) ci) := by rw [Lib.cell_of_heap HX8.out]; rfl
      have HC8 : Hid (∀ (i : Nat) (x : Int), (cIni a b c')[i]? = some x → w8.cell? ⟨gi, i, none⟩ = some (.int .i64 x)) := fun i x h => (HB8.out.cell (p := ⟨gi, i, none⟩) (World.block_lt_of_cell? _ _ (HC6.out i x h))).trans (HC6.out i x h)
      clear hb HLK HB7 HV7 yv0 yp0 HP6
      go_wp2_with fail
      have hoI : (0 : Int) ≤ (oN : Int) := by omega
      obtain ⟨sN, rfl⟩ := Int.eq_ofNat_of_zero_le f2
      rw [Int.toNat_natCast] at F7
      have hbl := HA.out.2.1
      have hbI : (b : Int) < 5 := by omega
      clear f2
      by_cases hs0 : sN = 0
      · subst hs0
        have g0 : (oN : Int) + 1 = cOff b (k + 1) := by have := F3.out; omega
        have g2 : ¬ (6 + (b : Int) < (oN : Int) + 1) := by have := F4.out; omega
        have g3 : (oN : Int) < 6 + (b : Int) := by omega
        have g1 : IntKind.i64.wrap ((oN : Int) + 1) = (oN : Int) + 1 := by rw [IntKind.wrap_i64]; omega
        have g4 := HC8.out oN init (F6.out rfl)
        have G0 := Lib.hid g0
        clear hbl g0
        go_quiet (fail)
        go_wp2_with fail
        go_loopg [12] 0 (fun g i wr' => g = 0 ∧ i = .int .i64 0 ∧ Hid (Below W6.heap.size W6 wr'))
        case atStart => exact ⟨rfl, rfl, by first | exact below_drewN HB8.out _ | exact HB8.out.drew⟩
        case round =>
          obtain ⟨hg0, rfl, HB9⟩ := hrel
          cases gk with
          | succ g' => exact absurd hg0 (by omega)
          | zero =>
            clear hg0
            go_wp2_with fail
            go_roundg g
            case rel => exact ⟨k + 1, by have := HG.out; omega, by go_num, by rw [← G0.out], HB9.out⟩
            case measure => omega
      · have hs1 : (1 : Int) ≤ (sN : Int) := by omega
        have hs1' : ¬ (sN : Int) < 1 := by omega
        have g0 : (oN : Int) + (sN : Int) = cOff b (k + 1) := by have := F3.out; omega
        have g5 : (oN : Int) + (sN : Int) ≤ 6 + (b : Int) := by have := F4.out; omega
        have g1 : IntKind.i64.wrap ((oN : Int) + (sN : Int)) = (oN : Int) + (sN : Int) := by rw [IntKind.wrap_i64]; omega
        have g2 : ¬ (6 + (b : Int) < (oN : Int) + (sN : Int)) := by omega
        have g3 : ((sN : Int) == 0) = false := by simp; omega
        have G0 := Lib.hid g0
        clear hbl g0
        go_quiet (fail)
        go_wp2_with fail
        go_loopg [12] sN (fun g i wr' => ∃ j : Nat, j + g = sN ∧ i = .int .i64 j ∧ Hid (Below W6.heap.size W6 wr'))
        case atStart => exact ⟨0, by omega, rfl, by first | exact below_drewN HB8.out _ | exact HB8.out.drew⟩
        case round =>
          obtain ⟨j, hj, rfl, HB9⟩ := hrel
          cases gk with
          | zero =>
            have hjs : j = sN := by omega
            subst hjs
            have hnl : ¬ (j : Int) < (j : Int) := by omega
            clear hj
            go_wp2_with fail
            go_roundg g
            case rel => exact ⟨k + 1, by have := HG.out; omega, by go_num, by rw [← G0.out], HB9.out⟩
            case measure => omega
          | succ g' =>
            have hjl : (j : Int) < (sN : Int) := by omega
            have HJ := Lib.hid hj
            have hx9 := below_blk HB9.out HX6.out
            have x9 : wr.cell? ⟨nc, 0, none⟩ = some (.slice (some ⟨gi, 0, none⟩) (6 + b) ci) := by rw [Lib.cell_of_heap hx9]; rfl
            have z9 : wr.cell? ⟨gi, oN + j, none⟩ = some (.int .i64 0) := by
              have h := HC6.out (oN + j) 0 (F7.out j (by omega))
              exact (HB9.out.cell (p := ⟨gi, oN + j, none⟩) (World.block_lt_of_cell? _ _ h)).trans h
            have j1 : (oN : Int) + (j : Int) < 6 + (b : Int) := by omega
            have j2 : (0 : Int) ≤ (oN : Int) + (j : Int) := by omega
            clear hj hx9 x0 v1 v2 HC8 HX8 HV8
            go_wp2_with fail
            go_roundg g'
            case rel => exact ⟨j + 1, by have := HJ.out; omega, by go_num, HB9.out⟩
            case measure => omega
end Go.Proofs.YtbnlgpihongegaaDoor
