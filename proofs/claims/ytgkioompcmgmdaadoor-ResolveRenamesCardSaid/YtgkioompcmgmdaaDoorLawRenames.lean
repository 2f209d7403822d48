/-
  The walk of the law ResolveRenames. Conditions: its argument reads as a list of bytes; the tables of names and of operators hold what start-up laid.
-/
import Derived.Test.YtgkioompcmgmdaaDoorWalkRg
import Derived.Test.YtgkioompcmgmdaaDoorWalkPn
import Derived.Test.YtgkioompcmgmdaaDoorWalkA3
import Derived.Test.YtgkioompcmgmdaaDoorWalkLk
import Derived.Test.YtgkioompcmgmdaaDoorWalkMp
import Derived.Test.YtgkioompcmgmdaaDoorWalkSi
import Derived.Test.YtgkioompcmgmdaaDoorWalkSs
namespace Go.Proofs.YtgkioompcmgmdaaDoor
open Go.RowKit

/-- From m on, but not q. -/
def SQ (m q : Nat) : Nat → Prop := fun b => m ≤ b ∧ b ≠ q
theorem sq_call {S : Nat → Prop} {w w' : World} {l : List St} {v : Value} (h : StSlice S w l v) (hb : Below w.heap.size w w') : StSlice S w' l v := h.still fun k hk h2 => ⟨hk, hb.block k h2⟩
theorem sq_from {n m : Nat} {w : World} {l : List St} {v : Value} (h : StSlice (From n) w l v) (hm : m ≤ n) : StSlice (From m) w l v := h.still fun k (hk : n ≤ k) _ => ⟨show m ≤ k by omega, rfl⟩
theorem sq_new {n m q : Nat} {w : World} {l : List St} {v : Value} (h : StSlice (From n) w l v) (hm : m ≤ n) (hq : q < n) : StSlice (SQ m q) w l v := h.still fun k (hk : n ≤ k) _ => ⟨⟨by omega, by omega⟩, rfl⟩
theorem sq_alloc {m : Nat} {w : World} {l : List St} {v : Value} (h : StSlice (From m) w l v) (o : Obj) : StSlice (SQ m w.heap.size) (w.alloc o) l v := h.still fun k (hk : m ≤ k) h2 => ⟨⟨hk, by omega⟩, alloc_blk w o h2⟩
theorem sq_set {m q : Nat} {w w' : World} {l : List St} {v : Value} (h : StSlice (SQ m q) w l v) (hk : ∀ k, k ≠ q → w'.heap[k]? = w.heap[k]?) : StSlice (SQ m q) w' l v := h.still fun k hk2 _ => ⟨hk2, hk k hk2.2⟩
theorem own_vr {w : World} {base : Nat} {v : Value} {l : List Vr} {n : Nat} (h : w.ownsRow base 43 3 v n (l.flatMap vrCells)) (hn : n = l.length) : ∃ A c, v = .slice A n c ∧ VrSlice (fun _ => True) w l (.slice A n c) := by
  obtain ⟨h1, ⟨rfl, rfl⟩ | ⟨g, cap, cur, rfl, h2, h3, h4, h5, h6, h7⟩⟩ := id h
  · have : l = [] := List.eq_nil_of_length_eq_zero hn.symm
    subst this
    exact ⟨none, 0, rfl, none, 0, rfl, Nat.le_refl _, fun h => absurd rfl h⟩
  · subst hn
    exact ⟨_, _, rfl, _, cap, rfl, h4, fun _ => ⟨g, 0, rfl, trivial, fun j u hj => by
      have := h.cells (g := g) rfl j u hj
      rwa [Addr.add_lit] at this⟩⟩
theorem infoVr : (Tryd.prog.info? 43).map (fun i => (i.zero, i.size, i.bytes)) = some (some (.agg #[.string ⟨#[]⟩, .int .i64 0, .int .i64 0]), 3, 32) := by kernel_rfl

mutual
theorem res_big (f : Pl) : ∀ e : Ex, (e.res f).big = e.big
  | .mk op v nm sl sz args => by
    have h := resL_big f args
    simp only [Ex.res]
    split <;> simp only [Ex.big, h]
theorem resL_big (f : Pl) : ∀ l : List Ex, Ex.bigL (Ex.resL f l) = Ex.bigL l
  | [] => rfl
  | e :: r => by simp only [Ex.resL, Ex.bigL, res_big f e, resL_big f r]
end
mutual
theorem sres_big (f : Pl) : ∀ s : St, (s.res f).big = s.big
  | .mk kind nm sl sz p v b e => by
    have h1 := sresL_big f b
    have h2 := sresL_big f e
    simp only [St.res]
    split <;> simp only [St.big, h1, h2, res_big]
theorem sresL_big (f : Pl) : ∀ l : List St, St.bigL (St.resL f l) = St.bigL l
  | [] => rfl
  | s :: r => by simp only [St.resL, St.bigL, sres_big f s, sresL_big f r]
end
mutual
theorem ren_big : ∀ e : Ex, e.ren.big = e.big
  | .mk op v nm sl sz args => by simp only [Ex.ren, Ex.big, renL_big args]
theorem renL_big : ∀ l : List Ex, Ex.bigL (Ex.renL l) = Ex.bigL l
  | [] => rfl
  | e :: r => by simp only [Ex.renL, Ex.bigL, ren_big e, renL_big r]
end
mutual
theorem rnm_big : ∀ s : St, s.rnm.big = s.big
  | .mk kind nm sl sz p v b e => by simp only [St.rnm, St.big, rnmL_big b, rnmL_big e, ren_big]
theorem rnmL_big : ∀ l : List St, St.bigL (St.rnmL l) = St.bigL l
  | [] => rfl
  | s :: r => by simp only [St.rnmL, St.bigL, rnm_big s, rnmL_big r]
end

/-- Both programs resolve, with the same numbers, and names stand for the same. -/
theorem drawn_both (p : Pr) (hp : drP p) : p.big ≤ 100000 ∧ p.vars.length = 5 ∧ (∀ v ∈ p.vars, v.name ≠ [] ∧ v.name.length ≤ 1) ∧ (declS p.rnm.vars).2.1 = (declS p.vars).2.1 ∧ (declS p.vars).2.1.length ≤ 32 ∧
    (∀ l, l = p.start ∨ l = p.message ∨ l = p.tick ∨ l = p.input → LiN (declS p.vars).2.2 (declS p.rnm.vars).2.2 l) ∧
    (∀ (S : Nat → Prop) (w : World), SymAt w → ∀ (A0 A1 A2 A3 A4 : Option Addr) (l0 l1 l2 l3 l4 c0 c1 c2 c3 c4 : Nat), PrAt S w p (.slice A0 l0 c0) (.slice A1 l1 c1) (.slice A2 l2 c2) (.slice A3 l3 c3) (.slice A4 l4 c4) →
      Calls Tryd.prog 9 #[.agg #[.slice A0 l0 c0, .slice A1 l1 c1, .slice A2 l2 c2, .slice A3 l3 c3, .slice A4 l4 c4]] w (RgPost p w)) ∧
    (∀ (S : Nat → Prop) (w : World), SymAt w → ∀ (A0 A1 A2 A3 A4 : Option Addr) (l0 l1 l2 l3 l4 c0 c1 c2 c3 c4 : Nat), PrAt S w p.rnm (.slice A0 l0 c0) (.slice A1 l1 c1) (.slice A2 l2 c2) (.slice A3 l3 c3) (.slice A4 l4 c4) →
      Calls Tryd.prog 9 #[.agg #[.slice A0 l0 c0, .slice A1 l1 c1, .slice A2 l2 c2, .slice A3 l3 c3, .slice A4 l4 c4]] w (RgPost p.rnm w)) := by
  obtain ⟨a, b, c, ha, hb, hc, hv, hbig, hdp, hbig2, hdp2, hg⟩ := drP_rn p hp
  obtain ⟨n1, n2, n3, _⟩ := drV_names a ha b hb c hc
  obtain ⟨m1, m2, m3, _⟩ := rnV_names a ha b hb c hc
  have e : dPl a b c = (declS p.vars).2.2 := by rw [hv]; rfl
  have e' : nPl a b c = (declS p.rnm.vars).2.2 := by unfold Pr.rnm; rw [hv]; rfl
  rw [e, e'] at hg
  have hrv : p.rnm.vars = renV (drV a b c) := by unfold Pr.rnm; rw [hv]
  have g1 := hg p.start (.inl rfl)
  have g2 := hg p.message (.inr (.inl rfl))
  have g3 := hg p.tick (.inr (.inr (.inl rfl)))
  have g4 := hg p.input (.inr (.inr (.inr rfl)))
  refine ⟨hbig, by rw [hv]; rfl, ?_, by rw [hrv, hv]; exact m2, by rw [hv, n2]; simp; omega, hg, ?_, ?_⟩
  · intro v hvm
    rw [hv] at hvm
    simp only [drV, List.mem_cons, List.not_mem_nil, or_false] at hvm
    rcases hvm with rfl | rfl | rfl | rfl | rfl <;> simp
  · intro S w hsy A0 A1 A2 A3 A4 l0 l1 l2 l3 l4 c0 c1 c2 c3 c4 h
    exact resolve_good p hbig (by rw [hv]; simp [drV]) (fun v hvm => by rw [hv] at hvm; simp only [drV, List.mem_cons, List.not_mem_nil, or_false] at hvm; rcases hvm with rfl | rfl | rfl | rfl | rfl <;> simp) hdp (by rw [hv]; exact n3) (by rw [hv]; exact n1)
      ⟨g1.s1, g1.g1, g1.r1⟩ ⟨g2.s1, g2.g1, g2.r1⟩ ⟨g3.s1, g3.g1, g3.r1⟩ ⟨g4.s1, g4.g1, g4.r1⟩ S w hsy A0 A1 A2 A3 A4 l0 l1 l2 l3 l4 c0 c1 c2 c3 c4 h
  · intro S w hsy A0 A1 A2 A3 A4 l0 l1 l2 l3 l4 c0 c1 c2 c3 c4 h
    exact resolve_good p.rnm hbig2 (by rw [hrv]; simp [renV, drV]) (fun v hvm => by rw [hrv] at hvm; simp only [renV, drV, List.map_cons, List.map_nil, List.mem_cons, List.not_mem_nil, or_false] at hvm; rcases hvm with rfl | rfl | rfl | rfl | rfl <;> simp [renN]) hdp2 (by rw [hrv]; exact m3) (by rw [hrv]; exact m1)
      ⟨g1.s2, g1.g2, g1.r2⟩ ⟨g2.s2, g2.g2, g2.r2⟩ ⟨g3.s2, g3.g2, g3.r2⟩ ⟨g4.s2, g4.g2, g4.r2⟩ S w hsy A0 A1 A2 A3 A4 l0 l1 l2 l3 l4 c0 c1 c2 c3 c4 h

set_option maxHeartbeats 8000000 in
set_option maxRecDepth 100000 in
theorem resolveRenames_any (codes : Value) (w : World) (hcd : BytesIn w.heap.size w codes) (hg : GlAt w) (hgt : glTop ≤ w.heap.size) (hsy : SymAt w) :
    Calls Tryd.prog 4 #[codes] w fun e w' => e = .returned (.bool true) ∧ Below w.heap.size w w' := by
  have HCD := Lib.hid hcd
  have HG := Lib.hid hg
  have HSY := Lib.hid hsy
  clear hcd hg hsy
  go_enter Tryd.func4, Tryd.ntmps4
  go_wp2_with fail
  refine (awake3_any _).mono ?_
  rintro e w1 ⟨rfl, hb⟩
  have HB1 := Lib.hid hb
  clear hb
  go_wp2_with fail
  refine (new_any w.heap.size codes 200 w1 (HCD.out.below HB1.out) HB1.out.size (by decide)).mono ?_
  rintro e w2 ⟨cb, A, n, c, rfl, -, hcs, hcb1, hb⟩
  have HB2 := Lib.hid (HB1.out.trans (hb.mono HB1.out.size))
  have HC2 : Hid (CodesIn w.heap.size w2 cb) := ⟨A, n, c, 0, hcs⟩
  have hcb : w.heap.size ≤ cb := Nat.le_trans HB1.out.size hcb1
  have hgt' : glTop ≤ cb := Nat.le_trans hgt hcb
  have hg2 : GlAt w2 := by
    obtain ⟨⟨T, fr, h1⟩, ⟨T', fr', h2⟩⟩ := HG.out
    exact ⟨⟨T, fr, below_blk HB2.out h1⟩, ⟨T', fr', below_blk HB2.out h2⟩⟩
  have HG2 := Lib.hid hg2
  clear hb hcs hcb1 HB1 hg2
  go_wp2_with fail
  refine (mp_any w.heap.size cb w2 HC2.out HG2.out hgt').mono ?_
  rintro e w3 ⟨p, v, rfl, ⟨A0, A1, A2, A3, A4, l0, q0, l1, q1, l2, q2, l3, q3, l4, q4, rfl, hp⟩, hdp, -, hk⟩
  obtain ⟨hbig, hv5, hvn, hini, hil, hli, hres, hres2⟩ := drawn_both p hdp
  have hls : l0 = 5 ∧ l1 = p.start.length ∧ l2 = p.message.length ∧ l3 = p.tick.length ∧ l4 = p.input.length := by
    obtain ⟨⟨_, _, e, _⟩, ⟨_, _, e1, _⟩, ⟨_, _, e2, _⟩, ⟨_, _, e3, _⟩, ⟨_, _, e4, _⟩⟩ := hp
    injection e with _ e; injection e1 with _ e1; injection e2 with _ e2; injection e3 with _ e3; injection e4 with _ e4
    exact ⟨by rw [e, hv5], e1, e2, e3, e4⟩
  obtain ⟨rfl, hl1, hl2, hl3, hl4⟩ := hls
  have HB3 := Lib.hid (HB2.out.trans (hk.below HB2.out.size hcb))
  have HPR := Lib.hid hp
  have HV5 := Lib.hid hv5
  have HVN := Lib.hid hvn
  have HIN := Lib.hid hini
  have HIL := Lib.hid hil
  have HLI := Lib.hid hli
  have HRS := Lib.hid hres
  have HR2 := Lib.hid hres2
  have HBG : Hid (St.bigL p.start ≤ 100000 ∧ St.bigL p.message ≤ 100000 ∧ St.bigL p.tick ≤ 100000 ∧ St.bigL p.input ≤ 100000) := by show _ ∧ _; unfold Pr.big at hbig; omega
  have HLS := Lib.hid (And.intro hl1 (And.intro hl2 (And.intro hl3 hl4)))
  clear hp hdp hk hv5 hvn hini hil hli hres hres2 hbig HC2 HG2 hcb hgt' hl1 hl2 hl3 hl4
  go_upto_region 4 with fail
  obtain ⟨W4, hW4⟩ : ∃ x, w3.alloc (.cells #[.slice A0 5 q0, .slice A1 l1 q1, .slice A2 l2 q2, .slice A3 l3 q3, .slice A4 l4 q4] 29) = x := ⟨_, rfl⟩
  obtain ⟨np, hnp⟩ : ∃ x, w3.heap.size = x := ⟨_, rfl⟩
  have HX4 := Lib.hid (show W4.heap[np]? = some (.cells #[.slice A0 5 q0, .slice A1 l1 q1, .slice A2 l2 q2, .slice A3 l3 q3, .slice A4 l4 q4] 29 (0, 0)) by rw [← hW4, ← hnp]; exact new_blk w3 _)
  have h34 : Below w3.heap.size w3 W4 := by rw [← hW4]; exact (Below.refl _ _).alloc (Nat.le_refl _) _
  have HB4 := Lib.hid (HB3.out.trans (h34.mono HB3.out.size))
  have HP4 := Lib.hid (HPR.out.still (S' := fun _ => True) fun k _ h2 => ⟨trivial, h34.block k h2⟩)
  have hnw : w.heap.size ≤ np := by rw [← hnp]; exact HB3.out.size
  simp only [hW4, hnp]
  clear hW4 hnp h34 HPR HB3
  have HN0 : Hid (∀ W, Below W4.heap.size W4 W → Calls Tryd.prog 12 #[.slice A1 l1 q1] W fun e' w' => ∃ v, e' = .returned v ∧ VSts W.heap.size w' (St.rnmL p.start) v ∧ Below W.heap.size W w') := fun W hb => rename_all 100000 p.start HBG.out.1 (Nat.le_refl _) (HLI.out p.start (by simp)).s1 (fun _ => True) W A1 l1 q1 (HP4.out.2.1.still fun k _ h2 => ⟨trivial, hb.block k h2⟩)
  have HN1 : Hid (∀ W, Below W4.heap.size W4 W → Calls Tryd.prog 12 #[.slice A2 l2 q2] W fun e' w' => ∃ v, e' = .returned v ∧ VSts W.heap.size w' (St.rnmL p.message) v ∧ Below W.heap.size W w') := fun W hb => rename_all 100000 p.message HBG.out.2.1 (Nat.le_refl _) (HLI.out p.message (by simp)).s1 (fun _ => True) W A2 l2 q2 (HP4.out.2.2.1.still fun k _ h2 => ⟨trivial, hb.block k h2⟩)
  have HN2 : Hid (∀ W, Below W4.heap.size W4 W → Calls Tryd.prog 12 #[.slice A3 l3 q3] W fun e' w' => ∃ v, e' = .returned v ∧ VSts W.heap.size w' (St.rnmL p.tick) v ∧ Below W.heap.size W w') := fun W hb => rename_all 100000 p.tick HBG.out.2.2.1 (Nat.le_refl _) (HLI.out p.tick (by simp)).s1 (fun _ => True) W A3 l3 q3 (HP4.out.2.2.2.1.still fun k _ h2 => ⟨trivial, hb.block k h2⟩)
  have HN3 : Hid (∀ W, Below W4.heap.size W4 W → Calls Tryd.prog 12 #[.slice A4 l4 q4] W fun e' w' => ∃ v, e' = .returned v ∧ VSts W.heap.size w' (St.rnmL p.input) v ∧ Below W.heap.size W w') := fun W hb => rename_all 100000 p.input HBG.out.2.2.2 (Nat.le_refl _) (HLI.out p.input (by simp)).s1 (fun _ => True) W A4 l4 q4 (HP4.out.2.2.2.2.still fun k _ h2 => ⟨trivial, hb.block k h2⟩)
  have HNP : Hid (np < W4.heap.size) := lt_of_block HX4.out
  go_upto_region 4 with fail
  go_cut [4] (fun q wx => ∃ (nq : Nat) (B0 B1 B2 B3 : Option Addr) (k0 k1 k2 k3 : Nat), q = .pointer (some ⟨nq, 0, none⟩) ∧ Hid (wx.heap[nq]? = some (.cells #[.slice none 0 0, .slice B0 (St.rnmL p.start).length k0, .slice B1 (St.rnmL p.message).length k1, .slice B2 (St.rnmL p.tick).length k2, .slice B3 (St.rnmL p.input).length k3] 29 (0, 0))) ∧ Hid (StSlice (SQ W4.heap.size nq) wx (St.rnmL p.start) (.slice B0 (St.rnmL p.start).length k0)) ∧ Hid (StSlice (SQ W4.heap.size nq) wx (St.rnmL p.message) (.slice B1 (St.rnmL p.message).length k1)) ∧ Hid (StSlice (SQ W4.heap.size nq) wx (St.rnmL p.tick) (.slice B2 (St.rnmL p.tick).length k2)) ∧ Hid (StSlice (SQ W4.heap.size nq) wx (St.rnmL p.input) (.slice B3 (St.rnmL p.input).length k3)) ∧ Hid (Below W4.heap.size W4 wx) ∧ W4.heap.size ≤ nq)
  case first =>
    have hS : Below W4.heap.size W4 W4.drew ∧ W4.drew.heap[np]? = some (.cells #[.slice A0 5 q0, .slice A1 l1 q1, .slice A2 l2 q2, .slice A3 l3 q3, .slice A4 l4 q4] 29 (0, 0)) := ⟨(Below.refl _ _).drew, HX4.out⟩
    refine wp_region_held_drew (S := fun w' => Below W4.heap.size W4 w' ∧ w'.heap[np]? = some (.cells #[.slice A0 5 q0, .slice A1 l1 q1, .slice A2 l2 q2, .slice A3 l3 q3, .slice A4 l4 q4] 29 (0, 0))) (by kernel_rfl) hS (fun _ => ?_)
    obtain ⟨wd, hwd⟩ : ∃ x, W4.drew = x := ⟨_, rfl⟩
    rw [hwd] at hS ⊢
    clear hwd
    refine' wpAnyH_take (i := 0) (v := _) ?hi1 (by kernel_rfl) (by kernel_rfl) (by kernel_rfl) ?hQ1 (Or.inl ⟨?hw1, ?hy1⟩) hS ?rest1
    case hi1 => (simp only [List.getElem?_toArray, List.getElem?_cons_zero]; rfl)
    case hQ1 => exact fun _ _ _ h => h
    case hw1 => rfl
    case hy1 =>
      rintro w9 ⟨-, hx9⟩
      go_simp
      with_reducible rfl
    try simp only [Act.put, List.setIfInBounds_toArray, List.set_cons_zero, List.set_cons_succ]
    refine' wpAnyH_take (i := 1) (v := _) ?hi2 (by kernel_rfl) (by kernel_rfl) (by kernel_rfl) ?hQ2 (Or.inl ⟨?hw2, ?hy2⟩) hS ?rest2
    case hi2 => (simp only [List.getElem?_toArray, List.getElem?_cons_succ, List.getElem?_cons_zero]; rfl)
    case hQ2 => exact fun _ _ _ h => h
    case hw2 => rfl
    case hy2 =>
      rintro w9 ⟨-, hx9⟩
      have d1 : w9.cell? ⟨np, 1, none⟩ = some (.slice A1 l1 q1) := by rw [Lib.cell_of_heap hx9]; rfl
      have d2 : w9.cell? ⟨np, 2, none⟩ = some (.slice A2 l2 q2) := by rw [Lib.cell_of_heap hx9]; rfl
      have d3 : w9.cell? ⟨np, 3, none⟩ = some (.slice A3 l3 q3) := by rw [Lib.cell_of_heap hx9]; rfl
      have d4 : w9.cell? ⟨np, 4, none⟩ = some (.slice A4 l4 q4) := by rw [Lib.cell_of_heap hx9]; rfl
      go_simp
      with_reducible rfl
    try simp only [Act.put, List.setIfInBounds_toArray, List.set_cons_zero, List.set_cons_succ]
    refine' wpAnyH_take (i := 3) (v := _) ?hi3 (by kernel_rfl) (by kernel_rfl) (by kernel_rfl) ?hQ3 (Or.inl ⟨?hw3, ?hy3⟩) hS ?rest3
    case hi3 => (simp only [List.getElem?_toArray, List.getElem?_cons_succ, List.getElem?_cons_zero]; rfl)
    case hQ3 => exact fun _ _ _ h => h
    case hw3 => rfl
    case hy3 =>
      rintro w9 ⟨-, hx9⟩
      go_simp
      with_reducible rfl
    try simp only [Act.put, List.setIfInBounds_toArray, List.set_cons_zero, List.set_cons_succ]
    refine' wpAnyH_take (i := 4) (v := _) ?hi4 (by kernel_rfl) (by kernel_rfl) (by kernel_rfl) ?hQ4 (Or.inl ⟨?hw4, ?hy4⟩) hS ?rest4
    case hi4 => (simp only [List.getElem?_toArray, List.getElem?_cons_succ, List.getElem?_cons_zero]; rfl)
    case hQ4 => exact fun _ _ _ h => h
    case hw4 => rfl
    case hy4 =>
      rintro w9 ⟨-, hx9⟩
      have d1 : w9.cell? ⟨np, 1, none⟩ = some (.slice A1 l1 q1) := by rw [Lib.cell_of_heap hx9]; rfl
      have d2 : w9.cell? ⟨np, 2, none⟩ = some (.slice A2 l2 q2) := by rw [Lib.cell_of_heap hx9]; rfl
      have d3 : w9.cell? ⟨np, 3, none⟩ = some (.slice A3 l3 q3) := by rw [Lib.cell_of_heap hx9]; rfl
      have d4 : w9.cell? ⟨np, 4, none⟩ = some (.slice A4 l4 q4) := by rw [Lib.cell_of_heap hx9]; rfl
      go_simp
      with_reducible rfl
    try simp only [Act.put, List.setIfInBounds_toArray, List.set_cons_zero, List.set_cons_succ]
    refine' wpAnyH_take (i := 6) (v := _) ?hi5 (by kernel_rfl) (by kernel_rfl) (by kernel_rfl) ?hQ5 (Or.inl ⟨?hw5, ?hy5⟩) hS ?rest5
    case hi5 => (simp only [List.getElem?_toArray, List.getElem?_cons_succ, List.getElem?_cons_zero]; rfl)
    case hQ5 => exact fun _ _ _ h => h
    case hw5 => rfl
    case hy5 =>
      rintro w9 ⟨-, hx9⟩
      go_simp
      with_reducible rfl
    try simp only [Act.put, List.setIfInBounds_toArray, List.set_cons_zero, List.set_cons_succ]
    refine' wpAnyH_take (i := 7) (v := _) ?hi6 (by kernel_rfl) (by kernel_rfl) (by kernel_rfl) ?hQ6 (Or.inl ⟨?hw6, ?hy6⟩) hS ?rest6
    case hi6 => (simp only [List.getElem?_toArray, List.getElem?_cons_succ, List.getElem?_cons_zero]; rfl)
    case hQ6 => exact fun _ _ _ h => h
    case hw6 => rfl
    case hy6 =>
      rintro w9 ⟨-, hx9⟩
      have d1 : w9.cell? ⟨np, 1, none⟩ = some (.slice A1 l1 q1) := by rw [Lib.cell_of_heap hx9]; rfl
      have d2 : w9.cell? ⟨np, 2, none⟩ = some (.slice A2 l2 q2) := by rw [Lib.cell_of_heap hx9]; rfl
      have d3 : w9.cell? ⟨np, 3, none⟩ = some (.slice A3 l3 q3) := by rw [Lib.cell_of_heap hx9]; rfl
      have d4 : w9.cell? ⟨np, 4, none⟩ = some (.slice A4 l4 q4) := by rw [Lib.cell_of_heap hx9]; rfl
      go_simp
      with_reducible rfl
    try simp only [Act.put, List.setIfInBounds_toArray, List.set_cons_zero, List.set_cons_succ]
    refine' wpAnyH_take (i := 9) (v := _) ?hi7 (by kernel_rfl) (by kernel_rfl) (by kernel_rfl) ?hQ7 (Or.inl ⟨?hw7, ?hy7⟩) hS ?rest7
    case hi7 => (simp only [List.getElem?_toArray, List.getElem?_cons_succ, List.getElem?_cons_zero]; rfl)
    case hQ7 => exact fun _ _ _ h => h
    case hw7 => rfl
    case hy7 =>
      rintro w9 ⟨-, hx9⟩
      go_simp
      with_reducible rfl
    try simp only [Act.put, List.setIfInBounds_toArray, List.set_cons_zero, List.set_cons_succ]
    refine' wpAnyH_take (i := 10) (v := _) ?hi8 (by kernel_rfl) (by kernel_rfl) (by kernel_rfl) ?hQ8 (Or.inl ⟨?hw8, ?hy8⟩) hS ?rest8
    case hi8 => (simp only [List.getElem?_toArray, List.getElem?_cons_succ, List.getElem?_cons_zero]; rfl)
    case hQ8 => exact fun _ _ _ h => h
    case hw8 => rfl
    case hy8 =>
      rintro w9 ⟨-, hx9⟩
      have d1 : w9.cell? ⟨np, 1, none⟩ = some (.slice A1 l1 q1) := by rw [Lib.cell_of_heap hx9]; rfl
      have d2 : w9.cell? ⟨np, 2, none⟩ = some (.slice A2 l2 q2) := by rw [Lib.cell_of_heap hx9]; rfl
      have d3 : w9.cell? ⟨np, 3, none⟩ = some (.slice A3 l3 q3) := by rw [Lib.cell_of_heap hx9]; rfl
      have d4 : w9.cell? ⟨np, 4, none⟩ = some (.slice A4 l4 q4) := by rw [Lib.cell_of_heap hx9]; rfl
      go_simp
      with_reducible rfl
    try simp only [Act.put, List.setIfInBounds_toArray, List.set_cons_zero, List.set_cons_succ]
    refine wpAnyH_ready (rs := [2, 13]) (by kernel_rfl) (by simp) ?_
    refine' (AllReadyH.cons ?hi9 (fun K hK => ?op9) (AllReadyH.cons ?hi10 (fun K hK => ?op10) AllReadyH.nil))
    case hi9 => (simp only [List.getElem?_toArray, List.getElem?_cons_succ, List.getElem?_cons_zero]; rfl)
    case hi10 => (simp only [List.getElem?_toArray, List.getElem?_cons_succ, List.getElem?_cons_zero]; rfl)
    case op9 =>
      go_simp
      go_at_call 12
      refine (HN0.out _ hS.1).mono ?_
      rintro e9 w31 ⟨y9, rfl, ⟨B0, k0, rfl, hl, hr⟩, hb⟩
      have hS9 : Below W4.heap.size W4 w31 ∧ w31.heap[np]? = some (.cells #[.slice A0 5 q0, .slice A1 l1 q1, .slice A2 l2 q2, .slice A3 l3 q3, .slice A4 l4 q4] 29 (0, 0)) := ⟨hS.1.trans (hb.mono hS.1.size), below_blk hb hS.2⟩
      have V0 := Lib.hid (sq_from (show VSts wd.heap.size w31 (St.rnmL p.start) (.slice B0 (St.rnmL p.start).length k0) from ⟨B0, k0, rfl, hl, hr⟩) hS.1.size)
      clear hl hr hb
      refine hK.out _ _ hS9 (fun _ => ?_)
      clear hK K hS
      have hS := hS9
      clear hS9
      try simp only [Act.put, List.setIfInBounds_toArray, List.set_cons_zero, List.set_cons_succ]
      refine wpAnyH_ready (rs := [5, 13]) (by kernel_rfl) (by simp) ?_
      refine' (AllReadyH.cons ?hi12 (fun K hK => ?op12) (AllReadyH.cons ?hi13 (fun K hK => ?op13) AllReadyH.nil))
      case hi12 => (simp only [List.getElem?_toArray, List.getElem?_cons_succ, List.getElem?_cons_zero]; rfl)
      case hi13 => (simp only [List.getElem?_toArray, List.getElem?_cons_succ, List.getElem?_cons_zero]; rfl)
      case op12 =>
        go_simp
        go_at_call 12
        refine (HN1.out _ hS.1).mono ?_
        rintro e9 w34 ⟨y9, rfl, ⟨B1, k1, rfl, hl, hr⟩, hb⟩
        have hS9 : Below W4.heap.size W4 w34 ∧ w34.heap[np]? = some (.cells #[.slice A0 5 q0, .slice A1 l1 q1, .slice A2 l2 q2, .slice A3 l3 q3, .slice A4 l4 q4] 29 (0, 0)) := ⟨hS.1.trans (hb.mono hS.1.size), below_blk hb hS.2⟩
        replace V0 := Lib.hid (sq_call V0.out hb)
        have V1 := Lib.hid (sq_from (show VSts w31.heap.size w34 (St.rnmL p.message) (.slice B1 (St.rnmL p.message).length k1) from ⟨B1, k1, rfl, hl, hr⟩) hS.1.size)
        clear hl hr hb
        refine hK.out _ _ hS9 (fun _ => ?_)
        clear hK K hS
        have hS := hS9
        clear hS9
        try simp only [Act.put, List.setIfInBounds_toArray, List.set_cons_zero, List.set_cons_succ]
        refine wpAnyH_ready (rs := [8, 13]) (by kernel_rfl) (by simp) ?_
        refine' (AllReadyH.cons ?hi15 (fun K hK => ?op15) (AllReadyH.cons ?hi16 (fun K hK => ?op16) AllReadyH.nil))
        case hi15 => (simp only [List.getElem?_toArray, List.getElem?_cons_succ, List.getElem?_cons_zero]; rfl)
        case hi16 => (simp only [List.getElem?_toArray, List.getElem?_cons_succ, List.getElem?_cons_zero]; rfl)
        case op15 =>
          go_simp
          go_at_call 12
          refine (HN2.out _ hS.1).mono ?_
          rintro e9 w37 ⟨y9, rfl, ⟨B2, k2, rfl, hl, hr⟩, hb⟩
          have hS9 : Below W4.heap.size W4 w37 ∧ w37.heap[np]? = some (.cells #[.slice A0 5 q0, .slice A1 l1 q1, .slice A2 l2 q2, .slice A3 l3 q3, .slice A4 l4 q4] 29 (0, 0)) := ⟨hS.1.trans (hb.mono hS.1.size), below_blk hb hS.2⟩
          replace V0 := Lib.hid (sq_call V0.out hb)
          replace V1 := Lib.hid (sq_call V1.out hb)
          have V2 := Lib.hid (sq_from (show VSts w34.heap.size w37 (St.rnmL p.tick) (.slice B2 (St.rnmL p.tick).length k2) from ⟨B2, k2, rfl, hl, hr⟩) hS.1.size)
          clear hl hr hb
          refine hK.out _ _ hS9 (fun _ => ?_)
          clear hK K hS
          have hS := hS9
          clear hS9
          try simp only [Act.put, List.setIfInBounds_toArray, List.set_cons_zero, List.set_cons_succ]
          refine wpAnyH_ready (rs := [11, 13]) (by kernel_rfl) (by simp) ?_
          refine' (AllReadyH.cons ?hi18 (fun K hK => ?op18) (AllReadyH.cons ?hi19 (fun K hK => ?op19) AllReadyH.nil))
          case hi18 => (simp only [List.getElem?_toArray, List.getElem?_cons_succ, List.getElem?_cons_zero]; rfl)
          case hi19 => (simp only [List.getElem?_toArray, List.getElem?_cons_succ, List.getElem?_cons_zero]; rfl)
          case op18 =>
            go_simp
            go_at_call 12
            refine (HN3.out _ hS.1).mono ?_
            rintro e9 w40 ⟨y9, rfl, ⟨B3, k3, rfl, hl, hr⟩, hb⟩
            have hS9 : Below W4.heap.size W4 w40 ∧ w40.heap[np]? = some (.cells #[.slice A0 5 q0, .slice A1 l1 q1, .slice A2 l2 q2, .slice A3 l3 q3, .slice A4 l4 q4] 29 (0, 0)) := ⟨hS.1.trans (hb.mono hS.1.size), below_blk hb hS.2⟩
            replace V0 := Lib.hid (sq_call V0.out hb)
            replace V1 := Lib.hid (sq_call V1.out hb)
            replace V2 := Lib.hid (sq_call V2.out hb)
            have V3 := Lib.hid (sq_from (show VSts w37.heap.size w40 (St.rnmL p.input) (.slice B3 (St.rnmL p.input).length k3) from ⟨B3, k3, rfl, hl, hr⟩) hS.1.size)
            clear hl hr hb
            refine hK.out _ _ hS9 (fun _ => ?_)
            clear hK K hS
            have hS := hS9
            clear hS9
            try simp only [Act.put, List.setIfInBounds_toArray, List.set_cons_zero, List.set_cons_succ]
            refine' wpAnyH_take (i := 12) (v := _) ?hi21 (by kernel_rfl) (by kernel_rfl) (by kernel_rfl) ?hQ21 (Or.inl ⟨?hw21, ?hy21⟩) hS ?rest21
            case hi21 => (simp only [List.getElem?_toArray, List.getElem?_cons_succ, List.getElem?_cons_zero]; rfl)
            case hQ21 => exact fun _ _ _ h => h
            case hw21 => rfl
            case hy21 =>
              rintro w9 ⟨-, hx9⟩
              go_simp
              with_reducible rfl
            try simp only [Act.put, List.setIfInBounds_toArray, List.set_cons_zero, List.set_cons_succ]
            refine wpAnyH_ready (rs := [13]) (by kernel_rfl) (by simp) ?_
            refine' (AllReadyH.cons ?hi22 (fun K hK => ?op22) AllReadyH.nil)
            case hi22 => (simp only [List.getElem?_toArray, List.getElem?_cons_succ, List.getElem?_cons_zero]; rfl)
            go_simp
            have hS9 : Below W4.heap.size W4 (w40.alloc (.cells #[.slice none 0 0, .slice none 0 0, .slice none 0 0, .slice none 0 0, .slice none 0 0] 29)) ∧ (w40.alloc (.cells #[.slice none 0 0, .slice none 0 0, .slice none 0 0, .slice none 0 0, .slice none 0 0] 29)).heap[np]? = some (.cells #[.slice A0 5 q0, .slice A1 l1 q1, .slice A2 l2 q2, .slice A3 l3 q3, .slice A4 l4 q4] 29 (0, 0)) := ⟨hS.1.alloc hS.1.size _, (alloc_blk _ _ (lt_of_block hS.2)).trans hS.2⟩
            have HQ := Lib.hid (new_blk w40 (.cells #[.slice none 0 0, .slice none 0 0, .slice none 0 0, .slice none 0 0, .slice none 0 0] 29))
            have hqm : W4.heap.size ≤ w40.heap.size := hS.1.size
            replace V0 := Lib.hid (sq_alloc V0.out (.cells #[.slice none 0 0, .slice none 0 0, .slice none 0 0, .slice none 0 0, .slice none 0 0] 29))
            replace V1 := Lib.hid (sq_alloc V1.out (.cells #[.slice none 0 0, .slice none 0 0, .slice none 0 0, .slice none 0 0, .slice none 0 0] 29))
            replace V2 := Lib.hid (sq_alloc V2.out (.cells #[.slice none 0 0, .slice none 0 0, .slice none 0 0, .slice none 0 0, .slice none 0 0] 29))
            replace V3 := Lib.hid (sq_alloc V3.out (.cells #[.slice none 0 0, .slice none 0 0, .slice none 0 0, .slice none 0 0, .slice none 0 0] 29))
            refine hK.out _ _ hS9 (fun _ => ?_)
            clear hK K hS
            obtain ⟨nq, hnq⟩ : ∃ x, w40.heap.size = x := ⟨_, rfl⟩
            obtain ⟨w43, hWn⟩ : ∃ x, w40.alloc (.cells #[.slice none 0 0, .slice none 0 0, .slice none 0 0, .slice none 0 0, .slice none 0 0] 29) = x := ⟨_, rfl⟩
            simp only [hWn, hnq] at hS9 HQ hqm V0 V1 V2 V3 ⊢
            clear hWn hnq
            have hS := hS9
            clear hS9
            try simp only [Act.put, List.setIfInBounds_toArray, List.set_cons_zero, List.set_cons_succ]
            obtain ⟨e0, e1, e2, e3, e4, ef0, ef1, ef2, ef3, ef4, _⟩ := box5 HQ.out
            refine wpAnyH_ready (rs := [14]) (by kernel_rfl) (by simp) ?_
            refine' (AllReadyH.cons ?hi24 (fun K hK => ?op24) AllReadyH.nil)
            case hi24 => (simp only [List.getElem?_toArray, List.getElem?_cons_succ, List.getElem?_cons_zero]; rfl)
            go_simp
            obtain ⟨WF, hWF⟩ : ∃ x, (((((w43.setCell ⟨nq, 0, none⟩ (.slice none 0 0)).setCell ⟨nq, 1, none⟩ (.slice B0 (St.rnmL p.start).length k0)).setCell ⟨nq, 2, none⟩ (.slice B1 (St.rnmL p.message).length k1)).setCell ⟨nq, 3, none⟩ (.slice B2 (St.rnmL p.tick).length k2)).setCell ⟨nq, 4, none⟩ (.slice B3 (St.rnmL p.input).length k3)) = x := ⟨_, rfl⟩
            have HF : Hid (WF.heap[nq]? = some (.cells #[.slice none 0 0, .slice B0 (St.rnmL p.start).length k0, .slice B1 (St.rnmL p.message).length k1, .slice B2 (St.rnmL p.tick).length k2, .slice B3 (St.rnmL p.input).length k3] 29 (0, 0))) := by
              have h' := (blk_set (blk_set (blk_set (blk_set (blk_set HQ.out 0 (.slice none 0 0)) 1 (.slice B0 (St.rnmL p.start).length k0)) 2 (.slice B1 (St.rnmL p.message).length k1)) 3 (.slice B2 (St.rnmL p.tick).length k2)) 4 (.slice B3 (St.rnmL p.input).length k3))
              rw [hWF] at h'
              simp only [List.setIfInBounds_toArray, List.set_cons_zero, List.set_cons_succ] at h'
              exact h'
            have HKF : Hid (∀ k, k ≠ nq → WF.heap[k]? = w43.heap[k]?) := fun k hk => by
              rw [← hWF]
              iterate 5 rw [Below.heap_setCell _ _ _ _ hk]
            have HBF : Hid (Below W4.heap.size w43 WF) := by rw [← hWF]; exact ((((((Below.refl _ _).setCell (p := ⟨nq, 0, none⟩) hqm _).setCell (p := ⟨nq, 1, none⟩) hqm _).setCell (p := ⟨nq, 2, none⟩) hqm _).setCell (p := ⟨nq, 3, none⟩) hqm _).setCell (p := ⟨nq, 4, none⟩) hqm _)
            have hnpq : np ≠ nq := by have := HNP.out; omega
            have hS9 : Below W4.heap.size W4 WF ∧ WF.heap[np]? = some (.cells #[.slice A0 5 q0, .slice A1 l1 q1, .slice A2 l2 q2, .slice A3 l3 q3, .slice A4 l4 q4] 29 (0, 0)) := ⟨hS.1.trans HBF.out, (HKF.out np hnpq).trans hS.2⟩
            rw [hWF]
            clear hWF
            refine hK.out _ _ hS9 (fun _ => ?_)
            clear hK K hS
            try simp only [Act.put, List.setIfInBounds_toArray, List.set_cons_zero, List.set_cons_succ]
            refine wpAnyH_done (by kernel_rfl) ?_ _
            go_wp2_with fail
            go_meet
            case rel => exact ⟨nq, B0, B1, B2, B3, k0, k1, k2, k3, rfl, HF, Lib.hid (sq_set V0.out HKF.out), Lib.hid (sq_set V1.out HKF.out), Lib.hid (sq_set V2.out HKF.out), Lib.hid (sq_set V3.out HKF.out), Lib.hid hS9.1, hqm⟩

          case op19 =>
            go_simp
            have hS9 : Below W4.heap.size W4 (w37.alloc (.cells #[.slice none 0 0, .slice none 0 0, .slice none 0 0, .slice none 0 0, .slice none 0 0] 29)) ∧ (w37.alloc (.cells #[.slice none 0 0, .slice none 0 0, .slice none 0 0, .slice none 0 0, .slice none 0 0] 29)).heap[np]? = some (.cells #[.slice A0 5 q0, .slice A1 l1 q1, .slice A2 l2 q2, .slice A3 l3 q3, .slice A4 l4 q4] 29 (0, 0)) := ⟨hS.1.alloc hS.1.size _, (alloc_blk _ _ (lt_of_block hS.2)).trans hS.2⟩
            have HQ := Lib.hid (new_blk w37 (.cells #[.slice none 0 0, .slice none 0 0, .slice none 0 0, .slice none 0 0, .slice none 0 0] 29))
            have hqm : W4.heap.size ≤ w37.heap.size := hS.1.size
            replace V0 := Lib.hid (sq_alloc V0.out (.cells #[.slice none 0 0, .slice none 0 0, .slice none 0 0, .slice none 0 0, .slice none 0 0] 29))
            replace V1 := Lib.hid (sq_alloc V1.out (.cells #[.slice none 0 0, .slice none 0 0, .slice none 0 0, .slice none 0 0, .slice none 0 0] 29))
            replace V2 := Lib.hid (sq_alloc V2.out (.cells #[.slice none 0 0, .slice none 0 0, .slice none 0 0, .slice none 0 0, .slice none 0 0] 29))
            refine hK.out _ _ hS9 (fun _ => ?_)
            clear hK K hS
            obtain ⟨nq, hnq⟩ : ∃ x, w37.heap.size = x := ⟨_, rfl⟩
            obtain ⟨w45, hWn⟩ : ∃ x, w37.alloc (.cells #[.slice none 0 0, .slice none 0 0, .slice none 0 0, .slice none 0 0, .slice none 0 0] 29) = x := ⟨_, rfl⟩
            simp only [hWn, hnq] at hS9 HQ hqm V0 V1 V2 ⊢
            clear hWn hnq
            have hS := hS9
            clear hS9
            try simp only [Act.put, List.setIfInBounds_toArray, List.set_cons_zero, List.set_cons_succ]
            refine wpAnyH_ready (rs := [11]) (by kernel_rfl) (by simp) ?_
            refine' (AllReadyH.cons ?hi26 (fun K hK => ?op26) AllReadyH.nil)
            case hi26 => (simp only [List.getElem?_toArray, List.getElem?_cons_succ, List.getElem?_cons_zero]; rfl)
            go_simp
            go_at_call 12
            refine (HN3.out _ hS.1).mono ?_
            rintro e9 w47 ⟨y9, rfl, ⟨B3, k3, rfl, hl, hr⟩, hb⟩
            have hS9 : Below W4.heap.size W4 w47 ∧ w47.heap[np]? = some (.cells #[.slice A0 5 q0, .slice A1 l1 q1, .slice A2 l2 q2, .slice A3 l3 q3, .slice A4 l4 q4] 29 (0, 0)) := ⟨hS.1.trans (hb.mono hS.1.size), below_blk hb hS.2⟩
            replace V0 := Lib.hid (sq_call V0.out hb)
            replace V1 := Lib.hid (sq_call V1.out hb)
            replace V2 := Lib.hid (sq_call V2.out hb)
            have V3 := Lib.hid (sq_new (show VSts w45.heap.size w47 (St.rnmL p.input) (.slice B3 (St.rnmL p.input).length k3) from ⟨B3, k3, rfl, hl, hr⟩) hS.1.size (lt_of_block HQ.out))
            replace HQ := Lib.hid (below_blk hb HQ.out)
            clear hl hr hb
            refine hK.out _ _ hS9 (fun _ => ?_)
            clear hK K hS
            have hS := hS9
            clear hS9
            try simp only [Act.put, List.setIfInBounds_toArray, List.set_cons_zero, List.set_cons_succ]
            refine' wpAnyH_take (i := 12) (v := _) ?hi29 (by kernel_rfl) (by kernel_rfl) (by kernel_rfl) ?hQ29 (Or.inl ⟨?hw29, ?hy29⟩) hS ?rest29
            case hi29 => (simp only [List.getElem?_toArray, List.getElem?_cons_succ, List.getElem?_cons_zero]; rfl)
            case hQ29 => exact fun _ _ _ h => h
            case hw29 => rfl
            case hy29 =>
              rintro w9 ⟨-, hx9⟩
              go_simp
              with_reducible rfl
            try simp only [Act.put, List.setIfInBounds_toArray, List.set_cons_zero, List.set_cons_succ]
            obtain ⟨e0, e1, e2, e3, e4, ef0, ef1, ef2, ef3, ef4, _⟩ := box5 HQ.out
            refine wpAnyH_ready (rs := [14]) (by kernel_rfl) (by simp) ?_
            refine' (AllReadyH.cons ?hi28 (fun K hK => ?op28) AllReadyH.nil)
            case hi28 => (simp only [List.getElem?_toArray, List.getElem?_cons_succ, List.getElem?_cons_zero]; rfl)
            go_simp
            obtain ⟨WF, hWF⟩ : ∃ x, (((((w47.setCell ⟨nq, 0, none⟩ (.slice none 0 0)).setCell ⟨nq, 1, none⟩ (.slice B0 (St.rnmL p.start).length k0)).setCell ⟨nq, 2, none⟩ (.slice B1 (St.rnmL p.message).length k1)).setCell ⟨nq, 3, none⟩ (.slice B2 (St.rnmL p.tick).length k2)).setCell ⟨nq, 4, none⟩ (.slice B3 (St.rnmL p.input).length k3)) = x := ⟨_, rfl⟩
            have HF : Hid (WF.heap[nq]? = some (.cells #[.slice none 0 0, .slice B0 (St.rnmL p.start).length k0, .slice B1 (St.rnmL p.message).length k1, .slice B2 (St.rnmL p.tick).length k2, .slice B3 (St.rnmL p.input).length k3] 29 (0, 0))) := by
              have h' := (blk_set (blk_set (blk_set (blk_set (blk_set HQ.out 0 (.slice none 0 0)) 1 (.slice B0 (St.rnmL p.start).length k0)) 2 (.slice B1 (St.rnmL p.message).length k1)) 3 (.slice B2 (St.rnmL p.tick).length k2)) 4 (.slice B3 (St.rnmL p.input).length k3))
              rw [hWF] at h'
              simp only [List.setIfInBounds_toArray, List.set_cons_zero, List.set_cons_succ] at h'
              exact h'
            have HKF : Hid (∀ k, k ≠ nq → WF.heap[k]? = w47.heap[k]?) := fun k hk => by
              rw [← hWF]
              iterate 5 rw [Below.heap_setCell _ _ _ _ hk]
            have HBF : Hid (Below W4.heap.size w47 WF) := by rw [← hWF]; exact ((((((Below.refl _ _).setCell (p := ⟨nq, 0, none⟩) hqm _).setCell (p := ⟨nq, 1, none⟩) hqm _).setCell (p := ⟨nq, 2, none⟩) hqm _).setCell (p := ⟨nq, 3, none⟩) hqm _).setCell (p := ⟨nq, 4, none⟩) hqm _)
            have hnpq : np ≠ nq := by have := HNP.out; omega
            have hS9 : Below W4.heap.size W4 WF ∧ WF.heap[np]? = some (.cells #[.slice A0 5 q0, .slice A1 l1 q1, .slice A2 l2 q2, .slice A3 l3 q3, .slice A4 l4 q4] 29 (0, 0)) := ⟨hS.1.trans HBF.out, (HKF.out np hnpq).trans hS.2⟩
            rw [hWF]
            clear hWF
            refine hK.out _ _ hS9 (fun _ => ?_)
            clear hK K hS
            try simp only [Act.put, List.setIfInBounds_toArray, List.set_cons_zero, List.set_cons_succ]
            refine wpAnyH_done (by kernel_rfl) ?_ _
            go_wp2_with fail
            go_meet
            case rel => exact ⟨nq, B0, B1, B2, B3, k0, k1, k2, k3, rfl, HF, Lib.hid (sq_set V0.out HKF.out), Lib.hid (sq_set V1.out HKF.out), Lib.hid (sq_set V2.out HKF.out), Lib.hid (sq_set V3.out HKF.out), Lib.hid hS9.1, hqm⟩


        case op16 =>
          go_simp
          have hS9 : Below W4.heap.size W4 (w34.alloc (.cells #[.slice none 0 0, .slice none 0 0, .slice none 0 0, .slice none 0 0, .slice none 0 0] 29)) ∧ (w34.alloc (.cells #[.slice none 0 0, .slice none 0 0, .slice none 0 0, .slice none 0 0, .slice none 0 0] 29)).heap[np]? = some (.cells #[.slice A0 5 q0, .slice A1 l1 q1, .slice A2 l2 q2, .slice A3 l3 q3, .slice A4 l4 q4] 29 (0, 0)) := ⟨hS.1.alloc hS.1.size _, (alloc_blk _ _ (lt_of_block hS.2)).trans hS.2⟩
          have HQ := Lib.hid (new_blk w34 (.cells #[.slice none 0 0, .slice none 0 0, .slice none 0 0, .slice none 0 0, .slice none 0 0] 29))
          have hqm : W4.heap.size ≤ w34.heap.size := hS.1.size
          replace V0 := Lib.hid (sq_alloc V0.out (.cells #[.slice none 0 0, .slice none 0 0, .slice none 0 0, .slice none 0 0, .slice none 0 0] 29))
          replace V1 := Lib.hid (sq_alloc V1.out (.cells #[.slice none 0 0, .slice none 0 0, .slice none 0 0, .slice none 0 0, .slice none 0 0] 29))
          refine hK.out _ _ hS9 (fun _ => ?_)
          clear hK K hS
          obtain ⟨nq, hnq⟩ : ∃ x, w34.heap.size = x := ⟨_, rfl⟩
          obtain ⟨w50, hWn⟩ : ∃ x, w34.alloc (.cells #[.slice none 0 0, .slice none 0 0, .slice none 0 0, .slice none 0 0, .slice none 0 0] 29) = x := ⟨_, rfl⟩
          simp only [hWn, hnq] at hS9 HQ hqm V0 V1 ⊢
          clear hWn hnq
          have hS := hS9
          clear hS9
          try simp only [Act.put, List.setIfInBounds_toArray, List.set_cons_zero, List.set_cons_succ]
          refine wpAnyH_ready (rs := [8]) (by kernel_rfl) (by simp) ?_
          refine' (AllReadyH.cons ?hi31 (fun K hK => ?op31) AllReadyH.nil)
          case hi31 => (simp only [List.getElem?_toArray, List.getElem?_cons_succ, List.getElem?_cons_zero]; rfl)
          go_simp
          go_at_call 12
          refine (HN2.out _ hS.1).mono ?_
          rintro e9 w52 ⟨y9, rfl, ⟨B2, k2, rfl, hl, hr⟩, hb⟩
          have hS9 : Below W4.heap.size W4 w52 ∧ w52.heap[np]? = some (.cells #[.slice A0 5 q0, .slice A1 l1 q1, .slice A2 l2 q2, .slice A3 l3 q3, .slice A4 l4 q4] 29 (0, 0)) := ⟨hS.1.trans (hb.mono hS.1.size), below_blk hb hS.2⟩
          replace V0 := Lib.hid (sq_call V0.out hb)
          replace V1 := Lib.hid (sq_call V1.out hb)
          have V2 := Lib.hid (sq_new (show VSts w50.heap.size w52 (St.rnmL p.tick) (.slice B2 (St.rnmL p.tick).length k2) from ⟨B2, k2, rfl, hl, hr⟩) hS.1.size (lt_of_block HQ.out))
          replace HQ := Lib.hid (below_blk hb HQ.out)
          clear hl hr hb
          refine hK.out _ _ hS9 (fun _ => ?_)
          clear hK K hS
          have hS := hS9
          clear hS9
          try simp only [Act.put, List.setIfInBounds_toArray, List.set_cons_zero, List.set_cons_succ]
          refine wpAnyH_ready (rs := [11]) (by kernel_rfl) (by simp) ?_
          refine' (AllReadyH.cons ?hi33 (fun K hK => ?op33) AllReadyH.nil)
          case hi33 => (simp only [List.getElem?_toArray, List.getElem?_cons_succ, List.getElem?_cons_zero]; rfl)
          go_simp
          go_at_call 12
          refine (HN3.out _ hS.1).mono ?_
          rintro e9 w54 ⟨y9, rfl, ⟨B3, k3, rfl, hl, hr⟩, hb⟩
          have hS9 : Below W4.heap.size W4 w54 ∧ w54.heap[np]? = some (.cells #[.slice A0 5 q0, .slice A1 l1 q1, .slice A2 l2 q2, .slice A3 l3 q3, .slice A4 l4 q4] 29 (0, 0)) := ⟨hS.1.trans (hb.mono hS.1.size), below_blk hb hS.2⟩
          replace V0 := Lib.hid (sq_call V0.out hb)
          replace V1 := Lib.hid (sq_call V1.out hb)
          replace V2 := Lib.hid (sq_call V2.out hb)
          have V3 := Lib.hid (sq_new (show VSts w52.heap.size w54 (St.rnmL p.input) (.slice B3 (St.rnmL p.input).length k3) from ⟨B3, k3, rfl, hl, hr⟩) hS.1.size (lt_of_block HQ.out))
          replace HQ := Lib.hid (below_blk hb HQ.out)
          clear hl hr hb
          refine hK.out _ _ hS9 (fun _ => ?_)
          clear hK K hS
          have hS := hS9
          clear hS9
          try simp only [Act.put, List.setIfInBounds_toArray, List.set_cons_zero, List.set_cons_succ]
          refine' wpAnyH_take (i := 12) (v := _) ?hi36 (by kernel_rfl) (by kernel_rfl) (by kernel_rfl) ?hQ36 (Or.inl ⟨?hw36, ?hy36⟩) hS ?rest36
          case hi36 => (simp only [List.getElem?_toArray, List.getElem?_cons_succ, List.getElem?_cons_zero]; rfl)
          case hQ36 => exact fun _ _ _ h => h
          case hw36 => rfl
          case hy36 =>
            rintro w9 ⟨-, hx9⟩
            go_simp
            with_reducible rfl
          try simp only [Act.put, List.setIfInBounds_toArray, List.set_cons_zero, List.set_cons_succ]
          obtain ⟨e0, e1, e2, e3, e4, ef0, ef1, ef2, ef3, ef4, _⟩ := box5 HQ.out
          refine wpAnyH_ready (rs := [14]) (by kernel_rfl) (by simp) ?_
          refine' (AllReadyH.cons ?hi35 (fun K hK => ?op35) AllReadyH.nil)
          case hi35 => (simp only [List.getElem?_toArray, List.getElem?_cons_succ, List.getElem?_cons_zero]; rfl)
          go_simp
          obtain ⟨WF, hWF⟩ : ∃ x, (((((w54.setCell ⟨nq, 0, none⟩ (.slice none 0 0)).setCell ⟨nq, 1, none⟩ (.slice B0 (St.rnmL p.start).length k0)).setCell ⟨nq, 2, none⟩ (.slice B1 (St.rnmL p.message).length k1)).setCell ⟨nq, 3, none⟩ (.slice B2 (St.rnmL p.tick).length k2)).setCell ⟨nq, 4, none⟩ (.slice B3 (St.rnmL p.input).length k3)) = x := ⟨_, rfl⟩
          have HF : Hid (WF.heap[nq]? = some (.cells #[.slice none 0 0, .slice B0 (St.rnmL p.start).length k0, .slice B1 (St.rnmL p.message).length k1, .slice B2 (St.rnmL p.tick).length k2, .slice B3 (St.rnmL p.input).length k3] 29 (0, 0))) := by
            have h' := (blk_set (blk_set (blk_set (blk_set (blk_set HQ.out 0 (.slice none 0 0)) 1 (.slice B0 (St.rnmL p.start).length k0)) 2 (.slice B1 (St.rnmL p.message).length k1)) 3 (.slice B2 (St.rnmL p.tick).length k2)) 4 (.slice B3 (St.rnmL p.input).length k3))
            rw [hWF] at h'
            simp only [List.setIfInBounds_toArray, List.set_cons_zero, List.set_cons_succ] at h'
            exact h'
          have HKF : Hid (∀ k, k ≠ nq → WF.heap[k]? = w54.heap[k]?) := fun k hk => by
            rw [← hWF]
            iterate 5 rw [Below.heap_setCell _ _ _ _ hk]
          have HBF : Hid (Below W4.heap.size w54 WF) := by rw [← hWF]; exact ((((((Below.refl _ _).setCell (p := ⟨nq, 0, none⟩) hqm _).setCell (p := ⟨nq, 1, none⟩) hqm _).setCell (p := ⟨nq, 2, none⟩) hqm _).setCell (p := ⟨nq, 3, none⟩) hqm _).setCell (p := ⟨nq, 4, none⟩) hqm _)
          have hnpq : np ≠ nq := by have := HNP.out; omega
          have hS9 : Below W4.heap.size W4 WF ∧ WF.heap[np]? = some (.cells #[.slice A0 5 q0, .slice A1 l1 q1, .slice A2 l2 q2, .slice A3 l3 q3, .slice A4 l4 q4] 29 (0, 0)) := ⟨hS.1.trans HBF.out, (HKF.out np hnpq).trans hS.2⟩
          rw [hWF]
          clear hWF
          refine hK.out _ _ hS9 (fun _ => ?_)
          clear hK K hS
          try simp only [Act.put, List.setIfInBounds_toArray, List.set_cons_zero, List.set_cons_succ]
          refine wpAnyH_done (by kernel_rfl) ?_ _
          go_wp2_with fail
          go_meet
          case rel => exact ⟨nq, B0, B1, B2, B3, k0, k1, k2, k3, rfl, HF, Lib.hid (sq_set V0.out HKF.out), Lib.hid (sq_set V1.out HKF.out), Lib.hid (sq_set V2.out HKF.out), Lib.hid (sq_set V3.out HKF.out), Lib.hid hS9.1, hqm⟩


      case op13 =>
        go_simp
        have hS9 : Below W4.heap.size W4 (w31.alloc (.cells #[.slice none 0 0, .slice none 0 0, .slice none 0 0, .slice none 0 0, .slice none 0 0] 29)) ∧ (w31.alloc (.cells #[.slice none 0 0, .slice none 0 0, .slice none 0 0, .slice none 0 0, .slice none 0 0] 29)).heap[np]? = some (.cells #[.slice A0 5 q0, .slice A1 l1 q1, .slice A2 l2 q2, .slice A3 l3 q3, .slice A4 l4 q4] 29 (0, 0)) := ⟨hS.1.alloc hS.1.size _, (alloc_blk _ _ (lt_of_block hS.2)).trans hS.2⟩
        have HQ := Lib.hid (new_blk w31 (.cells #[.slice none 0 0, .slice none 0 0, .slice none 0 0, .slice none 0 0, .slice none 0 0] 29))
        have hqm : W4.heap.size ≤ w31.heap.size := hS.1.size
        replace V0 := Lib.hid (sq_alloc V0.out (.cells #[.slice none 0 0, .slice none 0 0, .slice none 0 0, .slice none 0 0, .slice none 0 0] 29))
        refine hK.out _ _ hS9 (fun _ => ?_)
        clear hK K hS
        obtain ⟨nq, hnq⟩ : ∃ x, w31.heap.size = x := ⟨_, rfl⟩
        obtain ⟨w57, hWn⟩ : ∃ x, w31.alloc (.cells #[.slice none 0 0, .slice none 0 0, .slice none 0 0, .slice none 0 0, .slice none 0 0] 29) = x := ⟨_, rfl⟩
        simp only [hWn, hnq] at hS9 HQ hqm V0 ⊢
        clear hWn hnq
        have hS := hS9
        clear hS9
        try simp only [Act.put, List.setIfInBounds_toArray, List.set_cons_zero, List.set_cons_succ]
        refine wpAnyH_ready (rs := [5]) (by kernel_rfl) (by simp) ?_
        refine' (AllReadyH.cons ?hi38 (fun K hK => ?op38) AllReadyH.nil)
        case hi38 => (simp only [List.getElem?_toArray, List.getElem?_cons_succ, List.getElem?_cons_zero]; rfl)
        go_simp
        go_at_call 12
        refine (HN1.out _ hS.1).mono ?_
        rintro e9 w59 ⟨y9, rfl, ⟨B1, k1, rfl, hl, hr⟩, hb⟩
        have hS9 : Below W4.heap.size W4 w59 ∧ w59.heap[np]? = some (.cells #[.slice A0 5 q0, .slice A1 l1 q1, .slice A2 l2 q2, .slice A3 l3 q3, .slice A4 l4 q4] 29 (0, 0)) := ⟨hS.1.trans (hb.mono hS.1.size), below_blk hb hS.2⟩
        replace V0 := Lib.hid (sq_call V0.out hb)
        have V1 := Lib.hid (sq_new (show VSts w57.heap.size w59 (St.rnmL p.message) (.slice B1 (St.rnmL p.message).length k1) from ⟨B1, k1, rfl, hl, hr⟩) hS.1.size (lt_of_block HQ.out))
        replace HQ := Lib.hid (below_blk hb HQ.out)
        clear hl hr hb
        refine hK.out _ _ hS9 (fun _ => ?_)
        clear hK K hS
        have hS := hS9
        clear hS9
        try simp only [Act.put, List.setIfInBounds_toArray, List.set_cons_zero, List.set_cons_succ]
        refine wpAnyH_ready (rs := [8]) (by kernel_rfl) (by simp) ?_
        refine' (AllReadyH.cons ?hi40 (fun K hK => ?op40) AllReadyH.nil)
        case hi40 => (simp only [List.getElem?_toArray, List.getElem?_cons_succ, List.getElem?_cons_zero]; rfl)
        go_simp
        go_at_call 12
        refine (HN2.out _ hS.1).mono ?_
        rintro e9 w61 ⟨y9, rfl, ⟨B2, k2, rfl, hl, hr⟩, hb⟩
        have hS9 : Below W4.heap.size W4 w61 ∧ w61.heap[np]? = some (.cells #[.slice A0 5 q0, .slice A1 l1 q1, .slice A2 l2 q2, .slice A3 l3 q3, .slice A4 l4 q4] 29 (0, 0)) := ⟨hS.1.trans (hb.mono hS.1.size), below_blk hb hS.2⟩
        replace V0 := Lib.hid (sq_call V0.out hb)
        replace V1 := Lib.hid (sq_call V1.out hb)
        have V2 := Lib.hid (sq_new (show VSts w59.heap.size w61 (St.rnmL p.tick) (.slice B2 (St.rnmL p.tick).length k2) from ⟨B2, k2, rfl, hl, hr⟩) hS.1.size (lt_of_block HQ.out))
        replace HQ := Lib.hid (below_blk hb HQ.out)
        clear hl hr hb
        refine hK.out _ _ hS9 (fun _ => ?_)
        clear hK K hS
        have hS := hS9
        clear hS9
        try simp only [Act.put, List.setIfInBounds_toArray, List.set_cons_zero, List.set_cons_succ]
        refine wpAnyH_ready (rs := [11]) (by kernel_rfl) (by simp) ?_
        refine' (AllReadyH.cons ?hi42 (fun K hK => ?op42) AllReadyH.nil)
        case hi42 => (simp only [List.getElem?_toArray, List.getElem?_cons_succ, List.getElem?_cons_zero]; rfl)
        go_simp
        go_at_call 12
        refine (HN3.out _ hS.1).mono ?_
        rintro e9 w63 ⟨y9, rfl, ⟨B3, k3, rfl, hl, hr⟩, hb⟩
        have hS9 : Below W4.heap.size W4 w63 ∧ w63.heap[np]? = some (.cells #[.slice A0 5 q0, .slice A1 l1 q1, .slice A2 l2 q2, .slice A3 l3 q3, .slice A4 l4 q4] 29 (0, 0)) := ⟨hS.1.trans (hb.mono hS.1.size), below_blk hb hS.2⟩
        replace V0 := Lib.hid (sq_call V0.out hb)
        replace V1 := Lib.hid (sq_call V1.out hb)
        replace V2 := Lib.hid (sq_call V2.out hb)
        have V3 := Lib.hid (sq_new (show VSts w61.heap.size w63 (St.rnmL p.input) (.slice B3 (St.rnmL p.input).length k3) from ⟨B3, k3, rfl, hl, hr⟩) hS.1.size (lt_of_block HQ.out))
        replace HQ := Lib.hid (below_blk hb HQ.out)
        clear hl hr hb
        refine hK.out _ _ hS9 (fun _ => ?_)
        clear hK K hS
        have hS := hS9
        clear hS9
        try simp only [Act.put, List.setIfInBounds_toArray, List.set_cons_zero, List.set_cons_succ]
        refine' wpAnyH_take (i := 12) (v := _) ?hi45 (by kernel_rfl) (by kernel_rfl) (by kernel_rfl) ?hQ45 (Or.inl ⟨?hw45, ?hy45⟩) hS ?rest45
        case hi45 => (simp only [List.getElem?_toArray, List.getElem?_cons_succ, List.getElem?_cons_zero]; rfl)
        case hQ45 => exact fun _ _ _ h => h
        case hw45 => rfl
        case hy45 =>
          rintro w9 ⟨-, hx9⟩
          go_simp
          with_reducible rfl
        try simp only [Act.put, List.setIfInBounds_toArray, List.set_cons_zero, List.set_cons_succ]
        obtain ⟨e0, e1, e2, e3, e4, ef0, ef1, ef2, ef3, ef4, _⟩ := box5 HQ.out
        refine wpAnyH_ready (rs := [14]) (by kernel_rfl) (by simp) ?_
        refine' (AllReadyH.cons ?hi44 (fun K hK => ?op44) AllReadyH.nil)
        case hi44 => (simp only [List.getElem?_toArray, List.getElem?_cons_succ, List.getElem?_cons_zero]; rfl)
        go_simp
        obtain ⟨WF, hWF⟩ : ∃ x, (((((w63.setCell ⟨nq, 0, none⟩ (.slice none 0 0)).setCell ⟨nq, 1, none⟩ (.slice B0 (St.rnmL p.start).length k0)).setCell ⟨nq, 2, none⟩ (.slice B1 (St.rnmL p.message).length k1)).setCell ⟨nq, 3, none⟩ (.slice B2 (St.rnmL p.tick).length k2)).setCell ⟨nq, 4, none⟩ (.slice B3 (St.rnmL p.input).length k3)) = x := ⟨_, rfl⟩
        have HF : Hid (WF.heap[nq]? = some (.cells #[.slice none 0 0, .slice B0 (St.rnmL p.start).length k0, .slice B1 (St.rnmL p.message).length k1, .slice B2 (St.rnmL p.tick).length k2, .slice B3 (St.rnmL p.input).length k3] 29 (0, 0))) := by
          have h' := (blk_set (blk_set (blk_set (blk_set (blk_set HQ.out 0 (.slice none 0 0)) 1 (.slice B0 (St.rnmL p.start).length k0)) 2 (.slice B1 (St.rnmL p.message).length k1)) 3 (.slice B2 (St.rnmL p.tick).length k2)) 4 (.slice B3 (St.rnmL p.input).length k3))
          rw [hWF] at h'
          simp only [List.setIfInBounds_toArray, List.set_cons_zero, List.set_cons_succ] at h'
          exact h'
        have HKF : Hid (∀ k, k ≠ nq → WF.heap[k]? = w63.heap[k]?) := fun k hk => by
          rw [← hWF]
          iterate 5 rw [Below.heap_setCell _ _ _ _ hk]
        have HBF : Hid (Below W4.heap.size w63 WF) := by rw [← hWF]; exact ((((((Below.refl _ _).setCell (p := ⟨nq, 0, none⟩) hqm _).setCell (p := ⟨nq, 1, none⟩) hqm _).setCell (p := ⟨nq, 2, none⟩) hqm _).setCell (p := ⟨nq, 3, none⟩) hqm _).setCell (p := ⟨nq, 4, none⟩) hqm _)
        have hnpq : np ≠ nq := by have := HNP.out; omega
        have hS9 : Below W4.heap.size W4 WF ∧ WF.heap[np]? = some (.cells #[.slice A0 5 q0, .slice A1 l1 q1, .slice A2 l2 q2, .slice A3 l3 q3, .slice A4 l4 q4] 29 (0, 0)) := ⟨hS.1.trans HBF.out, (HKF.out np hnpq).trans hS.2⟩
        rw [hWF]
        clear hWF
        refine hK.out _ _ hS9 (fun _ => ?_)
        clear hK K hS
        try simp only [Act.put, List.setIfInBounds_toArray, List.set_cons_zero, List.set_cons_succ]
        refine wpAnyH_done (by kernel_rfl) ?_ _
        go_wp2_with fail
        go_meet
        case rel => exact ⟨nq, B0, B1, B2, B3, k0, k1, k2, k3, rfl, HF, Lib.hid (sq_set V0.out HKF.out), Lib.hid (sq_set V1.out HKF.out), Lib.hid (sq_set V2.out HKF.out), Lib.hid (sq_set V3.out HKF.out), Lib.hid hS9.1, hqm⟩


    case op10 =>
      go_simp
      have hS9 : Below W4.heap.size W4 (wd.alloc (.cells #[.slice none 0 0, .slice none 0 0, .slice none 0 0, .slice none 0 0, .slice none 0 0] 29)) ∧ (wd.alloc (.cells #[.slice none 0 0, .slice none 0 0, .slice none 0 0, .slice none 0 0, .slice none 0 0] 29)).heap[np]? = some (.cells #[.slice A0 5 q0, .slice A1 l1 q1, .slice A2 l2 q2, .slice A3 l3 q3, .slice A4 l4 q4] 29 (0, 0)) := ⟨hS.1.alloc hS.1.size _, (alloc_blk _ _ (lt_of_block hS.2)).trans hS.2⟩
      have HQ := Lib.hid (new_blk wd (.cells #[.slice none 0 0, .slice none 0 0, .slice none 0 0, .slice none 0 0, .slice none 0 0] 29))
      have hqm : W4.heap.size ≤ wd.heap.size := hS.1.size
      refine hK.out _ _ hS9 (fun _ => ?_)
      clear hK K hS
      obtain ⟨nq, hnq⟩ : ∃ x, wd.heap.size = x := ⟨_, rfl⟩
      obtain ⟨w66, hWn⟩ : ∃ x, wd.alloc (.cells #[.slice none 0 0, .slice none 0 0, .slice none 0 0, .slice none 0 0, .slice none 0 0] 29) = x := ⟨_, rfl⟩
      simp only [hWn, hnq] at hS9 HQ hqm  ⊢
      clear hWn hnq
      have hS := hS9
      clear hS9
      try simp only [Act.put, List.setIfInBounds_toArray, List.set_cons_zero, List.set_cons_succ]
      refine wpAnyH_ready (rs := [2]) (by kernel_rfl) (by simp) ?_
      refine' (AllReadyH.cons ?hi47 (fun K hK => ?op47) AllReadyH.nil)
      case hi47 => (simp only [List.getElem?_toArray, List.getElem?_cons_succ, List.getElem?_cons_zero]; rfl)
      go_simp
      go_at_call 12
      refine (HN0.out _ hS.1).mono ?_
      rintro e9 w68 ⟨y9, rfl, ⟨B0, k0, rfl, hl, hr⟩, hb⟩
      have hS9 : Below W4.heap.size W4 w68 ∧ w68.heap[np]? = some (.cells #[.slice A0 5 q0, .slice A1 l1 q1, .slice A2 l2 q2, .slice A3 l3 q3, .slice A4 l4 q4] 29 (0, 0)) := ⟨hS.1.trans (hb.mono hS.1.size), below_blk hb hS.2⟩
      have V0 := Lib.hid (sq_new (show VSts w66.heap.size w68 (St.rnmL p.start) (.slice B0 (St.rnmL p.start).length k0) from ⟨B0, k0, rfl, hl, hr⟩) hS.1.size (lt_of_block HQ.out))
      replace HQ := Lib.hid (below_blk hb HQ.out)
      clear hl hr hb
      refine hK.out _ _ hS9 (fun _ => ?_)
      clear hK K hS
      have hS := hS9
      clear hS9
      try simp only [Act.put, List.setIfInBounds_toArray, List.set_cons_zero, List.set_cons_succ]
      refine wpAnyH_ready (rs := [5]) (by kernel_rfl) (by simp) ?_
      refine' (AllReadyH.cons ?hi49 (fun K hK => ?op49) AllReadyH.nil)
      case hi49 => (simp only [List.getElem?_toArray, List.getElem?_cons_succ, List.getElem?_cons_zero]; rfl)
      go_simp
      go_at_call 12
      refine (HN1.out _ hS.1).mono ?_
      rintro e9 w70 ⟨y9, rfl, ⟨B1, k1, rfl, hl, hr⟩, hb⟩
      have hS9 : Below W4.heap.size W4 w70 ∧ w70.heap[np]? = some (.cells #[.slice A0 5 q0, .slice A1 l1 q1, .slice A2 l2 q2, .slice A3 l3 q3, .slice A4 l4 q4] 29 (0, 0)) := ⟨hS.1.trans (hb.mono hS.1.size), below_blk hb hS.2⟩
      replace V0 := Lib.hid (sq_call V0.out hb)
      have V1 := Lib.hid (sq_new (show VSts w68.heap.size w70 (St.rnmL p.message) (.slice B1 (St.rnmL p.message).length k1) from ⟨B1, k1, rfl, hl, hr⟩) hS.1.size (lt_of_block HQ.out))
      replace HQ := Lib.hid (below_blk hb HQ.out)
      clear hl hr hb
      refine hK.out _ _ hS9 (fun _ => ?_)
      clear hK K hS
      have hS := hS9
      clear hS9
      try simp only [Act.put, List.setIfInBounds_toArray, List.set_cons_zero, List.set_cons_succ]
      refine wpAnyH_ready (rs := [8]) (by kernel_rfl) (by simp) ?_
      refine' (AllReadyH.cons ?hi51 (fun K hK => ?op51) AllReadyH.nil)
      case hi51 => (simp only [List.getElem?_toArray, List.getElem?_cons_succ, List.getElem?_cons_zero]; rfl)
      go_simp
      go_at_call 12
      refine (HN2.out _ hS.1).mono ?_
      rintro e9 w72 ⟨y9, rfl, ⟨B2, k2, rfl, hl, hr⟩, hb⟩
      have hS9 : Below W4.heap.size W4 w72 ∧ w72.heap[np]? = some (.cells #[.slice A0 5 q0, .slice A1 l1 q1, .slice A2 l2 q2, .slice A3 l3 q3, .slice A4 l4 q4] 29 (0, 0)) := ⟨hS.1.trans (hb.mono hS.1.size), below_blk hb hS.2⟩
      replace V0 := Lib.hid (sq_call V0.out hb)
      replace V1 := Lib.hid (sq_call V1.out hb)
      have V2 := Lib.hid (sq_new (show VSts w70.heap.size w72 (St.rnmL p.tick) (.slice B2 (St.rnmL p.tick).length k2) from ⟨B2, k2, rfl, hl, hr⟩) hS.1.size (lt_of_block HQ.out))
      replace HQ := Lib.hid (below_blk hb HQ.out)
      clear hl hr hb
      refine hK.out _ _ hS9 (fun _ => ?_)
      clear hK K hS
      have hS := hS9
      clear hS9
      try simp only [Act.put, List.setIfInBounds_toArray, List.set_cons_zero, List.set_cons_succ]
      refine wpAnyH_ready (rs := [11]) (by kernel_rfl) (by simp) ?_
      refine' (AllReadyH.cons ?hi53 (fun K hK => ?op53) AllReadyH.nil)
      case hi53 => (simp only [List.getElem?_toArray, List.getElem?_cons_succ, List.getElem?_cons_zero]; rfl)
      go_simp
      go_at_call 12
      refine (HN3.out _ hS.1).mono ?_
      rintro e9 w74 ⟨y9, rfl, ⟨B3, k3, rfl, hl, hr⟩, hb⟩
      have hS9 : Below W4.heap.size W4 w74 ∧ w74.heap[np]? = some (.cells #[.slice A0 5 q0, .slice A1 l1 q1, .slice A2 l2 q2, .slice A3 l3 q3, .slice A4 l4 q4] 29 (0, 0)) := ⟨hS.1.trans (hb.mono hS.1.size), below_blk hb hS.2⟩
      replace V0 := Lib.hid (sq_call V0.out hb)
      replace V1 := Lib.hid (sq_call V1.out hb)
      replace V2 := Lib.hid (sq_call V2.out hb)
      have V3 := Lib.hid (sq_new (show VSts w72.heap.size w74 (St.rnmL p.input) (.slice B3 (St.rnmL p.input).length k3) from ⟨B3, k3, rfl, hl, hr⟩) hS.1.size (lt_of_block HQ.out))
      replace HQ := Lib.hid (below_blk hb HQ.out)
      clear hl hr hb
      refine hK.out _ _ hS9 (fun _ => ?_)
      clear hK K hS
      have hS := hS9
      clear hS9
      try simp only [Act.put, List.setIfInBounds_toArray, List.set_cons_zero, List.set_cons_succ]
      refine' wpAnyH_take (i := 12) (v := _) ?hi56 (by kernel_rfl) (by kernel_rfl) (by kernel_rfl) ?hQ56 (Or.inl ⟨?hw56, ?hy56⟩) hS ?rest56
      case hi56 => (simp only [List.getElem?_toArray, List.getElem?_cons_succ, List.getElem?_cons_zero]; rfl)
      case hQ56 => exact fun _ _ _ h => h
      case hw56 => rfl
      case hy56 =>
        rintro w9 ⟨-, hx9⟩
        go_simp
        with_reducible rfl
      try simp only [Act.put, List.setIfInBounds_toArray, List.set_cons_zero, List.set_cons_succ]
      obtain ⟨e0, e1, e2, e3, e4, ef0, ef1, ef2, ef3, ef4, _⟩ := box5 HQ.out
      refine wpAnyH_ready (rs := [14]) (by kernel_rfl) (by simp) ?_
      refine' (AllReadyH.cons ?hi55 (fun K hK => ?op55) AllReadyH.nil)
      case hi55 => (simp only [List.getElem?_toArray, List.getElem?_cons_succ, List.getElem?_cons_zero]; rfl)
      go_simp
      obtain ⟨WF, hWF⟩ : ∃ x, (((((w74.setCell ⟨nq, 0, none⟩ (.slice none 0 0)).setCell ⟨nq, 1, none⟩ (.slice B0 (St.rnmL p.start).length k0)).setCell ⟨nq, 2, none⟩ (.slice B1 (St.rnmL p.message).length k1)).setCell ⟨nq, 3, none⟩ (.slice B2 (St.rnmL p.tick).length k2)).setCell ⟨nq, 4, none⟩ (.slice B3 (St.rnmL p.input).length k3)) = x := ⟨_, rfl⟩
      have HF : Hid (WF.heap[nq]? = some (.cells #[.slice none 0 0, .slice B0 (St.rnmL p.start).length k0, .slice B1 (St.rnmL p.message).length k1, .slice B2 (St.rnmL p.tick).length k2, .slice B3 (St.rnmL p.input).length k3] 29 (0, 0))) := by
        have h' := (blk_set (blk_set (blk_set (blk_set (blk_set HQ.out 0 (.slice none 0 0)) 1 (.slice B0 (St.rnmL p.start).length k0)) 2 (.slice B1 (St.rnmL p.message).length k1)) 3 (.slice B2 (St.rnmL p.tick).length k2)) 4 (.slice B3 (St.rnmL p.input).length k3))
        rw [hWF] at h'
        simp only [List.setIfInBounds_toArray, List.set_cons_zero, List.set_cons_succ] at h'
        exact h'
      have HKF : Hid (∀ k, k ≠ nq → WF.heap[k]? = w74.heap[k]?) := fun k hk => by
        rw [← hWF]
        iterate 5 rw [Below.heap_setCell _ _ _ _ hk]
      have HBF : Hid (Below W4.heap.size w74 WF) := by rw [← hWF]; exact ((((((Below.refl _ _).setCell (p := ⟨nq, 0, none⟩) hqm _).setCell (p := ⟨nq, 1, none⟩) hqm _).setCell (p := ⟨nq, 2, none⟩) hqm _).setCell (p := ⟨nq, 3, none⟩) hqm _).setCell (p := ⟨nq, 4, none⟩) hqm _)
      have hnpq : np ≠ nq := by have := HNP.out; omega
      have hS9 : Below W4.heap.size W4 WF ∧ WF.heap[np]? = some (.cells #[.slice A0 5 q0, .slice A1 l1 q1, .slice A2 l2 q2, .slice A3 l3 q3, .slice A4 l4 q4] 29 (0, 0)) := ⟨hS.1.trans HBF.out, (HKF.out np hnpq).trans hS.2⟩
      rw [hWF]
      clear hWF
      refine hK.out _ _ hS9 (fun _ => ?_)
      clear hK K hS
      try simp only [Act.put, List.setIfInBounds_toArray, List.set_cons_zero, List.set_cons_succ]
      refine wpAnyH_done (by kernel_rfl) ?_ _
      go_wp2_with fail
      go_meet
      case rel => exact ⟨nq, B0, B1, B2, B3, k0, k1, k2, k3, rfl, HF, Lib.hid (sq_set V0.out HKF.out), Lib.hid (sq_set V1.out HKF.out), Lib.hid (sq_set V2.out HKF.out), Lib.hid (sq_set V3.out HKF.out), Lib.hid hS9.1, hqm⟩


  case rest =>
    obtain ⟨nq, B0, B1, B2, B3, k0, k1, k2, k3, rfl, HQ5, HV0, HV1, HV2, HV3, HB5, hqm⟩ := hcut
    obtain ⟨n0, hn0⟩ : ∃ x, (St.rnmL p.start).length = x := ⟨_, rfl⟩
    obtain ⟨n1, hn1⟩ : ∃ x, (St.rnmL p.message).length = x := ⟨_, rfl⟩
    obtain ⟨n2, hn2⟩ : ∃ x, (St.rnmL p.tick).length = x := ⟨_, rfl⟩
    obtain ⟨n3, hn3⟩ : ∃ x, (St.rnmL p.input).length = x := ⟨_, rfl⟩
    have HNN := Lib.hid (And.intro hn0 (And.intro hn1 (And.intro hn2 hn3)))
    rw [hn0] at HV0; rw [hn1] at HV1; rw [hn2] at HV2; rw [hn3] at HV3
    rw [hn0, hn1, hn2, hn3] at HQ5
    clear hn0 hn1 hn2 hn3 HN0 HN1 HN2 HN3
    have hnpq : np ≠ nq := by have := HNP.out; omega
    have hx5 := below_blk HB5.out HX4.out
    obtain ⟨d0, d1, d2, d3, d4, _, _, _, _, _, hn5⟩ := box5 hx5
    have hqz := lt_of_block HQ5.out
    obtain ⟨i0, hi, hz0, hz1, hz2⟩ := info_parts infoVr
    have HI := Lib.hid hi
    have HI0 := Lib.hid hz0
    have HI1 := Lib.hid hz1
    have HI2 := Lib.hid hz2
    have HXC := Lib.hid hx5
    have hqm2 := Lib.hid hqm
    clear hi hz0 hz1 hz2 hx5 hqm
    go_wp2_with fail
    clear d0 d1 d2 d3 d4
    go_loopg [32] 5 (fun g i wr => ∃ (k : Nat) (v : Value), k + g = 5 ∧ i = .int .i64 k ∧ Hid (wr.heap[nq]? = some (.cells #[v, .slice B0 n0 k0, .slice B1 n1 k1, .slice B2 n2 k2, .slice B3 n3 k3] 29 (0, 0))) ∧ Hid (wr.ownsRow wc.heap.size 43 3 v k ((renV (p.vars.take k)).flatMap vrCells)) ∧ Hid (Keep nq wc wr))
    case atStart => exact ⟨0, .slice none 0 0, by omega, rfl, HQ5, Lib.hid (World.ownsRow_nil _ _ _ _), Lib.hid (Keep.refl _ _)⟩
    case round =>
      obtain ⟨k, v, hkg, rfl, HX, HW, HK⟩ := hrel
      obtain ⟨A9, c9, rfl⟩ := own_slice HW.out
      have hxp : wr.heap[np]? = some (.cells #[.slice A0 5 q0, .slice A1 l1 q1, .slice A2 l2 q2, .slice A3 l3 q3, .slice A4 l4 q4] 29 (0, 0)) := (HK.out.block np (lt_of_block HXC.out) hnpq).trans HXC.out
      have HXP := Lib.hid hxp
      obtain ⟨d0, d1, d2, d3, d4, _, _, _, _, _, hpn⟩ := box5 hxp
      obtain ⟨e0, e1, e2, e3, e4, f0, f1, f2, f3, f4, hqn⟩ := box5 HX.out
      have hzr := HK.out.size
      clear hxp
      cases gk with
      | zero =>
        have hk5 : k = 5 := by omega
        subst hk5
        clear hkg
        obtain ⟨A8, c8, hv8, hq0⟩ := own_vr HW.out (by rw [List.take_of_length_le (by have := HV5.out; omega)]; simp [renV, HV5.out])
        injection hv8 with hv81 hv82 hv83
        subst hv81 hv83
        rw [List.take_of_length_le (by have := HV5.out; omega)] at hq0
        have hst : ∀ j, j < W4.heap.size → wr.heap[j]? = W4.heap[j]? := fun j hj => (HK.out.block j (by have := HB5.out.size; omega) (by have := hqm2.out; omega)).trans (HB5.out.block j hj)
        have HPA := Lib.hid (HP4.out.still (S' := fun _ => True) fun k _ h2 => ⟨trivial, hst k h2⟩)
        have hsq : ∀ (l : List St) (v : Value), StSlice (SQ W4.heap.size nq) wc l v → StSlice (fun _ => True) wr l v := fun l v h => h.still fun k hk h2 => ⟨trivial, HK.out.block k h2 hk.2⟩
        have HPB : Hid (PrAt (fun _ => True) wr p.rnm (.slice A9 5 c9) (.slice B0 n0 k0) (.slice B1 n1 k1) (.slice B2 n2 k2) (.slice B3 n3 k3)) := ⟨hq0, hsq _ _ HV0.out, hsq _ _ HV1.out, hsq _ _ HV2.out, hsq _ _ HV3.out⟩
        have HBW : Hid (Below w.heap.size w wr) := HB4.out.trans ⟨HK.out.os.trans HB5.out.os, HK.out.tape.trans HB5.out.tape, HK.out.output.trans HB5.out.output, by have := HB5.out.size; have := HB4.out.size; omega, fun j hj => hst j (by have := HB4.out.size; omega)⟩
        clear hv82 hq0 hst hsq hzr hqz
        go_wp2_with fail
        refine (HRS.out _ wr (HSY.out.below HBW.out) A0 A1 A2 A3 A4 5 l1 l2 l3 l4 q0 q1 q2 q3 q4 HPA.out).mono ?_
        rintro e w11 ⟨hb, Ai, X0, X1, X2, X3, ci, t0, t1, t2, t3, rfl, hown, hv0, hv1, hv2, hv3⟩
        obtain ⟨F, hF⟩ : ∃ x, (declS p.vars).2.2 = x := ⟨_, rfl⟩
        obtain ⟨G, hG⟩ : ∃ x, (declS p.rnm.vars).2.2 = x := ⟨_, rfl⟩
        obtain ⟨ini, hini⟩ : ∃ x, (declS p.vars).2.1 = x := ⟨_, rfl⟩
        have hin2 := HIN.out
        have hil2 := HIL.out
        have hli2 := HLI.out
        rw [hini] at hin2 hil2 hown ⊢
        rw [hF, hG] at hli2
        rw [hF] at hv0 hv1 hv2 hv3
        obtain ⟨L, hL⟩ : ∃ x, ini.length = x := ⟨_, rfl⟩
        rw [hL] at hown hil2 ⊢
        have HIN2 := Lib.hid hin2
        have HILL := Lib.hid hil2
        have HL := Lib.hid hL
        have HLI2 := Lib.hid hli2
        have HGG := Lib.hid hG
        have HOA := Lib.hid (ZsAt.own hown (by omega))
        have HA0 := Lib.hid hv0
        have HA1 := Lib.hid hv1
        have HA2 := Lib.hid hv2
        have HA3 := Lib.hid hv3
        have HB11 := Lib.hid hb
        have HX11 := Lib.hid (below_blk hb HX.out)
        have hz11 := hb.size
        obtain ⟨j0, hj0⟩ : ∃ x, p.start.length = x := ⟨_, rfl⟩
        obtain ⟨j1, hj1⟩ : ∃ x, p.message.length = x := ⟨_, rfl⟩
        obtain ⟨j2, hj2⟩ : ∃ x, p.tick.length = x := ⟨_, rfl⟩
        obtain ⟨j3, hj3⟩ : ∃ x, p.input.length = x := ⟨_, rfl⟩
        rw [hj0] at HA0; rw [hj1] at HA1; rw [hj2] at HA2; rw [hj3] at HA3
        rw [hj0, hj1, hj2, hj3]
        clear hb hown hv0 hv1 hv2 hv3 hin2 hil2 hli2 hF hG hini hL hj0 hj1 hj2 hj3 d0 d1 d2 d3 d4 e0 e1 e2 e3 e4 f0 f1 f2 f3 f4 hpn
        go_upto_region 12 with fail
        obtain ⟨w12, hw12⟩ : ∃ x, w11.alloc (.cells #[.slice Ai L ci, .slice X0 j0 t0, .slice X1 j1 t1, .slice X2 j2 t2, .slice X3 j3 t3] 35) = x := ⟨_, rfl⟩
        obtain ⟨na, hna⟩ : ∃ x, w11.heap.size = x := ⟨_, rfl⟩
        have HXA := Lib.hid (show w12.heap[na]? = some (.cells #[.slice Ai L ci, .slice X0 j0 t0, .slice X1 j1 t1, .slice X2 j2 t2, .slice X3 j3 t3] 35 (0, 0)) by rw [← hw12, ← hna]; exact new_blk w11 _)
        have HB12 : Hid (Below w11.heap.size w11 w12) := by rw [← hw12]; exact (Below.refl _ _).alloc (Nat.le_refl _) _
        have HBR : Hid (Below wr.heap.size wr w12) := HB11.out.trans (HB12.out.mono hz11)
        obtain ⟨e0, e1, e2, e3, e4, _, _, _, _, _, hqn2⟩ := box5 (below_blk HBR.out HX.out)
        have HBW2 : Hid (Below w.heap.size w w12) := HBW.out.trans (HBR.out.mono HBW.out.size)
        simp only [hw12, hna]
        clear hw12
        go_wp2_with fail
        refine (HR2.out _ w12 (HSY.out.below HBW2.out) A9 B0 B1 B2 B3 5 n0 n1 n2 n3 c9 k0 k1 k2 k3 (HPB.out.still (S' := fun _ => True) fun k _ h2 => ⟨trivial, HBR.out.block k h2⟩)).mono ?_
        rintro e w13 ⟨hb, Bi, Y0, Y1, Y2, Y3, di, u0, u1, u2, u3, rfl, hown, hv0, hv1, hv2, hv3⟩
        rw [HIN2.out] at hown ⊢
        rw [HL.out] at hown ⊢
        rw [HGG.out] at hv0 hv1 hv2 hv3
        obtain ⟨nn0, nn1, nn2, nn3⟩ := HNN.out
        have hs0 : p.rnm.start.length = n0 := nn0
        have hs1 : p.rnm.message.length = n1 := nn1
        have hs2 : p.rnm.tick.length = n2 := nn2
        have hs3 : p.rnm.input.length = n3 := nn3
        rw [hs0] at hv0; rw [hs1] at hv1; rw [hs2] at hv2; rw [hs3] at hv3
        rw [hs0, hs1, hs2, hs3]
        have HOB := Lib.hid (ZsAt.own hown (by have := HILL.out; omega))
        have HE0 := Lib.hid hv0
        have HE1 := Lib.hid hv1
        have HE2 := Lib.hid hv2
        have HE3 := Lib.hid hv3
        have HB13 := Lib.hid hb
        clear hb hown hv0 hv1 hv2 hv3 nn0 nn1 nn2 nn3 hs0 hs1 hs2 hs3 e0 e1 e2 e3 e4
        go_upto_region 13 with fail
        obtain ⟨w14, hw14⟩ : ∃ x, w13.alloc (.cells #[.slice Bi L di, .slice Y0 n0 u0, .slice Y1 n1 u1, .slice Y2 n2 u2, .slice Y3 n3 u3] 35) = x := ⟨_, rfl⟩
        obtain ⟨nb, hnb⟩ : ∃ x, w13.heap.size = x := ⟨_, rfl⟩
        have HXB := Lib.hid (show w14.heap[nb]? = some (.cells #[.slice Bi L di, .slice Y0 n0 u0, .slice Y1 n1 u1, .slice Y2 n2 u2, .slice Y3 n3 u3] 35 (0, 0)) by rw [← hw14, ← hnb]; exact new_blk w13 _)
        have HB14 : Hid (Below w13.heap.size w13 w14) := by rw [← hw14]; exact (Below.refl _ _).alloc (Nat.le_refl _) _
        have HBQ : Hid (Below w12.heap.size w12 w14) := HB13.out.trans (HB14.out.mono HB13.out.size)
        have hxa := below_blk HBQ.out HXA.out
        simp only [hw14, hnb]
        clear hw14
        obtain ⟨d0, d1, d2, d3, d4, _, _, _, _, _, _⟩ := box5 hxa
        obtain ⟨e0, e1, e2, e3, e4, _, _, _, _, _, _⟩ := box5 HXB.out
        have hs0 : Below w14.heap.size w14 w14.drew ∧ w14.drew.cell? ⟨na, 0, none⟩ = some (.slice Ai L ci) ∧ w14.drew.cell? ⟨na, 1, none⟩ = some (.slice X0 j0 t0) ∧ w14.drew.cell? ⟨na, 2, none⟩ = some (.slice X1 j1 t1) ∧ w14.drew.cell? ⟨na, 3, none⟩ = some (.slice X2 j2 t2) ∧ w14.drew.cell? ⟨na, 4, none⟩ = some (.slice X3 j3 t3) ∧ w14.drew.cell? ⟨nb, 0, none⟩ = some (.slice Bi L di) ∧ w14.drew.cell? ⟨nb, 1, none⟩ = some (.slice Y0 n0 u0) ∧ w14.drew.cell? ⟨nb, 2, none⟩ = some (.slice Y1 n1 u1) ∧ w14.drew.cell? ⟨nb, 3, none⟩ = some (.slice Y2 n2 u2) ∧ w14.drew.cell? ⟨nb, 4, none⟩ = some (.slice Y3 n3 u3) := ⟨(Below.refl _ _).drew, d0, d1, d2, d3, d4, e0, e1, e2, e3, e4⟩
        have HSB : Hid (∀ W w', (Below w14.heap.size w14 W ∧ W.cell? ⟨na, 0, none⟩ = some (.slice Ai L ci) ∧ W.cell? ⟨na, 1, none⟩ = some (.slice X0 j0 t0) ∧ W.cell? ⟨na, 2, none⟩ = some (.slice X1 j1 t1) ∧ W.cell? ⟨na, 3, none⟩ = some (.slice X2 j2 t2) ∧ W.cell? ⟨na, 4, none⟩ = some (.slice X3 j3 t3) ∧ W.cell? ⟨nb, 0, none⟩ = some (.slice Bi L di) ∧ W.cell? ⟨nb, 1, none⟩ = some (.slice Y0 n0 u0) ∧ W.cell? ⟨nb, 2, none⟩ = some (.slice Y1 n1 u1) ∧ W.cell? ⟨nb, 3, none⟩ = some (.slice Y2 n2 u2) ∧ W.cell? ⟨nb, 4, none⟩ = some (.slice Y3 n3 u3)) → Below W.heap.size W w' → (Below w14.heap.size w14 w' ∧ w'.cell? ⟨na, 0, none⟩ = some (.slice Ai L ci) ∧ w'.cell? ⟨na, 1, none⟩ = some (.slice X0 j0 t0) ∧ w'.cell? ⟨na, 2, none⟩ = some (.slice X1 j1 t1) ∧ w'.cell? ⟨na, 3, none⟩ = some (.slice X2 j2 t2) ∧ w'.cell? ⟨na, 4, none⟩ = some (.slice X3 j3 t3) ∧ w'.cell? ⟨nb, 0, none⟩ = some (.slice Bi L di) ∧ w'.cell? ⟨nb, 1, none⟩ = some (.slice Y0 n0 u0) ∧ w'.cell? ⟨nb, 2, none⟩ = some (.slice Y1 n1 u1) ∧ w'.cell? ⟨nb, 3, none⟩ = some (.slice Y2 n2 u2) ∧ w'.cell? ⟨nb, 4, none⟩ = some (.slice Y3 n3 u3))) := fun W w' hs hb => by
          obtain ⟨b0, a0, a1, a2, a3, a4, c0, c1, c2, c3, c4⟩ := hs
          have hl : ∀ (p : Addr) u, W.cell? p = some u → w'.cell? p = some u := fun p u hu => (hb.cell (p := p) (World.block_lt_of_cell? W _ hu)).trans hu
          exact ⟨b0.trans (hb.mono b0.size), hl _ _ a0, hl _ _ a1, hl _ _ a2, hl _ _ a3, hl _ _ a4, hl _ _ c0, hl _ _ c1, hl _ _ c2, hl _ _ c3, hl _ _ c4⟩
        have HSI : Hid (∀ W, (Below w14.heap.size w14 W ∧ W.cell? ⟨na, 0, none⟩ = some (.slice Ai L ci) ∧ W.cell? ⟨na, 1, none⟩ = some (.slice X0 j0 t0) ∧ W.cell? ⟨na, 2, none⟩ = some (.slice X1 j1 t1) ∧ W.cell? ⟨na, 3, none⟩ = some (.slice X2 j2 t2) ∧ W.cell? ⟨na, 4, none⟩ = some (.slice X3 j3 t3) ∧ W.cell? ⟨nb, 0, none⟩ = some (.slice Bi L di) ∧ W.cell? ⟨nb, 1, none⟩ = some (.slice Y0 n0 u0) ∧ W.cell? ⟨nb, 2, none⟩ = some (.slice Y1 n1 u1) ∧ W.cell? ⟨nb, 3, none⟩ = some (.slice Y2 n2 u2) ∧ W.cell? ⟨nb, 4, none⟩ = some (.slice Y3 n3 u3)) → Calls Tryd.prog 13 #[.slice Ai L ci, .slice Bi L di] W fun e' w' => e' = .returned (.bool true) ∧ (Below w14.heap.size w14 w' ∧ w'.cell? ⟨na, 0, none⟩ = some (.slice Ai L ci) ∧ w'.cell? ⟨na, 1, none⟩ = some (.slice X0 j0 t0) ∧ w'.cell? ⟨na, 2, none⟩ = some (.slice X1 j1 t1) ∧ w'.cell? ⟨na, 3, none⟩ = some (.slice X2 j2 t2) ∧ w'.cell? ⟨na, 4, none⟩ = some (.slice X3 j3 t3) ∧ w'.cell? ⟨nb, 0, none⟩ = some (.slice Bi L di) ∧ w'.cell? ⟨nb, 1, none⟩ = some (.slice Y0 n0 u0) ∧ w'.cell? ⟨nb, 2, none⟩ = some (.slice Y1 n1 u1) ∧ w'.cell? ⟨nb, 3, none⟩ = some (.slice Y2 n2 u2) ∧ w'.cell? ⟨nb, 4, none⟩ = some (.slice Y3 n3 u3))) := fun W hs => by
          have h := sameInts_any ini ini Ai Bi L L ci di W (((HOA.out.below HB12.out).below HBQ.out).below hs.1) ((HOB.out.below HB14.out).below hs.1)
          rw [decide_eq_true rfl] at h
          refine h.mono ?_
          rintro e' w' ⟨he, hb⟩
          exact ⟨he, HSB.out _ _ hs hb⟩
        have HC0 : Hid (∀ W, (Below w14.heap.size w14 W ∧ W.cell? ⟨na, 0, none⟩ = some (.slice Ai L ci) ∧ W.cell? ⟨na, 1, none⟩ = some (.slice X0 j0 t0) ∧ W.cell? ⟨na, 2, none⟩ = some (.slice X1 j1 t1) ∧ W.cell? ⟨na, 3, none⟩ = some (.slice X2 j2 t2) ∧ W.cell? ⟨na, 4, none⟩ = some (.slice X3 j3 t3) ∧ W.cell? ⟨nb, 0, none⟩ = some (.slice Bi L di) ∧ W.cell? ⟨nb, 1, none⟩ = some (.slice Y0 n0 u0) ∧ W.cell? ⟨nb, 2, none⟩ = some (.slice Y1 n1 u1) ∧ W.cell? ⟨nb, 3, none⟩ = some (.slice Y2 n2 u2) ∧ W.cell? ⟨nb, 4, none⟩ = some (.slice Y3 n3 u3)) → Calls Tryd.prog 12 #[.slice X0 j0 t0] W fun e' w' => (∃ B k, e' = .returned (.slice B n0 k) ∧ StSlice (fun _ => True) w' (St.rnmL (St.resL F p.start)) (.slice B n0 k)) ∧ (Below w14.heap.size w14 w' ∧ w'.cell? ⟨na, 0, none⟩ = some (.slice Ai L ci) ∧ w'.cell? ⟨na, 1, none⟩ = some (.slice X0 j0 t0) ∧ w'.cell? ⟨na, 2, none⟩ = some (.slice X1 j1 t1) ∧ w'.cell? ⟨na, 3, none⟩ = some (.slice X2 j2 t2) ∧ w'.cell? ⟨na, 4, none⟩ = some (.slice X3 j3 t3) ∧ w'.cell? ⟨nb, 0, none⟩ = some (.slice Bi L di) ∧ w'.cell? ⟨nb, 1, none⟩ = some (.slice Y0 n0 u0) ∧ w'.cell? ⟨nb, 2, none⟩ = some (.slice Y1 n1 u1) ∧ w'.cell? ⟨nb, 3, none⟩ = some (.slice Y2 n2 u2) ∧ w'.cell? ⟨nb, 4, none⟩ = some (.slice Y3 n3 u3))) := fun W hs => by
          have hbg := HBG.out.1
          refine (rename_all 100000 (St.resL F p.start) (by rw [sresL_big]; exact hbg) (Nat.le_refl _) (HLI2.out p.start (by simp)).s3 (fun _ => True) W X0 j0 t0 (StSlice.still HA0.out fun k _ h2 => ⟨trivial, ((hs.1.block k (by have := HB12.out.size; have := HBQ.out.size; omega)).trans (HBQ.out.block k (by have := HB12.out.size; omega))).trans (HB12.out.block k h2)⟩)).mono ?_
          rintro e' w' ⟨v, rfl, ⟨B, k, rfl, hl, hr⟩, hb⟩
          have hln : (St.rnmL (St.resL F p.start)).length = n0 := by rw [srnmL_len, sresL_len, ← HNN.out.1, srnmL_len]
          refine ⟨⟨B, k, by rw [hln], ?_⟩, HSB.out _ _ hs hb⟩
          have h : StSlice (fun _ => True) w' (St.rnmL (St.resL F p.start)) (.slice B (St.rnmL (St.resL F p.start)).length k) := StSlice.still (S := From W.heap.size) ⟨B, k, rfl, hl, hr⟩ fun k _ _ => ⟨trivial, rfl⟩
          rwa [hln] at h
        have HM0 : Hid (∀ W B k, StSlice (fun _ => True) W (St.rnmL (St.resL F p.start)) (.slice B n0 k) → (Below w14.heap.size w14 W ∧ W.cell? ⟨na, 0, none⟩ = some (.slice Ai L ci) ∧ W.cell? ⟨na, 1, none⟩ = some (.slice X0 j0 t0) ∧ W.cell? ⟨na, 2, none⟩ = some (.slice X1 j1 t1) ∧ W.cell? ⟨na, 3, none⟩ = some (.slice X2 j2 t2) ∧ W.cell? ⟨na, 4, none⟩ = some (.slice X3 j3 t3) ∧ W.cell? ⟨nb, 0, none⟩ = some (.slice Bi L di) ∧ W.cell? ⟨nb, 1, none⟩ = some (.slice Y0 n0 u0) ∧ W.cell? ⟨nb, 2, none⟩ = some (.slice Y1 n1 u1) ∧ W.cell? ⟨nb, 3, none⟩ = some (.slice Y2 n2 u2) ∧ W.cell? ⟨nb, 4, none⟩ = some (.slice Y3 n3 u3)) → Calls Tryd.prog 14 #[.slice B n0 k, .slice Y0 n0 u0] W fun e' w' => e' = .returned (.bool true) ∧ (Below w14.heap.size w14 w' ∧ w'.cell? ⟨na, 0, none⟩ = some (.slice Ai L ci) ∧ w'.cell? ⟨na, 1, none⟩ = some (.slice X0 j0 t0) ∧ w'.cell? ⟨na, 2, none⟩ = some (.slice X1 j1 t1) ∧ w'.cell? ⟨na, 3, none⟩ = some (.slice X2 j2 t2) ∧ w'.cell? ⟨na, 4, none⟩ = some (.slice X3 j3 t3) ∧ w'.cell? ⟨nb, 0, none⟩ = some (.slice Bi L di) ∧ w'.cell? ⟨nb, 1, none⟩ = some (.slice Y0 n0 u0) ∧ w'.cell? ⟨nb, 2, none⟩ = some (.slice Y1 n1 u1) ∧ w'.cell? ⟨nb, 3, none⟩ = some (.slice Y2 n2 u2) ∧ w'.cell? ⟨nb, 4, none⟩ = some (.slice Y3 n3 u3))) := fun W B k hq hs => by
          have hbg := HBG.out.1
          have hy : StSlice (fun _ => True) W (St.rnmL (St.resL F p.start)) (.slice Y0 n0 u0) := by
            rw [← (HLI2.out p.start (by simp)).e]
            exact StSlice.still HE0.out fun k _ h2 => ⟨trivial, (hs.1.block k (by have := HB14.out.size; omega)).trans (HB14.out.block k h2)⟩
          refine (sameStmts_all 100000 _ (by rw [rnmL_big, sresL_big]; exact hbg) (Nat.le_refl _) (fun _ => True) W _ _ _ _ _ _ hq hy).mono ?_
          rintro e' w' ⟨he, hb⟩
          exact ⟨he, HSB.out _ _ hs hb⟩
        have HC1 : Hid (∀ W, (Below w14.heap.size w14 W ∧ W.cell? ⟨na, 0, none⟩ = some (.slice Ai L ci) ∧ W.cell? ⟨na, 1, none⟩ = some (.slice X0 j0 t0) ∧ W.cell? ⟨na, 2, none⟩ = some (.slice X1 j1 t1) ∧ W.cell? ⟨na, 3, none⟩ = some (.slice X2 j2 t2) ∧ W.cell? ⟨na, 4, none⟩ = some (.slice X3 j3 t3) ∧ W.cell? ⟨nb, 0, none⟩ = some (.slice Bi L di) ∧ W.cell? ⟨nb, 1, none⟩ = some (.slice Y0 n0 u0) ∧ W.cell? ⟨nb, 2, none⟩ = some (.slice Y1 n1 u1) ∧ W.cell? ⟨nb, 3, none⟩ = some (.slice Y2 n2 u2) ∧ W.cell? ⟨nb, 4, none⟩ = some (.slice Y3 n3 u3)) → Calls Tryd.prog 12 #[.slice X1 j1 t1] W fun e' w' => (∃ B k, e' = .returned (.slice B n1 k) ∧ StSlice (fun _ => True) w' (St.rnmL (St.resL F p.message)) (.slice B n1 k)) ∧ (Below w14.heap.size w14 w' ∧ w'.cell? ⟨na, 0, none⟩ = some (.slice Ai L ci) ∧ w'.cell? ⟨na, 1, none⟩ = some (.slice X0 j0 t0) ∧ w'.cell? ⟨na, 2, none⟩ = some (.slice X1 j1 t1) ∧ w'.cell? ⟨na, 3, none⟩ = some (.slice X2 j2 t2) ∧ w'.cell? ⟨na, 4, none⟩ = some (.slice X3 j3 t3) ∧ w'.cell? ⟨nb, 0, none⟩ = some (.slice Bi L di) ∧ w'.cell? ⟨nb, 1, none⟩ = some (.slice Y0 n0 u0) ∧ w'.cell? ⟨nb, 2, none⟩ = some (.slice Y1 n1 u1) ∧ w'.cell? ⟨nb, 3, none⟩ = some (.slice Y2 n2 u2) ∧ w'.cell? ⟨nb, 4, none⟩ = some (.slice Y3 n3 u3))) := fun W hs => by
          have hbg := HBG.out.2.1
          refine (rename_all 100000 (St.resL F p.message) (by rw [sresL_big]; exact hbg) (Nat.le_refl _) (HLI2.out p.message (by simp)).s3 (fun _ => True) W X1 j1 t1 (StSlice.still HA1.out fun k _ h2 => ⟨trivial, ((hs.1.block k (by have := HB12.out.size; have := HBQ.out.size; omega)).trans (HBQ.out.block k (by have := HB12.out.size; omega))).trans (HB12.out.block k h2)⟩)).mono ?_
          rintro e' w' ⟨v, rfl, ⟨B, k, rfl, hl, hr⟩, hb⟩
          have hln : (St.rnmL (St.resL F p.message)).length = n1 := by rw [srnmL_len, sresL_len, ← HNN.out.2.1, srnmL_len]
          refine ⟨⟨B, k, by rw [hln], ?_⟩, HSB.out _ _ hs hb⟩
          have h : StSlice (fun _ => True) w' (St.rnmL (St.resL F p.message)) (.slice B (St.rnmL (St.resL F p.message)).length k) := StSlice.still (S := From W.heap.size) ⟨B, k, rfl, hl, hr⟩ fun k _ _ => ⟨trivial, rfl⟩
          rwa [hln] at h
        have HM1 : Hid (∀ W B k, StSlice (fun _ => True) W (St.rnmL (St.resL F p.message)) (.slice B n1 k) → (Below w14.heap.size w14 W ∧ W.cell? ⟨na, 0, none⟩ = some (.slice Ai L ci) ∧ W.cell? ⟨na, 1, none⟩ = some (.slice X0 j0 t0) ∧ W.cell? ⟨na, 2, none⟩ = some (.slice X1 j1 t1) ∧ W.cell? ⟨na, 3, none⟩ = some (.slice X2 j2 t2) ∧ W.cell? ⟨na, 4, none⟩ = some (.slice X3 j3 t3) ∧ W.cell? ⟨nb, 0, none⟩ = some (.slice Bi L di) ∧ W.cell? ⟨nb, 1, none⟩ = some (.slice Y0 n0 u0) ∧ W.cell? ⟨nb, 2, none⟩ = some (.slice Y1 n1 u1) ∧ W.cell? ⟨nb, 3, none⟩ = some (.slice Y2 n2 u2) ∧ W.cell? ⟨nb, 4, none⟩ = some (.slice Y3 n3 u3)) → Calls Tryd.prog 14 #[.slice B n1 k, .slice Y1 n1 u1] W fun e' w' => e' = .returned (.bool true) ∧ (Below w14.heap.size w14 w' ∧ w'.cell? ⟨na, 0, none⟩ = some (.slice Ai L ci) ∧ w'.cell? ⟨na, 1, none⟩ = some (.slice X0 j0 t0) ∧ w'.cell? ⟨na, 2, none⟩ = some (.slice X1 j1 t1) ∧ w'.cell? ⟨na, 3, none⟩ = some (.slice X2 j2 t2) ∧ w'.cell? ⟨na, 4, none⟩ = some (.slice X3 j3 t3) ∧ w'.cell? ⟨nb, 0, none⟩ = some (.slice Bi L di) ∧ w'.cell? ⟨nb, 1, none⟩ = some (.slice Y0 n0 u0) ∧ w'.cell? ⟨nb, 2, none⟩ = some (.slice Y1 n1 u1) ∧ w'.cell? ⟨nb, 3, none⟩ = some (.slice Y2 n2 u2) ∧ w'.cell? ⟨nb, 4, none⟩ = some (.slice Y3 n3 u3))) := fun W B k hq hs => by
          have hbg := HBG.out.2.1
          have hy : StSlice (fun _ => True) W (St.rnmL (St.resL F p.message)) (.slice Y1 n1 u1) := by
            rw [← (HLI2.out p.message (by simp)).e]
            exact StSlice.still HE1.out fun k _ h2 => ⟨trivial, (hs.1.block k (by have := HB14.out.size; omega)).trans (HB14.out.block k h2)⟩
          refine (sameStmts_all 100000 _ (by rw [rnmL_big, sresL_big]; exact hbg) (Nat.le_refl _) (fun _ => True) W _ _ _ _ _ _ hq hy).mono ?_
          rintro e' w' ⟨he, hb⟩
          exact ⟨he, HSB.out _ _ hs hb⟩
        have HC2 : Hid (∀ W, (Below w14.heap.size w14 W ∧ W.cell? ⟨na, 0, none⟩ = some (.slice Ai L ci) ∧ W.cell? ⟨na, 1, none⟩ = some (.slice X0 j0 t0) ∧ W.cell? ⟨na, 2, none⟩ = some (.slice X1 j1 t1) ∧ W.cell? ⟨na, 3, none⟩ = some (.slice X2 j2 t2) ∧ W.cell? ⟨na, 4, none⟩ = some (.slice X3 j3 t3) ∧ W.cell? ⟨nb, 0, none⟩ = some (.slice Bi L di) ∧ W.cell? ⟨nb, 1, none⟩ = some (.slice Y0 n0 u0) ∧ W.cell? ⟨nb, 2, none⟩ = some (.slice Y1 n1 u1) ∧ W.cell? ⟨nb, 3, none⟩ = some (.slice Y2 n2 u2) ∧ W.cell? ⟨nb, 4, none⟩ = some (.slice Y3 n3 u3)) → Calls Tryd.prog 12 #[.slice X2 j2 t2] W fun e' w' => (∃ B k, e' = .returned (.slice B n2 k) ∧ StSlice (fun _ => True) w' (St.rnmL (St.resL F p.tick)) (.slice B n2 k)) ∧ (Below w14.heap.size w14 w' ∧ w'.cell? ⟨na, 0, none⟩ = some (.slice Ai L ci) ∧ w'.cell? ⟨na, 1, none⟩ = some (.slice X0 j0 t0) ∧ w'.cell? ⟨na, 2, none⟩ = some (.slice X1 j1 t1) ∧ w'.cell? ⟨na, 3, none⟩ = some (.slice X2 j2 t2) ∧ w'.cell? ⟨na, 4, none⟩ = some (.slice X3 j3 t3) ∧ w'.cell? ⟨nb, 0, none⟩ = some (.slice Bi L di) ∧ w'.cell? ⟨nb, 1, none⟩ = some (.slice Y0 n0 u0) ∧ w'.cell? ⟨nb, 2, none⟩ = some (.slice Y1 n1 u1) ∧ w'.cell? ⟨nb, 3, none⟩ = some (.slice Y2 n2 u2) ∧ w'.cell? ⟨nb, 4, none⟩ = some (.slice Y3 n3 u3))) := fun W hs => by
          have hbg := HBG.out.2.2.1
          refine (rename_all 100000 (St.resL F p.tick) (by rw [sresL_big]; exact hbg) (Nat.le_refl _) (HLI2.out p.tick (by simp)).s3 (fun _ => True) W X2 j2 t2 (StSlice.still HA2.out fun k _ h2 => ⟨trivial, ((hs.1.block k (by have := HB12.out.size; have := HBQ.out.size; omega)).trans (HBQ.out.block k (by have := HB12.out.size; omega))).trans (HB12.out.block k h2)⟩)).mono ?_
          rintro e' w' ⟨v, rfl, ⟨B, k, rfl, hl, hr⟩, hb⟩
          have hln : (St.rnmL (St.resL F p.tick)).length = n2 := by rw [srnmL_len, sresL_len, ← HNN.out.2.2.1, srnmL_len]
          refine ⟨⟨B, k, by rw [hln], ?_⟩, HSB.out _ _ hs hb⟩
          have h : StSlice (fun _ => True) w' (St.rnmL (St.resL F p.tick)) (.slice B (St.rnmL (St.resL F p.tick)).length k) := StSlice.still (S := From W.heap.size) ⟨B, k, rfl, hl, hr⟩ fun k _ _ => ⟨trivial, rfl⟩
          rwa [hln] at h
        have HM2 : Hid (∀ W B k, StSlice (fun _ => True) W (St.rnmL (St.resL F p.tick)) (.slice B n2 k) → (Below w14.heap.size w14 W ∧ W.cell? ⟨na, 0, none⟩ = some (.slice Ai L ci) ∧ W.cell? ⟨na, 1, none⟩ = some (.slice X0 j0 t0) ∧ W.cell? ⟨na, 2, none⟩ = some (.slice X1 j1 t1) ∧ W.cell? ⟨na, 3, none⟩ = some (.slice X2 j2 t2) ∧ W.cell? ⟨na, 4, none⟩ = some (.slice X3 j3 t3) ∧ W.cell? ⟨nb, 0, none⟩ = some (.slice Bi L di) ∧ W.cell? ⟨nb, 1, none⟩ = some (.slice Y0 n0 u0) ∧ W.cell? ⟨nb, 2, none⟩ = some (.slice Y1 n1 u1) ∧ W.cell? ⟨nb, 3, none⟩ = some (.slice Y2 n2 u2) ∧ W.cell? ⟨nb, 4, none⟩ = some (.slice Y3 n3 u3)) → Calls Tryd.prog 14 #[.slice B n2 k, .slice Y2 n2 u2] W fun e' w' => e' = .returned (.bool true) ∧ (Below w14.heap.size w14 w' ∧ w'.cell? ⟨na, 0, none⟩ = some (.slice Ai L ci) ∧ w'.cell? ⟨na, 1, none⟩ = some (.slice X0 j0 t0) ∧ w'.cell? ⟨na, 2, none⟩ = some (.slice X1 j1 t1) ∧ w'.cell? ⟨na, 3, none⟩ = some (.slice X2 j2 t2) ∧ w'.cell? ⟨na, 4, none⟩ = some (.slice X3 j3 t3) ∧ w'.cell? ⟨nb, 0, none⟩ = some (.slice Bi L di) ∧ w'.cell? ⟨nb, 1, none⟩ = some (.slice Y0 n0 u0) ∧ w'.cell? ⟨nb, 2, none⟩ = some (.slice Y1 n1 u1) ∧ w'.cell? ⟨nb, 3, none⟩ = some (.slice Y2 n2 u2) ∧ w'.cell? ⟨nb, 4, none⟩ = some (.slice Y3 n3 u3))) := fun W B k hq hs => by
          have hbg := HBG.out.2.2.1
          have hy : StSlice (fun _ => True) W (St.rnmL (St.resL F p.tick)) (.slice Y2 n2 u2) := by
            rw [← (HLI2.out p.tick (by simp)).e]
            exact StSlice.still HE2.out fun k _ h2 => ⟨trivial, (hs.1.block k (by have := HB14.out.size; omega)).trans (HB14.out.block k h2)⟩
          refine (sameStmts_all 100000 _ (by rw [rnmL_big, sresL_big]; exact hbg) (Nat.le_refl _) (fun _ => True) W _ _ _ _ _ _ hq hy).mono ?_
          rintro e' w' ⟨he, hb⟩
          exact ⟨he, HSB.out _ _ hs hb⟩
        have HC3 : Hid (∀ W, (Below w14.heap.size w14 W ∧ W.cell? ⟨na, 0, none⟩ = some (.slice Ai L ci) ∧ W.cell? ⟨na, 1, none⟩ = some (.slice X0 j0 t0) ∧ W.cell? ⟨na, 2, none⟩ = some (.slice X1 j1 t1) ∧ W.cell? ⟨na, 3, none⟩ = some (.slice X2 j2 t2) ∧ W.cell? ⟨na, 4, none⟩ = some (.slice X3 j3 t3) ∧ W.cell? ⟨nb, 0, none⟩ = some (.slice Bi L di) ∧ W.cell? ⟨nb, 1, none⟩ = some (.slice Y0 n0 u0) ∧ W.cell? ⟨nb, 2, none⟩ = some (.slice Y1 n1 u1) ∧ W.cell? ⟨nb, 3, none⟩ = some (.slice Y2 n2 u2) ∧ W.cell? ⟨nb, 4, none⟩ = some (.slice Y3 n3 u3)) → Calls Tryd.prog 12 #[.slice X3 j3 t3] W fun e' w' => (∃ B k, e' = .returned (.slice B n3 k) ∧ StSlice (fun _ => True) w' (St.rnmL (St.resL F p.input)) (.slice B n3 k)) ∧ (Below w14.heap.size w14 w' ∧ w'.cell? ⟨na, 0, none⟩ = some (.slice Ai L ci) ∧ w'.cell? ⟨na, 1, none⟩ = some (.slice X0 j0 t0) ∧ w'.cell? ⟨na, 2, none⟩ = some (.slice X1 j1 t1) ∧ w'.cell? ⟨na, 3, none⟩ = some (.slice X2 j2 t2) ∧ w'.cell? ⟨na, 4, none⟩ = some (.slice X3 j3 t3) ∧ w'.cell? ⟨nb, 0, none⟩ = some (.slice Bi L di) ∧ w'.cell? ⟨nb, 1, none⟩ = some (.slice Y0 n0 u0) ∧ w'.cell? ⟨nb, 2, none⟩ = some (.slice Y1 n1 u1) ∧ w'.cell? ⟨nb, 3, none⟩ = some (.slice Y2 n2 u2) ∧ w'.cell? ⟨nb, 4, none⟩ = some (.slice Y3 n3 u3))) := fun W hs => by
          have hbg := HBG.out.2.2.2
          refine (rename_all 100000 (St.resL F p.input) (by rw [sresL_big]; exact hbg) (Nat.le_refl _) (HLI2.out p.input (by simp)).s3 (fun _ => True) W X3 j3 t3 (StSlice.still HA3.out fun k _ h2 => ⟨trivial, ((hs.1.block k (by have := HB12.out.size; have := HBQ.out.size; omega)).trans (HBQ.out.block k (by have := HB12.out.size; omega))).trans (HB12.out.block k h2)⟩)).mono ?_
          rintro e' w' ⟨v, rfl, ⟨B, k, rfl, hl, hr⟩, hb⟩
          have hln : (St.rnmL (St.resL F p.input)).length = n3 := by rw [srnmL_len, sresL_len, ← HNN.out.2.2.2, srnmL_len]
          refine ⟨⟨B, k, by rw [hln], ?_⟩, HSB.out _ _ hs hb⟩
          have h : StSlice (fun _ => True) w' (St.rnmL (St.resL F p.input)) (.slice B (St.rnmL (St.resL F p.input)).length k) := StSlice.still (S := From W.heap.size) ⟨B, k, rfl, hl, hr⟩ fun k _ _ => ⟨trivial, rfl⟩
          rwa [hln] at h
        have HM3 : Hid (∀ W B k, StSlice (fun _ => True) W (St.rnmL (St.resL F p.input)) (.slice B n3 k) → (Below w14.heap.size w14 W ∧ W.cell? ⟨na, 0, none⟩ = some (.slice Ai L ci) ∧ W.cell? ⟨na, 1, none⟩ = some (.slice X0 j0 t0) ∧ W.cell? ⟨na, 2, none⟩ = some (.slice X1 j1 t1) ∧ W.cell? ⟨na, 3, none⟩ = some (.slice X2 j2 t2) ∧ W.cell? ⟨na, 4, none⟩ = some (.slice X3 j3 t3) ∧ W.cell? ⟨nb, 0, none⟩ = some (.slice Bi L di) ∧ W.cell? ⟨nb, 1, none⟩ = some (.slice Y0 n0 u0) ∧ W.cell? ⟨nb, 2, none⟩ = some (.slice Y1 n1 u1) ∧ W.cell? ⟨nb, 3, none⟩ = some (.slice Y2 n2 u2) ∧ W.cell? ⟨nb, 4, none⟩ = some (.slice Y3 n3 u3)) → Calls Tryd.prog 14 #[.slice B n3 k, .slice Y3 n3 u3] W fun e' w' => e' = .returned (.bool true) ∧ (Below w14.heap.size w14 w' ∧ w'.cell? ⟨na, 0, none⟩ = some (.slice Ai L ci) ∧ w'.cell? ⟨na, 1, none⟩ = some (.slice X0 j0 t0) ∧ w'.cell? ⟨na, 2, none⟩ = some (.slice X1 j1 t1) ∧ w'.cell? ⟨na, 3, none⟩ = some (.slice X2 j2 t2) ∧ w'.cell? ⟨na, 4, none⟩ = some (.slice X3 j3 t3) ∧ w'.cell? ⟨nb, 0, none⟩ = some (.slice Bi L di) ∧ w'.cell? ⟨nb, 1, none⟩ = some (.slice Y0 n0 u0) ∧ w'.cell? ⟨nb, 2, none⟩ = some (.slice Y1 n1 u1) ∧ w'.cell? ⟨nb, 3, none⟩ = some (.slice Y2 n2 u2) ∧ w'.cell? ⟨nb, 4, none⟩ = some (.slice Y3 n3 u3))) := fun W B k hq hs => by
          have hbg := HBG.out.2.2.2
          have hy : StSlice (fun _ => True) W (St.rnmL (St.resL F p.input)) (.slice Y3 n3 u3) := by
            rw [← (HLI2.out p.input (by simp)).e]
            exact StSlice.still HE3.out fun k _ h2 => ⟨trivial, (hs.1.block k (by have := HB14.out.size; omega)).trans (HB14.out.block k h2)⟩
          refine (sameStmts_all 100000 _ (by rw [rnmL_big, sresL_big]; exact hbg) (Nat.le_refl _) (fun _ => True) W _ _ _ _ _ _ hq hy).mono ?_
          rintro e' w' ⟨he, hb⟩
          exact ⟨he, HSB.out _ _ hs hb⟩

        clear HSB hxa d0 d1 d2 d3 d4 e0 e1 e2 e3 e4 HPA HPB
        go_region_held3 (fun w' => Below w14.heap.size w14 w' ∧ w'.cell? ⟨na, 0, none⟩ = some (.slice Ai L ci) ∧ w'.cell? ⟨na, 1, none⟩ = some (.slice X0 j0 t0) ∧ w'.cell? ⟨na, 2, none⟩ = some (.slice X1 j1 t1) ∧ w'.cell? ⟨na, 3, none⟩ = some (.slice X2 j2 t2) ∧ w'.cell? ⟨na, 4, none⟩ = some (.slice X3 j3 t3) ∧ w'.cell? ⟨nb, 0, none⟩ = some (.slice Bi L di) ∧ w'.cell? ⟨nb, 1, none⟩ = some (.slice Y0 n0 u0) ∧ w'.cell? ⟨nb, 2, none⟩ = some (.slice Y1 n1 u1) ∧ w'.cell? ⟨nb, 3, none⟩ = some (.slice Y2 n2 u2) ∧ w'.cell? ⟨nb, 4, none⟩ = some (.slice Y3 n3 u3)) (assumption) (first | (go_at_call 13; ((with_reducible refine (HSI.out _ ?_).mono ?_)); assumption; rintro e' w20 ⟨rfl, hs1⟩) | (go_at_call 12; ((with_reducible refine (HC1.out _ ?_).mono ?_)); assumption; rintro e' w22 ⟨⟨D1, m1, rfl, hq1⟩, hsc1⟩) | (go_at_call 14; ((with_reducible refine (HM1.out _ _ _ hq1 ?_).mono ?_)); assumption; rintro e' w27 ⟨rfl, hsm1⟩) | (go_at_call 12; ((with_reducible refine (HC0.out _ ?_).mono ?_)); assumption; rintro e' w21 ⟨⟨D0, m0, rfl, hq0⟩, hsc0⟩) | (go_at_call 14; ((with_reducible refine (HM0.out _ _ _ hq0 ?_).mono ?_)); assumption; rintro e' w26 ⟨rfl, hsm0⟩) | (go_at_call 12; ((with_reducible refine (HC2.out _ ?_).mono ?_)); assumption; rintro e' w23 ⟨⟨D2, m2, rfl, hq2⟩, hsc2⟩) | (go_at_call 14; ((with_reducible refine (HM2.out _ _ _ hq2 ?_).mono ?_)); assumption; rintro e' w28 ⟨rfl, hsm2⟩) | (go_at_call 12; ((with_reducible refine (HC3.out _ ?_).mono ?_)); assumption; rintro e' w24 ⟨⟨D3, m3, rfl, hq3⟩, hsc3⟩) | (go_at_call 14; ((with_reducible refine (HM3.out _ _ _ hq3 ?_).mono ?_)); assumption; rintro e' w29 ⟨rfl, hsm3⟩) )
        go_wp2_with fail
        go_ret
        exact ⟨rfl, HBW2.out.trans ((HBQ.out.trans (hsm3.1.mono HBQ.out.size)).mono HBW2.out.size)⟩
      | succ g =>
        have hlt : k < 5 := by omega
        have hlt' : (k : Int) < 5 := by omega
        have HG := Lib.hid hkg
        clear hkg
        obtain ⟨vk, hvk⟩ : ∃ x, p.vars[k]? = some x := ⟨_, List.getElem?_eq_getElem (by have := HV5.out; omega)⟩
        have HVK := Lib.hid hvk
        obtain ⟨hne, hnl⟩ := HVN.out vk (List.mem_of_getElem? hvk)
        obtain ⟨hx5, hcq, bb, o, rfl, _, hbb, g0, g1, g2⟩ := VrSlice.get HP4.out.1 hvk
        clear hx5
        have hbq : bb ≠ nq := by have := hqm2.out; omega
        have hww : ∀ j u, W4.cell? ⟨bb, j, none⟩ = some u → wr.cell? ⟨bb, j, none⟩ = some u := fun j u hu => (World.cell?_of_block (w := W4) (a := ⟨bb, j, none⟩) ((HK.out.block bb (Nat.lt_of_lt_of_le hbb HB5.out.size) hbq).trans (HB5.out.block bb hbb))).trans hu
        have y0 := hww _ _ g0
        have y1 := hww _ _ g1
        have y2 := hww _ _ g2
        have hcat := renN_cat hne
        obtain ⟨nm, vsz, vin⟩ := vk
        simp only at y0 y1 y2 hcat hnl hne
        obtain ⟨X, hX⟩ : ∃ x, strB nm = x := ⟨_, rfl⟩
        obtain ⟨Y, hY⟩ : ∃ x, strB (renN nm) = x := ⟨_, rfl⟩
        have hsz : ¬ 9223372036854775807 < 2 + X.size := by rw [← hX, str_size]; omega
        rw [hX] at y0
        rw [hX, hY] at hcat
        have HY := Lib.hid hY
        clear hww g0 g1 g2 hvk hX hY hne hnl
        go_upto_region 9 with fail
        obtain ⟨w7, hw7⟩ : ∃ x, (wr.alloc (.cells #[.string Y, .int .i64 vsz, .int .i64 vin] 43)) = x := ⟨_, rfl⟩
        have H7 := Lib.hid (show w7.heap[wr.heap.size]? = some (.cells #[.string Y, .int .i64 vsz, .int .i64 vin] 43 (0, 0)) by rw [← hw7]; exact new_blk wr _)
        have HB7 : Hid (Below wr.heap.size wr w7) := by rw [← hw7]; exact (Below.refl _ _).alloc (Nat.le_refl _) _
        have hx7 := below_blk HB7.out HX.out
        simp only [hw7]
        clear hw7 d0 d1 d2 d3 d4 e0 e1 e2 e3 e4 f0 f1 f2 f3 f4 y0 y1 y2 hsz hcat
        have a0 : w7.cell? ⟨wr.heap.size, 0, none⟩ = some (.string Y) := by rw [Lib.cell_of_heap H7.out]; rfl
        have a1 : w7.cell? ⟨wr.heap.size, 1, none⟩ = some (.int .i64 vsz) := by rw [Lib.cell_of_heap H7.out]; rfl
        have a2 : w7.cell? ⟨wr.heap.size, 2, none⟩ = some (.int .i64 vin) := by rw [Lib.cell_of_heap H7.out]; rfl
        have e0 : w7.cell? ⟨nq, 0, none⟩ = some (.slice A9 k c9) := by rw [Lib.cell_of_heap hx7]; rfl
        have HX7 := Lib.hid hx7
        have hz7 := HB7.out.size
        have hqr : nq < wr.heap.size := hqn
        clear hx7
        go_wp2_with (at_builtin; refine wpList_append_own_at _ rfl _ _ 26 rfl wc.heap.size 43 i0 _ 3 32 Tryd.underlying26 HI.out HI0.out HI1.out HI2.out rfl (by decide) _ _ _ rfl ((own_bel HW.out HB7.out).alloc _) ⟨w7.heap.size, 0, none⟩ 1 1 [.string Y, .int .i64 vsz, .int .i64 vin] rfl rfl (ex_new _ _ _) (by simp [Value.oneCell']) (by unfold maxLen; omega) (by omega) (by rw [new_size]; omega) ?_)
        intro v9 w9 hown hgrow _ hob
        have hgrow : (w7.alloc (.cells #[.string Y, .int .i64 vsz, .int .i64 vin] 43)).grownBy w9 (Value.slice A9 k c9).ownBlock := hgrow
        obtain ⟨A8, c8, rfl⟩ := own_slice hown
        have hqw : some nq ≠ (Value.slice A9 k c9).ownBlock := own_no' HW.out hqz
        have hx9 : w9.heap[nq]? = some (.cells #[.slice A9 k c9, .slice B0 n0 k0, .slice B1 n1 k1, .slice B2 n2 k2, .slice B3 n3 k3] 29 (0, 0)) := (hgrow.block nq (by rw [new_size]; omega) hqw).trans ((alloc_blk w7 _ (by omega)).trans HX7.out)
        have HX9 := Lib.hid hx9
        have b0 : w9.cell? ⟨nq, 0, none⟩ = some (.slice A9 k c9) := by rw [Lib.cell_of_heap hx9]; rfl
        have b1 : w9.frozen? ⟨nq, 0, none⟩ = false := Lib.frozen_of_heap hx9 0
        have HOW := Lib.hid hown
        have HGR := Lib.hid hgrow
        clear hx9 hown hgrow hob hqw a0 a1 a2 e0
        go_wp2_with fail
        obtain ⟨w10, hw10⟩ : ∃ x, w9.setCell ⟨nq, 0, none⟩ (.slice A8 (k + 1) c8) = x := ⟨_, rfl⟩
        have HX10 : Hid (w10.heap[nq]? = some (.cells #[.slice A8 (k + 1) c8, .slice B0 n0 k0, .slice B1 n1 k1, .slice B2 n2 k2, .slice B3 n3 k3] 29 (0, 0))) := by
          have h' := blk_set HX9.out 0 (.slice A8 (k + 1) c8)
          rw [hw10] at h'
          simp only [List.setIfInBounds_toArray, List.set_cons_zero] at h'
          exact h'
        have HW10 : Hid (w10.ownsRow wc.heap.size 43 3 (.slice A8 (k + 1) c8) (k + 1) ((renV (p.vars.take (k + 1))).flatMap vrCells)) := by
          have h1 := own_blk (w' := w10) HOW.out (Nat.le_refl _) (fun g h1 h2 => by rw [← hw10]; exact Below.heap_setCell _ _ _ _ (by show g ≠ nq; omega))
          have ht : renV (p.vars.take (k + 1)) = renV (p.vars.take k) ++ [⟨renN nm, vsz, vin⟩] := by
            rw [List.take_add_one, HVK.out]
            simp [renV]
          rw [ht, List.flatMap_append]
          have hc : [(⟨renN nm, vsz, vin⟩ : Vr)].flatMap vrCells = [.string Y, .int .i64 vsz, .int .i64 vin] := by rw [← HY.out]; rfl
          rw [hc]
          exact h1
        have HK10 : Hid (Keep nq wc w10) := by
          rw [← hw10]
          refine ⟨HGR.out.os.trans (HB7.out.os.trans HK.out.os), HGR.out.tape.trans (HB7.out.tape.trans HK.out.tape), HGR.out.output.trans (HB7.out.output.trans HK.out.output), ?_, fun j hj hne => ?_⟩
          · have := HGR.out.size
            rw [new_size] at this
            rw [set_size]
            omega
          · exact (Below.heap_setCell _ _ _ _ (by show j ≠ nq; exact hne)).trans ((HGR.out.block j (by rw [new_size]; omega) (own_no' HW.out hj)).trans ((alloc_blk w7 _ (by omega)).trans ((HB7.out.block j (by omega)).trans (HK.out.block j hj hne))))
        simp only [hw10]
        clear hw10 b0 b1
        go_roundg g
        case rel => exact ⟨k + 1, _, by have := HG.out; omega, by go_num, HX10, HW10, HK10⟩
        case measure => omega

end Go.Proofs.YtgkioompcmgmdaaDoor
