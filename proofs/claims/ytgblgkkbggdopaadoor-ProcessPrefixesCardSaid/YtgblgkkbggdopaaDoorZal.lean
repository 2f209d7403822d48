/-
  Texts of a walk, laid together by a program of the prover's own (merge.py). No conditions beyond those that each text names.
-/
import Derived.Test.YtgblgkkbggdopaaDoorZak
import Derived.Test.YtgblgkkbggdopaaDoorZaj
import Derived.Test.YtgblgkkbggdopaaDoorZaf
import Derived.Deep.RegionHeld3
/-
  What expr of the document's answer returns: a copy of an expression with the places of its names, and whether each is used as what it is. Conditions: at most 100000 parts and declarations.
-/
namespace Go.Proofs.YtgblgkkbggdopaaDoor
open Go.RowKit

/-- The place that Lookup tells, of any name. -/
def plL (l : List Vr) : Pl := fun nm => some ((lookS nm l 0).1, (lookS nm l 0).2.1)
mutual
/-- Whether all names of an expression are used as what they are. -/
def Ex.shp (z : List UInt8 → Int) : Ex → Bool
  | .mk op _ nm _ _ args => (!(decide (op = 2) || decide (op = 3)) || (decide (op = 3) == decide (0 < z nm))) && Ex.shpL z args
def Ex.shpL (z : List UInt8 → Int) : List Ex → Bool
  | [] => true
  | e :: r => e.shp z && Ex.shpL z r
end
def zL (l : List Vr) (nm : List UInt8) : Int := (lookS nm l 0).2.1
theorem shpL_take (z : List UInt8 → Int) : ∀ (l : List Ex) (k : Nat) (e : Ex), l[k]? = some e → Ex.shpL z (l.take (k + 1)) = (Ex.shpL z (l.take k) && e.shp z)
  | [], _, _, h => by simp at h
  | x :: r, 0, e, h => by
    simp only [List.getElem?_cons_zero, Option.some.injEq] at h
    subst h
    simp [Ex.shpL]
  | x :: r, k + 1, e, h => by
    simp only [List.getElem?_cons_succ] at h
    simp [Ex.shpL, shpL_take z r k e h, Bool.and_assoc]

/-- The loop's head: k operands are copied; the slice lies in the copy's last cell. -/
structure XpHead (f : Pl) (w0 : World) (k : Nat) (args : List Ex) (ebox : List Value) (a b : Int) (s : ByteArray) (c d : Int) (v : Value) (wr : World) (css : List (List Value)) : Prop where
  bel : Below w0.heap.size w0 wr
  hx : wr.heap[w0.heap.size]? = some (.cells ebox.toArray 92 (0, 0))
  hr : wr.heap[w0.heap.size + 1]? = some (.cells #[.int .i64 0, .int .i64 0, .string ⟨#[]⟩, .int .i64 0, .int .i64 0, .slice none 0 0] 92 (0, 0))
  hq : wr.heap[w0.heap.size + 2]? = some (.cells #[.int .i64 a, .int .i64 b, .string s, .int .i64 c, .int .i64 d, v] 92 (0, 0))
  ho : wr.ownsRow (w0.heap.size + 3) 92 6 v (Ex.resL f (args.take k)).length css.flatten
  ha : ExAll (Sv (w0.heap.size + 3) v) wr (Ex.resL f (args.take k)) css
theorem XpHead.next {f : Pl} {k : Nat} {w0 wr w2 w3 : World} {args : List Ex} {ebox : List Value} {a b : Int} {s : ByteArray} {c d : Int} {v v' : Value} {css : List (List Value)} {e : Ex} {cs : List Value} {o : Obj} (h : XpHead f w0 k args ebox a b s c d v wr css)
    (hk : args[k]? = some e) (hb : Below wr.heap.size wr w2) (hs : ExL (From wr.heap.size) w2 (e.res f) cs)
    (hown : w3.ownsRow (w0.heap.size + 3) 92 6 v' ((Ex.resL f (args.take k)).length + 1) (css.flatten ++ cs)) (hg : (w2.alloc o).grownBy w3 v.ownBlock) (hob : v'.ownBlock = v.ownBlock ∨ v'.ownBlock = some (w2.heap.size + 1)) :
    w3.heap[w0.heap.size + 2]? = some (.cells #[.int .i64 a, .int .i64 b, .string s, .int .i64 c, .int .i64 d, v] 92 (0, 0)) ∧ XpHead f w0 (k + 1) args ebox a b s c d v' (w3.setCell ⟨w0.heap.size + 2, 5, none⟩ v') (css ++ [cs]) := by
  have hz := hb.size
  have hx1 := lt_of_block h.hx
  have hr1 := lt_of_block h.hr
  have hq1 := lt_of_block h.hq
  have hob2 : ∀ b, v.ownBlock = some b → w0.heap.size + 3 ≤ b ∧ b < wr.heap.size := fun b hb => by
    rcases h.ho.2 with ⟨rfl, _⟩ | ⟨g, cap, cur, rfl, h2, h3, _⟩
    · cases hb
    · simp only [Value.ownBlock, Option.some.injEq] at hb; subst hb; exact ⟨h2, lt_of_block h3⟩
  have hblk : ∀ k, k < w2.heap.size → v.ownBlock ≠ some k → w3.heap[k]? = w2.heap[k]? := fun k hk1 hk2 =>
    (hg.block k (by rw [new_size]; omega) (fun e => hk2 e.symm)).trans (alloc_blk w2 o hk1)
  have hnot : ∀ k, k < w2.heap.size → v.ownBlock ≠ some k → v'.ownBlock ≠ some k := fun k hk1 hk2 h => by
    rcases hob with h' | h'
    · exact hk2 (h' ▸ h)
    · rw [h'] at h; injection h with h; omega
  have hlow : ∀ k, k < w0.heap.size + 3 → k < wr.heap.size → w3.heap[k]? = wr.heap[k]? := fun k h1 h2 =>
    (hblk k (by omega) (fun h => by have := (hob2 k h).1; omega)).trans (hb.block k h2)
  have hset : ∀ k, k ≠ w0.heap.size + 2 → (w3.setCell ⟨w0.heap.size + 2, 5, none⟩ v').heap[k]? = w3.heap[k]? := fun k hk => Below.heap_setCell _ _ _ _ hk
  have hq3 := (hlow _ (by omega) hq1).trans h.hq
  refine ⟨hq3, ?_, (hset _ (by omega)).trans ((hlow _ (by omega) hx1).trans h.hx), (hset _ (by omega)).trans ((hlow _ (by omega) hr1).trans h.hr), ?_, ?_, ?_⟩
  · have hk2 := h.bel.trans (hb.mono h.bel.size)
    have h3 : Below w0.heap.size w0 w3 := ⟨hg.os.trans hk2.os, hg.tape.trans hk2.tape, hg.output.trans hk2.output, by have := hg.size; rw [new_size] at this; have := hk2.size; omega, fun k hk1 =>
      (hblk k (by have := hk2.size; omega) (fun h => by have := (hob2 k h).1; omega)).trans (hk2.block k hk1)⟩
    exact h3.setCell (p := ⟨w0.heap.size + 2, 5, none⟩) (Nat.le_add_right _ 2) _
  · have h' := blk_set hq3 5 v'
    simp only [List.setIfInBounds_toArray, List.set_cons_zero, List.set_cons_succ] at h'
    exact h'
  · rw [resL_take f args k e hk, List.length_append, List.flatten_append]
    have h1 := own_blk (w' := w3.setCell ⟨w0.heap.size + 2, 5, none⟩ v') hown (Nat.le_refl _) (fun g h1 h2 => hset g (by omega))
    simpa using h1
  · rw [resL_take f args k e hk]
    refine ExAll.snoc ?_ _ css ?_
    · exact ExL.still (fun k (hk1 : wr.heap.size ≤ k) hk2 => ⟨⟨by have := h.bel.size; omega, hnot k hk2 (fun h => by have := (hob2 k h).2; omega)⟩, (hset k (by omega)).trans (hblk k hk2 (fun h => by have := (hob2 k h).2; omega))⟩) (e.res f) cs hs
    · exact ExAll.still (fun k hk1 hk2 => ⟨⟨hk1.1, hnot k (by omega) hk1.2⟩, (hset k (by have := hk1.1; omega)).trans ((hblk k (by omega) hk1.2).trans (hb.block k hk2))⟩) _ css h.ha

def XpC (vl : List Vr) (n : Nat) : Prop := ∀ (e : Ex), e.big ≤ n → n ≤ 100000 → ∀ (S : Nat → Prop) (w : World) (B : Option Addr) (vn vc : Nat) (a b : Int) (s : ByteArray) (c d : Int) (A : Option Addr) (l q : Nat), VrSlice S w vl (.slice B vn vc) → ExL S w e [.int .i64 a, .int .i64 b, .string s, .int .i64 c, .int .i64 d, .slice A l q] →
    Calls Tryd.prog 65 #[.slice B vn vc, .agg #[.int .i64 a, .int .i64 b, .string s, .int .i64 c, .int .i64 d, .slice A l q]] w fun e' w' => ∃ v, e' = .returned (.tuple #[v, .bool (e.shp (zL vl))]) ∧ VEx w.heap.size w' (e.res (plL vl)) v ∧ Below w.heap.size w w'

set_option maxHeartbeats 8000000 in
set_option maxRecDepth 100000 in
theorem xexpr_step (vl : List Vr) (hvn : vl.length ≤ 100000) (n : Nat) (ih : XpC vl n) : XpC vl (n + 1) := by
  intro e h hn S w B vn vc a b s c d A l q hv hl
  cases e with
  | mk op value name slot size args =>
  simp only [Ex.big] at h
  have hlq : args.length ≤ 100000 := by have := Ex.len_big args; omega
  simp only [ExL] at hl
  obtain ⟨A', c', e1, hc, hr⟩ := hl
  simp only [exCells, List.cons.injEq, Value.slice.injEq, and_true] at e1
  obtain ⟨e1, e2, e3, e4, e5, rfl, rfl, rfl⟩ := e1
  injection e1 with _ e1
  injection e2 with _ e2
  injection e3 with e3
  injection e4 with _ e4
  injection e5 with _ e5
  subst e1 e2 e3 e4 e5
  obtain ⟨i0, hi, hz0, hz1, hz2⟩ := info_parts infoEx3
  have HI := Lib.hid hi
  have HI0 := Lib.hid hz0
  have HI1 := Lib.hid hz1
  have HI2 := Lib.hid hz2
  clear hi hz0 hz1 hz2
  have IH := Lib.hid (fun e h1 => ih e h1 (by omega))
  have HR := Lib.hid hr
  have HD := Lib.hid h
  have HVS := Lib.hid hv
  obtain ⟨m, hm⟩ : ∃ x, args.length = x := ⟨_, rfl⟩
  have HM := Lib.hid hm
  rw [hm] at hlq ⊢
  obtain ⟨R, hR⟩ : ∃ x, Ex.shp (zL vl) (.mk a b name c d args) = x := ⟨_, rfl⟩
  rw [hR]
  simp only [Ex.shp] at hR
  have hq6 : ∀ (T : World), (T.alloc (.cells #[.int .i64 a, .int .i64 b, .string (strB name), .int .i64 c, .int .i64 d, .slice A m q] 92)).heap.size = T.heap.size + 1 := fun T => by rw [new_size]
  obtain ⟨W, hW⟩ : ∃ x, ((w.alloc (.cells #[.int .i64 a, .int .i64 b, .string (strB name), .int .i64 c, .int .i64 d, .slice A m q] 92)).alloc (.cells #[.int .i64 0, .int .i64 0, .string ⟨#[]⟩, .int .i64 0, .int .i64 0, .slice none 0 0] 92)).alloc (.cells #[.int .i64 a, .int .i64 b, .string (strB name), .int .i64 c, .int .i64 d, .slice none 0 0] 92) = x := ⟨_, rfl⟩
  have hs1 : (w.alloc (.cells #[.int .i64 a, .int .i64 b, .string (strB name), .int .i64 c, .int .i64 d, .slice A m q] 92)).heap.size = w.heap.size + 1 := by rw [new_size]
  have hs2 : ((w.alloc (.cells #[.int .i64 a, .int .i64 b, .string (strB name), .int .i64 c, .int .i64 d, .slice A m q] 92)).alloc (.cells #[.int .i64 0, .int .i64 0, .string ⟨#[]⟩, .int .i64 0, .int .i64 0, .slice none 0 0] 92)).heap.size = w.heap.size + 2 := by rw [new_size, new_size]
  have HST : Hid (XpHead (plL vl) w 0 args [.int .i64 a, .int .i64 b, .string (strB name), .int .i64 c, .int .i64 d, .slice A m q] a b (strB name) c d (.slice none 0 0) W []) := by
    rw [← hW]
    refine ⟨(((Below.refl _ _).alloc (Nat.le_refl _) _).alloc (by omega) _).alloc (by omega) _, (alloc_blk _ _ (by omega)).trans ((alloc_blk _ _ (by omega)).trans (new_blk w _)), (alloc_blk _ _ (by omega)).trans (new_blk1 w _ _), ?_, World.ownsRow_nil _ _ _ _, trivial⟩
    have h := new_blk ((w.alloc (.cells #[.int .i64 a, .int .i64 b, .string (strB name), .int .i64 c, .int .i64 d, .slice A m q] 92)).alloc (.cells #[.int .i64 0, .int .i64 0, .string ⟨#[]⟩, .int .i64 0, .int .i64 0, .slice none 0 0] 92)) (.cells #[.int .i64 a, .int .i64 b, .string (strB name), .int .i64 c, .int .i64 d, .slice none 0 0] 92)
    rwa [hs2] at h
  have hzW := lt_of_block HST.out.hq
  have HW := Lib.hid hW
  clear hs1 hs2 hq6 hW
  obtain ⟨x0, x1, x2, x3, x4, x5, xf0, xf1, xf2, xf3, xf4, xf5, _⟩ := box6 HST.out.hx
  obtain ⟨z0, z1, z2, z3, z4, z5, zf0, zf1, zf2, zf3, zf4, zf5, _⟩ := box6 HST.out.hq
  have hlk := lookup3_any S vl name B vn vc W (hv.still fun k h1 h2 => ⟨h1, HST.out.bel.block k h2⟩) hvn
  obtain ⟨L, hL⟩ : ∃ x, lookS name vl 0 = x := ⟨_, rfl⟩
  obtain ⟨L1, L2, L3⟩ := L
  have hzL : zL vl name = L2 := by unfold zL; rw [hL]
  rw [hL] at hlk
  rw [hzL] at hR
  simp only [lkV] at hlk
  have HLK := Lib.hid hlk
  have HRR := Lib.hid hR
  have hpl : plL vl name = some (L1, L2) := by unfold plL; rw [hL]
  have HPL := Lib.hid hpl
  have hcs : (a = 2 ∧ 0 < L2) ∨ (a = 2 ∧ ¬ 0 < L2) ∨ ((a == 2) = false ∧ a = 3 ∧ 0 < L2) ∨ ((a == 2) = false ∧ a = 3 ∧ ¬ 0 < L2) ∨ ((a == 2) = false ∧ (a == 3) = false) := by
    by_cases h2 : a = 2
    · by_cases h0 : 0 < L2 <;> simp [h2, h0]
    · by_cases h3 : a = 3
      · by_cases h0 : 0 < L2 <;> simp [h3, h0]
      · simp [h2, h3]
  have HB0 : Hid (∀ (okb : Bool), (((a = 2 ∧ 0 < L2) ∨ (a = 3 ∧ ¬ 0 < L2)) → okb = false) → (¬ ((a = 2 ∧ 0 < L2) ∨ (a = 3 ∧ ¬ 0 < L2)) → okb = true) → (okb && Ex.shpL (zL vl) args) = R) := fun okb h1 h2 => by
    rw [← HRR.out]
    congr 1
    by_cases hq : (a = 2 ∧ 0 < L2) ∨ (a = 3 ∧ ¬ 0 < L2)
    · rw [h1 hq]
      rcases hq with ⟨rfl, h⟩ | ⟨rfl, h⟩ <;> simp [h]
    · rw [h2 hq]
      by_cases e2 : a = 2
      · have : ¬ 0 < L2 := fun h => hq (.inl ⟨e2, h⟩)
        simp [e2, this]
      · by_cases e3 : a = 3
        · have : 0 < L2 := by by_cases h : 0 < L2; exact h; exact absurd (.inr ⟨e3, h⟩) hq
          simp [e3, this]
        · simp [e2, e3]
  clear ih hr h hm hc hR hL hlk hv hpl hzL
  go_enter Tryd.func65, Tryd.ntmps65
  go_upto_region 4 with fail
  simp only [HW.out]
  clear HW
  rcases hcs with ⟨rfl, h0⟩ | ⟨rfl, h0⟩ | ⟨hn2, rfl, h0⟩ | ⟨hn2, rfl, h0⟩ | ⟨hn2, hn3⟩
  · have HRE := Lib.hid (HB0.out false (by intro h; first | rfl | (exfalso; simp at *; omega)) (by intro h; first | rfl | (exfalso; simp at *; omega)))
    have HRS : Hid (Ex.res (plL vl) (.mk 2 b name c d args) = .mk 2 b name L1 L2 (Ex.resL (plL vl) args)) := by show _ = _; simp [Ex.res, HPL.out]
    clear HB0
    go_wp2_with fail
    refine HLK.out.mono ?_
    rintro e w1 ⟨rfl, hb⟩
    have HX1 := Lib.hid (below_blk hb HST.out.hx)
    have HY1 := Lib.hid (below_blk hb HST.out.hr)
    have HZ1 := Lib.hid (below_blk hb HST.out.hq)
    have HB1 := Lib.hid (HST.out.bel.trans (hb.mono HST.out.bel.size))
    clear hb x0 x1 x2 x3 x4 x5 z0 z1 z2 z3 z4 z5 xf0 xf1 xf2 xf3 xf4 xf5 zf0 zf1 zf2 zf3 zf4 zf5
    obtain ⟨x0, x1, x2, x3, x4, x5, xf0, xf1, xf2, xf3, xf4, xf5, _⟩ := box6 HX1.out
    obtain ⟨z0, z1, z2, z3, z4, z5, zf0, zf1, zf2, zf3, zf4, zf5, _⟩ := box6 HZ1.out
    go_wp2_with fail
    obtain ⟨W2, hW2⟩ : ∃ x, (w1.setCell ⟨w.heap.size + 2, 3, none⟩ (.int .i64 L1)).setCell ⟨w.heap.size + 2, 4, none⟩ (.int .i64 L2) = x := ⟨_, rfl⟩
    have HS2 : Hid (XpHead (plL vl) w 0 args [.int .i64 2, .int .i64 b, .string (strB name), .int .i64 c, .int .i64 d, .slice A m q] 2 b (strB name) L1 L2 (.slice none 0 0) W2 []) := by
      rw [← hW2]
      have hst : ∀ k, k ≠ w.heap.size + 2 → ((w1.setCell ⟨w.heap.size + 2, 3, none⟩ (.int .i64 L1)).setCell ⟨w.heap.size + 2, 4, none⟩ (.int .i64 L2)).heap[k]? = w1.heap[k]? := fun k hk => (Below.heap_setCell _ _ _ _ hk).trans (Below.heap_setCell _ _ _ _ hk)
      refine ⟨(HB1.out.setCell (p := ⟨w.heap.size + 2, 3, none⟩) (Nat.le_add_right _ 2) _).setCell (p := ⟨w.heap.size + 2, 4, none⟩) (Nat.le_add_right _ 2) _, (hst _ (by omega)).trans HX1.out, (hst _ (by omega)).trans HY1.out, ?_, World.ownsRow_nil _ _ _ _, trivial⟩
      have h' := blk_set (blk_set HZ1.out 3 (.int .i64 L1)) 4 (.int .i64 L2)
      simp only [List.setIfInBounds_toArray, List.set_cons_zero, List.set_cons_succ] at h'
      exact h'
    simp only [hW2]
    clear hW2 x0 x1 x2 x3 x4 x5 z0 z1 z2 z3 z4 z5 xf0 xf1 xf2 xf3 xf4 xf5 zf0 zf1 zf2 zf3 zf4 zf5
    go_loopg [7, 11, 12, 13] m (fun g okv i _ _ wr => ∃ (k : Nat) (v : Value) (css : List (List Value)) (okk : Bool), k + g = m ∧ i = .int .i64 k ∧ okv = .bool okk ∧ Hid (okk = (false && Ex.shpL (zL vl) (args.take k))) ∧ Hid (XpHead (plL vl) w k args [.int .i64 2, .int .i64 b, .string (strB name), .int .i64 c, .int .i64 d, .slice A m q] 2 b (strB name) L1 L2 v wr css))
    case atStart => exact ⟨0, .slice none 0 0, [], false, by omega, rfl, (by first | rfl | simp [decide_eq_false h0]), by show _ = _; simp [Ex.shpL], HS2.out⟩
    case round =>
      obtain ⟨k, v, css, okk, hkg, rfl, rfl, HOK, HH⟩ := hrel
      have hz0 := HH.out.bel.size
      obtain ⟨x0, x1, x2, x3, x4, x5, xf0, xf1, xf2, xf3, xf4, xf5, hzx⟩ := box6 HH.out.hx
      obtain ⟨z0, z1, z2, z3, z4, z5, zf0, zf1, zf2, zf3, zf4, zf5, hzq⟩ := box6 HH.out.hq
      cases gk with
      | zero =>
        have hkm : k = m := by omega
        subst hkm
        have HT : Hid (args.take k = args) := List.take_of_length_le (by have := HM.out; omega)
        obtain ⟨A9, c9, hv9, hc9, hrow⟩ := own_exs HH.out.ho HH.out.ha
        rw [HT.out] at hv9 hc9 hrow
        have hln : (Ex.resL (plL vl) args).length = k := by rw [resL_len]; exact HM.out
        rw [hln] at hv9 hc9
        have HRO := Lib.hid hrow
        obtain ⟨r0, r1, r2, r3, r4, r5, g0, g1, g2, g3, g4, g5, _⟩ := box6 HH.out.hr
        subst hv9
        have hok2 : okk = R := by rw [HOK.out, HT.out]; exact HRE.out
        subst hok2
        have hnlt : ¬ k < k := by omega
        clear hkg hrow hln
        go_wp2_with fail
        refine bodyPost_ret (v := .tuple #[.agg #[.int .i64 2, .int .i64 b, .string (strB name), .int .i64 L1, .int .i64 L2, .slice A9 k c9], .bool okk]) ?_ rfl ?_
        · simp [results, Tryd.results65, go_sem, World.cell?_setCell_same, World.cell?_setCell_other, r0, r1, r2, r3, r4, r5]
        · refine ⟨_, rfl, ⟨_, _, _, _, _, _, _, _, rfl, ?_⟩, ?_⟩
          · rw [HRS.out]
            simp only [ExL]
            refine ⟨A9, c9, by simp only [exCells]; rw [resL_len, HM.out], by rw [resL_len, HM.out]; exact hc9, fun hne => ?_⟩
            obtain ⟨bb, o, hA, hbb, hrw⟩ := HRO.out hne
            refine ⟨bb, o, hA, show w.heap.size ≤ bb by omega, ExRow.still (S := From (w.heap.size + 3)) (fun j (h1 : w.heap.size + 3 ≤ j) _ => ⟨show w.heap.size ≤ j by omega, ?_⟩) _ bb o hbb hrw⟩
            exact set6_blk _ _ _ _ _ _ _ _ (by omega)
          · exact (((((HH.out.bel.setCell (p := ⟨w.heap.size + 1, 0, none⟩) (Nat.le_succ _) _).setCell (p := ⟨w.heap.size + 1, 1, none⟩) (Nat.le_succ _) _).setCell (p := ⟨w.heap.size + 1, 2, none⟩) (Nat.le_succ _) _).setCell (p := ⟨w.heap.size + 1, 3, none⟩) (Nat.le_succ _) _).setCell (p := ⟨w.heap.size + 1, 4, none⟩) (Nat.le_succ _) _).setCell (p := ⟨w.heap.size + 1, 5, none⟩) (Nat.le_succ _) _
      | succ g =>
        have hlt : k < m := by omega
        have HG := Lib.hid hkg
        have hd0 := HD.out
        have HB := Lib.hid HH.out.bel
        clear hkg
        obtain ⟨e1, he1⟩ : ∃ e1, args[k]? = some e1 := ⟨_, List.getElem?_eq_getElem (by have := HM.out; omega)⟩
        have HE1 := Lib.hid he1
        have hbg := Ex.big_at args k e1 he1
        obtain ⟨bb, o, rfl, hS, hrow⟩ := HR.out (fun e => by have := HM.out; rw [e] at this; simp at this; omega)
        obtain ⟨cs, hcs, hex⟩ := ExRow.get args bb o k e1 hrow he1
        obtain ⟨a1, b1, s1, c1, d1, A1, l1, q1, rfl⟩ := hex.plain
        have hbb : bb < w.heap.size := hcs.lt
        have hw : ∀ j u, w.cell? ⟨bb, j, none⟩ = some u → wr.cell? ⟨bb, j, none⟩ = some u := fun j u hu => (HB.out.cell (p := ⟨bb, j, none⟩) hbb).trans hu
        have y0 := hw _ _ (hcs 0 _ rfl)
        have y1 := hw _ _ (hcs 1 _ rfl)
        have y2 := hw _ _ (hcs 2 _ rfl)
        have y3 := hw _ _ (hcs 3 _ rfl)
        have y4 := hw _ _ (hcs 4 _ rfl)
        have y5 := hw _ _ (hcs 5 _ rfl)
        rw [Nat.add_zero] at y0
        have HEX := Lib.hid hex
        clear hw hcs hrow he1 hex hS
        have hln : (Ex.resL (plL vl) (args.take k)).length = k := rx_len (by have := HM.out; omega)
        have HLN := Lib.hid hln
        have HTK := Lib.hid (shpL_take (zL vl) args k e1 HE1.out)
        obtain ⟨rb, hrb⟩ : ∃ x, e1.shp (zL vl) = x := ⟨_, rfl⟩
        have hex2 := IH.out e1 (by omega) S wr B vn vc a1 b1 s1 c1 d1 A1 l1 q1 (HVS.out.still fun k h1 h2 => ⟨h1, HB.out.block k h2⟩) (ExL.still (fun k hk1 hk2 => ⟨hk1, HB.out.block k hk2⟩) e1 _ HEX.out)
        rw [hrb] at hex2 HTK
        have HEX2 := Lib.hid hex2
        clear hbg hd0 hex2 hrb hln
        go_wp2_with fail
        refine HEX2.out.mono ?_
        rintro e' w2 ⟨v2, rfl, ⟨t0, t1, t2, t3, t4, tA, tl, tq, rfl, hl⟩, hb⟩
        have HB2 := Lib.hid hb
        have HL2 := Lib.hid hl
        have HX2 := Lib.hid (below_blk hb HH.out.hx)
        have HQ2 := Lib.hid (below_blk hb HH.out.hq)
        have hz2 := hb.size
        clear hb hl y0 y1 y2 y3 y4 y5 x0 x1 x2 x3 x4 x5 z0 z1 z2 z3 z4 z5 xf0 xf1 xf2 xf3 xf4 xf5 zf0 zf1 zf2 zf3 zf4 zf5
        go_upto_region 12 with fail
        obtain ⟨w3, hw3⟩ : ∃ x, w2.alloc (.cells #[.int .i64 t0, .int .i64 t1, .string t2, .int .i64 t3, .int .i64 t4, .slice tA tl tq] 92) = x := ⟨_, rfl⟩
        have hb23 : Below w2.heap.size w2 w3 := by rw [← hw3]; exact (Below.refl _ _).alloc (Nat.le_refl _) _
        have H3 : Hid (w3.heap[w2.heap.size]? = some (.cells #[.int .i64 t0, .int .i64 t1, .string t2, .int .i64 t3, .int .i64 t4, .slice tA tl tq] 92 (0, 0))) := by rw [← hw3]; exact new_blk w2 _
        simp only [hw3]
        clear hw3
        have HQ3 := Lib.hid (below_blk hb23 HQ2.out)
        have HB3 := Lib.hid (HB2.out.trans (hb23.mono HB2.out.size))
        have HL3 : Hid (ExL (From wr.heap.size) w3 (e1.res (plL vl)) [.int .i64 t0, .int .i64 t1, .string t2, .int .i64 t3, .int .i64 t4, .slice tA tl tq]) := ExL.still (fun k h1 h2 => ⟨h1, hb23.block k h2⟩) _ _ HL2.out
        have hz3 := hb23.size
        clear hb23
        obtain ⟨u0, u1, u2, u3, u4, u5, _⟩ := box6 H3.out
        have u9 : w3.cell? ⟨w.heap.size + 2, 5, none⟩ = some v := by rw [Lib.cell_of_heap HQ3.out]; rfl
        go_wp2_with (at_builtin; refine wpList_append_own_at _ rfl _ _ 90 rfl (w.heap.size + 3) 92 i0 _ 6 72 Tryd.underlying90 HI.out HI0.out HI1.out HI2.out rfl (by decide) _ _ _ rfl ((own_bel HH.out.ho HB3.out).alloc _) ⟨w3.heap.size, 0, none⟩ 1 1 [.int .i64 t0, .int .i64 t1, .string t2, .int .i64 t3, .int .i64 t4, .slice tA tl tq] rfl rfl (ex_new _ _ _) (by simp [Value.oneCell']) (by rw [HLN.out]; unfold maxLen; omega) (by rw [HLN.out]; omega) (by rw [new_size]; omega) ?_)
        intro v9 w9 hown hgrow _ hob
        obtain ⟨A8, c8, rfl⟩ := own_slice hown
        obtain ⟨hq9, hnx⟩ := XpHead.next HH.out HE1.out HB3.out HL3.out hown hgrow hob
        have HN := Lib.hid hnx
        have u8 : w9.cell? ⟨w.heap.size + 2, 5, none⟩ = some v := by rw [Lib.cell_of_heap hq9]; rfl
        have u7 : w9.frozen? ⟨w.heap.size + 2, 5, none⟩ = false := Lib.frozen_of_heap hq9 5
        clear hown hgrow hob hq9 hnx u0 u1 u2 u3 u4 u5 u9
        cases okk <;> cases rb
        all_goals
          go_wp2_with fail
          go_roundg g
          case rel => exact ⟨k + 1, _, _, _, by have := HG.out; omega, by go_num, rfl, by show _ = _; rw [HTK.out, ← Bool.and_assoc, ← HOK.out]; rfl, HN⟩
          case measure => omega

  · have HRE := Lib.hid (HB0.out true (by intro h; first | rfl | (exfalso; simp at *; omega)) (by intro h; first | rfl | (exfalso; simp at *; omega)))
    have hdz : decide (0 < L2) = false := decide_eq_false h0
    have HRS : Hid (Ex.res (plL vl) (.mk 2 b name c d args) = .mk 2 b name L1 L2 (Ex.resL (plL vl) args)) := by show _ = _; simp [Ex.res, HPL.out]
    clear HB0
    go_wp2_with fail
    refine HLK.out.mono ?_
    rintro e w1 ⟨rfl, hb⟩
    have HX1 := Lib.hid (below_blk hb HST.out.hx)
    have HY1 := Lib.hid (below_blk hb HST.out.hr)
    have HZ1 := Lib.hid (below_blk hb HST.out.hq)
    have HB1 := Lib.hid (HST.out.bel.trans (hb.mono HST.out.bel.size))
    clear hb x0 x1 x2 x3 x4 x5 z0 z1 z2 z3 z4 z5 xf0 xf1 xf2 xf3 xf4 xf5 zf0 zf1 zf2 zf3 zf4 zf5
    obtain ⟨x0, x1, x2, x3, x4, x5, xf0, xf1, xf2, xf3, xf4, xf5, _⟩ := box6 HX1.out
    obtain ⟨z0, z1, z2, z3, z4, z5, zf0, zf1, zf2, zf3, zf4, zf5, _⟩ := box6 HZ1.out
    go_wp2_with fail
    obtain ⟨W2, hW2⟩ : ∃ x, (w1.setCell ⟨w.heap.size + 2, 3, none⟩ (.int .i64 L1)).setCell ⟨w.heap.size + 2, 4, none⟩ (.int .i64 L2) = x := ⟨_, rfl⟩
    have HS2 : Hid (XpHead (plL vl) w 0 args [.int .i64 2, .int .i64 b, .string (strB name), .int .i64 c, .int .i64 d, .slice A m q] 2 b (strB name) L1 L2 (.slice none 0 0) W2 []) := by
      rw [← hW2]
      have hst : ∀ k, k ≠ w.heap.size + 2 → ((w1.setCell ⟨w.heap.size + 2, 3, none⟩ (.int .i64 L1)).setCell ⟨w.heap.size + 2, 4, none⟩ (.int .i64 L2)).heap[k]? = w1.heap[k]? := fun k hk => (Below.heap_setCell _ _ _ _ hk).trans (Below.heap_setCell _ _ _ _ hk)
      refine ⟨(HB1.out.setCell (p := ⟨w.heap.size + 2, 3, none⟩) (Nat.le_add_right _ 2) _).setCell (p := ⟨w.heap.size + 2, 4, none⟩) (Nat.le_add_right _ 2) _, (hst _ (by omega)).trans HX1.out, (hst _ (by omega)).trans HY1.out, ?_, World.ownsRow_nil _ _ _ _, trivial⟩
      have h' := blk_set (blk_set HZ1.out 3 (.int .i64 L1)) 4 (.int .i64 L2)
      simp only [List.setIfInBounds_toArray, List.set_cons_zero, List.set_cons_succ] at h'
      exact h'
    simp only [hW2]
    clear hW2 x0 x1 x2 x3 x4 x5 z0 z1 z2 z3 z4 z5 xf0 xf1 xf2 xf3 xf4 xf5 zf0 zf1 zf2 zf3 zf4 zf5
    go_loopg [7, 11, 12, 13] m (fun g okv i _ _ wr => ∃ (k : Nat) (v : Value) (css : List (List Value)) (okk : Bool), k + g = m ∧ i = .int .i64 k ∧ okv = .bool okk ∧ Hid (okk = (true && Ex.shpL (zL vl) (args.take k))) ∧ Hid (XpHead (plL vl) w k args [.int .i64 2, .int .i64 b, .string (strB name), .int .i64 c, .int .i64 d, .slice A m q] 2 b (strB name) L1 L2 v wr css))
    case atStart => exact ⟨0, .slice none 0 0, [], true, by omega, rfl, (by first | rfl | simp [decide_eq_false h0]), by show _ = _; simp [Ex.shpL], HS2.out⟩
    case round =>
      obtain ⟨k, v, css, okk, hkg, rfl, rfl, HOK, HH⟩ := hrel
      have hz0 := HH.out.bel.size
      obtain ⟨x0, x1, x2, x3, x4, x5, xf0, xf1, xf2, xf3, xf4, xf5, hzx⟩ := box6 HH.out.hx
      obtain ⟨z0, z1, z2, z3, z4, z5, zf0, zf1, zf2, zf3, zf4, zf5, hzq⟩ := box6 HH.out.hq
      cases gk with
      | zero =>
        have hkm : k = m := by omega
        subst hkm
        have HT : Hid (args.take k = args) := List.take_of_length_le (by have := HM.out; omega)
        obtain ⟨A9, c9, hv9, hc9, hrow⟩ := own_exs HH.out.ho HH.out.ha
        rw [HT.out] at hv9 hc9 hrow
        have hln : (Ex.resL (plL vl) args).length = k := by rw [resL_len]; exact HM.out
        rw [hln] at hv9 hc9
        have HRO := Lib.hid hrow
        obtain ⟨r0, r1, r2, r3, r4, r5, g0, g1, g2, g3, g4, g5, _⟩ := box6 HH.out.hr
        subst hv9
        have hok2 : okk = R := by rw [HOK.out, HT.out]; exact HRE.out
        subst hok2
        have hnlt : ¬ k < k := by omega
        clear hkg hrow hln
        go_wp2_with fail
        refine bodyPost_ret (v := .tuple #[.agg #[.int .i64 2, .int .i64 b, .string (strB name), .int .i64 L1, .int .i64 L2, .slice A9 k c9], .bool okk]) ?_ rfl ?_
        · simp [results, Tryd.results65, go_sem, World.cell?_setCell_same, World.cell?_setCell_other, r0, r1, r2, r3, r4, r5]
        · refine ⟨_, rfl, ⟨_, _, _, _, _, _, _, _, rfl, ?_⟩, ?_⟩
          · rw [HRS.out]
            simp only [ExL]
            refine ⟨A9, c9, by simp only [exCells]; rw [resL_len, HM.out], by rw [resL_len, HM.out]; exact hc9, fun hne => ?_⟩
            obtain ⟨bb, o, hA, hbb, hrw⟩ := HRO.out hne
            refine ⟨bb, o, hA, show w.heap.size ≤ bb by omega, ExRow.still (S := From (w.heap.size + 3)) (fun j (h1 : w.heap.size + 3 ≤ j) _ => ⟨show w.heap.size ≤ j by omega, ?_⟩) _ bb o hbb hrw⟩
            exact set6_blk _ _ _ _ _ _ _ _ (by omega)
          · exact (((((HH.out.bel.setCell (p := ⟨w.heap.size + 1, 0, none⟩) (Nat.le_succ _) _).setCell (p := ⟨w.heap.size + 1, 1, none⟩) (Nat.le_succ _) _).setCell (p := ⟨w.heap.size + 1, 2, none⟩) (Nat.le_succ _) _).setCell (p := ⟨w.heap.size + 1, 3, none⟩) (Nat.le_succ _) _).setCell (p := ⟨w.heap.size + 1, 4, none⟩) (Nat.le_succ _) _).setCell (p := ⟨w.heap.size + 1, 5, none⟩) (Nat.le_succ _) _
      | succ g =>
        have hlt : k < m := by omega
        have HG := Lib.hid hkg
        have hd0 := HD.out
        have HB := Lib.hid HH.out.bel
        clear hkg
        obtain ⟨e1, he1⟩ : ∃ e1, args[k]? = some e1 := ⟨_, List.getElem?_eq_getElem (by have := HM.out; omega)⟩
        have HE1 := Lib.hid he1
        have hbg := Ex.big_at args k e1 he1
        obtain ⟨bb, o, rfl, hS, hrow⟩ := HR.out (fun e => by have := HM.out; rw [e] at this; simp at this; omega)
        obtain ⟨cs, hcs, hex⟩ := ExRow.get args bb o k e1 hrow he1
        obtain ⟨a1, b1, s1, c1, d1, A1, l1, q1, rfl⟩ := hex.plain
        have hbb : bb < w.heap.size := hcs.lt
        have hw : ∀ j u, w.cell? ⟨bb, j, none⟩ = some u → wr.cell? ⟨bb, j, none⟩ = some u := fun j u hu => (HB.out.cell (p := ⟨bb, j, none⟩) hbb).trans hu
        have y0 := hw _ _ (hcs 0 _ rfl)
        have y1 := hw _ _ (hcs 1 _ rfl)
        have y2 := hw _ _ (hcs 2 _ rfl)
        have y3 := hw _ _ (hcs 3 _ rfl)
        have y4 := hw _ _ (hcs 4 _ rfl)
        have y5 := hw _ _ (hcs 5 _ rfl)
        rw [Nat.add_zero] at y0
        have HEX := Lib.hid hex
        clear hw hcs hrow he1 hex hS
        have hln : (Ex.resL (plL vl) (args.take k)).length = k := rx_len (by have := HM.out; omega)
        have HLN := Lib.hid hln
        have HTK := Lib.hid (shpL_take (zL vl) args k e1 HE1.out)
        obtain ⟨rb, hrb⟩ : ∃ x, e1.shp (zL vl) = x := ⟨_, rfl⟩
        have hex2 := IH.out e1 (by omega) S wr B vn vc a1 b1 s1 c1 d1 A1 l1 q1 (HVS.out.still fun k h1 h2 => ⟨h1, HB.out.block k h2⟩) (ExL.still (fun k hk1 hk2 => ⟨hk1, HB.out.block k hk2⟩) e1 _ HEX.out)
        rw [hrb] at hex2 HTK
        have HEX2 := Lib.hid hex2
        clear hbg hd0 hex2 hrb hln
        go_wp2_with fail
        refine HEX2.out.mono ?_
        rintro e' w2 ⟨v2, rfl, ⟨t0, t1, t2, t3, t4, tA, tl, tq, rfl, hl⟩, hb⟩
        have HB2 := Lib.hid hb
        have HL2 := Lib.hid hl
        have HX2 := Lib.hid (below_blk hb HH.out.hx)
        have HQ2 := Lib.hid (below_blk hb HH.out.hq)
        have hz2 := hb.size
        clear hb hl y0 y1 y2 y3 y4 y5 x0 x1 x2 x3 x4 x5 z0 z1 z2 z3 z4 z5 xf0 xf1 xf2 xf3 xf4 xf5 zf0 zf1 zf2 zf3 zf4 zf5
        go_upto_region 12 with fail
        obtain ⟨w3, hw3⟩ : ∃ x, w2.alloc (.cells #[.int .i64 t0, .int .i64 t1, .string t2, .int .i64 t3, .int .i64 t4, .slice tA tl tq] 92) = x := ⟨_, rfl⟩
        have hb23 : Below w2.heap.size w2 w3 := by rw [← hw3]; exact (Below.refl _ _).alloc (Nat.le_refl _) _
        have H3 : Hid (w3.heap[w2.heap.size]? = some (.cells #[.int .i64 t0, .int .i64 t1, .string t2, .int .i64 t3, .int .i64 t4, .slice tA tl tq] 92 (0, 0))) := by rw [← hw3]; exact new_blk w2 _
        simp only [hw3]
        clear hw3
        have HQ3 := Lib.hid (below_blk hb23 HQ2.out)
        have HB3 := Lib.hid (HB2.out.trans (hb23.mono HB2.out.size))
        have HL3 : Hid (ExL (From wr.heap.size) w3 (e1.res (plL vl)) [.int .i64 t0, .int .i64 t1, .string t2, .int .i64 t3, .int .i64 t4, .slice tA tl tq]) := ExL.still (fun k h1 h2 => ⟨h1, hb23.block k h2⟩) _ _ HL2.out
        have hz3 := hb23.size
        clear hb23
        obtain ⟨u0, u1, u2, u3, u4, u5, _⟩ := box6 H3.out
        have u9 : w3.cell? ⟨w.heap.size + 2, 5, none⟩ = some v := by rw [Lib.cell_of_heap HQ3.out]; rfl
        go_wp2_with (at_builtin; refine wpList_append_own_at _ rfl _ _ 90 rfl (w.heap.size + 3) 92 i0 _ 6 72 Tryd.underlying90 HI.out HI0.out HI1.out HI2.out rfl (by decide) _ _ _ rfl ((own_bel HH.out.ho HB3.out).alloc _) ⟨w3.heap.size, 0, none⟩ 1 1 [.int .i64 t0, .int .i64 t1, .string t2, .int .i64 t3, .int .i64 t4, .slice tA tl tq] rfl rfl (ex_new _ _ _) (by simp [Value.oneCell']) (by rw [HLN.out]; unfold maxLen; omega) (by rw [HLN.out]; omega) (by rw [new_size]; omega) ?_)
        intro v9 w9 hown hgrow _ hob
        obtain ⟨A8, c8, rfl⟩ := own_slice hown
        obtain ⟨hq9, hnx⟩ := XpHead.next HH.out HE1.out HB3.out HL3.out hown hgrow hob
        have HN := Lib.hid hnx
        have u8 : w9.cell? ⟨w.heap.size + 2, 5, none⟩ = some v := by rw [Lib.cell_of_heap hq9]; rfl
        have u7 : w9.frozen? ⟨w.heap.size + 2, 5, none⟩ = false := Lib.frozen_of_heap hq9 5
        clear hown hgrow hob hq9 hnx u0 u1 u2 u3 u4 u5 u9
        cases okk <;> cases rb
        all_goals
          go_wp2_with fail
          go_roundg g
          case rel => exact ⟨k + 1, _, _, _, by have := HG.out; omega, by go_num, rfl, by show _ = _; rw [HTK.out, ← Bool.and_assoc, ← HOK.out]; rfl, HN⟩
          case measure => omega

  · have HRE := Lib.hid (HB0.out true (by intro h; first | rfl | (exfalso; simp at *; omega)) (by intro h; first | rfl | (exfalso; simp at *; omega)))
    have HRS : Hid (Ex.res (plL vl) (.mk 3 b name c d args) = .mk 3 b name L1 L2 (Ex.resL (plL vl) args)) := by show _ = _; simp [Ex.res, HPL.out]
    clear HB0
    go_wp2_with fail
    refine HLK.out.mono ?_
    rintro e w1 ⟨rfl, hb⟩
    have HX1 := Lib.hid (below_blk hb HST.out.hx)
    have HY1 := Lib.hid (below_blk hb HST.out.hr)
    have HZ1 := Lib.hid (below_blk hb HST.out.hq)
    have HB1 := Lib.hid (HST.out.bel.trans (hb.mono HST.out.bel.size))
    clear hb x0 x1 x2 x3 x4 x5 z0 z1 z2 z3 z4 z5 xf0 xf1 xf2 xf3 xf4 xf5 zf0 zf1 zf2 zf3 zf4 zf5
    obtain ⟨x0, x1, x2, x3, x4, x5, xf0, xf1, xf2, xf3, xf4, xf5, _⟩ := box6 HX1.out
    obtain ⟨z0, z1, z2, z3, z4, z5, zf0, zf1, zf2, zf3, zf4, zf5, _⟩ := box6 HZ1.out
    go_wp2_with fail
    obtain ⟨W2, hW2⟩ : ∃ x, (w1.setCell ⟨w.heap.size + 2, 3, none⟩ (.int .i64 L1)).setCell ⟨w.heap.size + 2, 4, none⟩ (.int .i64 L2) = x := ⟨_, rfl⟩
    have HS2 : Hid (XpHead (plL vl) w 0 args [.int .i64 3, .int .i64 b, .string (strB name), .int .i64 c, .int .i64 d, .slice A m q] 3 b (strB name) L1 L2 (.slice none 0 0) W2 []) := by
      rw [← hW2]
      have hst : ∀ k, k ≠ w.heap.size + 2 → ((w1.setCell ⟨w.heap.size + 2, 3, none⟩ (.int .i64 L1)).setCell ⟨w.heap.size + 2, 4, none⟩ (.int .i64 L2)).heap[k]? = w1.heap[k]? := fun k hk => (Below.heap_setCell _ _ _ _ hk).trans (Below.heap_setCell _ _ _ _ hk)
      refine ⟨(HB1.out.setCell (p := ⟨w.heap.size + 2, 3, none⟩) (Nat.le_add_right _ 2) _).setCell (p := ⟨w.heap.size + 2, 4, none⟩) (Nat.le_add_right _ 2) _, (hst _ (by omega)).trans HX1.out, (hst _ (by omega)).trans HY1.out, ?_, World.ownsRow_nil _ _ _ _, trivial⟩
      have h' := blk_set (blk_set HZ1.out 3 (.int .i64 L1)) 4 (.int .i64 L2)
      simp only [List.setIfInBounds_toArray, List.set_cons_zero, List.set_cons_succ] at h'
      exact h'
    simp only [hW2]
    clear hW2 x0 x1 x2 x3 x4 x5 z0 z1 z2 z3 z4 z5 xf0 xf1 xf2 xf3 xf4 xf5 zf0 zf1 zf2 zf3 zf4 zf5
    go_loopg [7, 11, 12, 13] m (fun g okv i _ _ wr => ∃ (k : Nat) (v : Value) (css : List (List Value)) (okk : Bool), k + g = m ∧ i = .int .i64 k ∧ okv = .bool okk ∧ Hid (okk = (true && Ex.shpL (zL vl) (args.take k))) ∧ Hid (XpHead (plL vl) w k args [.int .i64 3, .int .i64 b, .string (strB name), .int .i64 c, .int .i64 d, .slice A m q] 3 b (strB name) L1 L2 v wr css))
    case atStart => exact ⟨0, .slice none 0 0, [], true, by omega, rfl, (by first | rfl | simp [decide_eq_false h0]), by show _ = _; simp [Ex.shpL], HS2.out⟩
    case round =>
      obtain ⟨k, v, css, okk, hkg, rfl, rfl, HOK, HH⟩ := hrel
      have hz0 := HH.out.bel.size
      obtain ⟨x0, x1, x2, x3, x4, x5, xf0, xf1, xf2, xf3, xf4, xf5, hzx⟩ := box6 HH.out.hx
      obtain ⟨z0, z1, z2, z3, z4, z5, zf0, zf1, zf2, zf3, zf4, zf5, hzq⟩ := box6 HH.out.hq
      cases gk with
      | zero =>
        have hkm : k = m := by omega
        subst hkm
        have HT : Hid (args.take k = args) := List.take_of_length_le (by have := HM.out; omega)
        obtain ⟨A9, c9, hv9, hc9, hrow⟩ := own_exs HH.out.ho HH.out.ha
        rw [HT.out] at hv9 hc9 hrow
        have hln : (Ex.resL (plL vl) args).length = k := by rw [resL_len]; exact HM.out
        rw [hln] at hv9 hc9
        have HRO := Lib.hid hrow
        obtain ⟨r0, r1, r2, r3, r4, r5, g0, g1, g2, g3, g4, g5, _⟩ := box6 HH.out.hr
        subst hv9
        have hok2 : okk = R := by rw [HOK.out, HT.out]; exact HRE.out
        subst hok2
        have hnlt : ¬ k < k := by omega
        clear hkg hrow hln
        go_wp2_with fail
        refine bodyPost_ret (v := .tuple #[.agg #[.int .i64 3, .int .i64 b, .string (strB name), .int .i64 L1, .int .i64 L2, .slice A9 k c9], .bool okk]) ?_ rfl ?_
        · simp [results, Tryd.results65, go_sem, World.cell?_setCell_same, World.cell?_setCell_other, r0, r1, r2, r3, r4, r5]
        · refine ⟨_, rfl, ⟨_, _, _, _, _, _, _, _, rfl, ?_⟩, ?_⟩
          · rw [HRS.out]
            simp only [ExL]
            refine ⟨A9, c9, by simp only [exCells]; rw [resL_len, HM.out], by rw [resL_len, HM.out]; exact hc9, fun hne => ?_⟩
            obtain ⟨bb, o, hA, hbb, hrw⟩ := HRO.out hne
            refine ⟨bb, o, hA, show w.heap.size ≤ bb by omega, ExRow.still (S := From (w.heap.size + 3)) (fun j (h1 : w.heap.size + 3 ≤ j) _ => ⟨show w.heap.size ≤ j by omega, ?_⟩) _ bb o hbb hrw⟩
            exact set6_blk _ _ _ _ _ _ _ _ (by omega)
          · exact (((((HH.out.bel.setCell (p := ⟨w.heap.size + 1, 0, none⟩) (Nat.le_succ _) _).setCell (p := ⟨w.heap.size + 1, 1, none⟩) (Nat.le_succ _) _).setCell (p := ⟨w.heap.size + 1, 2, none⟩) (Nat.le_succ _) _).setCell (p := ⟨w.heap.size + 1, 3, none⟩) (Nat.le_succ _) _).setCell (p := ⟨w.heap.size + 1, 4, none⟩) (Nat.le_succ _) _).setCell (p := ⟨w.heap.size + 1, 5, none⟩) (Nat.le_succ _) _
      | succ g =>
        have hlt : k < m := by omega
        have HG := Lib.hid hkg
        have hd0 := HD.out
        have HB := Lib.hid HH.out.bel
        clear hkg
        obtain ⟨e1, he1⟩ : ∃ e1, args[k]? = some e1 := ⟨_, List.getElem?_eq_getElem (by have := HM.out; omega)⟩
        have HE1 := Lib.hid he1
        have hbg := Ex.big_at args k e1 he1
        obtain ⟨bb, o, rfl, hS, hrow⟩ := HR.out (fun e => by have := HM.out; rw [e] at this; simp at this; omega)
        obtain ⟨cs, hcs, hex⟩ := ExRow.get args bb o k e1 hrow he1
        obtain ⟨a1, b1, s1, c1, d1, A1, l1, q1, rfl⟩ := hex.plain
        have hbb : bb < w.heap.size := hcs.lt
        have hw : ∀ j u, w.cell? ⟨bb, j, none⟩ = some u → wr.cell? ⟨bb, j, none⟩ = some u := fun j u hu => (HB.out.cell (p := ⟨bb, j, none⟩) hbb).trans hu
        have y0 := hw _ _ (hcs 0 _ rfl)
        have y1 := hw _ _ (hcs 1 _ rfl)
        have y2 := hw _ _ (hcs 2 _ rfl)
        have y3 := hw _ _ (hcs 3 _ rfl)
        have y4 := hw _ _ (hcs 4 _ rfl)
        have y5 := hw _ _ (hcs 5 _ rfl)
        rw [Nat.add_zero] at y0
        have HEX := Lib.hid hex
        clear hw hcs hrow he1 hex hS
        have hln : (Ex.resL (plL vl) (args.take k)).length = k := rx_len (by have := HM.out; omega)
        have HLN := Lib.hid hln
        have HTK := Lib.hid (shpL_take (zL vl) args k e1 HE1.out)
        obtain ⟨rb, hrb⟩ : ∃ x, e1.shp (zL vl) = x := ⟨_, rfl⟩
        have hex2 := IH.out e1 (by omega) S wr B vn vc a1 b1 s1 c1 d1 A1 l1 q1 (HVS.out.still fun k h1 h2 => ⟨h1, HB.out.block k h2⟩) (ExL.still (fun k hk1 hk2 => ⟨hk1, HB.out.block k hk2⟩) e1 _ HEX.out)
        rw [hrb] at hex2 HTK
        have HEX2 := Lib.hid hex2
        clear hbg hd0 hex2 hrb hln
        go_wp2_with fail
        refine HEX2.out.mono ?_
        rintro e' w2 ⟨v2, rfl, ⟨t0, t1, t2, t3, t4, tA, tl, tq, rfl, hl⟩, hb⟩
        have HB2 := Lib.hid hb
        have HL2 := Lib.hid hl
        have HX2 := Lib.hid (below_blk hb HH.out.hx)
        have HQ2 := Lib.hid (below_blk hb HH.out.hq)
        have hz2 := hb.size
        clear hb hl y0 y1 y2 y3 y4 y5 x0 x1 x2 x3 x4 x5 z0 z1 z2 z3 z4 z5 xf0 xf1 xf2 xf3 xf4 xf5 zf0 zf1 zf2 zf3 zf4 zf5
        go_upto_region 12 with fail
        obtain ⟨w3, hw3⟩ : ∃ x, w2.alloc (.cells #[.int .i64 t0, .int .i64 t1, .string t2, .int .i64 t3, .int .i64 t4, .slice tA tl tq] 92) = x := ⟨_, rfl⟩
        have hb23 : Below w2.heap.size w2 w3 := by rw [← hw3]; exact (Below.refl _ _).alloc (Nat.le_refl _) _
        have H3 : Hid (w3.heap[w2.heap.size]? = some (.cells #[.int .i64 t0, .int .i64 t1, .string t2, .int .i64 t3, .int .i64 t4, .slice tA tl tq] 92 (0, 0))) := by rw [← hw3]; exact new_blk w2 _
        simp only [hw3]
        clear hw3
        have HQ3 := Lib.hid (below_blk hb23 HQ2.out)
        have HB3 := Lib.hid (HB2.out.trans (hb23.mono HB2.out.size))
        have HL3 : Hid (ExL (From wr.heap.size) w3 (e1.res (plL vl)) [.int .i64 t0, .int .i64 t1, .string t2, .int .i64 t3, .int .i64 t4, .slice tA tl tq]) := ExL.still (fun k h1 h2 => ⟨h1, hb23.block k h2⟩) _ _ HL2.out
        have hz3 := hb23.size
        clear hb23
        obtain ⟨u0, u1, u2, u3, u4, u5, _⟩ := box6 H3.out
        have u9 : w3.cell? ⟨w.heap.size + 2, 5, none⟩ = some v := by rw [Lib.cell_of_heap HQ3.out]; rfl
        go_wp2_with (at_builtin; refine wpList_append_own_at _ rfl _ _ 90 rfl (w.heap.size + 3) 92 i0 _ 6 72 Tryd.underlying90 HI.out HI0.out HI1.out HI2.out rfl (by decide) _ _ _ rfl ((own_bel HH.out.ho HB3.out).alloc _) ⟨w3.heap.size, 0, none⟩ 1 1 [.int .i64 t0, .int .i64 t1, .string t2, .int .i64 t3, .int .i64 t4, .slice tA tl tq] rfl rfl (ex_new _ _ _) (by simp [Value.oneCell']) (by rw [HLN.out]; unfold maxLen; omega) (by rw [HLN.out]; omega) (by rw [new_size]; omega) ?_)
        intro v9 w9 hown hgrow _ hob
        obtain ⟨A8, c8, rfl⟩ := own_slice hown
        obtain ⟨hq9, hnx⟩ := XpHead.next HH.out HE1.out HB3.out HL3.out hown hgrow hob
        have HN := Lib.hid hnx
        have u8 : w9.cell? ⟨w.heap.size + 2, 5, none⟩ = some v := by rw [Lib.cell_of_heap hq9]; rfl
        have u7 : w9.frozen? ⟨w.heap.size + 2, 5, none⟩ = false := Lib.frozen_of_heap hq9 5
        clear hown hgrow hob hq9 hnx u0 u1 u2 u3 u4 u5 u9
        cases okk <;> cases rb
        all_goals
          go_wp2_with fail
          go_roundg g
          case rel => exact ⟨k + 1, _, _, _, by have := HG.out; omega, by go_num, rfl, by show _ = _; rw [HTK.out, ← Bool.and_assoc, ← HOK.out]; rfl, HN⟩
          case measure => omega

  · have HRE := Lib.hid (HB0.out false (by intro h; first | rfl | (exfalso; simp at *; omega)) (by intro h; first | rfl | (exfalso; simp at *; omega)))
    have hdz : decide (0 < L2) = false := decide_eq_false h0
    have HRS : Hid (Ex.res (plL vl) (.mk 3 b name c d args) = .mk 3 b name L1 L2 (Ex.resL (plL vl) args)) := by show _ = _; simp [Ex.res, HPL.out]
    clear HB0
    go_wp2_with fail
    refine HLK.out.mono ?_
    rintro e w1 ⟨rfl, hb⟩
    have HX1 := Lib.hid (below_blk hb HST.out.hx)
    have HY1 := Lib.hid (below_blk hb HST.out.hr)
    have HZ1 := Lib.hid (below_blk hb HST.out.hq)
    have HB1 := Lib.hid (HST.out.bel.trans (hb.mono HST.out.bel.size))
    clear hb x0 x1 x2 x3 x4 x5 z0 z1 z2 z3 z4 z5 xf0 xf1 xf2 xf3 xf4 xf5 zf0 zf1 zf2 zf3 zf4 zf5
    obtain ⟨x0, x1, x2, x3, x4, x5, xf0, xf1, xf2, xf3, xf4, xf5, _⟩ := box6 HX1.out
    obtain ⟨z0, z1, z2, z3, z4, z5, zf0, zf1, zf2, zf3, zf4, zf5, _⟩ := box6 HZ1.out
    go_wp2_with fail
    obtain ⟨W2, hW2⟩ : ∃ x, (w1.setCell ⟨w.heap.size + 2, 3, none⟩ (.int .i64 L1)).setCell ⟨w.heap.size + 2, 4, none⟩ (.int .i64 L2) = x := ⟨_, rfl⟩
    have HS2 : Hid (XpHead (plL vl) w 0 args [.int .i64 3, .int .i64 b, .string (strB name), .int .i64 c, .int .i64 d, .slice A m q] 3 b (strB name) L1 L2 (.slice none 0 0) W2 []) := by
      rw [← hW2]
      have hst : ∀ k, k ≠ w.heap.size + 2 → ((w1.setCell ⟨w.heap.size + 2, 3, none⟩ (.int .i64 L1)).setCell ⟨w.heap.size + 2, 4, none⟩ (.int .i64 L2)).heap[k]? = w1.heap[k]? := fun k hk => (Below.heap_setCell _ _ _ _ hk).trans (Below.heap_setCell _ _ _ _ hk)
      refine ⟨(HB1.out.setCell (p := ⟨w.heap.size + 2, 3, none⟩) (Nat.le_add_right _ 2) _).setCell (p := ⟨w.heap.size + 2, 4, none⟩) (Nat.le_add_right _ 2) _, (hst _ (by omega)).trans HX1.out, (hst _ (by omega)).trans HY1.out, ?_, World.ownsRow_nil _ _ _ _, trivial⟩
      have h' := blk_set (blk_set HZ1.out 3 (.int .i64 L1)) 4 (.int .i64 L2)
      simp only [List.setIfInBounds_toArray, List.set_cons_zero, List.set_cons_succ] at h'
      exact h'
    simp only [hW2]
    clear hW2 x0 x1 x2 x3 x4 x5 z0 z1 z2 z3 z4 z5 xf0 xf1 xf2 xf3 xf4 xf5 zf0 zf1 zf2 zf3 zf4 zf5
    go_loopg [7, 11, 12, 13] m (fun g okv i _ _ wr => ∃ (k : Nat) (v : Value) (css : List (List Value)) (okk : Bool), k + g = m ∧ i = .int .i64 k ∧ okv = .bool okk ∧ Hid (okk = (false && Ex.shpL (zL vl) (args.take k))) ∧ Hid (XpHead (plL vl) w k args [.int .i64 3, .int .i64 b, .string (strB name), .int .i64 c, .int .i64 d, .slice A m q] 3 b (strB name) L1 L2 v wr css))
    case atStart => exact ⟨0, .slice none 0 0, [], false, by omega, rfl, (by first | rfl | simp [decide_eq_false h0]), by show _ = _; simp [Ex.shpL], HS2.out⟩
    case round =>
      obtain ⟨k, v, css, okk, hkg, rfl, rfl, HOK, HH⟩ := hrel
      have hz0 := HH.out.bel.size
      obtain ⟨x0, x1, x2, x3, x4, x5, xf0, xf1, xf2, xf3, xf4, xf5, hzx⟩ := box6 HH.out.hx
      obtain ⟨z0, z1, z2, z3, z4, z5, zf0, zf1, zf2, zf3, zf4, zf5, hzq⟩ := box6 HH.out.hq
      cases gk with
      | zero =>
        have hkm : k = m := by omega
        subst hkm
        have HT : Hid (args.take k = args) := List.take_of_length_le (by have := HM.out; omega)
        obtain ⟨A9, c9, hv9, hc9, hrow⟩ := own_exs HH.out.ho HH.out.ha
        rw [HT.out] at hv9 hc9 hrow
        have hln : (Ex.resL (plL vl) args).length = k := by rw [resL_len]; exact HM.out
        rw [hln] at hv9 hc9
        have HRO := Lib.hid hrow
        obtain ⟨r0, r1, r2, r3, r4, r5, g0, g1, g2, g3, g4, g5, _⟩ := box6 HH.out.hr
        subst hv9
        have hok2 : okk = R := by rw [HOK.out, HT.out]; exact HRE.out
        subst hok2
        have hnlt : ¬ k < k := by omega
        clear hkg hrow hln
        go_wp2_with fail
        refine bodyPost_ret (v := .tuple #[.agg #[.int .i64 3, .int .i64 b, .string (strB name), .int .i64 L1, .int .i64 L2, .slice A9 k c9], .bool okk]) ?_ rfl ?_
        · simp [results, Tryd.results65, go_sem, World.cell?_setCell_same, World.cell?_setCell_other, r0, r1, r2, r3, r4, r5]
        · refine ⟨_, rfl, ⟨_, _, _, _, _, _, _, _, rfl, ?_⟩, ?_⟩
          · rw [HRS.out]
            simp only [ExL]
            refine ⟨A9, c9, by simp only [exCells]; rw [resL_len, HM.out], by rw [resL_len, HM.out]; exact hc9, fun hne => ?_⟩
            obtain ⟨bb, o, hA, hbb, hrw⟩ := HRO.out hne
            refine ⟨bb, o, hA, show w.heap.size ≤ bb by omega, ExRow.still (S := From (w.heap.size + 3)) (fun j (h1 : w.heap.size + 3 ≤ j) _ => ⟨show w.heap.size ≤ j by omega, ?_⟩) _ bb o hbb hrw⟩
            exact set6_blk _ _ _ _ _ _ _ _ (by omega)
          · exact (((((HH.out.bel.setCell (p := ⟨w.heap.size + 1, 0, none⟩) (Nat.le_succ _) _).setCell (p := ⟨w.heap.size + 1, 1, none⟩) (Nat.le_succ _) _).setCell (p := ⟨w.heap.size + 1, 2, none⟩) (Nat.le_succ _) _).setCell (p := ⟨w.heap.size + 1, 3, none⟩) (Nat.le_succ _) _).setCell (p := ⟨w.heap.size + 1, 4, none⟩) (Nat.le_succ _) _).setCell (p := ⟨w.heap.size + 1, 5, none⟩) (Nat.le_succ _) _
      | succ g =>
        have hlt : k < m := by omega
        have HG := Lib.hid hkg
        have hd0 := HD.out
        have HB := Lib.hid HH.out.bel
        clear hkg
        obtain ⟨e1, he1⟩ : ∃ e1, args[k]? = some e1 := ⟨_, List.getElem?_eq_getElem (by have := HM.out; omega)⟩
        have HE1 := Lib.hid he1
        have hbg := Ex.big_at args k e1 he1
        obtain ⟨bb, o, rfl, hS, hrow⟩ := HR.out (fun e => by have := HM.out; rw [e] at this; simp at this; omega)
        obtain ⟨cs, hcs, hex⟩ := ExRow.get args bb o k e1 hrow he1
        obtain ⟨a1, b1, s1, c1, d1, A1, l1, q1, rfl⟩ := hex.plain
        have hbb : bb < w.heap.size := hcs.lt
        have hw : ∀ j u, w.cell? ⟨bb, j, none⟩ = some u → wr.cell? ⟨bb, j, none⟩ = some u := fun j u hu => (HB.out.cell (p := ⟨bb, j, none⟩) hbb).trans hu
        have y0 := hw _ _ (hcs 0 _ rfl)
        have y1 := hw _ _ (hcs 1 _ rfl)
        have y2 := hw _ _ (hcs 2 _ rfl)
        have y3 := hw _ _ (hcs 3 _ rfl)
        have y4 := hw _ _ (hcs 4 _ rfl)
        have y5 := hw _ _ (hcs 5 _ rfl)
        rw [Nat.add_zero] at y0
        have HEX := Lib.hid hex
        clear hw hcs hrow he1 hex hS
        have hln : (Ex.resL (plL vl) (args.take k)).length = k := rx_len (by have := HM.out; omega)
        have HLN := Lib.hid hln
        have HTK := Lib.hid (shpL_take (zL vl) args k e1 HE1.out)
        obtain ⟨rb, hrb⟩ : ∃ x, e1.shp (zL vl) = x := ⟨_, rfl⟩
        have hex2 := IH.out e1 (by omega) S wr B vn vc a1 b1 s1 c1 d1 A1 l1 q1 (HVS.out.still fun k h1 h2 => ⟨h1, HB.out.block k h2⟩) (ExL.still (fun k hk1 hk2 => ⟨hk1, HB.out.block k hk2⟩) e1 _ HEX.out)
        rw [hrb] at hex2 HTK
        have HEX2 := Lib.hid hex2
        clear hbg hd0 hex2 hrb hln
        go_wp2_with fail
        refine HEX2.out.mono ?_
        rintro e' w2 ⟨v2, rfl, ⟨t0, t1, t2, t3, t4, tA, tl, tq, rfl, hl⟩, hb⟩
        have HB2 := Lib.hid hb
        have HL2 := Lib.hid hl
        have HX2 := Lib.hid (below_blk hb HH.out.hx)
        have HQ2 := Lib.hid (below_blk hb HH.out.hq)
        have hz2 := hb.size
        clear hb hl y0 y1 y2 y3 y4 y5 x0 x1 x2 x3 x4 x5 z0 z1 z2 z3 z4 z5 xf0 xf1 xf2 xf3 xf4 xf5 zf0 zf1 zf2 zf3 zf4 zf5
        go_upto_region 12 with fail
        obtain ⟨w3, hw3⟩ : ∃ x, w2.alloc (.cells #[.int .i64 t0, .int .i64 t1, .string t2, .int .i64 t3, .int .i64 t4, .slice tA tl tq] 92) = x := ⟨_, rfl⟩
        have hb23 : Below w2.heap.size w2 w3 := by rw [← hw3]; exact (Below.refl _ _).alloc (Nat.le_refl _) _
        have H3 : Hid (w3.heap[w2.heap.size]? = some (.cells #[.int .i64 t0, .int .i64 t1, .string t2, .int .i64 t3, .int .i64 t4, .slice tA tl tq] 92 (0, 0))) := by rw [← hw3]; exact new_blk w2 _
        simp only [hw3]
        clear hw3
        have HQ3 := Lib.hid (below_blk hb23 HQ2.out)
        have HB3 := Lib.hid (HB2.out.trans (hb23.mono HB2.out.size))
        have HL3 : Hid (ExL (From wr.heap.size) w3 (e1.res (plL vl)) [.int .i64 t0, .int .i64 t1, .string t2, .int .i64 t3, .int .i64 t4, .slice tA tl tq]) := ExL.still (fun k h1 h2 => ⟨h1, hb23.block k h2⟩) _ _ HL2.out
        have hz3 := hb23.size
        clear hb23
        obtain ⟨u0, u1, u2, u3, u4, u5, _⟩ := box6 H3.out
        have u9 : w3.cell? ⟨w.heap.size + 2, 5, none⟩ = some v := by rw [Lib.cell_of_heap HQ3.out]; rfl
        go_wp2_with (at_builtin; refine wpList_append_own_at _ rfl _ _ 90 rfl (w.heap.size + 3) 92 i0 _ 6 72 Tryd.underlying90 HI.out HI0.out HI1.out HI2.out rfl (by decide) _ _ _ rfl ((own_bel HH.out.ho HB3.out).alloc _) ⟨w3.heap.size, 0, none⟩ 1 1 [.int .i64 t0, .int .i64 t1, .string t2, .int .i64 t3, .int .i64 t4, .slice tA tl tq] rfl rfl (ex_new _ _ _) (by simp [Value.oneCell']) (by rw [HLN.out]; unfold maxLen; omega) (by rw [HLN.out]; omega) (by rw [new_size]; omega) ?_)
        intro v9 w9 hown hgrow _ hob
        obtain ⟨A8, c8, rfl⟩ := own_slice hown
        obtain ⟨hq9, hnx⟩ := XpHead.next HH.out HE1.out HB3.out HL3.out hown hgrow hob
        have HN := Lib.hid hnx
        have u8 : w9.cell? ⟨w.heap.size + 2, 5, none⟩ = some v := by rw [Lib.cell_of_heap hq9]; rfl
        have u7 : w9.frozen? ⟨w.heap.size + 2, 5, none⟩ = false := Lib.frozen_of_heap hq9 5
        clear hown hgrow hob hq9 hnx u0 u1 u2 u3 u4 u5 u9
        cases okk <;> cases rb
        all_goals
          go_wp2_with fail
          go_roundg g
          case rel => exact ⟨k + 1, _, _, _, by have := HG.out; omega, by go_num, rfl, by show _ = _; rw [HTK.out, ← Bool.and_assoc, ← HOK.out]; rfl, HN⟩
          case measure => omega

  · have HRE := Lib.hid (HB0.out true (by intro h; first | rfl | (exfalso; simp at *; omega)) (by intro h; first | rfl | (exfalso; simp at *; omega)))
    have HRS : Hid (Ex.res (plL vl) (.mk a b name c d args) = .mk a b name c d (Ex.resL (plL vl) args)) := by show _ = _; simp at hn2 hn3; simp [Ex.res, hn2, hn3]
    clear HB0
    have HS2 := HST
    go_wp2_with fail
    clear x0 x1 x2 x3 x4 x5 z0 z1 z2 z3 z4 z5 xf0 xf1 xf2 xf3 xf4 xf5 zf0 zf1 zf2 zf3 zf4 zf5
    go_loopg [7, 11, 12, 13] m (fun g okv i _ _ wr => ∃ (k : Nat) (v : Value) (css : List (List Value)) (okk : Bool), k + g = m ∧ i = .int .i64 k ∧ okv = .bool okk ∧ Hid (okk = (true && Ex.shpL (zL vl) (args.take k))) ∧ Hid (XpHead (plL vl) w k args [.int .i64 a, .int .i64 b, .string (strB name), .int .i64 c, .int .i64 d, .slice A m q] a b (strB name) c d v wr css))
    case atStart => exact ⟨0, .slice none 0 0, [], true, by omega, rfl, (by first | rfl | simp [decide_eq_false h0]), by show _ = _; simp [Ex.shpL], HS2.out⟩
    case round =>
      obtain ⟨k, v, css, okk, hkg, rfl, rfl, HOK, HH⟩ := hrel
      have hz0 := HH.out.bel.size
      obtain ⟨x0, x1, x2, x3, x4, x5, xf0, xf1, xf2, xf3, xf4, xf5, hzx⟩ := box6 HH.out.hx
      obtain ⟨z0, z1, z2, z3, z4, z5, zf0, zf1, zf2, zf3, zf4, zf5, hzq⟩ := box6 HH.out.hq
      cases gk with
      | zero =>
        have hkm : k = m := by omega
        subst hkm
        have HT : Hid (args.take k = args) := List.take_of_length_le (by have := HM.out; omega)
        obtain ⟨A9, c9, hv9, hc9, hrow⟩ := own_exs HH.out.ho HH.out.ha
        rw [HT.out] at hv9 hc9 hrow
        have hln : (Ex.resL (plL vl) args).length = k := by rw [resL_len]; exact HM.out
        rw [hln] at hv9 hc9
        have HRO := Lib.hid hrow
        obtain ⟨r0, r1, r2, r3, r4, r5, g0, g1, g2, g3, g4, g5, _⟩ := box6 HH.out.hr
        subst hv9
        have hok2 : okk = R := by rw [HOK.out, HT.out]; exact HRE.out
        subst hok2
        have hnlt : ¬ k < k := by omega
        clear hkg hrow hln
        go_wp2_with fail
        refine bodyPost_ret (v := .tuple #[.agg #[.int .i64 a, .int .i64 b, .string (strB name), .int .i64 c, .int .i64 d, .slice A9 k c9], .bool okk]) ?_ rfl ?_
        · simp [results, Tryd.results65, go_sem, World.cell?_setCell_same, World.cell?_setCell_other, r0, r1, r2, r3, r4, r5]
        · refine ⟨_, rfl, ⟨_, _, _, _, _, _, _, _, rfl, ?_⟩, ?_⟩
          · rw [HRS.out]
            simp only [ExL]
            refine ⟨A9, c9, by simp only [exCells]; rw [resL_len, HM.out], by rw [resL_len, HM.out]; exact hc9, fun hne => ?_⟩
            obtain ⟨bb, o, hA, hbb, hrw⟩ := HRO.out hne
            refine ⟨bb, o, hA, show w.heap.size ≤ bb by omega, ExRow.still (S := From (w.heap.size + 3)) (fun j (h1 : w.heap.size + 3 ≤ j) _ => ⟨show w.heap.size ≤ j by omega, ?_⟩) _ bb o hbb hrw⟩
            exact set6_blk _ _ _ _ _ _ _ _ (by omega)
          · exact (((((HH.out.bel.setCell (p := ⟨w.heap.size + 1, 0, none⟩) (Nat.le_succ _) _).setCell (p := ⟨w.heap.size + 1, 1, none⟩) (Nat.le_succ _) _).setCell (p := ⟨w.heap.size + 1, 2, none⟩) (Nat.le_succ _) _).setCell (p := ⟨w.heap.size + 1, 3, none⟩) (Nat.le_succ _) _).setCell (p := ⟨w.heap.size + 1, 4, none⟩) (Nat.le_succ _) _).setCell (p := ⟨w.heap.size + 1, 5, none⟩) (Nat.le_succ _) _
      | succ g =>
        have hlt : k < m := by omega
        have HG := Lib.hid hkg
        have hd0 := HD.out
        have HB := Lib.hid HH.out.bel
        clear hkg
        obtain ⟨e1, he1⟩ : ∃ e1, args[k]? = some e1 := ⟨_, List.getElem?_eq_getElem (by have := HM.out; omega)⟩
        have HE1 := Lib.hid he1
        have hbg := Ex.big_at args k e1 he1
        obtain ⟨bb, o, rfl, hS, hrow⟩ := HR.out (fun e => by have := HM.out; rw [e] at this; simp at this; omega)
        obtain ⟨cs, hcs, hex⟩ := ExRow.get args bb o k e1 hrow he1
        obtain ⟨a1, b1, s1, c1, d1, A1, l1, q1, rfl⟩ := hex.plain
        have hbb : bb < w.heap.size := hcs.lt
        have hw : ∀ j u, w.cell? ⟨bb, j, none⟩ = some u → wr.cell? ⟨bb, j, none⟩ = some u := fun j u hu => (HB.out.cell (p := ⟨bb, j, none⟩) hbb).trans hu
        have y0 := hw _ _ (hcs 0 _ rfl)
        have y1 := hw _ _ (hcs 1 _ rfl)
        have y2 := hw _ _ (hcs 2 _ rfl)
        have y3 := hw _ _ (hcs 3 _ rfl)
        have y4 := hw _ _ (hcs 4 _ rfl)
        have y5 := hw _ _ (hcs 5 _ rfl)
        rw [Nat.add_zero] at y0
        have HEX := Lib.hid hex
        clear hw hcs hrow he1 hex hS
        have hln : (Ex.resL (plL vl) (args.take k)).length = k := rx_len (by have := HM.out; omega)
        have HLN := Lib.hid hln
        have HTK := Lib.hid (shpL_take (zL vl) args k e1 HE1.out)
        obtain ⟨rb, hrb⟩ : ∃ x, e1.shp (zL vl) = x := ⟨_, rfl⟩
        have hex2 := IH.out e1 (by omega) S wr B vn vc a1 b1 s1 c1 d1 A1 l1 q1 (HVS.out.still fun k h1 h2 => ⟨h1, HB.out.block k h2⟩) (ExL.still (fun k hk1 hk2 => ⟨hk1, HB.out.block k hk2⟩) e1 _ HEX.out)
        rw [hrb] at hex2 HTK
        have HEX2 := Lib.hid hex2
        clear hbg hd0 hex2 hrb hln
        go_wp2_with fail
        refine HEX2.out.mono ?_
        rintro e' w2 ⟨v2, rfl, ⟨t0, t1, t2, t3, t4, tA, tl, tq, rfl, hl⟩, hb⟩
        have HB2 := Lib.hid hb
        have HL2 := Lib.hid hl
        have HX2 := Lib.hid (below_blk hb HH.out.hx)
        have HQ2 := Lib.hid (below_blk hb HH.out.hq)
        have hz2 := hb.size
        clear hb hl y0 y1 y2 y3 y4 y5 x0 x1 x2 x3 x4 x5 z0 z1 z2 z3 z4 z5 xf0 xf1 xf2 xf3 xf4 xf5 zf0 zf1 zf2 zf3 zf4 zf5
        go_upto_region 12 with fail
        obtain ⟨w3, hw3⟩ : ∃ x, w2.alloc (.cells #[.int .i64 t0, .int .i64 t1, .string t2, .int .i64 t3, .int .i64 t4, .slice tA tl tq] 92) = x := ⟨_, rfl⟩
        have hb23 : Below w2.heap.size w2 w3 := by rw [← hw3]; exact (Below.refl _ _).alloc (Nat.le_refl _) _
        have H3 : Hid (w3.heap[w2.heap.size]? = some (.cells #[.int .i64 t0, .int .i64 t1, .string t2, .int .i64 t3, .int .i64 t4, .slice tA tl tq] 92 (0, 0))) := by rw [← hw3]; exact new_blk w2 _
        simp only [hw3]
        clear hw3
        have HQ3 := Lib.hid (below_blk hb23 HQ2.out)
        have HB3 := Lib.hid (HB2.out.trans (hb23.mono HB2.out.size))
        have HL3 : Hid (ExL (From wr.heap.size) w3 (e1.res (plL vl)) [.int .i64 t0, .int .i64 t1, .string t2, .int .i64 t3, .int .i64 t4, .slice tA tl tq]) := ExL.still (fun k h1 h2 => ⟨h1, hb23.block k h2⟩) _ _ HL2.out
        have hz3 := hb23.size
        clear hb23
        obtain ⟨u0, u1, u2, u3, u4, u5, _⟩ := box6 H3.out
        have u9 : w3.cell? ⟨w.heap.size + 2, 5, none⟩ = some v := by rw [Lib.cell_of_heap HQ3.out]; rfl
        go_wp2_with (at_builtin; refine wpList_append_own_at _ rfl _ _ 90 rfl (w.heap.size + 3) 92 i0 _ 6 72 Tryd.underlying90 HI.out HI0.out HI1.out HI2.out rfl (by decide) _ _ _ rfl ((own_bel HH.out.ho HB3.out).alloc _) ⟨w3.heap.size, 0, none⟩ 1 1 [.int .i64 t0, .int .i64 t1, .string t2, .int .i64 t3, .int .i64 t4, .slice tA tl tq] rfl rfl (ex_new _ _ _) (by simp [Value.oneCell']) (by rw [HLN.out]; unfold maxLen; omega) (by rw [HLN.out]; omega) (by rw [new_size]; omega) ?_)
        intro v9 w9 hown hgrow _ hob
        obtain ⟨A8, c8, rfl⟩ := own_slice hown
        obtain ⟨hq9, hnx⟩ := XpHead.next HH.out HE1.out HB3.out HL3.out hown hgrow hob
        have HN := Lib.hid hnx
        have u8 : w9.cell? ⟨w.heap.size + 2, 5, none⟩ = some v := by rw [Lib.cell_of_heap hq9]; rfl
        have u7 : w9.frozen? ⟨w.heap.size + 2, 5, none⟩ = false := Lib.frozen_of_heap hq9 5
        clear hown hgrow hob hq9 hnx u0 u1 u2 u3 u4 u5 u9
        cases okk <;> cases rb
        all_goals
          go_wp2_with fail
          go_roundg g
          case rel => exact ⟨k + 1, _, _, _, by have := HG.out; omega, by go_num, rfl, by show _ = _; rw [HTK.out, ← Bool.and_assoc, ← HOK.out]; rfl, HN⟩
          case measure => omega

theorem xexpr_all (vl : List Vr) (hvn : vl.length ≤ 100000) : ∀ n, XpC vl n
  | 0 => fun e h => by cases e; simp [Ex.big] at h
  | n + 1 => xexpr_step vl hvn n (xexpr_all vl hvn n)
end Go.Proofs.YtgblgkkbggdopaaDoor

/-
  Statements with the places of their names, and the head of the resolver's loop over statements. Conditions: all names are declared and stand for what they are declared as.
-/
namespace Go.Proofs.YtgblgkkbggdopaaDoor
open Go.RowKit

mutual
/-- A statement with the places of its names. -/
def St.res (f : Pl) : St → St
  | .mk kind nm sl sz p v b e => if kind = 1 ∨ kind = 2 then .mk kind nm ((f nm).getD (0, 0)).1 ((f nm).getD (0, 0)).2 (p.res f) (v.res f) (St.resL f b) (St.resL f e) else .mk kind nm sl sz (p.res f) (v.res f) (St.resL f b) (St.resL f e)
def St.resL (f : Pl) : List St → List St
  | [] => []
  | s :: r => s.res f :: St.resL f r
end
mutual
/-- All names are declared and stand for what they are declared as. -/
def St.rok (f : Pl) : St → Prop
  | .mk kind nm _ _ p v b e => (kind = 1 → ∃ x, f nm = some x ∧ ¬ 0 < x.2) ∧ (kind = 2 → ∃ x, f nm = some x ∧ 0 < x.2) ∧ nm.length ≤ 4096 ∧ p.rok f ∧ v.rok f ∧ St.rokL f b ∧ St.rokL f e
def St.rokL (f : Pl) : List St → Prop
  | [] => True
  | s :: r => s.rok f ∧ St.rokL f r
end
theorem srokL_at (f : Pl) : ∀ (l : List St) (k : Nat) (s : St), St.rokL f l → l[k]? = some s → s.rok f
  | [], _, _, _, h => by simp at h
  | x :: r, 0, s, hs, h => by
    simp only [List.getElem?_cons_zero, Option.some.injEq] at h
    subst h
    simp only [St.rokL] at hs
    exact hs.1
  | x :: r, k + 1, s, hs, h => by
    simp only [List.getElem?_cons_succ] at h
    simp only [St.rokL] at hs
    exact srokL_at f r k s hs.2 h
theorem sresL_take (f : Pl) : ∀ (l : List St) (k : Nat) (s : St), l[k]? = some s → St.resL f (l.take (k + 1)) = St.resL f (l.take k) ++ [s.res f]
  | [], _, _, h => by simp at h
  | x :: r, 0, s, h => by
    simp only [List.getElem?_cons_zero, Option.some.injEq] at h
    subst h
    simp [St.resL]
  | x :: r, k + 1, s, h => by
    simp only [List.getElem?_cons_succ] at h
    simp [St.resL, sresL_take f r k s h]
theorem sresL_len (f : Pl) : ∀ (l : List St), (St.resL f l).length = l.length
  | [] => rfl
  | x :: r => by simp [St.resL, sresL_len f r]
theorem ry_len {f : Pl} {l : List St} {k : Nat} (hk : k ≤ l.length) : (St.resL f (l.take k)).length = k := by
  rw [sresL_len, List.length_take]; omega

/-- The loop's head: k statements are copied. -/
structure RyHead (f : Pl) (w0 : World) (k : Nat) (l : List St) (v : Value) (wr : World) (css : List (List Value)) : Prop where
  b : Below w0.heap.size w0 wr
  o : wr.ownsRow w0.heap.size 94 18 v (St.resL f (l.take k)).length css.flatten
  a : StAll (Sv w0.heap.size v) wr (St.resL f (l.take k)) css

theorem RyHead.start (f : Pl) (w0 : World) (l : List St) : RyHead f w0 0 l (.slice none 0 0) w0 [] := ⟨Below.refl _ _, World.ownsRow_nil _ _ _ _, trivial⟩

/-- A statement more. -/
theorem RyHead.next {k : Nat} {f : Pl} {w0 wr w2 w3 : World} {l : List St} {v v' : Value} {css : List (List Value)} {s : St} {cs : List Value} {o : Obj} (h : RyHead f w0 k l v wr css)
    (hk : l[k]? = some s) (hb : Below wr.heap.size wr w2) (hs : StL (From wr.heap.size) w2 (s.res f) cs)
    (hown : w3.ownsRow w0.heap.size 94 18 v' ((St.resL f (l.take k)).length + 1) (css.flatten ++ cs)) (hg : (w2.alloc o).grownBy w3 v.ownBlock) (hob : v'.ownBlock = v.ownBlock ∨ v'.ownBlock = some (w2.heap.size + 1)) :
    RyHead f w0 (k + 1) l v' w3 (css ++ [cs]) := by
  have hz := hb.size
  have hob2 : ∀ b, v.ownBlock = some b → w0.heap.size ≤ b ∧ b < wr.heap.size := fun b hb => by
    rcases h.o.2 with ⟨rfl, _⟩ | ⟨g, cap, cur, rfl, h2, h3, _⟩
    · cases hb
    · simp only [Value.ownBlock, Option.some.injEq] at hb; subst hb; exact ⟨h2, lt_of_block h3⟩
  have hblk : ∀ k, k < w2.heap.size → v.ownBlock ≠ some k → w3.heap[k]? = w2.heap[k]? := fun k hk1 hk2 =>
    (hg.block k (by rw [new_size]; omega) (fun e => hk2 e.symm)).trans (alloc_blk w2 o hk1)
  have hnot : ∀ k, k < w2.heap.size → v.ownBlock ≠ some k → v'.ownBlock ≠ some k := fun k hk1 hk2 h => by
    rcases hob with h' | h'
    · exact hk2 (h' ▸ h)
    · rw [h'] at h; injection h with h; omega
  refine ⟨?_, ?_, ?_⟩
  · have hk2 := h.b.trans (hb.mono h.b.size)
    exact ⟨hg.os.trans hk2.os, hg.tape.trans hk2.tape, hg.output.trans hk2.output, by have := hg.size; rw [new_size] at this; have := hk2.size; omega, fun k hk1 =>
      (hblk k (by have := hk2.size; omega) (fun h => by have := (hob2 k h).1; omega)).trans (hk2.block k hk1)⟩
  · rw [sresL_take f l k s hk, List.length_append, List.flatten_append]; simpa using hown
  · rw [sresL_take f l k s hk]
    refine StAll.snoc ?_ _ css ?_
    · exact StL.still (fun k (hk1 : wr.heap.size ≤ k) hk2 => ⟨⟨by have := h.b.size; omega, hnot k hk2 (fun h => by have := (hob2 k h).2; omega)⟩, hblk k hk2 (fun h => by have := (hob2 k h).2; omega)⟩) (s.res f) cs hs
    · exact StAll.still (fun k hk1 hk2 => ⟨⟨hk1.1, hnot k (by omega) hk1.2⟩, (hblk k (by omega) hk1.2).trans (hb.block k hk2)⟩) _ css h.a

/-- At the loop's end. -/
theorem RyHead.done {f : Pl} {w0 wr : World} {l : List St} {v : Value} {css : List (List Value)} (h : RyHead f w0 l.length l v wr css) : VSts w0.heap.size wr (St.resL f l) v := by
  have h1 := own_sts h.o h.a
  rwa [List.take_length] at h1

end Go.Proofs.YtgblgkkbggdopaaDoor

/-
  Regions that draw their order, with calls first and stores behind them: a load may be taken first where nobody writes its cell until the calls that wait for it have come up; behind the last of the calls the condition on the world is dropped. No conditions of its own.
-/
namespace Go.Proofs.YtgblgkkbggdopaaDoor
open Go

section
variable {P : Program} {ops : Array Oper} {Q : Exit → Act → World → Prop} {md : Region.Mode} {S : World → Prop} {R : List Nat}

/-- All of R have come up. -/
def lstd (R : List Nat) (l : Array Bool) : Bool := R.all fun i => l.getD i false

/-- Whatever order is picked from here on; and S holds behind every operation till all of R have come up. -/
def wpAnyG (P : Program) (md : Region.Mode) (ops : Array Oper) (Q : Exit → Act → World → Prop) (S : World → Prop) (R : List Nat) : Nat → Array Bool → Act → World → Prop
  | 0, l, a, w => Region.ready md ops l = [] ∧ Q .normal a w
  | fuel + 1, l, a, w => if lstd R l = true then wpAny P md ops Q (fuel + 1) l a w else
      (Region.ready md ops l = [] → Q .normal a w) ∧
      ∀ i ∈ Region.ready md ops l, wpOp P ops Q i (fun a' w' => S w' ∧ wpAnyG P md ops Q S R fuel (l.setIfInBounds i true) a' w') a w

theorem wpAny_of_G : ∀ (fuel : Nat) (l : Array Bool) (a : Act) (w : World), wpAnyG P md ops Q S R fuel l a w → wpAny P md ops Q fuel l a w
  | 0, _, _, _, h => h
  | fuel + 1, l, a, w, h => by
    unfold wpAnyG at h
    split at h
    · exact h
    · exact ⟨h.1, fun i hi => wpOp_mono (fun a' w' h' => wpAny_of_G fuel _ a' w' h'.2) (h.2 i hi)⟩

theorem wpAnyG_rel {fuel : Nat} {l : Array Bool} {a : Act} {w : World} (h : lstd R l = true) (hw : wpAny P md ops Q fuel l a w) : wpAnyG P md ops Q S R fuel l a w := by
  cases fuel with
  | zero => exact hw
  | succ n => unfold wpAnyG; rw [if_pos h]; exact hw

theorem lstd_no {l : Array Bool} {c : Nat} (hc : c ∈ R) (h : l.getD c true = false) : lstd R l = false := by
  cases hl : lstd R l with
  | false => rfl
  | true =>
    have h1 := List.all_eq_true.1 hl c hc
    rcases Nat.lt_or_ge c l.size with h' | h'
    · simp [h'] at h h1; rw [h] at h1; cases h1
    · simp [Array.getElem?_eq_none h'] at h1
theorem lstd_set {l : Array Bool} {i : Nat} (hi : i ∉ R) : lstd R (l.setIfInBounds i true) = lstd R l := by
  unfold lstd
  rw [Bool.eq_iff_iff, List.all_eq_true, List.all_eq_true]
  constructor
  · intro h c hc
    have := h c hc
    rwa [getD_set_ne false (fun (e : i = c) => hi (by rw [e]; exact hc))] at this
  · intro h c hc
    rw [getD_set_ne false (fun (e : i = c) => hi (by rw [e]; exact hc))]
    exact h c hc

theorem not_on {i : Nat} {oj : Oper} {l : Array Bool} (hr : i ∈ Region.ready md ops l) (hall : ∀ e ∈ oj.after, Region.binds md e = true → l.getD e.on false = true) : ∀ e ∈ oj.after, Region.binds md e = true → e.on ≠ i := fun e he hb heq => by
  have h1 := hall e he hb
  have h0 := (mem_ready.1 hr).1
  rw [heq] at h1
  rcases Nat.lt_or_ge i l.size with h' | h'
  · simp [h'] at h0 h1; rw [h0] at h1; cases h1
  · simp [Array.getElem?_eq_none h'] at h1

/-- What a call of R waits for may be taken first, if it yields its value in every world that meets S. -/
theorem wpAnyG_first {i c : Nat} {oi oc : Oper} {v : Value} (hi : ops[i]? = some oi) (hsel : ∀ (j : Nat) (o : Oper) cs b, ops[j]? = some o → o.op ≠ .select cs b)
    (hQ : ∀ c a w, Q (.panic c) (a.put oi.dst v) w → Q (.panic c) a w) (hcR : c ∈ R) (hci : c ≠ i) (hoc : ops[c]? = some oc) (hed : ∃ e ∈ oc.after, Region.binds md e = true ∧ e.on = i) :
    ∀ (fuel : Nat) (l : Array Bool) (a : Act) (w : World), l.getD c true = false →
      (∀ j oj, ops[j]? = some oj → j ≠ i → l.getD j true = false → (∀ e ∈ oj.after, Region.binds md e = true → e.on ≠ i) → oi.apart ops oj = true) →
      i ∈ Region.ready md ops l → YieldsIf P ops S oi v a → S w →
      wpAnyG P md ops Q S R fuel (l.setIfInBounds i true) (a.put oi.dst v) w → wpAnyG P md ops Q S R (fuel + 1) l a w := by
  intro fuel
  induction fuel with
  | zero =>
    intro l a w hcl _ hr hy hS H
    unfold wpAnyG
    rw [if_neg (by rw [lstd_no hcR hcl]; simp)]
    refine ⟨fun h => (by rw [h] at hr; cases hr), fun j hj => ?_⟩
    by_cases hji : j = i
    · subst hji; exact hy.wpOp hi hS ⟨hS, H⟩
    · have := ready_mono hj hji
      rw [H.1] at this
      cases this
  | succ fuel ih =>
    intro l a w hcl hfree hr hy hS H
    have hcl2 : (l.setIfInBounds i true).getD c true = false := by rw [getD_set_ne true (Ne.symm hci)]; exact hcl
    have H2 := H
    unfold wpAnyG at H
    rw [if_neg (by rw [lstd_no hcR hcl2]; simp)] at H
    unfold wpAnyG
    rw [if_neg (by rw [lstd_no hcR hcl]; simp)]
    refine ⟨fun h => (by rw [h] at hr; cases hr), fun j hj => ?_⟩
    by_cases hji : j = i
    · subst hji; exact hy.wpOp hi hS ⟨hS, H2⟩
    · have h1 := H.2 j (ready_mono hj hji)
      obtain ⟨hjun, oj, hoj, hall⟩ := mem_ready.1 hj
      have hnot := not_on hr hall
      have hjc : c ≠ j := fun e => by
        subst e
        obtain rfl := Option.some.inj (hoc.symm.trans hoj)
        obtain ⟨e, he, hb, ho⟩ := hed
        exact hnot e he hb ho
      have h2 := wpOp_putIf hoj (hfree j oj hoj hji hjun hnot) (fun cs b => hsel i oi cs b hi) (fun cs b => hsel j oj cs b hoj) hQ hy h1
      have hfree' : ∀ k ok, ops[k]? = some ok → k ≠ i → (l.setIfInBounds j true).getD k true = false →
          (∀ e ∈ ok.after, Region.binds md e = true → e.on ≠ i) → oi.apart ops ok = true := fun k ok hk hki hun hno => by
        refine hfree k ok hk hki ?_ hno
        by_cases hjk : j = k
        · subst hjk; exact hjun
        · rw [getD_set_ne true hjk] at hun; exact hun
      refine wpOp_mono (fun a' w' h3 => ⟨h3.2.1, ih (l.setIfInBounds j true) a' w' (by rw [getD_set_ne true (Ne.symm hjc)]; exact hcl) hfree' (ready_mono hr (Ne.symm hji)) h3.1 h3.2.1 ?_⟩) h2
      rw [Array.setIfInBounds_comm _ _ hji]
      exact h3.2.2

/-- What is not of R may be taken first, if it yields its value in whatever world. -/
theorem wpAnyG_any {i : Nat} {oi : Oper} {v : Value} (hi : ops[i]? = some oi) (hsel : ∀ (j : Nat) (o : Oper) cs b, ops[j]? = some o → o.op ≠ .select cs b)
    (hQ : ∀ c a w, Q (.panic c) (a.put oi.dst v) w → Q (.panic c) a w) (hiR : i ∉ R) :
    ∀ (fuel : Nat) (l : Array Bool) (a : Act) (w : World),
      (∀ j oj, ops[j]? = some oj → j ≠ i → l.getD j true = false → (∀ e ∈ oj.after, Region.binds md e = true → e.on ≠ i) → oi.apart ops oj = true) →
      i ∈ Region.ready md ops l → Yields P ops oi v a → S w →
      wpAnyG P md ops Q S R fuel (l.setIfInBounds i true) (a.put oi.dst v) w → wpAnyG P md ops Q S R (fuel + 1) l a w := by
  intro fuel
  induction fuel with
  | zero =>
    intro l a w hfree hr hy hS H
    unfold wpAnyG
    split
    · exact wpAny_first hi hsel hQ 0 l a w hfree hr hy (wpAny_of_G _ _ _ _ H)
    · refine ⟨fun h => (by rw [h] at hr; cases hr), fun j hj => ?_⟩
      by_cases hji : j = i
      · subst hji; exact hy.wpOp hi ⟨hS, H⟩
      · have := ready_mono hj hji
        rw [H.1] at this
        cases this
  | succ fuel ih =>
    intro l a w hfree hr hy hS H
    unfold wpAnyG
    split
    · exact wpAny_first hi hsel hQ (fuel + 1) l a w hfree hr hy (wpAny_of_G _ _ _ _ H)
    · rename_i hno
      have H2 := H
      unfold wpAnyG at H
      rw [if_neg (by rw [lstd_set hiR]; exact hno)] at H
      refine ⟨fun h => (by rw [h] at hr; cases hr), fun j hj => ?_⟩
      by_cases hji : j = i
      · subst hji; exact hy.wpOp hi ⟨hS, H2⟩
      · have h1 := H.2 j (ready_mono hj hji)
        obtain ⟨hjun, oj, hoj, hall⟩ := mem_ready.1 hj
        have hnot := not_on hr hall
        have h2 := wpOp_put hoj (hfree j oj hoj hji hjun hnot) (fun cs b => hsel i oi cs b hi) (fun cs b => hsel j oj cs b hoj) hQ hy h1
        have hfree' : ∀ k ok, ops[k]? = some ok → k ≠ i → (l.setIfInBounds j true).getD k true = false →
            (∀ e ∈ ok.after, Region.binds md e = true → e.on ≠ i) → oi.apart ops ok = true := fun k ok hk hki hun hno => by
          refine hfree k ok hk hki ?_ hno
          by_cases hjk : j = k
          · subst hjk; exact hjun
          · rw [getD_set_ne true hjk] at hun; exact hun
        refine wpOp_mono (fun a' w' h3 => ⟨h3.2.1, ih (l.setIfInBounds j true) a' w' hfree' (ready_mono hr (Ne.symm hji)) h3.1 h3.2.1 ?_⟩) h2
        rw [Array.setIfInBounds_comm _ _ hji]
        exact h3.2.2

/-- Is number i waited for by number c? -/
def waits (md : Region.Mode) (ops : Array Oper) (c i : Nat) : Bool := match ops[c]? with
  | some oc => oc.after.any fun e => Region.binds md e && e.on == i
  | none => false
theorem waits_spec {c i : Nat} (h : waits md ops c i = true) : ∃ oc, ops[c]? = some oc ∧ ∃ e ∈ oc.after, Region.binds md e = true ∧ e.on = i := by
  unfold waits at h
  split at h
  · rename_i oc ho
    obtain ⟨e, he, hb⟩ := Array.any_eq_true'.1 h
    simp only [Bool.and_eq_true, beq_iff_eq] at hb
    exact ⟨oc, ho, e, he, hb⟩
  · cases h

/-- A load (or what yields in every world that meets S) is taken first. -/
theorem wpAnyG_take (c : Nat) {i : Nat} {oi : Oper} {v : Value} {fuel : Nat} {l : Array Bool} {a : Act} {w : World} (hi : ops[i]? = some oi)
    (hb : (Region.noSelect ops && (R.contains c && (c != i && (waits md ops c i && (!l.getD c true && (Region.free md ops l i && (Region.ready md ops l).contains i)))))) = true)
    (hQ : ∀ c a w, Q (.panic c) (a.put oi.dst v) w → Q (.panic c) a w) (hy : YieldsIf P ops S oi v a) (hS : S w)
    (h : wpAnyG P md ops Q S R fuel (l.setIfInBounds i true) (a.put oi.dst v) w) : wpAnyG P md ops Q S R (fuel + 1) l a w := by
  simp only [Bool.and_eq_true, Bool.not_eq_true', bne_iff_ne] at hb
  obtain ⟨h1, h2, h3, h4, h5, h6, h7⟩ := hb
  obtain ⟨oc, hoc, hed⟩ := waits_spec h4
  exact wpAnyG_first hi (Region.noSelect_spec h1) hQ (by simpa using h2) h3 hoc hed fuel l a w h5 (Region.free_spec hi h6) (by simpa using h7) hy hS h
/-- What yields in whatever world is taken first. -/
theorem wpAnyG_step {i : Nat} {oi : Oper} {v : Value} {fuel : Nat} {l : Array Bool} {a : Act} {w : World} (hi : ops[i]? = some oi)
    (hb : (Region.noSelect ops && (!R.contains i && (Region.free md ops l i && (Region.ready md ops l).contains i))) = true)
    (hQ : ∀ c a w, Q (.panic c) (a.put oi.dst v) w → Q (.panic c) a w) (hy : Yields P ops oi v a) (hS : S w)
    (h : wpAnyG P md ops Q S R fuel (l.setIfInBounds i true) (a.put oi.dst v) w) : wpAnyG P md ops Q S R (fuel + 1) l a w := by
  simp only [Bool.and_eq_true, Bool.not_eq_true'] at hb
  obtain ⟨h1, h2, h6, h7⟩ := hb
  exact wpAnyG_any hi (Region.noSelect_spec h1) hQ (by simpa using h2) fuel l a w (Region.free_spec hi h6) (by simpa using h7) hy hS h

/-- Number i alone may come up. -/
theorem wpAnyG_one {i : Nat} {o : Oper} {fuel : Nat} {l : Array Bool} {a : Act} {w : World} (hr : ((Region.ready md ops l == [i]) && !lstd R l) = true) (ho : ops[i]? = some o)
    (h : ∀ K : Act → World → Prop, Shut (∀ a' w', S w' → (S w' → wpAnyG P md ops Q S R fuel (l.setIfInBounds i true) a' w') → K a' w') → if Region.wanted o (yielded ops a.tmps) = true then Oper.wp P o a w K Q else K (a.put o.dst undef) w) :
    wpAnyG P md ops Q S R (fuel + 1) l a w := by
  simp only [Bool.and_eq_true, beq_iff_eq, Bool.not_eq_true'] at hr
  obtain ⟨h1, h2⟩ := hr
  unfold wpAnyG
  rw [if_neg (by rw [h2]; simp), h1]
  refine ⟨fun h => (by cases h), fun j hj => ?_⟩
  obtain rfl := List.mem_singleton.1 hj
  exact wpOp_step ho (fun K' hK => h K' (fun a w hS hW => hK a w ⟨hS, hW hS⟩))
/-- The same, behind the calls. -/
theorem wpAny_one {i : Nat} {o : Oper} {fuel : Nat} {l : Array Bool} {a : Act} {w : World} (hr : (Region.ready md ops l == [i]) = true) (ho : ops[i]? = some o)
    (h : ∀ K : Act → World → Prop, Shut (∀ a' w', wpAny P md ops Q fuel (l.setIfInBounds i true) a' w' → K a' w') → if Region.wanted o (yielded ops a.tmps) = true then Oper.wp P o a w K Q else K (a.put o.dst undef) w) :
    wpAny P md ops Q (fuel + 1) l a w := by
  rw [beq_iff_eq] at hr
  refine ⟨fun h => (by rw [hr] at h; cases h), fun j hj => ?_⟩
  rw [hr] at hj
  obtain rfl := List.mem_singleton.1 hj
  exact wpOp_step ho (fun K' hK => h K' (fun a w hW => hK a w hW))

/-- The beginning. -/
theorem wp_region_G (R : List Nat) (S : World → Prop) {id : Nat} {a : Act} {w : World} (hm : P.follows .mixedOrders = true) (h : wpAnyG P .any ops Q S R ops.size (Array.replicate ops.size false) a w.drew) : (Code.region id ops true).wp P Q a w :=
  wp_region_any hm (wpAny_of_G _ _ _ _ h)
end
end Go.Proofs.YtgblgkkbggdopaaDoor
