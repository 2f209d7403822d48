/-
  The walk of the law SyntaxGroups. Conditions: as for awake.
-/
import Derived.Test.YtdlnpfocmgclmaaDoorWalkSm
import Derived.Test.YtdlnpfocmgclmaaDoorWalkAw
import Derived.Test.YtdlnpfocmgclmaaDoorMathY
import Derived.Laws.IdiomStrings
namespace Go.Proofs.YtdlnpfocmgclmaaDoor
open Go.RowKit

theorem strB_sz (l : List UInt8) : (strB l).size = l.length := by show l.toArray.size = _; simp
theorem sgn_len (i : Nat) : (sgn i).length ≤ 2 := by unfold sgn; split <;> simp

abbrev sgZ : Obj := .cells #[.string ⟨#[124, 124]⟩, .string ⟨#[38, 38]⟩, .string ⟨#[61, 61]⟩, .string ⟨#[33, 61]⟩, .string ⟨#[60]⟩, .string ⟨#[60, 61]⟩, .string ⟨#[62]⟩, .string ⟨#[62, 61]⟩, .string ⟨#[43]⟩, .string ⟨#[45]⟩, .string ⟨#[42]⟩, .string ⟨#[47]⟩, .string ⟨#[37]⟩] 9
abbrev lvZ : Obj := .cells #[.int .i64 0, .int .i64 1, .int .i64 2, .int .i64 2, .int .i64 2, .int .i64 2, .int .i64 2, .int .i64 2, .int .i64 3, .int .i64 3, .int .i64 4, .int .i64 4, .int .i64 4] 3
theorem sg_at : ∀ (j : Nat) (_ : j < 13), (#[Value.string ⟨#[124, 124]⟩, .string ⟨#[38, 38]⟩, .string ⟨#[61, 61]⟩, .string ⟨#[33, 61]⟩, .string ⟨#[60]⟩, .string ⟨#[60, 61]⟩, .string ⟨#[62]⟩, .string ⟨#[62, 61]⟩, .string ⟨#[43]⟩, .string ⟨#[45]⟩, .string ⟨#[42]⟩, .string ⟨#[47]⟩, .string ⟨#[37]⟩] : Array Value)[j]? = some (.string (strB (sgn j)))
  | 0, _ => rfl
  | 1, _ => rfl
  | 2, _ => rfl
  | 3, _ => rfl
  | 4, _ => rfl
  | 5, _ => rfl
  | 6, _ => rfl
  | 7, _ => rfl
  | 8, _ => rfl
  | 9, _ => rfl
  | 10, _ => rfl
  | 11, _ => rfl
  | 12, _ => rfl
theorem lv_at : ∀ (j : Nat) (_ : j < 13), (#[Value.int .i64 0, .int .i64 1, .int .i64 2, .int .i64 2, .int .i64 2, .int .i64 2, .int .i64 2, .int .i64 2, .int .i64 3, .int .i64 3, .int .i64 4, .int .i64 4, .int .i64 4] : Array Value)[j]? = some (.int .i64 (lvl j))
  | 0, _ => rfl
  | 1, _ => rfl
  | 2, _ => rfl
  | 3, _ => rfl
  | 4, _ => rfl
  | 5, _ => rfl
  | 6, _ => rfl
  | 7, _ => rfl
  | 8, _ => rfl
  | 9, _ => rfl
  | 10, _ => rfl
  | 11, _ => rfl
  | 12, _ => rfl

theorem chain {w V w2 : World} (h1 : Below w.heap.size w V) (h2 : Below V.heap.size V w2) : Below w.heap.size w w2 := h1.trans (h2.mono h1.size)
theorem good_parse (l : List UInt8) (p : Pr) (n : Nat) (hg : goodT l = true) (he : parseS l = (p, n, 0)) (w : World) (hL : LW w) (hS : SymAt w) : Calls Tryd.prog 6 #[.string (strB l)] w fun e w' =>
    ∃ (A0 A1 A2 A3 A4 : Option Addr) (l0 q0 l1 q1 l2 q2 l3 q3 l4 q4 : Nat), e = .returned (.tuple #[.agg #[.slice A0 l0 q0, .slice A1 l1 q1, .slice A2 l2 q2, .slice A3 l3 q3, .slice A4 l4 q4], .int .i64 n, .int .i64 0]) ∧
      PrAt (From w.heap.size) w' p (.slice A0 l0 q0) (.slice A1 l1 q1) (.slice A2 l2 q2) (.slice A3 l3 q3) (.slice A4 l4 q4) ∧ Below w.heap.size w w' := by
  have e : (strB l).data.toList = l := by simp [strB]
  have h := parse_good (strB l) w hL hS (by rw [e]; exact hg)
  rw [e, he] at h
  refine h.mono ?_
  rintro e w' ⟨v, rfl, hv, hb⟩
  obtain ⟨A0, A1, A2, A3, A4, l0, q0, l1, q1, l2, q2, l3, q3, l4, q4, rfl, hp⟩ := hv
  exact ⟨A0, A1, A2, A3, A4, l0, q0, l1, q1, l2, q2, l3, q3, l4, q4, rfl, hp, hb⟩

/-- The one statement of 'tick', as its cells read. -/
theorem tick_cells {S : Nat → Prop} {w : World} {p : Pr} {c0 c1 c2 c4 : Value} {A : Option Addr} {l q : Nat} (h : PrAt S w p c0 c1 c2 (.slice A l q) c4)
    (ht : ∃ (s : St) (q : List UInt8) (a : Int) (c d : Int) (pl : Ex) (op vl : Int) (nm : List UInt8) (sl sz : Int) (args : List Ex), s = .mk a q c d pl (.mk op vl nm sl sz args) [] [] ∧ p.tick = [s] ∧ args.length = 2) :
    ∃ b o A' q', A = some ⟨b, o, none⟩ ∧ l = 1 ∧ w.cell? ⟨b, o + 15, none⟩ = some (.slice A' 2 q') := by
  obtain ⟨s, qn, a, c, d, pl, op, vl, nm, sl, sz, args, rfl, ht, hl⟩ := ht
  obtain ⟨_, _, _, h3, _⟩ := h
  rw [ht] at h3
  obtain ⟨A', c', hv, hc, hr⟩ := h3
  injection hv with e1 e2 e3
  obtain ⟨b, o, hA, _, hrow⟩ := hr (by simp)
  simp only [StRow] at hrow
  obtain ⟨⟨cs, hcs, hl'⟩, _⟩ := hrow
  simp only [StL] at hl'
  obtain ⟨cp, cv, B, c1, B', c2, rfl, hp, hve, _⟩ := hl'
  obtain ⟨_, _, _, _, _, _, _, _, rfl⟩ := hp.plain
  simp only [ExL] at hve
  obtain ⟨A'', q'', rfl, _⟩ := hve
  have := hcs 15 _ rfl
  rw [hl] at this
  exact ⟨b, o, A'', q'', e1.trans hA, e2, this⟩

/-- What Parse returns for the two texts: one program. -/
theorem grp_parse (i k : Nat) (hi : i < 13) (hk : k < 13) : ∃ (p : Pr) (n n' : Nat), p.big ≤ 100000 ∧ p.vars.length ≤ 100000 ∧
    (∃ (s : St) (q : List UInt8) (a : Int) (c d : Int) (pl : Ex) (op vl : Int) (nm : List UInt8) (sl sz : Int) (args : List Ex), s = .mk a q c d pl (.mk op vl nm sl sz args) [] [] ∧ p.tick = [s] ∧ args.length = 2) ∧
    goodT (flatT i k) = true ∧ goodT (grpT i k) = true ∧ parseS (flatT i k) = (p, n, 0) ∧ parseS (grpT i k) = (p, n', 0) := by
  obtain ⟨h1, h2, p, n, n', s, q, e1, e2, hb, hv, a, c, d, pl, op, vl, nm, sl, sz, args, hs, ht, hl⟩ := grp_facts i k hi hk
  exact ⟨p, n, n', hb, by rw [hv]; simp, ⟨s, q, a, c, d, pl, op, vl, nm, sl, sz, args, hs, ht, hl⟩, h1, h2, e1, e2⟩

set_option maxHeartbeats 4000000 in
set_option maxRecDepth 100000 in
theorem syntaxGroups_any (a b : Nat) (w : World) (ha : a ≤ 255) (hb : b ≤ 255) (hL : LW w) (hsym : SymAt w) : Calls Tryd.prog 3 #[.int .u8 a, .int .u8 b] w fun e w' => e = .returned (.bool true) ∧ Below w.heap.size w w' := by
  have HL := Lib.hid hL
  have HSY := Lib.hid hsym
  clear hL hsym
  obtain ⟨i, hi⟩ : ∃ K : Nat, a % 13 = K := ⟨_, rfl⟩
  obtain ⟨k, hk⟩ : ∃ c : Nat, b % 13 = c := ⟨_, rfl⟩
  have hi' : (a : Int) % 13 = (i : Int) := by omega
  have hk' : (b : Int) % 13 = (k : Int) := by omega
  have hi13 : i < 13 := by omega
  have hk13 : k < 13 := by omega
  clear hi hk
  go_enter Tryd.func3, Tryd.ntmps3
  go_wp2_with fail
  refine (awake2_any _ HL.out HSY.out).mono ?_
  rintro e w1 ⟨rfl, hb1⟩
  have HB1 := Lib.hid hb1
  have HL1 := Lib.hid (HL.out.below hb1 HL.out.big)
  have HSY1 := Lib.hid (HSY.out.below hb1)
  clear hb1
  go_wp2_with fail
  have hsz1 : (w1.alloc sgZ).heap.size = w1.heap.size + 1 := by simp
  have hsg : ((w1.alloc sgZ).alloc lvZ).heap[w1.heap.size]? = some sgZ := (alloc_blk (w1.alloc sgZ) lvZ (by omega)).trans (new_blk w1 sgZ)
  have hlv : ((w1.alloc sgZ).alloc lvZ).heap[w1.heap.size + 1]? = some lvZ := by have := new_blk (w1.alloc sgZ) lvZ; rw [hsz1] at this; exact this
  have HBW : Hid (Below w.heap.size w ((w1.alloc sgZ).alloc lvZ)) := (HB1.out.alloc HB1.out.size _).alloc (by have := HB1.out.size; rw [hsz1]; omega) _
  have HLW : Hid (LW ((w1.alloc sgZ).alloc lvZ)) := HL.out.below HBW.out HL.out.big
  have HSW : Hid (SymAt ((w1.alloc sgZ).alloc lvZ)) := HSY.out.below HBW.out
  obtain ⟨W, hW⟩ : ∃ x, (w1.alloc sgZ).alloc lvZ = x := ⟨_, rfl⟩
  rw [hW] at hsg hlv HBW HLW HSW ⊢
  clear hW hsz1 HB1 HL1 HSY1
  obtain ⟨n1, hn1⟩ : ∃ x, w1.heap.size = x := ⟨_, rfl⟩
  rw [hn1] at hsg hlv ⊢
  clear hn1
  have gi : W.cell? ⟨n1, i, none⟩ = some (.string (strB (sgn i))) := by rw [Lib.cell_of_heap hsg]; exact sg_at i hi13
  have gk : W.cell? ⟨n1, k, none⟩ = some (.string (strB (sgn k))) := by rw [Lib.cell_of_heap hsg]; exact sg_at k hk13
  have vi : W.cell? ⟨n1 + 1, i, none⟩ = some (.int .i64 (lvl i)) := by rw [Lib.cell_of_heap hlv]; exact lv_at i hi13
  have vk : W.cell? ⟨n1 + 1, k, none⟩ = some (.int .i64 (lvl k)) := by rw [Lib.cell_of_heap hlv]; exact lv_at k hk13
  have T1 : Hid (({ data := #[111, 110, 32, 116, 105, 99, 107, 32, 123, 32, 111, 117, 116, 112, 117, 116, 32, 120, 32] } : ByteArray) ++ strB (sgn i) ++ { data := #[32, 121, 32] } ++ strB (sgn k) ++ { data := #[32, 51, 59, 32, 125] } = strB (flatT i k)) := by show _ = _; apply ByteArray.ext; simp [strB, flatT]
  have T2 : Hid (({ data := #[111, 110, 32, 116, 105, 99, 107, 32, 123, 32, 111, 117, 116, 112, 117, 116, 32, 40, 120, 32] } : ByteArray) ++ strB (sgn i) ++ { data := #[32, 121, 41, 32] } ++ strB (sgn k) ++ { data := #[32, 51, 59, 32, 125] } = strB (leftT i k)) := by show _ = _; apply ByteArray.ext; simp [strB, leftT]
  have T3 : Hid (({ data := #[111, 110, 32, 116, 105, 99, 107, 32, 123, 32, 111, 117, 116, 112, 117, 116, 32, 120, 32] } : ByteArray) ++ strB (sgn i) ++ { data := #[32, 40, 121, 32] } ++ strB (sgn k) ++ { data := #[32, 51, 41, 59, 32, 125] } = strB (rightT i k)) := by show _ = _; apply ByteArray.ext; simp [strB, rightT]
  have s1 : (strB (sgn i)).size ≤ 2 := by rw [strB_sz]; exact sgn_len i
  have s2 : (strB (sgn k)).size ≤ 2 := by rw [strB_sz]; exact sgn_len k
  obtain ⟨si, hsi⟩ : ∃ x, strB (sgn i) = x := ⟨_, rfl⟩
  obtain ⟨sk, hsk⟩ : ∃ x, strB (sgn k) = x := ⟨_, rfl⟩
  rw [hsi] at gi T1 T2 T3 s1
  rw [hsk] at gk T1 T2 T3 s2
  have HC := Lib.hid (grp_parse i k hi13 hk13)
  have HD : Hid ((lvl i < lvl k → strB (grpT i k) = strB (rightT i k)) ∧ (¬lvl i < lvl k → strB (grpT i k) = strB (leftT i k))) := ⟨fun h => by unfold grpT; rw [if_pos h], fun h => by unfold grpT; rw [if_neg h]⟩
  simp only [hi', hk']
  clear hsi hsk hsg hlv hi' hk'
  obtain ⟨li, hli⟩ : ∃ x, lvl i = x := ⟨_, rfl⟩
  obtain ⟨lk, hlk⟩ : ∃ x, lvl k = x := ⟨_, rfl⟩
  rw [hli] at vi HD
  rw [hlk] at vk HD
  clear hli hlk
  obtain ⟨p, n, n', hpb, hpv, ht, g1, g2, e1, e2⟩ := HC.out
  have HPB := Lib.hid hpb
  have HPV := Lib.hid hpv
  have HT := Lib.hid ht
  have CF := Lib.hid (fun wx h1 h2 => good_parse _ p n g1 e1 wx h1 h2)
  have CG := Lib.hid (fun wx h1 h2 => good_parse _ p n' g2 e2 wx h1 h2)
  rw [← T1.out] at CF
  clear hpb hpv ht g1 g2 e1 e2 HC
  go_quiet (fail)
  go_wp2_with fail
  go_quiet (fail)
  go_wp2_with fail
  by_cases hlt : li < lk
  · rw [HD.out.1 hlt, ← T3.out] at CG
    have hlt' : (li : Int) < (lk : Int) := by omega
    clear hlt
    go_quiet (fail)
    go_wp2_with fail
    go_quiet (fail)
    go_wp2_with fail
    refine (CF.out _ (HL.out.below (below_drewN HBW.out _) HL.out.big) (HSY.out.below (below_drewN HBW.out _))).mono ?_
    rintro e w2 ⟨A0, A1, A2, A3, A4, l0, q0, l1, q1, l2, q2, l3, q3, l4, q4, rfl, hp, hb⟩
    have HB2 := Lib.hid (chain (below_drewN HBW.out _) hb)
    obtain ⟨bb, o, A', q', rfl, rfl, hc⟩ := tick_cells hp HT.out
    have HP := Lib.hid hp
    have HCC := Lib.hid hc
    clear hp hb hc gi gk vi vk s1 s2 CF
    go_wp2_with fail
    refine (CG.out _ (HL.out.below (HB2.out.alloc HB2.out.size _) HL.out.big) (HSY.out.below (HB2.out.alloc HB2.out.size _))).mono ?_
    rintro e w3 ⟨B0, B1, B2, B3, B4, m0, r0, m1, r1, m2, r2, m3, r3, m4, r4, rfl, hq, hb⟩
    have HB3 := Lib.hid (chain (HB2.out.alloc HB2.out.size (.cells #[.slice A0 l0 q0, .slice A1 l1 q1, .slice A2 l2 q2, .slice (some ⟨bb, o, none⟩) 1 q3, .slice A4 l4 q4] 28)) hb)
    have hk3 : ∀ j, j < w2.heap.size → w3.heap[j]? = w2.heap[j]? := fun j hj => (hb.block j (by rw [new_size]; omega)).trans (alloc_blk w2 _ hj)
    obtain ⟨y0, y1, y2, y3, y4, _, _, _, _, _, hz⟩ := box5 (below_blk hb (new_blk w2 (.cells #[.slice A0 l0 q0, .slice A1 l1 q1, .slice A2 l2 q2, .slice (some ⟨bb, o, none⟩) 1 q3, .slice A4 l4 q4] 28)))
    have HP3 : Hid (PrAt (fun _ => True) (w3.alloc (.cells #[.slice B0 m0 r0, .slice B1 m1 r1, .slice B2 m2 r2, .slice B3 m3 r3, .slice B4 m4 r4] 28)) p (.slice A0 l0 q0) (.slice A1 l1 q1) (.slice A2 l2 q2) (.slice (some ⟨bb, o, none⟩) 1 q3) (.slice A4 l4 q4)) := HP.out.still fun j _ hj => ⟨trivial, (alloc_blk w3 _ (by have := hb.size; rw [new_size] at this; omega)).trans (hk3 j hj)⟩
    have HQ3 : Hid (PrAt (fun _ => True) (w3.alloc (.cells #[.slice B0 m0 r0, .slice B1 m1 r1, .slice B2 m2 r2, .slice B3 m3 r3, .slice B4 m4 r4] 28)) p (.slice B0 m0 r0) (.slice B1 m1 r1) (.slice B2 m2 r2) (.slice B3 m3 r3) (.slice B4 m4 r4)) := hq.still fun j _ hj => ⟨trivial, alloc_blk w3 _ hj⟩
    have hbb := World.block_lt_of_cell? w2 _ HCC.out
    simp only at hbb
    have hc := (World.cell?_of_block (w := w2) (w' := w3) (a := ⟨bb, o + 15, none⟩) (hk3 bb hbb)).trans HCC.out
    have hbb3 : bb < w3.heap.size := by have := hb.size; rw [new_size] at this; omega
    clear hq hb CG hk3 hbb
    go_wp2_with fail
    refine (same2_any p HPB.out HPV.out (fun _ => True) _ _ _ _ _ _ _ _ _ _ _ _ _ _ _ _ _ _ _ _ _ _ _ _ _ _ _ _ _ _ _ HP3.out HQ3.out).mono ?_
    rintro e w4 ⟨rfl, hb⟩
    have HB4 := Lib.hid (chain (HB3.out.alloc HB3.out.size _) hb)
    clear hb y0 y1 y2 y3 y4 hc
    go_wp2_with fail
    go_ret
    exact ⟨rfl, HB4.out⟩
  · rw [HD.out.2 hlt, ← T2.out] at CG
    have hlt' : (lk : Int) ≤ (li : Int) := by omega
    clear hlt
    go_quiet (fail)
    go_wp2_with fail
    refine (CF.out _ (HL.out.below (below_drewN HBW.out _) HL.out.big) (HSY.out.below (below_drewN HBW.out _))).mono ?_
    rintro e w2 ⟨A0, A1, A2, A3, A4, l0, q0, l1, q1, l2, q2, l3, q3, l4, q4, rfl, hp, hb⟩
    have HB2 := Lib.hid (chain (below_drewN HBW.out _) hb)
    obtain ⟨bb, o, A', q', rfl, rfl, hc⟩ := tick_cells hp HT.out
    have HP := Lib.hid hp
    have HCC := Lib.hid hc
    clear hp hb hc gi gk vi vk s1 s2 CF
    go_wp2_with fail
    refine (CG.out _ (HL.out.below (HB2.out.alloc HB2.out.size _) HL.out.big) (HSY.out.below (HB2.out.alloc HB2.out.size _))).mono ?_
    rintro e w3 ⟨B0, B1, B2, B3, B4, m0, r0, m1, r1, m2, r2, m3, r3, m4, r4, rfl, hq, hb⟩
    have HB3 := Lib.hid (chain (HB2.out.alloc HB2.out.size (.cells #[.slice A0 l0 q0, .slice A1 l1 q1, .slice A2 l2 q2, .slice (some ⟨bb, o, none⟩) 1 q3, .slice A4 l4 q4] 28)) hb)
    have hk3 : ∀ j, j < w2.heap.size → w3.heap[j]? = w2.heap[j]? := fun j hj => (hb.block j (by rw [new_size]; omega)).trans (alloc_blk w2 _ hj)
    obtain ⟨y0, y1, y2, y3, y4, _, _, _, _, _, hz⟩ := box5 (below_blk hb (new_blk w2 (.cells #[.slice A0 l0 q0, .slice A1 l1 q1, .slice A2 l2 q2, .slice (some ⟨bb, o, none⟩) 1 q3, .slice A4 l4 q4] 28)))
    have HP3 : Hid (PrAt (fun _ => True) (w3.alloc (.cells #[.slice B0 m0 r0, .slice B1 m1 r1, .slice B2 m2 r2, .slice B3 m3 r3, .slice B4 m4 r4] 28)) p (.slice A0 l0 q0) (.slice A1 l1 q1) (.slice A2 l2 q2) (.slice (some ⟨bb, o, none⟩) 1 q3) (.slice A4 l4 q4)) := HP.out.still fun j _ hj => ⟨trivial, (alloc_blk w3 _ (by have := hb.size; rw [new_size] at this; omega)).trans (hk3 j hj)⟩
    have HQ3 : Hid (PrAt (fun _ => True) (w3.alloc (.cells #[.slice B0 m0 r0, .slice B1 m1 r1, .slice B2 m2 r2, .slice B3 m3 r3, .slice B4 m4 r4] 28)) p (.slice B0 m0 r0) (.slice B1 m1 r1) (.slice B2 m2 r2) (.slice B3 m3 r3) (.slice B4 m4 r4)) := hq.still fun j _ hj => ⟨trivial, alloc_blk w3 _ hj⟩
    have hbb := World.block_lt_of_cell? w2 _ HCC.out
    simp only at hbb
    have hc := (World.cell?_of_block (w := w2) (w' := w3) (a := ⟨bb, o + 15, none⟩) (hk3 bb hbb)).trans HCC.out
    have hbb3 : bb < w3.heap.size := by have := hb.size; rw [new_size] at this; omega
    clear hq hb CG hk3 hbb
    go_wp2_with fail
    refine (same2_any p HPB.out HPV.out (fun _ => True) _ _ _ _ _ _ _ _ _ _ _ _ _ _ _ _ _ _ _ _ _ _ _ _ _ _ _ _ _ _ _ HP3.out HQ3.out).mono ?_
    rintro e w4 ⟨rfl, hb⟩
    have HB4 := Lib.hid (chain (HB3.out.alloc HB3.out.size _) hb)
    clear hb y0 y1 y2 y3 y4 hc
    go_wp2_with fail
    go_ret
    exact ⟨rfl, HB4.out⟩
end Go.Proofs.YtdlnpfocmgclmaaDoor
