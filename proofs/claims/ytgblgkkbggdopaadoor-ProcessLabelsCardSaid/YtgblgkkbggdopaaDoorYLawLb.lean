/-
  The walk of the law ProcessLabels (gens59.py writes this text). Conditions: its first argument reads as a list of bytes, its second one is a byte; the tables of names hold what start-up laid.
-/
import Derived.Test.YtgblgkkbggdopaaDoorZaw
import Derived.Test.YtgblgkkbggdopaaDoorZav
import Derived.Test.YtgblgkkbggdopaaDoorYWalkLb
import Derived.Deep.RegionHeld3
import Derived.Deep.LoopGhost
import Derived.Deep.CutBlock
import Derived.Deep.Cut
namespace Go.Proofs.YtgblgkkbggdopaaDoor
open Go.RowKit

set_option maxHeartbeats 16000000 in
set_option maxRecDepth 100000 in
theorem processLabels_any (codes : Value) (sv inc ord : Int) (w : World) (hcd : BytesIn w.heap.size w codes) (hs0 : 0 ≤ sv) (hs1 : sv ≤ 255) (hg : GlAt w) (hgt : glTop ≤ w.heap.size) :
    Calls Tryd.prog 6 #[codes, .int .u8 sv, .int .i64 inc, .int .i64 ord] w fun e w' => e = .returned (.bool true) ∧ Below w.heap.size w w' := by
  obtain ⟨i0, hif, hz0, hz1, hz2⟩ := info_parts info_evs
  have HI := Lib.hid hif
  have HI0 := Lib.hid hz0
  have HI1 := Lib.hid hz1
  have HI2 := Lib.hid hz2
  clear hif hz0 hz1 hz2
  have HCD0 := Lib.hid hcd
  have HG := Lib.hid hg
  clear hcd hg
  go_enter Tryd.func6, Tryd.ntmps6
  go_wp2_with fail
  refine (awake6_any _).mono ?_
  rintro e w1 ⟨rfl, hb⟩
  have HB1 := Lib.hid hb
  clear hb
  go_wp2_with fail
  refine (new_any w.heap.size codes 240 w1 (HCD0.out.below HB1.out) HB1.out.size (by decide)).mono ?_
  rintro e w2 ⟨cb, NA, nn, nc, rfl, -, hcs, hcb1, hb⟩
  have HB2 := Lib.hid (HB1.out.trans (hb.mono HB1.out.size))
  have HC2 : Hid (CodesIn w.heap.size w2 cb) := ⟨NA, nn, nc, 0, hcs⟩
  have hcb : w.heap.size ≤ cb := Nat.le_trans HB1.out.size hcb1
  have hgt' : glTop ≤ cb := Nat.le_trans hgt hcb
  have hg2 : GlAt w2 := by
    obtain ⟨⟨T, fr, h1⟩, ⟨T', fr', h2⟩⟩ := HG.out
    exact ⟨⟨T, fr, below_blk HB2.out h1⟩, ⟨T', fr', below_blk HB2.out h2⟩⟩
  have HG2 := Lib.hid hg2
  have HCB := Lib.hid hcb
  clear hb hcs hcb1 HB1 hg2 hcb
  go_wp2_with fail
  refine (code_any w.heap.size cb w2 HC2.out HG2.out hgt').mono ?_
  rintro e w3 ⟨p, C0, C1, C2, C3, C4, k0, q0, k1, q1, k2, q2, k3, q3, k4, q4, hdp, rfl, hcin, hcc, hk⟩
  have HC3 := Lib.hid hcc
  have HCI := Lib.hid hcin
  have HDP := Lib.hid hdp
  have HB3 := Lib.hid (HB2.out.trans (hk.below HB2.out.size HCB.out))
  have HCL : Hid (cb < w2.heap.size) := HC2.out.lt
  have HZ2 : Hid (w2.heap.size ≤ w3.heap.size) := hk.size
  obtain ⟨lo, hlo⟩ : ∃ x, w2.heap.size = x := ⟨_, rfl⟩
  obtain ⟨hi, hhi⟩ : ∃ x, w3.heap.size = x := ⟨_, rfl⟩
  rw [hlo] at HCL HZ2 HCI
  rw [hhi] at HCI
  rw [hhi] at HZ2
  have HHI := Lib.hid hhi
  clear hcc hcin hdp hk HC2 HG2 HB2 hgt' hlo hhi
  go_upto_region 6 with fail
  obtain ⟨me, hme⟩ : ∃ x, sv % 3 = x := ⟨_, rfl⟩
  obtain ⟨w4, hw4⟩ : ∃ x, w3.alloc (.cells #[.slice C0 k0 q0, .slice C1 k1 q1, .slice C2 k2 q2, .slice C3 k3 q3, .slice C4 k4 q4] 29) = x := ⟨_, rfl⟩
  have hhi := HHI.out
  have h34 : Below w3.heap.size w3 w4 := by rw [← hw4]; exact rp_one1 _ _
  have hx4 : w4.heap[hi]? = some (.cells #[.slice C0 k0 q0, .slice C1 k1 q1, .slice C2 k2 q2, .slice C3 k3 q3, .slice C4 k4 q4] 29 (0, 0)) := by rw [← hw4, ← hhi]; exact new_blk _ _
  simp only [hme, hw4, hhi]
  have HX4 := Lib.hid hx4
  have HB4 := Lib.hid (HB3.out.trans (h34.mono HB3.out.size))
  have HC4 := Lib.hid (HC3.out.below h34)
  have HCI4 := Lib.hid (HCI.out.at' (w' := w4) fun k h1 h2 => h34.block k (by omega))
  have HNE : Hid (hi ≠ cb) := by show _ ≠ _; have := HCL.out; have := HZ2.out; omega
  have HS : Hid (∀ w', Keep cb w4 w' → w'.cell? ⟨hi, 0, none⟩ = some (.slice C0 k0 q0) ∧ w'.cell? ⟨hi, 1, none⟩ = some (.slice C1 k1 q1) ∧ w'.cell? ⟨hi, 2, none⟩ = some (.slice C2 k2 q2) ∧ w'.cell? ⟨hi, 3, none⟩ = some (.slice C3 k3 q3) ∧ w'.cell? ⟨hi, 4, none⟩ = some (.slice C4 k4 q4)) := fun w' hk => by
    have hx := hk.blk HX4.out HNE.out
    obtain ⟨b0, b1, b2, b3, b4, _⟩ := box5 hx
    exact ⟨b0, b1, b2, b3, b4⟩
  have HEV : Hid (∀ W', Below w4.heap.size w4 W' → Calls Tryd.prog 11 #[.pointer (some ⟨cb, 0, none⟩), .int .i64 8] W' fun e w6 => ∃ (l : List (List Int)) (A : Option Addr) (lc : Nat), e = .returned (.slice A l.length lc) ∧ RwAt w6 7 (rowC l) A l.length ∧ l.length ≤ 8 ∧ (∀ r ∈ l, r.length = 7) ∧ CodesIn w.heap.size w6 cb ∧ Keep cb w4 w6) := fun W' hb =>
    (events_any w.heap.size cb W' (HC4.out.below hb)).mono fun e w6 ⟨l, A, lc, h1, h2, h3, h4, h5, h6, h7⟩ => ⟨l, A, lc, h1, RwAt.own h2, h3, h4, h6, (Keep.of_below hb).trans h7⟩
  have HRP0 : Hid (∀ l n W' A lc, l.length = n → RwAt W' 7 (rowC l) A l.length → (∀ r ∈ l, r.length = 7) → n ≤ 8 → Keep cb w4 W' → Calls Tryd.prog 17 #[.agg #[.slice C0 k0 q0, .slice C1 k1 q1, .slice C2 k2 q2, .slice C3 k3 q3, .slice C4 k4 q4], .int .i64 me, .int .i64 3, .slice A n lc] W' (RdPost (replayP (cdP p) me 3 l) W')) := fun l n W' A lc hn h1 h2 h3 h4 => by
    subst hn
    have hz4 := lt_of_block HX4.out
    have hz6 := h4.size
    have hcl := HCL.out
    exact (replay_any hi me 3 C0 C1 C2 C3 C4 k0 q0 k1 q1 k2 q2 k3 q3 k4 q4 (cdP p) W' l h2 (by omega) A l.length lc h1 rfl ((HCI4.out.at' (w' := W') fun k h1 h2 => h4.block k (by omega) (by omega)).cd) (by omega)).mono fun e w' h => rd_of_rep h
  clear hme hw4 hhi h34 hx4 hs0 hs1
  go_wp2_with fail
  refine (HEV.out w4 (Below.refl _ _)).mono ?_
  rintro e w6 ⟨l, A, lc, rfl, hrw, h8, h7, hc6, hk6⟩
  obtain ⟨n, hn⟩ : ∃ x, l.length = x := ⟨_, rfl⟩
  rw [hn] at hrw h8
  simp only [hn]
  have HRW := Lib.hid hrw
  have H7 := Lib.hid h7
  have HN := Lib.hid hn
  have HK6 := Lib.hid hk6
  clear hrw h7 hc6 hk6 hn HEV
  go_upto_region 7 with fail
  go_cut [13] (fun q wx => ∃ (B : Option Addr) (mc : Nat), q = .slice B n mc ∧ Hid (wx.ownsRow w6.heap.size 42 7 (.slice B n mc) n (rowC l)) ∧ Hid (Below w6.heap.size w6 wx))
  case first =>
    cases A with
    | none =>
      have hn0 : n = 0 := by
        rcases Nat.eq_zero_or_pos n with h | h
        · exact h
        · obtain ⟨_, _, e, _⟩ := HRW.out.2 h
          cases e
      subst hn0
      have hl : l = [] := List.eq_nil_of_length_eq_zero HN.out
      subst hl
      go_wp2_with fail
      go_meet
      case rel => exact ⟨none, 0, rfl, World.ownsRow_nil _ _ _ _, Below.refl _ _⟩
    | some ad =>
      have HCA : Hid (∀ j u, (rowC l)[j]? = some u → w6.cell? (ad.add j) = some u) := fun j u hj => by
        have hjl := (List.getElem?_eq_some_iff.1 hj).1
        rw [HRW.out.1] at hjl
        obtain ⟨b, o, e, hc⟩ := HRW.out.2 (by omega)
        injection e with e
        subst e
        rw [Addr.add_lit]
        exact hc j u hj
      go_wp2_with (at_builtin; refine wpList_append_own _ rfl _ _ 31 rfl w6.heap.size 42 i0 (.agg #[.int .i64 0, .int .i64 0, .int .i64 0, .int .i64 0, .int .i64 0, .int .i64 0, .int .i64 0]) 7 56 Tryd.underlying31 HI.out HI0.out HI1.out HI2.out rfl (by decide) _ 0 [] rfl (World.ownsRow_nil _ _ _ _) ad n lc (rowC l) rfl HRW.out.1 ?qc2 (rowC_one l) ?qc4 ?qc5 ?qc6 ?_)
      case qc2 => exact HCA.out
      case qc4 => unfold maxLen; omega
      case qc5 => omega
      case qc6 => exact Nat.le_refl _
      intro v' w7 hown hgrow hnil
      have hown2 : w7.ownsRow w6.heap.size 42 7 v' n (rowC l) := by simpa using hown
      clear hown
      have hown := hown2
      clear hown2
      obtain ⟨B, mc, rfl⟩ := own_slice hown
      have HO := Lib.hid hown
      have HG := Lib.hid hgrow
      clear hown hgrow hnil
      go_wp2_with fail
      go_meet
      case rel => exact ⟨B, mc, rfl, HO.out, (Below.refl _ w6).grown HG.out (Nat.le_refl _) (by intro k hk; simp [Value.ownBlock] at hk)⟩
  case rest =>
    obtain ⟨B, mc, rfl, HM, HB7⟩ := hcut
    have HKD := Lib.hid (HK6.out.trans (Keep.of_below HB7.out))
    have hrl := HRW.out.below (by decide) HB7.out
    go_wp2_with fail
    go_loopg [32] n (fun g i wr => ∃ k : Nat, k + g = n ∧ i = .int .i64 k ∧ Hid (wr.ownsRow w6.heap.size 42 7 (.slice B n mc) n (rowC (mixL inc ord k l))) ∧ Hid (Below w6.heap.size w6 wr))
    case atStart => exact ⟨0, by omega, rfl, by rw [mixL_zero]; exact HM, HB7⟩
    case round =>
      obtain ⟨k, hkg, rfl, HO, HB⟩ := hrel
      cases gk with
      | succ g =>
        have hlt : k < n := by omega
        have hlt' : (k : Int) < (n : Int) := by omega
        have hk0 : (0 : Int) ≤ (k : Int) := by omega
        have HG := Lib.hid hkg
        obtain ⟨r, hr⟩ : ∃ r, l[k]? = some r := ⟨_, List.getElem?_eq_getElem (by have := HN.out; omega)⟩
        obtain ⟨x0, x1, x2, x3, x4, x5, x6, rfl⟩ := len7 r (H7.out r (List.mem_of_getElem? hr))
        obtain ⟨gb, ho⟩ : ∃ gb, B = some ⟨gb, 0, none⟩ := by
          rcases HO.out.2 with ⟨-, h⟩ | ⟨gb, cap, cur, hv, -⟩
          · omega
          · exact ⟨gb, by injection hv⟩
        subst ho
        have hms := mixL_here inc ord k l _ hr
        have hrs := mixL_rows inc ord k l H7.out
        have hc0 := fun j (hj : j < 7) => (HO.out.cellAt (k * 7 + j) (by omega)).trans (show (rowC (mixL inc ord k l))[k * 7 + j]? = some (.int .i64 ([x0, x1, x2, x3, x4, x5, x6].getD j 0)) from rowC_at 7 _ k j _ _ hrs hms (by match j, hj with | 0, _ => rfl | 1, _ => rfl | 2, _ => rfl | 3, _ => rfl | 4, _ => rfl | 5, _ => rfl | 6, _ => rfl))
        have y1 := hc0 1 (by decide)
        have y3 := hc0 3 (by decide)
        have y4 := hc0 4 (by decide)
        have y5 := hc0 5 (by decide)
        have z1 := HO.out.frozenAt (k * 7 + 1)
        have z3 := HO.out.frozenAt (k * 7 + 3)
        have z4 := HO.out.frozenAt (k * 7 + 4)
        have z5 := HO.out.frozenAt (k * 7 + 5)
        have hgl : gb < wr.heap.size := World.block_lt_of_cell? wr _ y1
        clear hc0 hkg
        have HO4 := Lib.hid ((((HO.out.stored (k * 7 + 1) (.int .i64 inc)).1.stored (k * 7 + 3) (.int .i64 ord)).1.stored (k * 7 + 4) (.int .i64 k)).1.stored (k * 7 + 5) (.int .i64 ord)).1
        have HB4' := Lib.hid ((((HB.out.setCell (p := ⟨gb, k * 7 + 1, none⟩) (HO.out.lt gb rfl).1 (.int .i64 inc)).setCell (p := ⟨gb, k * 7 + 3, none⟩) (HO.out.lt gb rfl).1 (.int .i64 ord)).setCell (p := ⟨gb, k * 7 + 4, none⟩) (HO.out.lt gb rfl).1 (.int .i64 k)).setCell (p := ⟨gb, k * 7 + 5, none⟩) (HO.out.lt gb rfl).1 (.int .i64 ord))
        rw [row_lab inc ord k l x0 x1 x2 x3 x4 x5 x6 hr H7.out] at HO4
        clear hms hrs hr
        go_wp2_with fail
        go_roundg g
        case rel => exact ⟨k + 1, by have := HG.out; omega, by go_num, HO4, HB4'⟩
        case measure => omega
      | zero =>
        have hkn : k = n := by omega
        obtain rfl := hkn
        clear hkg
        obtain ⟨m, hm⟩ : ∃ x, mixL inc ord k l = x := ⟨_, rfl⟩
        have HML : Hid (mixL inc ord l.length l = m) := by show _ = _; rw [← hm, HN.out]
        have HMN : Hid (m.length = k) := by show _ = _; rw [← hm, mixL_len]; exact HN.out
        have HM7 : Hid (∀ r ∈ m, r.length = 7) := by show ∀ r ∈ m, r.length = 7; rw [← hm]; exact mixL_rows inc ord k l H7.out
        have HMR : Hid (RwAt wr 7 (rowC m) B m.length) := by show RwAt _ _ _ _ _; rw [HMN.out, ← hm]; exact RwAt.own HO.out
        have HRR : Hid (RwAt wr 7 (rowC l) A l.length) := by show RwAt _ _ _ _ _; rw [HN.out]; exact HRW.out.below (by decide) HB.out
        have HKR : Hid (Keep cb w4 wr) := HK6.out.trans (Keep.of_below HB.out)
        have hn8 : k ≤ 8 := h8
        clear hm
        go_upto_region 13 with fail
        have HRP : Hid (∀ l n W' A lc, l.length = n → RwAt W' 7 (rowC l) A l.length → (∀ r ∈ l, r.length = 7) → n ≤ 8 → Below wr.heap.size wr W' → Calls Tryd.prog 17 #[.agg #[.slice C0 k0 q0, .slice C1 k1 q1, .slice C2 k2 q2, .slice C3 k3 q3, .slice C4 k4 q4], .int .i64 me, .int .i64 3, .slice A n lc] W' (RdPost (replayP (cdP p) me 3 l) W')) := fun l n W' A lc h1 h2 h3 h4 h5 => HRP0.out l n W' A lc h1 h2 h3 h4 (HKR.out.trans (Keep.of_below h5))
        have HS' : Hid (∀ w', Below wr.heap.size wr w' → w'.cell? ⟨hi, 0, none⟩ = some (.slice C0 k0 q0) ∧ w'.cell? ⟨hi, 1, none⟩ = some (.slice C1 k1 q1) ∧ w'.cell? ⟨hi, 2, none⟩ = some (.slice C2 k2 q2) ∧ w'.cell? ⟨hi, 3, none⟩ = some (.slice C3 k3 q3) ∧ w'.cell? ⟨hi, 4, none⟩ = some (.slice C4 k4 q4)) := fun w' h => HS.out w' (HKR.out.trans (Keep.of_below h))
        replace HS := HS'
        clear HRP0 HS'
        go_cut [15, 16] (fun a1 a2 wx => ∃ (p1 p2 : Nat) (r1 r2 : RV), a1 = .pointer (some ⟨p1, 0, none⟩) ∧ a2 = .pointer (some ⟨p2, 0, none⟩) ∧ r1.s = replayP (cdP p) me 3 l ∧ r2.s = replayP (cdP p) me 3 m ∧ Hid (r1.box wx p1) ∧ Hid (r2.box wx p2) ∧ p1 ≠ p2 ∧ wr.heap.size ≤ p1 ∧ wr.heap.size ≤ p2 ∧ Hid (Below wr.heap.size wr wx) ∧ Hid (∀ b, r1.in b ∨ r2.in b → b ≠ p1 ∧ b ≠ p2))
        case first =>
          refine wp_region_held_drew (S := fun w' => Below wr.heap.size wr w') (by kernel_rfl) (below_drew1 wr) (fun _ => ?_)
          obtain ⟨wd, hwd⟩ : ∃ x, wr.drew = x := ⟨_, rfl⟩
          have hS : Below wr.heap.size wr wd := by rw [← hwd]; exact below_drew1 wr
          have HI : Hid (LbI wr.heap.size l m A B wd none none none none) := LbI.start (hS.size) (HRR.out.below (by decide) hS) (HMR.out.below (by decide) hS)
          rw [hwd]
          clear hwd
          refine' wpAnyH_take (i := 0) (v := _) ?hi1 (by kernel_rfl) (by kernel_rfl) (by kernel_rfl) ?hQ1 (Or.inl ⟨?hw1, ?hy1⟩) hS ?rest1
          case hi1 => (simp only [List.getElem?_toArray, List.getElem?_cons_zero]; rfl)
          case hQ1 => exact fun _ _ _ h => h
          case hw1 => rfl
          case hy1 =>
            rintro w9 hk9
            obtain ⟨b0, b1, b2, b3, b4⟩ := HS.out _ hk9
            go_simp
            with_reducible rfl
          try simp only [Act.put, List.setIfInBounds_toArray, List.set_cons_zero, List.set_cons_succ]
          refine' wpAnyH_take (i := 1) (v := _) ?hi2 (by kernel_rfl) (by kernel_rfl) (by kernel_rfl) ?hQ2 (Or.inl ⟨?hw2, ?hy2⟩) hS ?rest2
          case hi2 => (simp only [List.getElem?_toArray, List.getElem?_cons_succ, List.getElem?_cons_zero]; rfl)
          case hQ2 => exact fun _ _ _ h => h
          case hw2 => rfl
          case hy2 =>
            rintro w9 -
            go_simp
            with_reducible rfl
          try simp only [Act.put, List.setIfInBounds_toArray, List.set_cons_zero, List.set_cons_succ]
          refine' wpAnyH_take (i := 2) (v := _) ?hi3 (by kernel_rfl) (by kernel_rfl) (by kernel_rfl) ?hQ3 (Or.inl ⟨?hw3, ?hy3⟩) hS ?rest3
          case hi3 => (simp only [List.getElem?_toArray, List.getElem?_cons_succ, List.getElem?_cons_zero]; rfl)
          case hQ3 => exact fun _ _ _ h => h
          case hw3 => rfl
          case hy3 =>
            rintro w9 -
            go_simp
            with_reducible rfl
          try simp only [Act.put, List.setIfInBounds_toArray, List.set_cons_zero, List.set_cons_succ]
          refine' wpAnyH_take (i := 4) (v := _) ?hi4 (by kernel_rfl) (by kernel_rfl) (by kernel_rfl) ?hQ4 (Or.inl ⟨?hw4, ?hy4⟩) hS ?rest4
          case hi4 => (simp only [List.getElem?_toArray, List.getElem?_cons_succ, List.getElem?_cons_zero]; rfl)
          case hQ4 => exact fun _ _ _ h => h
          case hw4 => rfl
          case hy4 =>
            rintro w9 hk9
            obtain ⟨b0, b1, b2, b3, b4⟩ := HS.out _ hk9
            go_simp
            with_reducible rfl
          try simp only [Act.put, List.setIfInBounds_toArray, List.set_cons_zero, List.set_cons_succ]
          refine' wpAnyH_take (i := 5) (v := _) ?hi5 (by kernel_rfl) (by kernel_rfl) (by kernel_rfl) ?hQ5 (Or.inl ⟨?hw5, ?hy5⟩) hS ?rest5
          case hi5 => (simp only [List.getElem?_toArray, List.getElem?_cons_succ, List.getElem?_cons_zero]; rfl)
          case hQ5 => exact fun _ _ _ h => h
          case hw5 => rfl
          case hy5 =>
            rintro w9 -
            go_simp
            with_reducible rfl
          try simp only [Act.put, List.setIfInBounds_toArray, List.set_cons_zero, List.set_cons_succ]
          refine' wpAnyH_take (i := 6) (v := _) ?hi6 (by kernel_rfl) (by kernel_rfl) (by kernel_rfl) ?hQ6 (Or.inl ⟨?hw6, ?hy6⟩) hS ?rest6
          case hi6 => (simp only [List.getElem?_toArray, List.getElem?_cons_succ, List.getElem?_cons_zero]; rfl)
          case hQ6 => exact fun _ _ _ h => h
          case hw6 => rfl
          case hy6 =>
            rintro w9 -
            go_simp
            with_reducible rfl
          try simp only [Act.put, List.setIfInBounds_toArray, List.set_cons_zero, List.set_cons_succ]
          refine wpAnyH_ready (rs := [3, 8, 9]) (by kernel_rfl) (by simp) ?_
          refine' (AllReadyH.cons ?hi7 (fun K hK => ?op7) (AllReadyH.cons ?hi8 (fun K hK => ?op8) (AllReadyH.cons ?hi9 (fun K hK => ?op9) AllReadyH.nil)))
          case hi7 => (simp only [List.getElem?_toArray, List.getElem?_cons_succ, List.getElem?_cons_zero]; rfl)
          case hi8 => (simp only [List.getElem?_toArray, List.getElem?_cons_succ, List.getElem?_cons_zero]; rfl)
          case hi9 => (simp only [List.getElem?_toArray, List.getElem?_cons_succ, List.getElem?_cons_zero]; rfl)
          case op7 =>
            go_simp
            go_at_call 17
            refine (HRP.out l k wd A lc HN.out HI.out.rl H7.out hn8 hS).mono ?_
            rintro e9 u10 ⟨Z1, V1, S1, O1, zc1, vc1, sc1, oc1, rfl, hrd, hb7, hx7⟩
            have HI9 := Lib.hid (HI.out.callA (r := ⟨(replayP (cdP p) me 3 l), Z1, V1, S1, O1, zc1, vc1, sc1, oc1⟩) hb7 hrd (fun b ⟨o, h⟩ => hx7 b o h))
            have hS9 : Below wr.heap.size wr u10 := hS.trans (hb7.mono hS.size)
            clear hrd hb7 hx7 HI
            have HI := HI9
            clear HI9
            refine hK.out _ _ hS9 (fun _ => ?_)
            clear hK K hS
            have hS := hS9
            clear hS9
            try simp only [Act.put, List.setIfInBounds_toArray, List.set_cons_zero, List.set_cons_succ]
            refine wpAnyH_ready (rs := [7, 8, 9]) (by kernel_rfl) (by simp) ?_
            refine' (AllReadyH.cons ?hi11 (fun K hK => ?op11) (AllReadyH.cons ?hi12 (fun K hK => ?op12) (AllReadyH.cons ?hi13 (fun K hK => ?op13) AllReadyH.nil)))
            case hi11 => (simp only [List.getElem?_toArray, List.getElem?_cons_succ, List.getElem?_cons_zero]; rfl)
            case hi12 => (simp only [List.getElem?_toArray, List.getElem?_cons_succ, List.getElem?_cons_zero]; rfl)
            case hi13 => (simp only [List.getElem?_toArray, List.getElem?_cons_succ, List.getElem?_cons_zero]; rfl)
            case op11 =>
              go_simp
              go_at_call 17
              refine (HRP.out m k u10 B mc HMN.out HI.out.rm HM7.out hn8 hS).mono ?_
              rintro e9 u14 ⟨Z2, V2, S2, O2, zc2, vc2, sc2, oc2, rfl, hrd, hb7, hx7⟩
              have HI9 := Lib.hid (HI.out.callB (r := ⟨(replayP (cdP p) me 3 m), Z2, V2, S2, O2, zc2, vc2, sc2, oc2⟩) hb7 hrd (fun b ⟨o, h⟩ => hx7 b o h))
              have hS9 : Below wr.heap.size wr u14 := hS.trans (hb7.mono hS.size)
              clear hrd hb7 hx7 HI
              have HI := HI9
              clear HI9
              refine hK.out _ _ hS9 (fun _ => ?_)
              clear hK K hS
              have hS := hS9
              clear hS9
              try simp only [Act.put, List.setIfInBounds_toArray, List.set_cons_zero, List.set_cons_succ]
              refine wpAnyH_ready (rs := [8, 9]) (by kernel_rfl) (by simp) ?_
              refine' (AllReadyH.cons ?hi15 (fun K hK => ?op15) (AllReadyH.cons ?hi16 (fun K hK => ?op16) AllReadyH.nil))
              case hi15 => (simp only [List.getElem?_toArray, List.getElem?_cons_succ, List.getElem?_cons_zero]; rfl)
              case hi16 => (simp only [List.getElem?_toArray, List.getElem?_cons_succ, List.getElem?_cons_zero]; rfl)
              case op15 =>
                go_simp
                have hI9 : LbI wr.heap.size l m A B (u14.alloc (.cells #[.slice none 0 0, .slice none 0 0, .slice none 0 0, .slice none 0 0] 36)) (some ⟨(replayP (cdP p) me 3 l), Z1, V1, S1, O1, zc1, vc1, sc1, oc1⟩) (some ⟨(replayP (cdP p) me 3 m), Z2, V2, S2, O2, zc2, vc2, sc2, oc2⟩) (some u14.heap.size) none := HI.out.allocA
                have hS9 : Below wr.heap.size wr (u14.alloc (.cells #[.slice none 0 0, .slice none 0 0, .slice none 0 0, .slice none 0 0] 36)) := hS.alloc hS.size _
                refine hK.out _ _ hS9 (fun _ => ?_)
                clear hK K hS HI
                obtain ⟨p1, hnm⟩ : ∃ x, u14.heap.size = x := ⟨_, rfl⟩
                obtain ⟨u17, hWn⟩ : ∃ x, u14.alloc (.cells #[.slice none 0 0, .slice none 0 0, .slice none 0 0, .slice none 0 0] 36) = x := ⟨_, rfl⟩
                rw [hWn, hnm] at hI9
                rw [hWn] at hS9
                simp only [hWn, hnm]
                clear hWn hnm
                have HI := Lib.hid hI9
                have hS := hS9
                clear hS9 hI9
                try simp only [Act.put, List.setIfInBounds_toArray, List.set_cons_zero, List.set_cons_succ]
                refine wpAnyH_ready (rs := [9]) (by kernel_rfl) (by simp) ?_
                refine' (AllReadyH.cons ?hi18 (fun K hK => ?op18) AllReadyH.nil)
                case hi18 => (simp only [List.getElem?_toArray, List.getElem?_cons_succ, List.getElem?_cons_zero]; rfl)
                go_simp
                have hI9 : LbI wr.heap.size l m A B (u17.alloc (.cells #[.slice none 0 0, .slice none 0 0, .slice none 0 0, .slice none 0 0] 36)) (some ⟨(replayP (cdP p) me 3 l), Z1, V1, S1, O1, zc1, vc1, sc1, oc1⟩) (some ⟨(replayP (cdP p) me 3 m), Z2, V2, S2, O2, zc2, vc2, sc2, oc2⟩) (some p1) (some u17.heap.size) := HI.out.allocB
                have hS9 : Below wr.heap.size wr (u17.alloc (.cells #[.slice none 0 0, .slice none 0 0, .slice none 0 0, .slice none 0 0] 36)) := hS.alloc hS.size _
                refine hK.out _ _ hS9 (fun _ => ?_)
                clear hK K hS HI
                obtain ⟨p2, hnm⟩ : ∃ x, u17.heap.size = x := ⟨_, rfl⟩
                obtain ⟨u19, hWn⟩ : ∃ x, u17.alloc (.cells #[.slice none 0 0, .slice none 0 0, .slice none 0 0, .slice none 0 0] 36) = x := ⟨_, rfl⟩
                rw [hWn, hnm] at hI9
                rw [hWn] at hS9
                simp only [hWn, hnm]
                clear hWn hnm
                have HI := Lib.hid hI9
                have hS := hS9
                clear hS9 hI9
                try simp only [Act.put, List.setIfInBounds_toArray, List.set_cons_zero, List.set_cons_succ]
                refine wpAnyH_ready (rs := [10]) (by kernel_rfl) (by simp) ?_
                refine' (AllReadyH.cons ?hi20 (fun K hK => ?op20) AllReadyH.nil)
                case hi20 => (simp only [List.getElem?_toArray, List.getElem?_cons_succ, List.getElem?_cons_zero]; rfl)
                obtain ⟨e0, e1, e2, e3⟩ := box4 (HI.out.boxA p1 rfl).1
                have ef0 := frz (HI.out.boxA p1 rfl).1 0
                have ef1 := frz (HI.out.boxA p1 rfl).1 1
                have ef2 := frz (HI.out.boxA p1 rfl).1 2
                have ef3 := frz (HI.out.boxA p1 rfl).1 3
                have hzq := lt_of_block (HI.out.boxA p1 rfl).1
                go_simp
                have hS9 : Below wr.heap.size wr (set4 u19 p1 (.slice Z1 (replayP (cdP p) me 3 l).cells.length zc1) (.slice V1 (replayP (cdP p) me 3 l).evs.length vc1) (.slice S1 (replayP (cdP p) me 3 l).sent.length sc1) (.slice O1 (replayP (cdP p) me 3 l).outs.length oc1)) := hS.trans (set4_below u19 (HI.out.boxA p1 rfl).2 _ _ _ _)
                refine hK.out _ _ hS9 (fun _ => ?_)
                clear hK K hS e0 e1 e2 e3 ef0 ef1 ef2 ef3 hzq
                have hS := hS9
                clear hS9
                obtain ⟨u21, hWn⟩ : ∃ x, set4 u19 p1 (.slice Z1 (replayP (cdP p) me 3 l).cells.length zc1) (.slice V1 (replayP (cdP p) me 3 l).evs.length vc1) (.slice S1 (replayP (cdP p) me 3 l).sent.length sc1) (.slice O1 (replayP (cdP p) me 3 l).outs.length oc1) = x := ⟨_, rfl⟩
                have hL := HI.out.last
                have hIA := (HI.out.stA _ rfl).2
                have hIB := (HI.out.stB _ rfl).2
                simp only [RV.in4] at hL
                have hL2 : Box0 u21 p2 := by rw [← hWn]; exact hL.2.2.1
                change wpAnyH _ _ _ _ _ _ _ _ (set4 u19 p1 (.slice Z1 (replayP (cdP p) me 3 l).cells.length zc1) (.slice V1 (replayP (cdP p) me 3 l).evs.length vc1) (.slice S1 (replayP (cdP p) me 3 l).sent.length sc1) (.slice O1 (replayP (cdP p) me 3 l).outs.length oc1))
                rw [hWn] at hL hS ⊢
                clear hWn
                try simp only [Act.put, List.setIfInBounds_toArray, List.set_cons_zero, List.set_cons_succ]
                refine wpAnyH_ready (rs := [11]) (by kernel_rfl) (by simp) ?_
                refine' (AllReadyH.cons ?hi22 (fun K hK => ?op22) AllReadyH.nil)
                case hi22 => (simp only [List.getElem?_toArray, List.getElem?_cons_succ, List.getElem?_cons_zero]; rfl)
                obtain ⟨e0, e1, e2, e3⟩ := box4 hL2
                have ef0 := frz hL2 0
                have ef1 := frz hL2 1
                have ef2 := frz hL2 2
                have ef3 := frz hL2 3
                have hzq := lt_of_block hL2
                go_simp
                have hS9 : Below wr.heap.size wr (set4 u21 p2 (.slice Z2 (replayP (cdP p) me 3 m).cells.length zc2) (.slice V2 (replayP (cdP p) me 3 m).evs.length vc2) (.slice S2 (replayP (cdP p) me 3 m).sent.length sc2) (.slice O2 (replayP (cdP p) me 3 m).outs.length oc2)) := hS.trans (set4_below u21 hL.2.2.2.2.1 _ _ _ _)
                refine hK.out _ _ hS9 (fun _ => ?_)
                clear hK K hS e0 e1 e2 e3 ef0 ef1 ef2 ef3 hzq
                try simp only [Act.put, List.setIfInBounds_toArray, List.set_cons_zero, List.set_cons_succ]
                refine wpAnyH_done (by kernel_rfl) ?_ _
                go_wp2_with fail
                go_meet
                case rel => exact ⟨p1, p2, ⟨(replayP (cdP p) me 3 l), Z1, V1, S1, O1, zc1, vc1, sc1, oc1⟩, ⟨(replayP (cdP p) me 3 m), Z2, V2, S2, O2, zc2, vc2, sc2, oc2⟩, rfl, rfl, rfl, rfl, Lib.hid hL.1, Lib.hid hL.2.1, hL.2.2.2.2.2, hL.2.2.2.1, hL.2.2.2.2.1, Lib.hid hS9, Lib.hid (fun b hb => hb.elim (fun h => ⟨fun e => (hIA b h).2.1 (by rw [e]), fun e => (hIA b h).2.2 (by rw [e])⟩) (fun h => ⟨fun e => (hIB b h).2.1 (by rw [e]), fun e => (hIB b h).2.2 (by rw [e])⟩))⟩

              case op16 =>
                go_simp
                have hI9 : LbI wr.heap.size l m A B (u14.alloc (.cells #[.slice none 0 0, .slice none 0 0, .slice none 0 0, .slice none 0 0] 36)) (some ⟨(replayP (cdP p) me 3 l), Z1, V1, S1, O1, zc1, vc1, sc1, oc1⟩) (some ⟨(replayP (cdP p) me 3 m), Z2, V2, S2, O2, zc2, vc2, sc2, oc2⟩) none (some u14.heap.size) := HI.out.allocB
                have hS9 : Below wr.heap.size wr (u14.alloc (.cells #[.slice none 0 0, .slice none 0 0, .slice none 0 0, .slice none 0 0] 36)) := hS.alloc hS.size _
                refine hK.out _ _ hS9 (fun _ => ?_)
                clear hK K hS HI
                obtain ⟨p2, hnm⟩ : ∃ x, u14.heap.size = x := ⟨_, rfl⟩
                obtain ⟨u24, hWn⟩ : ∃ x, u14.alloc (.cells #[.slice none 0 0, .slice none 0 0, .slice none 0 0, .slice none 0 0] 36) = x := ⟨_, rfl⟩
                rw [hWn, hnm] at hI9
                rw [hWn] at hS9
                simp only [hWn, hnm]
                clear hWn hnm
                have HI := Lib.hid hI9
                have hS := hS9
                clear hS9 hI9
                try simp only [Act.put, List.setIfInBounds_toArray, List.set_cons_zero, List.set_cons_succ]
                refine wpAnyH_ready (rs := [8]) (by kernel_rfl) (by simp) ?_
                refine' (AllReadyH.cons ?hi25 (fun K hK => ?op25) AllReadyH.nil)
                case hi25 => (simp only [List.getElem?_toArray, List.getElem?_cons_succ, List.getElem?_cons_zero]; rfl)
                go_simp
                have hI9 : LbI wr.heap.size l m A B (u24.alloc (.cells #[.slice none 0 0, .slice none 0 0, .slice none 0 0, .slice none 0 0] 36)) (some ⟨(replayP (cdP p) me 3 l), Z1, V1, S1, O1, zc1, vc1, sc1, oc1⟩) (some ⟨(replayP (cdP p) me 3 m), Z2, V2, S2, O2, zc2, vc2, sc2, oc2⟩) (some u24.heap.size) (some p2) := HI.out.allocA
                have hS9 : Below wr.heap.size wr (u24.alloc (.cells #[.slice none 0 0, .slice none 0 0, .slice none 0 0, .slice none 0 0] 36)) := hS.alloc hS.size _
                refine hK.out _ _ hS9 (fun _ => ?_)
                clear hK K hS HI
                obtain ⟨p1, hnm⟩ : ∃ x, u24.heap.size = x := ⟨_, rfl⟩
                obtain ⟨u26, hWn⟩ : ∃ x, u24.alloc (.cells #[.slice none 0 0, .slice none 0 0, .slice none 0 0, .slice none 0 0] 36) = x := ⟨_, rfl⟩
                rw [hWn, hnm] at hI9
                rw [hWn] at hS9
                simp only [hWn, hnm]
                clear hWn hnm
                have HI := Lib.hid hI9
                have hS := hS9
                clear hS9 hI9
                try simp only [Act.put, List.setIfInBounds_toArray, List.set_cons_zero, List.set_cons_succ]
                refine wpAnyH_ready (rs := [10]) (by kernel_rfl) (by simp) ?_
                refine' (AllReadyH.cons ?hi27 (fun K hK => ?op27) AllReadyH.nil)
                case hi27 => (simp only [List.getElem?_toArray, List.getElem?_cons_succ, List.getElem?_cons_zero]; rfl)
                obtain ⟨e0, e1, e2, e3⟩ := box4 (HI.out.boxA p1 rfl).1
                have ef0 := frz (HI.out.boxA p1 rfl).1 0
                have ef1 := frz (HI.out.boxA p1 rfl).1 1
                have ef2 := frz (HI.out.boxA p1 rfl).1 2
                have ef3 := frz (HI.out.boxA p1 rfl).1 3
                have hzq := lt_of_block (HI.out.boxA p1 rfl).1
                go_simp
                have hS9 : Below wr.heap.size wr (set4 u26 p1 (.slice Z1 (replayP (cdP p) me 3 l).cells.length zc1) (.slice V1 (replayP (cdP p) me 3 l).evs.length vc1) (.slice S1 (replayP (cdP p) me 3 l).sent.length sc1) (.slice O1 (replayP (cdP p) me 3 l).outs.length oc1)) := hS.trans (set4_below u26 (HI.out.boxA p1 rfl).2 _ _ _ _)
                refine hK.out _ _ hS9 (fun _ => ?_)
                clear hK K hS e0 e1 e2 e3 ef0 ef1 ef2 ef3 hzq
                have hS := hS9
                clear hS9
                obtain ⟨u28, hWn⟩ : ∃ x, set4 u26 p1 (.slice Z1 (replayP (cdP p) me 3 l).cells.length zc1) (.slice V1 (replayP (cdP p) me 3 l).evs.length vc1) (.slice S1 (replayP (cdP p) me 3 l).sent.length sc1) (.slice O1 (replayP (cdP p) me 3 l).outs.length oc1) = x := ⟨_, rfl⟩
                have hL := HI.out.last
                have hIA := (HI.out.stA _ rfl).2
                have hIB := (HI.out.stB _ rfl).2
                simp only [RV.in4] at hL
                have hL2 : Box0 u28 p2 := by rw [← hWn]; exact hL.2.2.1
                change wpAnyH _ _ _ _ _ _ _ _ (set4 u26 p1 (.slice Z1 (replayP (cdP p) me 3 l).cells.length zc1) (.slice V1 (replayP (cdP p) me 3 l).evs.length vc1) (.slice S1 (replayP (cdP p) me 3 l).sent.length sc1) (.slice O1 (replayP (cdP p) me 3 l).outs.length oc1))
                rw [hWn] at hL hS ⊢
                clear hWn
                try simp only [Act.put, List.setIfInBounds_toArray, List.set_cons_zero, List.set_cons_succ]
                refine wpAnyH_ready (rs := [11]) (by kernel_rfl) (by simp) ?_
                refine' (AllReadyH.cons ?hi29 (fun K hK => ?op29) AllReadyH.nil)
                case hi29 => (simp only [List.getElem?_toArray, List.getElem?_cons_succ, List.getElem?_cons_zero]; rfl)
                obtain ⟨e0, e1, e2, e3⟩ := box4 hL2
                have ef0 := frz hL2 0
                have ef1 := frz hL2 1
                have ef2 := frz hL2 2
                have ef3 := frz hL2 3
                have hzq := lt_of_block hL2
                go_simp
                have hS9 : Below wr.heap.size wr (set4 u28 p2 (.slice Z2 (replayP (cdP p) me 3 m).cells.length zc2) (.slice V2 (replayP (cdP p) me 3 m).evs.length vc2) (.slice S2 (replayP (cdP p) me 3 m).sent.length sc2) (.slice O2 (replayP (cdP p) me 3 m).outs.length oc2)) := hS.trans (set4_below u28 hL.2.2.2.2.1 _ _ _ _)
                refine hK.out _ _ hS9 (fun _ => ?_)
                clear hK K hS e0 e1 e2 e3 ef0 ef1 ef2 ef3 hzq
                try simp only [Act.put, List.setIfInBounds_toArray, List.set_cons_zero, List.set_cons_succ]
                refine wpAnyH_done (by kernel_rfl) ?_ _
                go_wp2_with fail
                go_meet
                case rel => exact ⟨p1, p2, ⟨(replayP (cdP p) me 3 l), Z1, V1, S1, O1, zc1, vc1, sc1, oc1⟩, ⟨(replayP (cdP p) me 3 m), Z2, V2, S2, O2, zc2, vc2, sc2, oc2⟩, rfl, rfl, rfl, rfl, Lib.hid hL.1, Lib.hid hL.2.1, hL.2.2.2.2.2, hL.2.2.2.1, hL.2.2.2.2.1, Lib.hid hS9, Lib.hid (fun b hb => hb.elim (fun h => ⟨fun e => (hIA b h).2.1 (by rw [e]), fun e => (hIA b h).2.2 (by rw [e])⟩) (fun h => ⟨fun e => (hIB b h).2.1 (by rw [e]), fun e => (hIB b h).2.2 (by rw [e])⟩))⟩


            case op12 =>
              go_simp
              have hI9 : LbI wr.heap.size l m A B (u10.alloc (.cells #[.slice none 0 0, .slice none 0 0, .slice none 0 0, .slice none 0 0] 36)) (some ⟨(replayP (cdP p) me 3 l), Z1, V1, S1, O1, zc1, vc1, sc1, oc1⟩) none (some u10.heap.size) none := HI.out.allocA
              have hS9 : Below wr.heap.size wr (u10.alloc (.cells #[.slice none 0 0, .slice none 0 0, .slice none 0 0, .slice none 0 0] 36)) := hS.alloc hS.size _
              refine hK.out _ _ hS9 (fun _ => ?_)
              clear hK K hS HI
              obtain ⟨p1, hnm⟩ : ∃ x, u10.heap.size = x := ⟨_, rfl⟩
              obtain ⟨u31, hWn⟩ : ∃ x, u10.alloc (.cells #[.slice none 0 0, .slice none 0 0, .slice none 0 0, .slice none 0 0] 36) = x := ⟨_, rfl⟩
              rw [hWn, hnm] at hI9
              rw [hWn] at hS9
              simp only [hWn, hnm]
              clear hWn hnm
              have HI := Lib.hid hI9
              have hS := hS9
              clear hS9 hI9
              try simp only [Act.put, List.setIfInBounds_toArray, List.set_cons_zero, List.set_cons_succ]
              refine wpAnyH_ready (rs := [7, 9]) (by kernel_rfl) (by simp) ?_
              refine' (AllReadyH.cons ?hi32 (fun K hK => ?op32) (AllReadyH.cons ?hi33 (fun K hK => ?op33) AllReadyH.nil))
              case hi32 => (simp only [List.getElem?_toArray, List.getElem?_cons_succ, List.getElem?_cons_zero]; rfl)
              case hi33 => (simp only [List.getElem?_toArray, List.getElem?_cons_succ, List.getElem?_cons_zero]; rfl)
              case op32 =>
                go_simp
                go_at_call 17
                refine (HRP.out m k u31 B mc HMN.out HI.out.rm HM7.out hn8 hS).mono ?_
                rintro e9 u34 ⟨Z2, V2, S2, O2, zc2, vc2, sc2, oc2, rfl, hrd, hb7, hx7⟩
                have HI9 := Lib.hid (HI.out.callB (r := ⟨(replayP (cdP p) me 3 m), Z2, V2, S2, O2, zc2, vc2, sc2, oc2⟩) hb7 hrd (fun b ⟨o, h⟩ => hx7 b o h))
                have hS9 : Below wr.heap.size wr u34 := hS.trans (hb7.mono hS.size)
                clear hrd hb7 hx7 HI
                have HI := HI9
                clear HI9
                refine hK.out _ _ hS9 (fun _ => ?_)
                clear hK K hS
                have hS := hS9
                clear hS9
                try simp only [Act.put, List.setIfInBounds_toArray, List.set_cons_zero, List.set_cons_succ]
                refine wpAnyH_ready (rs := [9]) (by kernel_rfl) (by simp) ?_
                refine' (AllReadyH.cons ?hi35 (fun K hK => ?op35) AllReadyH.nil)
                case hi35 => (simp only [List.getElem?_toArray, List.getElem?_cons_succ, List.getElem?_cons_zero]; rfl)
                go_simp
                have hI9 : LbI wr.heap.size l m A B (u34.alloc (.cells #[.slice none 0 0, .slice none 0 0, .slice none 0 0, .slice none 0 0] 36)) (some ⟨(replayP (cdP p) me 3 l), Z1, V1, S1, O1, zc1, vc1, sc1, oc1⟩) (some ⟨(replayP (cdP p) me 3 m), Z2, V2, S2, O2, zc2, vc2, sc2, oc2⟩) (some p1) (some u34.heap.size) := HI.out.allocB
                have hS9 : Below wr.heap.size wr (u34.alloc (.cells #[.slice none 0 0, .slice none 0 0, .slice none 0 0, .slice none 0 0] 36)) := hS.alloc hS.size _
                refine hK.out _ _ hS9 (fun _ => ?_)
                clear hK K hS HI
                obtain ⟨p2, hnm⟩ : ∃ x, u34.heap.size = x := ⟨_, rfl⟩
                obtain ⟨u36, hWn⟩ : ∃ x, u34.alloc (.cells #[.slice none 0 0, .slice none 0 0, .slice none 0 0, .slice none 0 0] 36) = x := ⟨_, rfl⟩
                rw [hWn, hnm] at hI9
                rw [hWn] at hS9
                simp only [hWn, hnm]
                clear hWn hnm
                have HI := Lib.hid hI9
                have hS := hS9
                clear hS9 hI9
                try simp only [Act.put, List.setIfInBounds_toArray, List.set_cons_zero, List.set_cons_succ]
                refine wpAnyH_ready (rs := [10]) (by kernel_rfl) (by simp) ?_
                refine' (AllReadyH.cons ?hi37 (fun K hK => ?op37) AllReadyH.nil)
                case hi37 => (simp only [List.getElem?_toArray, List.getElem?_cons_succ, List.getElem?_cons_zero]; rfl)
                obtain ⟨e0, e1, e2, e3⟩ := box4 (HI.out.boxA p1 rfl).1
                have ef0 := frz (HI.out.boxA p1 rfl).1 0
                have ef1 := frz (HI.out.boxA p1 rfl).1 1
                have ef2 := frz (HI.out.boxA p1 rfl).1 2
                have ef3 := frz (HI.out.boxA p1 rfl).1 3
                have hzq := lt_of_block (HI.out.boxA p1 rfl).1
                go_simp
                have hS9 : Below wr.heap.size wr (set4 u36 p1 (.slice Z1 (replayP (cdP p) me 3 l).cells.length zc1) (.slice V1 (replayP (cdP p) me 3 l).evs.length vc1) (.slice S1 (replayP (cdP p) me 3 l).sent.length sc1) (.slice O1 (replayP (cdP p) me 3 l).outs.length oc1)) := hS.trans (set4_below u36 (HI.out.boxA p1 rfl).2 _ _ _ _)
                refine hK.out _ _ hS9 (fun _ => ?_)
                clear hK K hS e0 e1 e2 e3 ef0 ef1 ef2 ef3 hzq
                have hS := hS9
                clear hS9
                obtain ⟨u38, hWn⟩ : ∃ x, set4 u36 p1 (.slice Z1 (replayP (cdP p) me 3 l).cells.length zc1) (.slice V1 (replayP (cdP p) me 3 l).evs.length vc1) (.slice S1 (replayP (cdP p) me 3 l).sent.length sc1) (.slice O1 (replayP (cdP p) me 3 l).outs.length oc1) = x := ⟨_, rfl⟩
                have hL := HI.out.last
                have hIA := (HI.out.stA _ rfl).2
                have hIB := (HI.out.stB _ rfl).2
                simp only [RV.in4] at hL
                have hL2 : Box0 u38 p2 := by rw [← hWn]; exact hL.2.2.1
                change wpAnyH _ _ _ _ _ _ _ _ (set4 u36 p1 (.slice Z1 (replayP (cdP p) me 3 l).cells.length zc1) (.slice V1 (replayP (cdP p) me 3 l).evs.length vc1) (.slice S1 (replayP (cdP p) me 3 l).sent.length sc1) (.slice O1 (replayP (cdP p) me 3 l).outs.length oc1))
                rw [hWn] at hL hS ⊢
                clear hWn
                try simp only [Act.put, List.setIfInBounds_toArray, List.set_cons_zero, List.set_cons_succ]
                refine wpAnyH_ready (rs := [11]) (by kernel_rfl) (by simp) ?_
                refine' (AllReadyH.cons ?hi39 (fun K hK => ?op39) AllReadyH.nil)
                case hi39 => (simp only [List.getElem?_toArray, List.getElem?_cons_succ, List.getElem?_cons_zero]; rfl)
                obtain ⟨e0, e1, e2, e3⟩ := box4 hL2
                have ef0 := frz hL2 0
                have ef1 := frz hL2 1
                have ef2 := frz hL2 2
                have ef3 := frz hL2 3
                have hzq := lt_of_block hL2
                go_simp
                have hS9 : Below wr.heap.size wr (set4 u38 p2 (.slice Z2 (replayP (cdP p) me 3 m).cells.length zc2) (.slice V2 (replayP (cdP p) me 3 m).evs.length vc2) (.slice S2 (replayP (cdP p) me 3 m).sent.length sc2) (.slice O2 (replayP (cdP p) me 3 m).outs.length oc2)) := hS.trans (set4_below u38 hL.2.2.2.2.1 _ _ _ _)
                refine hK.out _ _ hS9 (fun _ => ?_)
                clear hK K hS e0 e1 e2 e3 ef0 ef1 ef2 ef3 hzq
                try simp only [Act.put, List.setIfInBounds_toArray, List.set_cons_zero, List.set_cons_succ]
                refine wpAnyH_done (by kernel_rfl) ?_ _
                go_wp2_with fail
                go_meet
                case rel => exact ⟨p1, p2, ⟨(replayP (cdP p) me 3 l), Z1, V1, S1, O1, zc1, vc1, sc1, oc1⟩, ⟨(replayP (cdP p) me 3 m), Z2, V2, S2, O2, zc2, vc2, sc2, oc2⟩, rfl, rfl, rfl, rfl, Lib.hid hL.1, Lib.hid hL.2.1, hL.2.2.2.2.2, hL.2.2.2.1, hL.2.2.2.2.1, Lib.hid hS9, Lib.hid (fun b hb => hb.elim (fun h => ⟨fun e => (hIA b h).2.1 (by rw [e]), fun e => (hIA b h).2.2 (by rw [e])⟩) (fun h => ⟨fun e => (hIB b h).2.1 (by rw [e]), fun e => (hIB b h).2.2 (by rw [e])⟩))⟩

              case op33 =>
                go_simp
                have hI9 : LbI wr.heap.size l m A B (u31.alloc (.cells #[.slice none 0 0, .slice none 0 0, .slice none 0 0, .slice none 0 0] 36)) (some ⟨(replayP (cdP p) me 3 l), Z1, V1, S1, O1, zc1, vc1, sc1, oc1⟩) none (some p1) (some u31.heap.size) := HI.out.allocB
                have hS9 : Below wr.heap.size wr (u31.alloc (.cells #[.slice none 0 0, .slice none 0 0, .slice none 0 0, .slice none 0 0] 36)) := hS.alloc hS.size _
                refine hK.out _ _ hS9 (fun _ => ?_)
                clear hK K hS HI
                obtain ⟨p2, hnm⟩ : ∃ x, u31.heap.size = x := ⟨_, rfl⟩
                obtain ⟨u41, hWn⟩ : ∃ x, u31.alloc (.cells #[.slice none 0 0, .slice none 0 0, .slice none 0 0, .slice none 0 0] 36) = x := ⟨_, rfl⟩
                rw [hWn, hnm] at hI9
                rw [hWn] at hS9
                simp only [hWn, hnm]
                clear hWn hnm
                have HI := Lib.hid hI9
                have hS := hS9
                clear hS9 hI9
                try simp only [Act.put, List.setIfInBounds_toArray, List.set_cons_zero, List.set_cons_succ]
                refine wpAnyH_ready (rs := [7]) (by kernel_rfl) (by simp) ?_
                refine' (AllReadyH.cons ?hi42 (fun K hK => ?op42) AllReadyH.nil)
                case hi42 => (simp only [List.getElem?_toArray, List.getElem?_cons_succ, List.getElem?_cons_zero]; rfl)
                go_simp
                go_at_call 17
                refine (HRP.out m k u41 B mc HMN.out HI.out.rm HM7.out hn8 hS).mono ?_
                rintro e9 u43 ⟨Z2, V2, S2, O2, zc2, vc2, sc2, oc2, rfl, hrd, hb7, hx7⟩
                have HI9 := Lib.hid (HI.out.callB (r := ⟨(replayP (cdP p) me 3 m), Z2, V2, S2, O2, zc2, vc2, sc2, oc2⟩) hb7 hrd (fun b ⟨o, h⟩ => hx7 b o h))
                have hS9 : Below wr.heap.size wr u43 := hS.trans (hb7.mono hS.size)
                clear hrd hb7 hx7 HI
                have HI := HI9
                clear HI9
                refine hK.out _ _ hS9 (fun _ => ?_)
                clear hK K hS
                have hS := hS9
                clear hS9
                try simp only [Act.put, List.setIfInBounds_toArray, List.set_cons_zero, List.set_cons_succ]
                refine wpAnyH_ready (rs := [10]) (by kernel_rfl) (by simp) ?_
                refine' (AllReadyH.cons ?hi44 (fun K hK => ?op44) AllReadyH.nil)
                case hi44 => (simp only [List.getElem?_toArray, List.getElem?_cons_succ, List.getElem?_cons_zero]; rfl)
                obtain ⟨e0, e1, e2, e3⟩ := box4 (HI.out.boxA p1 rfl).1
                have ef0 := frz (HI.out.boxA p1 rfl).1 0
                have ef1 := frz (HI.out.boxA p1 rfl).1 1
                have ef2 := frz (HI.out.boxA p1 rfl).1 2
                have ef3 := frz (HI.out.boxA p1 rfl).1 3
                have hzq := lt_of_block (HI.out.boxA p1 rfl).1
                go_simp
                have hS9 : Below wr.heap.size wr (set4 u43 p1 (.slice Z1 (replayP (cdP p) me 3 l).cells.length zc1) (.slice V1 (replayP (cdP p) me 3 l).evs.length vc1) (.slice S1 (replayP (cdP p) me 3 l).sent.length sc1) (.slice O1 (replayP (cdP p) me 3 l).outs.length oc1)) := hS.trans (set4_below u43 (HI.out.boxA p1 rfl).2 _ _ _ _)
                refine hK.out _ _ hS9 (fun _ => ?_)
                clear hK K hS e0 e1 e2 e3 ef0 ef1 ef2 ef3 hzq
                have hS := hS9
                clear hS9
                obtain ⟨u45, hWn⟩ : ∃ x, set4 u43 p1 (.slice Z1 (replayP (cdP p) me 3 l).cells.length zc1) (.slice V1 (replayP (cdP p) me 3 l).evs.length vc1) (.slice S1 (replayP (cdP p) me 3 l).sent.length sc1) (.slice O1 (replayP (cdP p) me 3 l).outs.length oc1) = x := ⟨_, rfl⟩
                have hL := HI.out.last
                have hIA := (HI.out.stA _ rfl).2
                have hIB := (HI.out.stB _ rfl).2
                simp only [RV.in4] at hL
                have hL2 : Box0 u45 p2 := by rw [← hWn]; exact hL.2.2.1
                change wpAnyH _ _ _ _ _ _ _ _ (set4 u43 p1 (.slice Z1 (replayP (cdP p) me 3 l).cells.length zc1) (.slice V1 (replayP (cdP p) me 3 l).evs.length vc1) (.slice S1 (replayP (cdP p) me 3 l).sent.length sc1) (.slice O1 (replayP (cdP p) me 3 l).outs.length oc1))
                rw [hWn] at hL hS ⊢
                clear hWn
                try simp only [Act.put, List.setIfInBounds_toArray, List.set_cons_zero, List.set_cons_succ]
                refine wpAnyH_ready (rs := [11]) (by kernel_rfl) (by simp) ?_
                refine' (AllReadyH.cons ?hi46 (fun K hK => ?op46) AllReadyH.nil)
                case hi46 => (simp only [List.getElem?_toArray, List.getElem?_cons_succ, List.getElem?_cons_zero]; rfl)
                obtain ⟨e0, e1, e2, e3⟩ := box4 hL2
                have ef0 := frz hL2 0
                have ef1 := frz hL2 1
                have ef2 := frz hL2 2
                have ef3 := frz hL2 3
                have hzq := lt_of_block hL2
                go_simp
                have hS9 : Below wr.heap.size wr (set4 u45 p2 (.slice Z2 (replayP (cdP p) me 3 m).cells.length zc2) (.slice V2 (replayP (cdP p) me 3 m).evs.length vc2) (.slice S2 (replayP (cdP p) me 3 m).sent.length sc2) (.slice O2 (replayP (cdP p) me 3 m).outs.length oc2)) := hS.trans (set4_below u45 hL.2.2.2.2.1 _ _ _ _)
                refine hK.out _ _ hS9 (fun _ => ?_)
                clear hK K hS e0 e1 e2 e3 ef0 ef1 ef2 ef3 hzq
                try simp only [Act.put, List.setIfInBounds_toArray, List.set_cons_zero, List.set_cons_succ]
                refine wpAnyH_done (by kernel_rfl) ?_ _
                go_wp2_with fail
                go_meet
                case rel => exact ⟨p1, p2, ⟨(replayP (cdP p) me 3 l), Z1, V1, S1, O1, zc1, vc1, sc1, oc1⟩, ⟨(replayP (cdP p) me 3 m), Z2, V2, S2, O2, zc2, vc2, sc2, oc2⟩, rfl, rfl, rfl, rfl, Lib.hid hL.1, Lib.hid hL.2.1, hL.2.2.2.2.2, hL.2.2.2.1, hL.2.2.2.2.1, Lib.hid hS9, Lib.hid (fun b hb => hb.elim (fun h => ⟨fun e => (hIA b h).2.1 (by rw [e]), fun e => (hIA b h).2.2 (by rw [e])⟩) (fun h => ⟨fun e => (hIB b h).2.1 (by rw [e]), fun e => (hIB b h).2.2 (by rw [e])⟩))⟩


            case op13 =>
              go_simp
              have hI9 : LbI wr.heap.size l m A B (u10.alloc (.cells #[.slice none 0 0, .slice none 0 0, .slice none 0 0, .slice none 0 0] 36)) (some ⟨(replayP (cdP p) me 3 l), Z1, V1, S1, O1, zc1, vc1, sc1, oc1⟩) none none (some u10.heap.size) := HI.out.allocB
              have hS9 : Below wr.heap.size wr (u10.alloc (.cells #[.slice none 0 0, .slice none 0 0, .slice none 0 0, .slice none 0 0] 36)) := hS.alloc hS.size _
              refine hK.out _ _ hS9 (fun _ => ?_)
              clear hK K hS HI
              obtain ⟨p2, hnm⟩ : ∃ x, u10.heap.size = x := ⟨_, rfl⟩
              obtain ⟨u48, hWn⟩ : ∃ x, u10.alloc (.cells #[.slice none 0 0, .slice none 0 0, .slice none 0 0, .slice none 0 0] 36) = x := ⟨_, rfl⟩
              rw [hWn, hnm] at hI9
              rw [hWn] at hS9
              simp only [hWn, hnm]
              clear hWn hnm
              have HI := Lib.hid hI9
              have hS := hS9
              clear hS9 hI9
              try simp only [Act.put, List.setIfInBounds_toArray, List.set_cons_zero, List.set_cons_succ]
              refine wpAnyH_ready (rs := [7, 8]) (by kernel_rfl) (by simp) ?_
              refine' (AllReadyH.cons ?hi49 (fun K hK => ?op49) (AllReadyH.cons ?hi50 (fun K hK => ?op50) AllReadyH.nil))
              case hi49 => (simp only [List.getElem?_toArray, List.getElem?_cons_succ, List.getElem?_cons_zero]; rfl)
              case hi50 => (simp only [List.getElem?_toArray, List.getElem?_cons_succ, List.getElem?_cons_zero]; rfl)
              case op49 =>
                go_simp
                go_at_call 17
                refine (HRP.out m k u48 B mc HMN.out HI.out.rm HM7.out hn8 hS).mono ?_
                rintro e9 u51 ⟨Z2, V2, S2, O2, zc2, vc2, sc2, oc2, rfl, hrd, hb7, hx7⟩
                have HI9 := Lib.hid (HI.out.callB (r := ⟨(replayP (cdP p) me 3 m), Z2, V2, S2, O2, zc2, vc2, sc2, oc2⟩) hb7 hrd (fun b ⟨o, h⟩ => hx7 b o h))
                have hS9 : Below wr.heap.size wr u51 := hS.trans (hb7.mono hS.size)
                clear hrd hb7 hx7 HI
                have HI := HI9
                clear HI9
                refine hK.out _ _ hS9 (fun _ => ?_)
                clear hK K hS
                have hS := hS9
                clear hS9
                try simp only [Act.put, List.setIfInBounds_toArray, List.set_cons_zero, List.set_cons_succ]
                refine wpAnyH_ready (rs := [8]) (by kernel_rfl) (by simp) ?_
                refine' (AllReadyH.cons ?hi52 (fun K hK => ?op52) AllReadyH.nil)
                case hi52 => (simp only [List.getElem?_toArray, List.getElem?_cons_succ, List.getElem?_cons_zero]; rfl)
                go_simp
                have hI9 : LbI wr.heap.size l m A B (u51.alloc (.cells #[.slice none 0 0, .slice none 0 0, .slice none 0 0, .slice none 0 0] 36)) (some ⟨(replayP (cdP p) me 3 l), Z1, V1, S1, O1, zc1, vc1, sc1, oc1⟩) (some ⟨(replayP (cdP p) me 3 m), Z2, V2, S2, O2, zc2, vc2, sc2, oc2⟩) (some u51.heap.size) (some p2) := HI.out.allocA
                have hS9 : Below wr.heap.size wr (u51.alloc (.cells #[.slice none 0 0, .slice none 0 0, .slice none 0 0, .slice none 0 0] 36)) := hS.alloc hS.size _
                refine hK.out _ _ hS9 (fun _ => ?_)
                clear hK K hS HI
                obtain ⟨p1, hnm⟩ : ∃ x, u51.heap.size = x := ⟨_, rfl⟩
                obtain ⟨u53, hWn⟩ : ∃ x, u51.alloc (.cells #[.slice none 0 0, .slice none 0 0, .slice none 0 0, .slice none 0 0] 36) = x := ⟨_, rfl⟩
                rw [hWn, hnm] at hI9
                rw [hWn] at hS9
                simp only [hWn, hnm]
                clear hWn hnm
                have HI := Lib.hid hI9
                have hS := hS9
                clear hS9 hI9
                try simp only [Act.put, List.setIfInBounds_toArray, List.set_cons_zero, List.set_cons_succ]
                refine wpAnyH_ready (rs := [10]) (by kernel_rfl) (by simp) ?_
                refine' (AllReadyH.cons ?hi54 (fun K hK => ?op54) AllReadyH.nil)
                case hi54 => (simp only [List.getElem?_toArray, List.getElem?_cons_succ, List.getElem?_cons_zero]; rfl)
                obtain ⟨e0, e1, e2, e3⟩ := box4 (HI.out.boxA p1 rfl).1
                have ef0 := frz (HI.out.boxA p1 rfl).1 0
                have ef1 := frz (HI.out.boxA p1 rfl).1 1
                have ef2 := frz (HI.out.boxA p1 rfl).1 2
                have ef3 := frz (HI.out.boxA p1 rfl).1 3
                have hzq := lt_of_block (HI.out.boxA p1 rfl).1
                go_simp
                have hS9 : Below wr.heap.size wr (set4 u53 p1 (.slice Z1 (replayP (cdP p) me 3 l).cells.length zc1) (.slice V1 (replayP (cdP p) me 3 l).evs.length vc1) (.slice S1 (replayP (cdP p) me 3 l).sent.length sc1) (.slice O1 (replayP (cdP p) me 3 l).outs.length oc1)) := hS.trans (set4_below u53 (HI.out.boxA p1 rfl).2 _ _ _ _)
                refine hK.out _ _ hS9 (fun _ => ?_)
                clear hK K hS e0 e1 e2 e3 ef0 ef1 ef2 ef3 hzq
                have hS := hS9
                clear hS9
                obtain ⟨u55, hWn⟩ : ∃ x, set4 u53 p1 (.slice Z1 (replayP (cdP p) me 3 l).cells.length zc1) (.slice V1 (replayP (cdP p) me 3 l).evs.length vc1) (.slice S1 (replayP (cdP p) me 3 l).sent.length sc1) (.slice O1 (replayP (cdP p) me 3 l).outs.length oc1) = x := ⟨_, rfl⟩
                have hL := HI.out.last
                have hIA := (HI.out.stA _ rfl).2
                have hIB := (HI.out.stB _ rfl).2
                simp only [RV.in4] at hL
                have hL2 : Box0 u55 p2 := by rw [← hWn]; exact hL.2.2.1
                change wpAnyH _ _ _ _ _ _ _ _ (set4 u53 p1 (.slice Z1 (replayP (cdP p) me 3 l).cells.length zc1) (.slice V1 (replayP (cdP p) me 3 l).evs.length vc1) (.slice S1 (replayP (cdP p) me 3 l).sent.length sc1) (.slice O1 (replayP (cdP p) me 3 l).outs.length oc1))
                rw [hWn] at hL hS ⊢
                clear hWn
                try simp only [Act.put, List.setIfInBounds_toArray, List.set_cons_zero, List.set_cons_succ]
                refine wpAnyH_ready (rs := [11]) (by kernel_rfl) (by simp) ?_
                refine' (AllReadyH.cons ?hi56 (fun K hK => ?op56) AllReadyH.nil)
                case hi56 => (simp only [List.getElem?_toArray, List.getElem?_cons_succ, List.getElem?_cons_zero]; rfl)
                obtain ⟨e0, e1, e2, e3⟩ := box4 hL2
                have ef0 := frz hL2 0
                have ef1 := frz hL2 1
                have ef2 := frz hL2 2
                have ef3 := frz hL2 3
                have hzq := lt_of_block hL2
                go_simp
                have hS9 : Below wr.heap.size wr (set4 u55 p2 (.slice Z2 (replayP (cdP p) me 3 m).cells.length zc2) (.slice V2 (replayP (cdP p) me 3 m).evs.length vc2) (.slice S2 (replayP (cdP p) me 3 m).sent.length sc2) (.slice O2 (replayP (cdP p) me 3 m).outs.length oc2)) := hS.trans (set4_below u55 hL.2.2.2.2.1 _ _ _ _)
                refine hK.out _ _ hS9 (fun _ => ?_)
                clear hK K hS e0 e1 e2 e3 ef0 ef1 ef2 ef3 hzq
                try simp only [Act.put, List.setIfInBounds_toArray, List.set_cons_zero, List.set_cons_succ]
                refine wpAnyH_done (by kernel_rfl) ?_ _
                go_wp2_with fail
                go_meet
                case rel => exact ⟨p1, p2, ⟨(replayP (cdP p) me 3 l), Z1, V1, S1, O1, zc1, vc1, sc1, oc1⟩, ⟨(replayP (cdP p) me 3 m), Z2, V2, S2, O2, zc2, vc2, sc2, oc2⟩, rfl, rfl, rfl, rfl, Lib.hid hL.1, Lib.hid hL.2.1, hL.2.2.2.2.2, hL.2.2.2.1, hL.2.2.2.2.1, Lib.hid hS9, Lib.hid (fun b hb => hb.elim (fun h => ⟨fun e => (hIA b h).2.1 (by rw [e]), fun e => (hIA b h).2.2 (by rw [e])⟩) (fun h => ⟨fun e => (hIB b h).2.1 (by rw [e]), fun e => (hIB b h).2.2 (by rw [e])⟩))⟩

              case op50 =>
                go_simp
                have hI9 : LbI wr.heap.size l m A B (u48.alloc (.cells #[.slice none 0 0, .slice none 0 0, .slice none 0 0, .slice none 0 0] 36)) (some ⟨(replayP (cdP p) me 3 l), Z1, V1, S1, O1, zc1, vc1, sc1, oc1⟩) none (some u48.heap.size) (some p2) := HI.out.allocA
                have hS9 : Below wr.heap.size wr (u48.alloc (.cells #[.slice none 0 0, .slice none 0 0, .slice none 0 0, .slice none 0 0] 36)) := hS.alloc hS.size _
                refine hK.out _ _ hS9 (fun _ => ?_)
                clear hK K hS HI
                obtain ⟨p1, hnm⟩ : ∃ x, u48.heap.size = x := ⟨_, rfl⟩
                obtain ⟨u58, hWn⟩ : ∃ x, u48.alloc (.cells #[.slice none 0 0, .slice none 0 0, .slice none 0 0, .slice none 0 0] 36) = x := ⟨_, rfl⟩
                rw [hWn, hnm] at hI9
                rw [hWn] at hS9
                simp only [hWn, hnm]
                clear hWn hnm
                have HI := Lib.hid hI9
                have hS := hS9
                clear hS9 hI9
                try simp only [Act.put, List.setIfInBounds_toArray, List.set_cons_zero, List.set_cons_succ]
                refine wpAnyH_ready (rs := [7]) (by kernel_rfl) (by simp) ?_
                refine' (AllReadyH.cons ?hi59 (fun K hK => ?op59) AllReadyH.nil)
                case hi59 => (simp only [List.getElem?_toArray, List.getElem?_cons_succ, List.getElem?_cons_zero]; rfl)
                go_simp
                go_at_call 17
                refine (HRP.out m k u58 B mc HMN.out HI.out.rm HM7.out hn8 hS).mono ?_
                rintro e9 u60 ⟨Z2, V2, S2, O2, zc2, vc2, sc2, oc2, rfl, hrd, hb7, hx7⟩
                have HI9 := Lib.hid (HI.out.callB (r := ⟨(replayP (cdP p) me 3 m), Z2, V2, S2, O2, zc2, vc2, sc2, oc2⟩) hb7 hrd (fun b ⟨o, h⟩ => hx7 b o h))
                have hS9 : Below wr.heap.size wr u60 := hS.trans (hb7.mono hS.size)
                clear hrd hb7 hx7 HI
                have HI := HI9
                clear HI9
                refine hK.out _ _ hS9 (fun _ => ?_)
                clear hK K hS
                have hS := hS9
                clear hS9
                try simp only [Act.put, List.setIfInBounds_toArray, List.set_cons_zero, List.set_cons_succ]
                refine wpAnyH_ready (rs := [10]) (by kernel_rfl) (by simp) ?_
                refine' (AllReadyH.cons ?hi61 (fun K hK => ?op61) AllReadyH.nil)
                case hi61 => (simp only [List.getElem?_toArray, List.getElem?_cons_succ, List.getElem?_cons_zero]; rfl)
                obtain ⟨e0, e1, e2, e3⟩ := box4 (HI.out.boxA p1 rfl).1
                have ef0 := frz (HI.out.boxA p1 rfl).1 0
                have ef1 := frz (HI.out.boxA p1 rfl).1 1
                have ef2 := frz (HI.out.boxA p1 rfl).1 2
                have ef3 := frz (HI.out.boxA p1 rfl).1 3
                have hzq := lt_of_block (HI.out.boxA p1 rfl).1
                go_simp
                have hS9 : Below wr.heap.size wr (set4 u60 p1 (.slice Z1 (replayP (cdP p) me 3 l).cells.length zc1) (.slice V1 (replayP (cdP p) me 3 l).evs.length vc1) (.slice S1 (replayP (cdP p) me 3 l).sent.length sc1) (.slice O1 (replayP (cdP p) me 3 l).outs.length oc1)) := hS.trans (set4_below u60 (HI.out.boxA p1 rfl).2 _ _ _ _)
                refine hK.out _ _ hS9 (fun _ => ?_)
                clear hK K hS e0 e1 e2 e3 ef0 ef1 ef2 ef3 hzq
                have hS := hS9
                clear hS9
                obtain ⟨u62, hWn⟩ : ∃ x, set4 u60 p1 (.slice Z1 (replayP (cdP p) me 3 l).cells.length zc1) (.slice V1 (replayP (cdP p) me 3 l).evs.length vc1) (.slice S1 (replayP (cdP p) me 3 l).sent.length sc1) (.slice O1 (replayP (cdP p) me 3 l).outs.length oc1) = x := ⟨_, rfl⟩
                have hL := HI.out.last
                have hIA := (HI.out.stA _ rfl).2
                have hIB := (HI.out.stB _ rfl).2
                simp only [RV.in4] at hL
                have hL2 : Box0 u62 p2 := by rw [← hWn]; exact hL.2.2.1
                change wpAnyH _ _ _ _ _ _ _ _ (set4 u60 p1 (.slice Z1 (replayP (cdP p) me 3 l).cells.length zc1) (.slice V1 (replayP (cdP p) me 3 l).evs.length vc1) (.slice S1 (replayP (cdP p) me 3 l).sent.length sc1) (.slice O1 (replayP (cdP p) me 3 l).outs.length oc1))
                rw [hWn] at hL hS ⊢
                clear hWn
                try simp only [Act.put, List.setIfInBounds_toArray, List.set_cons_zero, List.set_cons_succ]
                refine wpAnyH_ready (rs := [11]) (by kernel_rfl) (by simp) ?_
                refine' (AllReadyH.cons ?hi63 (fun K hK => ?op63) AllReadyH.nil)
                case hi63 => (simp only [List.getElem?_toArray, List.getElem?_cons_succ, List.getElem?_cons_zero]; rfl)
                obtain ⟨e0, e1, e2, e3⟩ := box4 hL2
                have ef0 := frz hL2 0
                have ef1 := frz hL2 1
                have ef2 := frz hL2 2
                have ef3 := frz hL2 3
                have hzq := lt_of_block hL2
                go_simp
                have hS9 : Below wr.heap.size wr (set4 u62 p2 (.slice Z2 (replayP (cdP p) me 3 m).cells.length zc2) (.slice V2 (replayP (cdP p) me 3 m).evs.length vc2) (.slice S2 (replayP (cdP p) me 3 m).sent.length sc2) (.slice O2 (replayP (cdP p) me 3 m).outs.length oc2)) := hS.trans (set4_below u62 hL.2.2.2.2.1 _ _ _ _)
                refine hK.out _ _ hS9 (fun _ => ?_)
                clear hK K hS e0 e1 e2 e3 ef0 ef1 ef2 ef3 hzq
                try simp only [Act.put, List.setIfInBounds_toArray, List.set_cons_zero, List.set_cons_succ]
                refine wpAnyH_done (by kernel_rfl) ?_ _
                go_wp2_with fail
                go_meet
                case rel => exact ⟨p1, p2, ⟨(replayP (cdP p) me 3 l), Z1, V1, S1, O1, zc1, vc1, sc1, oc1⟩, ⟨(replayP (cdP p) me 3 m), Z2, V2, S2, O2, zc2, vc2, sc2, oc2⟩, rfl, rfl, rfl, rfl, Lib.hid hL.1, Lib.hid hL.2.1, hL.2.2.2.2.2, hL.2.2.2.1, hL.2.2.2.2.1, Lib.hid hS9, Lib.hid (fun b hb => hb.elim (fun h => ⟨fun e => (hIA b h).2.1 (by rw [e]), fun e => (hIA b h).2.2 (by rw [e])⟩) (fun h => ⟨fun e => (hIB b h).2.1 (by rw [e]), fun e => (hIB b h).2.2 (by rw [e])⟩))⟩



          case op8 =>
            go_simp
            have hI9 : LbI wr.heap.size l m A B (wd.alloc (.cells #[.slice none 0 0, .slice none 0 0, .slice none 0 0, .slice none 0 0] 36)) none none (some wd.heap.size) none := HI.out.allocA
            have hS9 : Below wr.heap.size wr (wd.alloc (.cells #[.slice none 0 0, .slice none 0 0, .slice none 0 0, .slice none 0 0] 36)) := hS.alloc hS.size _
            refine hK.out _ _ hS9 (fun _ => ?_)
            clear hK K hS HI
            obtain ⟨p1, hnm⟩ : ∃ x, wd.heap.size = x := ⟨_, rfl⟩
            obtain ⟨u65, hWn⟩ : ∃ x, wd.alloc (.cells #[.slice none 0 0, .slice none 0 0, .slice none 0 0, .slice none 0 0] 36) = x := ⟨_, rfl⟩
            rw [hWn, hnm] at hI9
            rw [hWn] at hS9
            simp only [hWn, hnm]
            clear hWn hnm
            have HI := Lib.hid hI9
            have hS := hS9
            clear hS9 hI9
            try simp only [Act.put, List.setIfInBounds_toArray, List.set_cons_zero, List.set_cons_succ]
            refine wpAnyH_ready (rs := [3, 9]) (by kernel_rfl) (by simp) ?_
            refine' (AllReadyH.cons ?hi66 (fun K hK => ?op66) (AllReadyH.cons ?hi67 (fun K hK => ?op67) AllReadyH.nil))
            case hi66 => (simp only [List.getElem?_toArray, List.getElem?_cons_succ, List.getElem?_cons_zero]; rfl)
            case hi67 => (simp only [List.getElem?_toArray, List.getElem?_cons_succ, List.getElem?_cons_zero]; rfl)
            case op66 =>
              go_simp
              go_at_call 17
              refine (HRP.out l k u65 A lc HN.out HI.out.rl H7.out hn8 hS).mono ?_
              rintro e9 u68 ⟨Z1, V1, S1, O1, zc1, vc1, sc1, oc1, rfl, hrd, hb7, hx7⟩
              have HI9 := Lib.hid (HI.out.callA (r := ⟨(replayP (cdP p) me 3 l), Z1, V1, S1, O1, zc1, vc1, sc1, oc1⟩) hb7 hrd (fun b ⟨o, h⟩ => hx7 b o h))
              have hS9 : Below wr.heap.size wr u68 := hS.trans (hb7.mono hS.size)
              clear hrd hb7 hx7 HI
              have HI := HI9
              clear HI9
              refine hK.out _ _ hS9 (fun _ => ?_)
              clear hK K hS
              have hS := hS9
              clear hS9
              try simp only [Act.put, List.setIfInBounds_toArray, List.set_cons_zero, List.set_cons_succ]
              refine wpAnyH_ready (rs := [7, 9]) (by kernel_rfl) (by simp) ?_
              refine' (AllReadyH.cons ?hi69 (fun K hK => ?op69) (AllReadyH.cons ?hi70 (fun K hK => ?op70) AllReadyH.nil))
              case hi69 => (simp only [List.getElem?_toArray, List.getElem?_cons_succ, List.getElem?_cons_zero]; rfl)
              case hi70 => (simp only [List.getElem?_toArray, List.getElem?_cons_succ, List.getElem?_cons_zero]; rfl)
              case op69 =>
                go_simp
                go_at_call 17
                refine (HRP.out m k u68 B mc HMN.out HI.out.rm HM7.out hn8 hS).mono ?_
                rintro e9 u71 ⟨Z2, V2, S2, O2, zc2, vc2, sc2, oc2, rfl, hrd, hb7, hx7⟩
                have HI9 := Lib.hid (HI.out.callB (r := ⟨(replayP (cdP p) me 3 m), Z2, V2, S2, O2, zc2, vc2, sc2, oc2⟩) hb7 hrd (fun b ⟨o, h⟩ => hx7 b o h))
                have hS9 : Below wr.heap.size wr u71 := hS.trans (hb7.mono hS.size)
                clear hrd hb7 hx7 HI
                have HI := HI9
                clear HI9
                refine hK.out _ _ hS9 (fun _ => ?_)
                clear hK K hS
                have hS := hS9
                clear hS9
                try simp only [Act.put, List.setIfInBounds_toArray, List.set_cons_zero, List.set_cons_succ]
                refine wpAnyH_ready (rs := [9]) (by kernel_rfl) (by simp) ?_
                refine' (AllReadyH.cons ?hi72 (fun K hK => ?op72) AllReadyH.nil)
                case hi72 => (simp only [List.getElem?_toArray, List.getElem?_cons_succ, List.getElem?_cons_zero]; rfl)
                go_simp
                have hI9 : LbI wr.heap.size l m A B (u71.alloc (.cells #[.slice none 0 0, .slice none 0 0, .slice none 0 0, .slice none 0 0] 36)) (some ⟨(replayP (cdP p) me 3 l), Z1, V1, S1, O1, zc1, vc1, sc1, oc1⟩) (some ⟨(replayP (cdP p) me 3 m), Z2, V2, S2, O2, zc2, vc2, sc2, oc2⟩) (some p1) (some u71.heap.size) := HI.out.allocB
                have hS9 : Below wr.heap.size wr (u71.alloc (.cells #[.slice none 0 0, .slice none 0 0, .slice none 0 0, .slice none 0 0] 36)) := hS.alloc hS.size _
                refine hK.out _ _ hS9 (fun _ => ?_)
                clear hK K hS HI
                obtain ⟨p2, hnm⟩ : ∃ x, u71.heap.size = x := ⟨_, rfl⟩
                obtain ⟨u73, hWn⟩ : ∃ x, u71.alloc (.cells #[.slice none 0 0, .slice none 0 0, .slice none 0 0, .slice none 0 0] 36) = x := ⟨_, rfl⟩
                rw [hWn, hnm] at hI9
                rw [hWn] at hS9
                simp only [hWn, hnm]
                clear hWn hnm
                have HI := Lib.hid hI9
                have hS := hS9
                clear hS9 hI9
                try simp only [Act.put, List.setIfInBounds_toArray, List.set_cons_zero, List.set_cons_succ]
                refine wpAnyH_ready (rs := [10]) (by kernel_rfl) (by simp) ?_
                refine' (AllReadyH.cons ?hi74 (fun K hK => ?op74) AllReadyH.nil)
                case hi74 => (simp only [List.getElem?_toArray, List.getElem?_cons_succ, List.getElem?_cons_zero]; rfl)
                obtain ⟨e0, e1, e2, e3⟩ := box4 (HI.out.boxA p1 rfl).1
                have ef0 := frz (HI.out.boxA p1 rfl).1 0
                have ef1 := frz (HI.out.boxA p1 rfl).1 1
                have ef2 := frz (HI.out.boxA p1 rfl).1 2
                have ef3 := frz (HI.out.boxA p1 rfl).1 3
                have hzq := lt_of_block (HI.out.boxA p1 rfl).1
                go_simp
                have hS9 : Below wr.heap.size wr (set4 u73 p1 (.slice Z1 (replayP (cdP p) me 3 l).cells.length zc1) (.slice V1 (replayP (cdP p) me 3 l).evs.length vc1) (.slice S1 (replayP (cdP p) me 3 l).sent.length sc1) (.slice O1 (replayP (cdP p) me 3 l).outs.length oc1)) := hS.trans (set4_below u73 (HI.out.boxA p1 rfl).2 _ _ _ _)
                refine hK.out _ _ hS9 (fun _ => ?_)
                clear hK K hS e0 e1 e2 e3 ef0 ef1 ef2 ef3 hzq
                have hS := hS9
                clear hS9
                obtain ⟨u75, hWn⟩ : ∃ x, set4 u73 p1 (.slice Z1 (replayP (cdP p) me 3 l).cells.length zc1) (.slice V1 (replayP (cdP p) me 3 l).evs.length vc1) (.slice S1 (replayP (cdP p) me 3 l).sent.length sc1) (.slice O1 (replayP (cdP p) me 3 l).outs.length oc1) = x := ⟨_, rfl⟩
                have hL := HI.out.last
                have hIA := (HI.out.stA _ rfl).2
                have hIB := (HI.out.stB _ rfl).2
                simp only [RV.in4] at hL
                have hL2 : Box0 u75 p2 := by rw [← hWn]; exact hL.2.2.1
                change wpAnyH _ _ _ _ _ _ _ _ (set4 u73 p1 (.slice Z1 (replayP (cdP p) me 3 l).cells.length zc1) (.slice V1 (replayP (cdP p) me 3 l).evs.length vc1) (.slice S1 (replayP (cdP p) me 3 l).sent.length sc1) (.slice O1 (replayP (cdP p) me 3 l).outs.length oc1))
                rw [hWn] at hL hS ⊢
                clear hWn
                try simp only [Act.put, List.setIfInBounds_toArray, List.set_cons_zero, List.set_cons_succ]
                refine wpAnyH_ready (rs := [11]) (by kernel_rfl) (by simp) ?_
                refine' (AllReadyH.cons ?hi76 (fun K hK => ?op76) AllReadyH.nil)
                case hi76 => (simp only [List.getElem?_toArray, List.getElem?_cons_succ, List.getElem?_cons_zero]; rfl)
                obtain ⟨e0, e1, e2, e3⟩ := box4 hL2
                have ef0 := frz hL2 0
                have ef1 := frz hL2 1
                have ef2 := frz hL2 2
                have ef3 := frz hL2 3
                have hzq := lt_of_block hL2
                go_simp
                have hS9 : Below wr.heap.size wr (set4 u75 p2 (.slice Z2 (replayP (cdP p) me 3 m).cells.length zc2) (.slice V2 (replayP (cdP p) me 3 m).evs.length vc2) (.slice S2 (replayP (cdP p) me 3 m).sent.length sc2) (.slice O2 (replayP (cdP p) me 3 m).outs.length oc2)) := hS.trans (set4_below u75 hL.2.2.2.2.1 _ _ _ _)
                refine hK.out _ _ hS9 (fun _ => ?_)
                clear hK K hS e0 e1 e2 e3 ef0 ef1 ef2 ef3 hzq
                try simp only [Act.put, List.setIfInBounds_toArray, List.set_cons_zero, List.set_cons_succ]
                refine wpAnyH_done (by kernel_rfl) ?_ _
                go_wp2_with fail
                go_meet
                case rel => exact ⟨p1, p2, ⟨(replayP (cdP p) me 3 l), Z1, V1, S1, O1, zc1, vc1, sc1, oc1⟩, ⟨(replayP (cdP p) me 3 m), Z2, V2, S2, O2, zc2, vc2, sc2, oc2⟩, rfl, rfl, rfl, rfl, Lib.hid hL.1, Lib.hid hL.2.1, hL.2.2.2.2.2, hL.2.2.2.1, hL.2.2.2.2.1, Lib.hid hS9, Lib.hid (fun b hb => hb.elim (fun h => ⟨fun e => (hIA b h).2.1 (by rw [e]), fun e => (hIA b h).2.2 (by rw [e])⟩) (fun h => ⟨fun e => (hIB b h).2.1 (by rw [e]), fun e => (hIB b h).2.2 (by rw [e])⟩))⟩

              case op70 =>
                go_simp
                have hI9 : LbI wr.heap.size l m A B (u68.alloc (.cells #[.slice none 0 0, .slice none 0 0, .slice none 0 0, .slice none 0 0] 36)) (some ⟨(replayP (cdP p) me 3 l), Z1, V1, S1, O1, zc1, vc1, sc1, oc1⟩) none (some p1) (some u68.heap.size) := HI.out.allocB
                have hS9 : Below wr.heap.size wr (u68.alloc (.cells #[.slice none 0 0, .slice none 0 0, .slice none 0 0, .slice none 0 0] 36)) := hS.alloc hS.size _
                refine hK.out _ _ hS9 (fun _ => ?_)
                clear hK K hS HI
                obtain ⟨p2, hnm⟩ : ∃ x, u68.heap.size = x := ⟨_, rfl⟩
                obtain ⟨u78, hWn⟩ : ∃ x, u68.alloc (.cells #[.slice none 0 0, .slice none 0 0, .slice none 0 0, .slice none 0 0] 36) = x := ⟨_, rfl⟩
                rw [hWn, hnm] at hI9
                rw [hWn] at hS9
                simp only [hWn, hnm]
                clear hWn hnm
                have HI := Lib.hid hI9
                have hS := hS9
                clear hS9 hI9
                try simp only [Act.put, List.setIfInBounds_toArray, List.set_cons_zero, List.set_cons_succ]
                refine wpAnyH_ready (rs := [7]) (by kernel_rfl) (by simp) ?_
                refine' (AllReadyH.cons ?hi79 (fun K hK => ?op79) AllReadyH.nil)
                case hi79 => (simp only [List.getElem?_toArray, List.getElem?_cons_succ, List.getElem?_cons_zero]; rfl)
                go_simp
                go_at_call 17
                refine (HRP.out m k u78 B mc HMN.out HI.out.rm HM7.out hn8 hS).mono ?_
                rintro e9 u80 ⟨Z2, V2, S2, O2, zc2, vc2, sc2, oc2, rfl, hrd, hb7, hx7⟩
                have HI9 := Lib.hid (HI.out.callB (r := ⟨(replayP (cdP p) me 3 m), Z2, V2, S2, O2, zc2, vc2, sc2, oc2⟩) hb7 hrd (fun b ⟨o, h⟩ => hx7 b o h))
                have hS9 : Below wr.heap.size wr u80 := hS.trans (hb7.mono hS.size)
                clear hrd hb7 hx7 HI
                have HI := HI9
                clear HI9
                refine hK.out _ _ hS9 (fun _ => ?_)
                clear hK K hS
                have hS := hS9
                clear hS9
                try simp only [Act.put, List.setIfInBounds_toArray, List.set_cons_zero, List.set_cons_succ]
                refine wpAnyH_ready (rs := [10]) (by kernel_rfl) (by simp) ?_
                refine' (AllReadyH.cons ?hi81 (fun K hK => ?op81) AllReadyH.nil)
                case hi81 => (simp only [List.getElem?_toArray, List.getElem?_cons_succ, List.getElem?_cons_zero]; rfl)
                obtain ⟨e0, e1, e2, e3⟩ := box4 (HI.out.boxA p1 rfl).1
                have ef0 := frz (HI.out.boxA p1 rfl).1 0
                have ef1 := frz (HI.out.boxA p1 rfl).1 1
                have ef2 := frz (HI.out.boxA p1 rfl).1 2
                have ef3 := frz (HI.out.boxA p1 rfl).1 3
                have hzq := lt_of_block (HI.out.boxA p1 rfl).1
                go_simp
                have hS9 : Below wr.heap.size wr (set4 u80 p1 (.slice Z1 (replayP (cdP p) me 3 l).cells.length zc1) (.slice V1 (replayP (cdP p) me 3 l).evs.length vc1) (.slice S1 (replayP (cdP p) me 3 l).sent.length sc1) (.slice O1 (replayP (cdP p) me 3 l).outs.length oc1)) := hS.trans (set4_below u80 (HI.out.boxA p1 rfl).2 _ _ _ _)
                refine hK.out _ _ hS9 (fun _ => ?_)
                clear hK K hS e0 e1 e2 e3 ef0 ef1 ef2 ef3 hzq
                have hS := hS9
                clear hS9
                obtain ⟨u82, hWn⟩ : ∃ x, set4 u80 p1 (.slice Z1 (replayP (cdP p) me 3 l).cells.length zc1) (.slice V1 (replayP (cdP p) me 3 l).evs.length vc1) (.slice S1 (replayP (cdP p) me 3 l).sent.length sc1) (.slice O1 (replayP (cdP p) me 3 l).outs.length oc1) = x := ⟨_, rfl⟩
                have hL := HI.out.last
                have hIA := (HI.out.stA _ rfl).2
                have hIB := (HI.out.stB _ rfl).2
                simp only [RV.in4] at hL
                have hL2 : Box0 u82 p2 := by rw [← hWn]; exact hL.2.2.1
                change wpAnyH _ _ _ _ _ _ _ _ (set4 u80 p1 (.slice Z1 (replayP (cdP p) me 3 l).cells.length zc1) (.slice V1 (replayP (cdP p) me 3 l).evs.length vc1) (.slice S1 (replayP (cdP p) me 3 l).sent.length sc1) (.slice O1 (replayP (cdP p) me 3 l).outs.length oc1))
                rw [hWn] at hL hS ⊢
                clear hWn
                try simp only [Act.put, List.setIfInBounds_toArray, List.set_cons_zero, List.set_cons_succ]
                refine wpAnyH_ready (rs := [11]) (by kernel_rfl) (by simp) ?_
                refine' (AllReadyH.cons ?hi83 (fun K hK => ?op83) AllReadyH.nil)
                case hi83 => (simp only [List.getElem?_toArray, List.getElem?_cons_succ, List.getElem?_cons_zero]; rfl)
                obtain ⟨e0, e1, e2, e3⟩ := box4 hL2
                have ef0 := frz hL2 0
                have ef1 := frz hL2 1
                have ef2 := frz hL2 2
                have ef3 := frz hL2 3
                have hzq := lt_of_block hL2
                go_simp
                have hS9 : Below wr.heap.size wr (set4 u82 p2 (.slice Z2 (replayP (cdP p) me 3 m).cells.length zc2) (.slice V2 (replayP (cdP p) me 3 m).evs.length vc2) (.slice S2 (replayP (cdP p) me 3 m).sent.length sc2) (.slice O2 (replayP (cdP p) me 3 m).outs.length oc2)) := hS.trans (set4_below u82 hL.2.2.2.2.1 _ _ _ _)
                refine hK.out _ _ hS9 (fun _ => ?_)
                clear hK K hS e0 e1 e2 e3 ef0 ef1 ef2 ef3 hzq
                try simp only [Act.put, List.setIfInBounds_toArray, List.set_cons_zero, List.set_cons_succ]
                refine wpAnyH_done (by kernel_rfl) ?_ _
                go_wp2_with fail
                go_meet
                case rel => exact ⟨p1, p2, ⟨(replayP (cdP p) me 3 l), Z1, V1, S1, O1, zc1, vc1, sc1, oc1⟩, ⟨(replayP (cdP p) me 3 m), Z2, V2, S2, O2, zc2, vc2, sc2, oc2⟩, rfl, rfl, rfl, rfl, Lib.hid hL.1, Lib.hid hL.2.1, hL.2.2.2.2.2, hL.2.2.2.1, hL.2.2.2.2.1, Lib.hid hS9, Lib.hid (fun b hb => hb.elim (fun h => ⟨fun e => (hIA b h).2.1 (by rw [e]), fun e => (hIA b h).2.2 (by rw [e])⟩) (fun h => ⟨fun e => (hIB b h).2.1 (by rw [e]), fun e => (hIB b h).2.2 (by rw [e])⟩))⟩


            case op67 =>
              go_simp
              have hI9 : LbI wr.heap.size l m A B (u65.alloc (.cells #[.slice none 0 0, .slice none 0 0, .slice none 0 0, .slice none 0 0] 36)) none none (some p1) (some u65.heap.size) := HI.out.allocB
              have hS9 : Below wr.heap.size wr (u65.alloc (.cells #[.slice none 0 0, .slice none 0 0, .slice none 0 0, .slice none 0 0] 36)) := hS.alloc hS.size _
              refine hK.out _ _ hS9 (fun _ => ?_)
              clear hK K hS HI
              obtain ⟨p2, hnm⟩ : ∃ x, u65.heap.size = x := ⟨_, rfl⟩
              obtain ⟨u85, hWn⟩ : ∃ x, u65.alloc (.cells #[.slice none 0 0, .slice none 0 0, .slice none 0 0, .slice none 0 0] 36) = x := ⟨_, rfl⟩
              rw [hWn, hnm] at hI9
              rw [hWn] at hS9
              simp only [hWn, hnm]
              clear hWn hnm
              have HI := Lib.hid hI9
              have hS := hS9
              clear hS9 hI9
              try simp only [Act.put, List.setIfInBounds_toArray, List.set_cons_zero, List.set_cons_succ]
              refine wpAnyH_ready (rs := [3]) (by kernel_rfl) (by simp) ?_
              refine' (AllReadyH.cons ?hi86 (fun K hK => ?op86) AllReadyH.nil)
              case hi86 => (simp only [List.getElem?_toArray, List.getElem?_cons_succ, List.getElem?_cons_zero]; rfl)
              go_simp
              go_at_call 17
              refine (HRP.out l k u85 A lc HN.out HI.out.rl H7.out hn8 hS).mono ?_
              rintro e9 u87 ⟨Z1, V1, S1, O1, zc1, vc1, sc1, oc1, rfl, hrd, hb7, hx7⟩
              have HI9 := Lib.hid (HI.out.callA (r := ⟨(replayP (cdP p) me 3 l), Z1, V1, S1, O1, zc1, vc1, sc1, oc1⟩) hb7 hrd (fun b ⟨o, h⟩ => hx7 b o h))
              have hS9 : Below wr.heap.size wr u87 := hS.trans (hb7.mono hS.size)
              clear hrd hb7 hx7 HI
              have HI := HI9
              clear HI9
              refine hK.out _ _ hS9 (fun _ => ?_)
              clear hK K hS
              have hS := hS9
              clear hS9
              try simp only [Act.put, List.setIfInBounds_toArray, List.set_cons_zero, List.set_cons_succ]
              refine wpAnyH_ready (rs := [7]) (by kernel_rfl) (by simp) ?_
              refine' (AllReadyH.cons ?hi88 (fun K hK => ?op88) AllReadyH.nil)
              case hi88 => (simp only [List.getElem?_toArray, List.getElem?_cons_succ, List.getElem?_cons_zero]; rfl)
              go_simp
              go_at_call 17
              refine (HRP.out m k u87 B mc HMN.out HI.out.rm HM7.out hn8 hS).mono ?_
              rintro e9 u89 ⟨Z2, V2, S2, O2, zc2, vc2, sc2, oc2, rfl, hrd, hb7, hx7⟩
              have HI9 := Lib.hid (HI.out.callB (r := ⟨(replayP (cdP p) me 3 m), Z2, V2, S2, O2, zc2, vc2, sc2, oc2⟩) hb7 hrd (fun b ⟨o, h⟩ => hx7 b o h))
              have hS9 : Below wr.heap.size wr u89 := hS.trans (hb7.mono hS.size)
              clear hrd hb7 hx7 HI
              have HI := HI9
              clear HI9
              refine hK.out _ _ hS9 (fun _ => ?_)
              clear hK K hS
              have hS := hS9
              clear hS9
              try simp only [Act.put, List.setIfInBounds_toArray, List.set_cons_zero, List.set_cons_succ]
              refine wpAnyH_ready (rs := [10]) (by kernel_rfl) (by simp) ?_
              refine' (AllReadyH.cons ?hi90 (fun K hK => ?op90) AllReadyH.nil)
              case hi90 => (simp only [List.getElem?_toArray, List.getElem?_cons_succ, List.getElem?_cons_zero]; rfl)
              obtain ⟨e0, e1, e2, e3⟩ := box4 (HI.out.boxA p1 rfl).1
              have ef0 := frz (HI.out.boxA p1 rfl).1 0
              have ef1 := frz (HI.out.boxA p1 rfl).1 1
              have ef2 := frz (HI.out.boxA p1 rfl).1 2
              have ef3 := frz (HI.out.boxA p1 rfl).1 3
              have hzq := lt_of_block (HI.out.boxA p1 rfl).1
              go_simp
              have hS9 : Below wr.heap.size wr (set4 u89 p1 (.slice Z1 (replayP (cdP p) me 3 l).cells.length zc1) (.slice V1 (replayP (cdP p) me 3 l).evs.length vc1) (.slice S1 (replayP (cdP p) me 3 l).sent.length sc1) (.slice O1 (replayP (cdP p) me 3 l).outs.length oc1)) := hS.trans (set4_below u89 (HI.out.boxA p1 rfl).2 _ _ _ _)
              refine hK.out _ _ hS9 (fun _ => ?_)
              clear hK K hS e0 e1 e2 e3 ef0 ef1 ef2 ef3 hzq
              have hS := hS9
              clear hS9
              obtain ⟨u91, hWn⟩ : ∃ x, set4 u89 p1 (.slice Z1 (replayP (cdP p) me 3 l).cells.length zc1) (.slice V1 (replayP (cdP p) me 3 l).evs.length vc1) (.slice S1 (replayP (cdP p) me 3 l).sent.length sc1) (.slice O1 (replayP (cdP p) me 3 l).outs.length oc1) = x := ⟨_, rfl⟩
              have hL := HI.out.last
              have hIA := (HI.out.stA _ rfl).2
              have hIB := (HI.out.stB _ rfl).2
              simp only [RV.in4] at hL
              have hL2 : Box0 u91 p2 := by rw [← hWn]; exact hL.2.2.1
              change wpAnyH _ _ _ _ _ _ _ _ (set4 u89 p1 (.slice Z1 (replayP (cdP p) me 3 l).cells.length zc1) (.slice V1 (replayP (cdP p) me 3 l).evs.length vc1) (.slice S1 (replayP (cdP p) me 3 l).sent.length sc1) (.slice O1 (replayP (cdP p) me 3 l).outs.length oc1))
              rw [hWn] at hL hS ⊢
              clear hWn
              try simp only [Act.put, List.setIfInBounds_toArray, List.set_cons_zero, List.set_cons_succ]
              refine wpAnyH_ready (rs := [11]) (by kernel_rfl) (by simp) ?_
              refine' (AllReadyH.cons ?hi92 (fun K hK => ?op92) AllReadyH.nil)
              case hi92 => (simp only [List.getElem?_toArray, List.getElem?_cons_succ, List.getElem?_cons_zero]; rfl)
              obtain ⟨e0, e1, e2, e3⟩ := box4 hL2
              have ef0 := frz hL2 0
              have ef1 := frz hL2 1
              have ef2 := frz hL2 2
              have ef3 := frz hL2 3
              have hzq := lt_of_block hL2
              go_simp
              have hS9 : Below wr.heap.size wr (set4 u91 p2 (.slice Z2 (replayP (cdP p) me 3 m).cells.length zc2) (.slice V2 (replayP (cdP p) me 3 m).evs.length vc2) (.slice S2 (replayP (cdP p) me 3 m).sent.length sc2) (.slice O2 (replayP (cdP p) me 3 m).outs.length oc2)) := hS.trans (set4_below u91 hL.2.2.2.2.1 _ _ _ _)
              refine hK.out _ _ hS9 (fun _ => ?_)
              clear hK K hS e0 e1 e2 e3 ef0 ef1 ef2 ef3 hzq
              try simp only [Act.put, List.setIfInBounds_toArray, List.set_cons_zero, List.set_cons_succ]
              refine wpAnyH_done (by kernel_rfl) ?_ _
              go_wp2_with fail
              go_meet
              case rel => exact ⟨p1, p2, ⟨(replayP (cdP p) me 3 l), Z1, V1, S1, O1, zc1, vc1, sc1, oc1⟩, ⟨(replayP (cdP p) me 3 m), Z2, V2, S2, O2, zc2, vc2, sc2, oc2⟩, rfl, rfl, rfl, rfl, Lib.hid hL.1, Lib.hid hL.2.1, hL.2.2.2.2.2, hL.2.2.2.1, hL.2.2.2.2.1, Lib.hid hS9, Lib.hid (fun b hb => hb.elim (fun h => ⟨fun e => (hIA b h).2.1 (by rw [e]), fun e => (hIA b h).2.2 (by rw [e])⟩) (fun h => ⟨fun e => (hIB b h).2.1 (by rw [e]), fun e => (hIB b h).2.2 (by rw [e])⟩))⟩


          case op9 =>
            go_simp
            have hI9 : LbI wr.heap.size l m A B (wd.alloc (.cells #[.slice none 0 0, .slice none 0 0, .slice none 0 0, .slice none 0 0] 36)) none none none (some wd.heap.size) := HI.out.allocB
            have hS9 : Below wr.heap.size wr (wd.alloc (.cells #[.slice none 0 0, .slice none 0 0, .slice none 0 0, .slice none 0 0] 36)) := hS.alloc hS.size _
            refine hK.out _ _ hS9 (fun _ => ?_)
            clear hK K hS HI
            obtain ⟨p2, hnm⟩ : ∃ x, wd.heap.size = x := ⟨_, rfl⟩
            obtain ⟨u94, hWn⟩ : ∃ x, wd.alloc (.cells #[.slice none 0 0, .slice none 0 0, .slice none 0 0, .slice none 0 0] 36) = x := ⟨_, rfl⟩
            rw [hWn, hnm] at hI9
            rw [hWn] at hS9
            simp only [hWn, hnm]
            clear hWn hnm
            have HI := Lib.hid hI9
            have hS := hS9
            clear hS9 hI9
            try simp only [Act.put, List.setIfInBounds_toArray, List.set_cons_zero, List.set_cons_succ]
            refine wpAnyH_ready (rs := [3, 8]) (by kernel_rfl) (by simp) ?_
            refine' (AllReadyH.cons ?hi95 (fun K hK => ?op95) (AllReadyH.cons ?hi96 (fun K hK => ?op96) AllReadyH.nil))
            case hi95 => (simp only [List.getElem?_toArray, List.getElem?_cons_succ, List.getElem?_cons_zero]; rfl)
            case hi96 => (simp only [List.getElem?_toArray, List.getElem?_cons_succ, List.getElem?_cons_zero]; rfl)
            case op95 =>
              go_simp
              go_at_call 17
              refine (HRP.out l k u94 A lc HN.out HI.out.rl H7.out hn8 hS).mono ?_
              rintro e9 u97 ⟨Z1, V1, S1, O1, zc1, vc1, sc1, oc1, rfl, hrd, hb7, hx7⟩
              have HI9 := Lib.hid (HI.out.callA (r := ⟨(replayP (cdP p) me 3 l), Z1, V1, S1, O1, zc1, vc1, sc1, oc1⟩) hb7 hrd (fun b ⟨o, h⟩ => hx7 b o h))
              have hS9 : Below wr.heap.size wr u97 := hS.trans (hb7.mono hS.size)
              clear hrd hb7 hx7 HI
              have HI := HI9
              clear HI9
              refine hK.out _ _ hS9 (fun _ => ?_)
              clear hK K hS
              have hS := hS9
              clear hS9
              try simp only [Act.put, List.setIfInBounds_toArray, List.set_cons_zero, List.set_cons_succ]
              refine wpAnyH_ready (rs := [7, 8]) (by kernel_rfl) (by simp) ?_
              refine' (AllReadyH.cons ?hi98 (fun K hK => ?op98) (AllReadyH.cons ?hi99 (fun K hK => ?op99) AllReadyH.nil))
              case hi98 => (simp only [List.getElem?_toArray, List.getElem?_cons_succ, List.getElem?_cons_zero]; rfl)
              case hi99 => (simp only [List.getElem?_toArray, List.getElem?_cons_succ, List.getElem?_cons_zero]; rfl)
              case op98 =>
                go_simp
                go_at_call 17
                refine (HRP.out m k u97 B mc HMN.out HI.out.rm HM7.out hn8 hS).mono ?_
                rintro e9 u100 ⟨Z2, V2, S2, O2, zc2, vc2, sc2, oc2, rfl, hrd, hb7, hx7⟩
                have HI9 := Lib.hid (HI.out.callB (r := ⟨(replayP (cdP p) me 3 m), Z2, V2, S2, O2, zc2, vc2, sc2, oc2⟩) hb7 hrd (fun b ⟨o, h⟩ => hx7 b o h))
                have hS9 : Below wr.heap.size wr u100 := hS.trans (hb7.mono hS.size)
                clear hrd hb7 hx7 HI
                have HI := HI9
                clear HI9
                refine hK.out _ _ hS9 (fun _ => ?_)
                clear hK K hS
                have hS := hS9
                clear hS9
                try simp only [Act.put, List.setIfInBounds_toArray, List.set_cons_zero, List.set_cons_succ]
                refine wpAnyH_ready (rs := [8]) (by kernel_rfl) (by simp) ?_
                refine' (AllReadyH.cons ?hi101 (fun K hK => ?op101) AllReadyH.nil)
                case hi101 => (simp only [List.getElem?_toArray, List.getElem?_cons_succ, List.getElem?_cons_zero]; rfl)
                go_simp
                have hI9 : LbI wr.heap.size l m A B (u100.alloc (.cells #[.slice none 0 0, .slice none 0 0, .slice none 0 0, .slice none 0 0] 36)) (some ⟨(replayP (cdP p) me 3 l), Z1, V1, S1, O1, zc1, vc1, sc1, oc1⟩) (some ⟨(replayP (cdP p) me 3 m), Z2, V2, S2, O2, zc2, vc2, sc2, oc2⟩) (some u100.heap.size) (some p2) := HI.out.allocA
                have hS9 : Below wr.heap.size wr (u100.alloc (.cells #[.slice none 0 0, .slice none 0 0, .slice none 0 0, .slice none 0 0] 36)) := hS.alloc hS.size _
                refine hK.out _ _ hS9 (fun _ => ?_)
                clear hK K hS HI
                obtain ⟨p1, hnm⟩ : ∃ x, u100.heap.size = x := ⟨_, rfl⟩
                obtain ⟨u102, hWn⟩ : ∃ x, u100.alloc (.cells #[.slice none 0 0, .slice none 0 0, .slice none 0 0, .slice none 0 0] 36) = x := ⟨_, rfl⟩
                rw [hWn, hnm] at hI9
                rw [hWn] at hS9
                simp only [hWn, hnm]
                clear hWn hnm
                have HI := Lib.hid hI9
                have hS := hS9
                clear hS9 hI9
                try simp only [Act.put, List.setIfInBounds_toArray, List.set_cons_zero, List.set_cons_succ]
                refine wpAnyH_ready (rs := [10]) (by kernel_rfl) (by simp) ?_
                refine' (AllReadyH.cons ?hi103 (fun K hK => ?op103) AllReadyH.nil)
                case hi103 => (simp only [List.getElem?_toArray, List.getElem?_cons_succ, List.getElem?_cons_zero]; rfl)
                obtain ⟨e0, e1, e2, e3⟩ := box4 (HI.out.boxA p1 rfl).1
                have ef0 := frz (HI.out.boxA p1 rfl).1 0
                have ef1 := frz (HI.out.boxA p1 rfl).1 1
                have ef2 := frz (HI.out.boxA p1 rfl).1 2
                have ef3 := frz (HI.out.boxA p1 rfl).1 3
                have hzq := lt_of_block (HI.out.boxA p1 rfl).1
                go_simp
                have hS9 : Below wr.heap.size wr (set4 u102 p1 (.slice Z1 (replayP (cdP p) me 3 l).cells.length zc1) (.slice V1 (replayP (cdP p) me 3 l).evs.length vc1) (.slice S1 (replayP (cdP p) me 3 l).sent.length sc1) (.slice O1 (replayP (cdP p) me 3 l).outs.length oc1)) := hS.trans (set4_below u102 (HI.out.boxA p1 rfl).2 _ _ _ _)
                refine hK.out _ _ hS9 (fun _ => ?_)
                clear hK K hS e0 e1 e2 e3 ef0 ef1 ef2 ef3 hzq
                have hS := hS9
                clear hS9
                obtain ⟨u104, hWn⟩ : ∃ x, set4 u102 p1 (.slice Z1 (replayP (cdP p) me 3 l).cells.length zc1) (.slice V1 (replayP (cdP p) me 3 l).evs.length vc1) (.slice S1 (replayP (cdP p) me 3 l).sent.length sc1) (.slice O1 (replayP (cdP p) me 3 l).outs.length oc1) = x := ⟨_, rfl⟩
                have hL := HI.out.last
                have hIA := (HI.out.stA _ rfl).2
                have hIB := (HI.out.stB _ rfl).2
                simp only [RV.in4] at hL
                have hL2 : Box0 u104 p2 := by rw [← hWn]; exact hL.2.2.1
                change wpAnyH _ _ _ _ _ _ _ _ (set4 u102 p1 (.slice Z1 (replayP (cdP p) me 3 l).cells.length zc1) (.slice V1 (replayP (cdP p) me 3 l).evs.length vc1) (.slice S1 (replayP (cdP p) me 3 l).sent.length sc1) (.slice O1 (replayP (cdP p) me 3 l).outs.length oc1))
                rw [hWn] at hL hS ⊢
                clear hWn
                try simp only [Act.put, List.setIfInBounds_toArray, List.set_cons_zero, List.set_cons_succ]
                refine wpAnyH_ready (rs := [11]) (by kernel_rfl) (by simp) ?_
                refine' (AllReadyH.cons ?hi105 (fun K hK => ?op105) AllReadyH.nil)
                case hi105 => (simp only [List.getElem?_toArray, List.getElem?_cons_succ, List.getElem?_cons_zero]; rfl)
                obtain ⟨e0, e1, e2, e3⟩ := box4 hL2
                have ef0 := frz hL2 0
                have ef1 := frz hL2 1
                have ef2 := frz hL2 2
                have ef3 := frz hL2 3
                have hzq := lt_of_block hL2
                go_simp
                have hS9 : Below wr.heap.size wr (set4 u104 p2 (.slice Z2 (replayP (cdP p) me 3 m).cells.length zc2) (.slice V2 (replayP (cdP p) me 3 m).evs.length vc2) (.slice S2 (replayP (cdP p) me 3 m).sent.length sc2) (.slice O2 (replayP (cdP p) me 3 m).outs.length oc2)) := hS.trans (set4_below u104 hL.2.2.2.2.1 _ _ _ _)
                refine hK.out _ _ hS9 (fun _ => ?_)
                clear hK K hS e0 e1 e2 e3 ef0 ef1 ef2 ef3 hzq
                try simp only [Act.put, List.setIfInBounds_toArray, List.set_cons_zero, List.set_cons_succ]
                refine wpAnyH_done (by kernel_rfl) ?_ _
                go_wp2_with fail
                go_meet
                case rel => exact ⟨p1, p2, ⟨(replayP (cdP p) me 3 l), Z1, V1, S1, O1, zc1, vc1, sc1, oc1⟩, ⟨(replayP (cdP p) me 3 m), Z2, V2, S2, O2, zc2, vc2, sc2, oc2⟩, rfl, rfl, rfl, rfl, Lib.hid hL.1, Lib.hid hL.2.1, hL.2.2.2.2.2, hL.2.2.2.1, hL.2.2.2.2.1, Lib.hid hS9, Lib.hid (fun b hb => hb.elim (fun h => ⟨fun e => (hIA b h).2.1 (by rw [e]), fun e => (hIA b h).2.2 (by rw [e])⟩) (fun h => ⟨fun e => (hIB b h).2.1 (by rw [e]), fun e => (hIB b h).2.2 (by rw [e])⟩))⟩

              case op99 =>
                go_simp
                have hI9 : LbI wr.heap.size l m A B (u97.alloc (.cells #[.slice none 0 0, .slice none 0 0, .slice none 0 0, .slice none 0 0] 36)) (some ⟨(replayP (cdP p) me 3 l), Z1, V1, S1, O1, zc1, vc1, sc1, oc1⟩) none (some u97.heap.size) (some p2) := HI.out.allocA
                have hS9 : Below wr.heap.size wr (u97.alloc (.cells #[.slice none 0 0, .slice none 0 0, .slice none 0 0, .slice none 0 0] 36)) := hS.alloc hS.size _
                refine hK.out _ _ hS9 (fun _ => ?_)
                clear hK K hS HI
                obtain ⟨p1, hnm⟩ : ∃ x, u97.heap.size = x := ⟨_, rfl⟩
                obtain ⟨u107, hWn⟩ : ∃ x, u97.alloc (.cells #[.slice none 0 0, .slice none 0 0, .slice none 0 0, .slice none 0 0] 36) = x := ⟨_, rfl⟩
                rw [hWn, hnm] at hI9
                rw [hWn] at hS9
                simp only [hWn, hnm]
                clear hWn hnm
                have HI := Lib.hid hI9
                have hS := hS9
                clear hS9 hI9
                try simp only [Act.put, List.setIfInBounds_toArray, List.set_cons_zero, List.set_cons_succ]
                refine wpAnyH_ready (rs := [7]) (by kernel_rfl) (by simp) ?_
                refine' (AllReadyH.cons ?hi108 (fun K hK => ?op108) AllReadyH.nil)
                case hi108 => (simp only [List.getElem?_toArray, List.getElem?_cons_succ, List.getElem?_cons_zero]; rfl)
                go_simp
                go_at_call 17
                refine (HRP.out m k u107 B mc HMN.out HI.out.rm HM7.out hn8 hS).mono ?_
                rintro e9 u109 ⟨Z2, V2, S2, O2, zc2, vc2, sc2, oc2, rfl, hrd, hb7, hx7⟩
                have HI9 := Lib.hid (HI.out.callB (r := ⟨(replayP (cdP p) me 3 m), Z2, V2, S2, O2, zc2, vc2, sc2, oc2⟩) hb7 hrd (fun b ⟨o, h⟩ => hx7 b o h))
                have hS9 : Below wr.heap.size wr u109 := hS.trans (hb7.mono hS.size)
                clear hrd hb7 hx7 HI
                have HI := HI9
                clear HI9
                refine hK.out _ _ hS9 (fun _ => ?_)
                clear hK K hS
                have hS := hS9
                clear hS9
                try simp only [Act.put, List.setIfInBounds_toArray, List.set_cons_zero, List.set_cons_succ]
                refine wpAnyH_ready (rs := [10]) (by kernel_rfl) (by simp) ?_
                refine' (AllReadyH.cons ?hi110 (fun K hK => ?op110) AllReadyH.nil)
                case hi110 => (simp only [List.getElem?_toArray, List.getElem?_cons_succ, List.getElem?_cons_zero]; rfl)
                obtain ⟨e0, e1, e2, e3⟩ := box4 (HI.out.boxA p1 rfl).1
                have ef0 := frz (HI.out.boxA p1 rfl).1 0
                have ef1 := frz (HI.out.boxA p1 rfl).1 1
                have ef2 := frz (HI.out.boxA p1 rfl).1 2
                have ef3 := frz (HI.out.boxA p1 rfl).1 3
                have hzq := lt_of_block (HI.out.boxA p1 rfl).1
                go_simp
                have hS9 : Below wr.heap.size wr (set4 u109 p1 (.slice Z1 (replayP (cdP p) me 3 l).cells.length zc1) (.slice V1 (replayP (cdP p) me 3 l).evs.length vc1) (.slice S1 (replayP (cdP p) me 3 l).sent.length sc1) (.slice O1 (replayP (cdP p) me 3 l).outs.length oc1)) := hS.trans (set4_below u109 (HI.out.boxA p1 rfl).2 _ _ _ _)
                refine hK.out _ _ hS9 (fun _ => ?_)
                clear hK K hS e0 e1 e2 e3 ef0 ef1 ef2 ef3 hzq
                have hS := hS9
                clear hS9
                obtain ⟨u111, hWn⟩ : ∃ x, set4 u109 p1 (.slice Z1 (replayP (cdP p) me 3 l).cells.length zc1) (.slice V1 (replayP (cdP p) me 3 l).evs.length vc1) (.slice S1 (replayP (cdP p) me 3 l).sent.length sc1) (.slice O1 (replayP (cdP p) me 3 l).outs.length oc1) = x := ⟨_, rfl⟩
                have hL := HI.out.last
                have hIA := (HI.out.stA _ rfl).2
                have hIB := (HI.out.stB _ rfl).2
                simp only [RV.in4] at hL
                have hL2 : Box0 u111 p2 := by rw [← hWn]; exact hL.2.2.1
                change wpAnyH _ _ _ _ _ _ _ _ (set4 u109 p1 (.slice Z1 (replayP (cdP p) me 3 l).cells.length zc1) (.slice V1 (replayP (cdP p) me 3 l).evs.length vc1) (.slice S1 (replayP (cdP p) me 3 l).sent.length sc1) (.slice O1 (replayP (cdP p) me 3 l).outs.length oc1))
                rw [hWn] at hL hS ⊢
                clear hWn
                try simp only [Act.put, List.setIfInBounds_toArray, List.set_cons_zero, List.set_cons_succ]
                refine wpAnyH_ready (rs := [11]) (by kernel_rfl) (by simp) ?_
                refine' (AllReadyH.cons ?hi112 (fun K hK => ?op112) AllReadyH.nil)
                case hi112 => (simp only [List.getElem?_toArray, List.getElem?_cons_succ, List.getElem?_cons_zero]; rfl)
                obtain ⟨e0, e1, e2, e3⟩ := box4 hL2
                have ef0 := frz hL2 0
                have ef1 := frz hL2 1
                have ef2 := frz hL2 2
                have ef3 := frz hL2 3
                have hzq := lt_of_block hL2
                go_simp
                have hS9 : Below wr.heap.size wr (set4 u111 p2 (.slice Z2 (replayP (cdP p) me 3 m).cells.length zc2) (.slice V2 (replayP (cdP p) me 3 m).evs.length vc2) (.slice S2 (replayP (cdP p) me 3 m).sent.length sc2) (.slice O2 (replayP (cdP p) me 3 m).outs.length oc2)) := hS.trans (set4_below u111 hL.2.2.2.2.1 _ _ _ _)
                refine hK.out _ _ hS9 (fun _ => ?_)
                clear hK K hS e0 e1 e2 e3 ef0 ef1 ef2 ef3 hzq
                try simp only [Act.put, List.setIfInBounds_toArray, List.set_cons_zero, List.set_cons_succ]
                refine wpAnyH_done (by kernel_rfl) ?_ _
                go_wp2_with fail
                go_meet
                case rel => exact ⟨p1, p2, ⟨(replayP (cdP p) me 3 l), Z1, V1, S1, O1, zc1, vc1, sc1, oc1⟩, ⟨(replayP (cdP p) me 3 m), Z2, V2, S2, O2, zc2, vc2, sc2, oc2⟩, rfl, rfl, rfl, rfl, Lib.hid hL.1, Lib.hid hL.2.1, hL.2.2.2.2.2, hL.2.2.2.1, hL.2.2.2.2.1, Lib.hid hS9, Lib.hid (fun b hb => hb.elim (fun h => ⟨fun e => (hIA b h).2.1 (by rw [e]), fun e => (hIA b h).2.2 (by rw [e])⟩) (fun h => ⟨fun e => (hIB b h).2.1 (by rw [e]), fun e => (hIB b h).2.2 (by rw [e])⟩))⟩


            case op96 =>
              go_simp
              have hI9 : LbI wr.heap.size l m A B (u94.alloc (.cells #[.slice none 0 0, .slice none 0 0, .slice none 0 0, .slice none 0 0] 36)) none none (some u94.heap.size) (some p2) := HI.out.allocA
              have hS9 : Below wr.heap.size wr (u94.alloc (.cells #[.slice none 0 0, .slice none 0 0, .slice none 0 0, .slice none 0 0] 36)) := hS.alloc hS.size _
              refine hK.out _ _ hS9 (fun _ => ?_)
              clear hK K hS HI
              obtain ⟨p1, hnm⟩ : ∃ x, u94.heap.size = x := ⟨_, rfl⟩
              obtain ⟨u114, hWn⟩ : ∃ x, u94.alloc (.cells #[.slice none 0 0, .slice none 0 0, .slice none 0 0, .slice none 0 0] 36) = x := ⟨_, rfl⟩
              rw [hWn, hnm] at hI9
              rw [hWn] at hS9
              simp only [hWn, hnm]
              clear hWn hnm
              have HI := Lib.hid hI9
              have hS := hS9
              clear hS9 hI9
              try simp only [Act.put, List.setIfInBounds_toArray, List.set_cons_zero, List.set_cons_succ]
              refine wpAnyH_ready (rs := [3]) (by kernel_rfl) (by simp) ?_
              refine' (AllReadyH.cons ?hi115 (fun K hK => ?op115) AllReadyH.nil)
              case hi115 => (simp only [List.getElem?_toArray, List.getElem?_cons_succ, List.getElem?_cons_zero]; rfl)
              go_simp
              go_at_call 17
              refine (HRP.out l k u114 A lc HN.out HI.out.rl H7.out hn8 hS).mono ?_
              rintro e9 u116 ⟨Z1, V1, S1, O1, zc1, vc1, sc1, oc1, rfl, hrd, hb7, hx7⟩
              have HI9 := Lib.hid (HI.out.callA (r := ⟨(replayP (cdP p) me 3 l), Z1, V1, S1, O1, zc1, vc1, sc1, oc1⟩) hb7 hrd (fun b ⟨o, h⟩ => hx7 b o h))
              have hS9 : Below wr.heap.size wr u116 := hS.trans (hb7.mono hS.size)
              clear hrd hb7 hx7 HI
              have HI := HI9
              clear HI9
              refine hK.out _ _ hS9 (fun _ => ?_)
              clear hK K hS
              have hS := hS9
              clear hS9
              try simp only [Act.put, List.setIfInBounds_toArray, List.set_cons_zero, List.set_cons_succ]
              refine wpAnyH_ready (rs := [7]) (by kernel_rfl) (by simp) ?_
              refine' (AllReadyH.cons ?hi117 (fun K hK => ?op117) AllReadyH.nil)
              case hi117 => (simp only [List.getElem?_toArray, List.getElem?_cons_succ, List.getElem?_cons_zero]; rfl)
              go_simp
              go_at_call 17
              refine (HRP.out m k u116 B mc HMN.out HI.out.rm HM7.out hn8 hS).mono ?_
              rintro e9 u118 ⟨Z2, V2, S2, O2, zc2, vc2, sc2, oc2, rfl, hrd, hb7, hx7⟩
              have HI9 := Lib.hid (HI.out.callB (r := ⟨(replayP (cdP p) me 3 m), Z2, V2, S2, O2, zc2, vc2, sc2, oc2⟩) hb7 hrd (fun b ⟨o, h⟩ => hx7 b o h))
              have hS9 : Below wr.heap.size wr u118 := hS.trans (hb7.mono hS.size)
              clear hrd hb7 hx7 HI
              have HI := HI9
              clear HI9
              refine hK.out _ _ hS9 (fun _ => ?_)
              clear hK K hS
              have hS := hS9
              clear hS9
              try simp only [Act.put, List.setIfInBounds_toArray, List.set_cons_zero, List.set_cons_succ]
              refine wpAnyH_ready (rs := [10]) (by kernel_rfl) (by simp) ?_
              refine' (AllReadyH.cons ?hi119 (fun K hK => ?op119) AllReadyH.nil)
              case hi119 => (simp only [List.getElem?_toArray, List.getElem?_cons_succ, List.getElem?_cons_zero]; rfl)
              obtain ⟨e0, e1, e2, e3⟩ := box4 (HI.out.boxA p1 rfl).1
              have ef0 := frz (HI.out.boxA p1 rfl).1 0
              have ef1 := frz (HI.out.boxA p1 rfl).1 1
              have ef2 := frz (HI.out.boxA p1 rfl).1 2
              have ef3 := frz (HI.out.boxA p1 rfl).1 3
              have hzq := lt_of_block (HI.out.boxA p1 rfl).1
              go_simp
              have hS9 : Below wr.heap.size wr (set4 u118 p1 (.slice Z1 (replayP (cdP p) me 3 l).cells.length zc1) (.slice V1 (replayP (cdP p) me 3 l).evs.length vc1) (.slice S1 (replayP (cdP p) me 3 l).sent.length sc1) (.slice O1 (replayP (cdP p) me 3 l).outs.length oc1)) := hS.trans (set4_below u118 (HI.out.boxA p1 rfl).2 _ _ _ _)
              refine hK.out _ _ hS9 (fun _ => ?_)
              clear hK K hS e0 e1 e2 e3 ef0 ef1 ef2 ef3 hzq
              have hS := hS9
              clear hS9
              obtain ⟨u120, hWn⟩ : ∃ x, set4 u118 p1 (.slice Z1 (replayP (cdP p) me 3 l).cells.length zc1) (.slice V1 (replayP (cdP p) me 3 l).evs.length vc1) (.slice S1 (replayP (cdP p) me 3 l).sent.length sc1) (.slice O1 (replayP (cdP p) me 3 l).outs.length oc1) = x := ⟨_, rfl⟩
              have hL := HI.out.last
              have hIA := (HI.out.stA _ rfl).2
              have hIB := (HI.out.stB _ rfl).2
              simp only [RV.in4] at hL
              have hL2 : Box0 u120 p2 := by rw [← hWn]; exact hL.2.2.1
              change wpAnyH _ _ _ _ _ _ _ _ (set4 u118 p1 (.slice Z1 (replayP (cdP p) me 3 l).cells.length zc1) (.slice V1 (replayP (cdP p) me 3 l).evs.length vc1) (.slice S1 (replayP (cdP p) me 3 l).sent.length sc1) (.slice O1 (replayP (cdP p) me 3 l).outs.length oc1))
              rw [hWn] at hL hS ⊢
              clear hWn
              try simp only [Act.put, List.setIfInBounds_toArray, List.set_cons_zero, List.set_cons_succ]
              refine wpAnyH_ready (rs := [11]) (by kernel_rfl) (by simp) ?_
              refine' (AllReadyH.cons ?hi121 (fun K hK => ?op121) AllReadyH.nil)
              case hi121 => (simp only [List.getElem?_toArray, List.getElem?_cons_succ, List.getElem?_cons_zero]; rfl)
              obtain ⟨e0, e1, e2, e3⟩ := box4 hL2
              have ef0 := frz hL2 0
              have ef1 := frz hL2 1
              have ef2 := frz hL2 2
              have ef3 := frz hL2 3
              have hzq := lt_of_block hL2
              go_simp
              have hS9 : Below wr.heap.size wr (set4 u120 p2 (.slice Z2 (replayP (cdP p) me 3 m).cells.length zc2) (.slice V2 (replayP (cdP p) me 3 m).evs.length vc2) (.slice S2 (replayP (cdP p) me 3 m).sent.length sc2) (.slice O2 (replayP (cdP p) me 3 m).outs.length oc2)) := hS.trans (set4_below u120 hL.2.2.2.2.1 _ _ _ _)
              refine hK.out _ _ hS9 (fun _ => ?_)
              clear hK K hS e0 e1 e2 e3 ef0 ef1 ef2 ef3 hzq
              try simp only [Act.put, List.setIfInBounds_toArray, List.set_cons_zero, List.set_cons_succ]
              refine wpAnyH_done (by kernel_rfl) ?_ _
              go_wp2_with fail
              go_meet
              case rel => exact ⟨p1, p2, ⟨(replayP (cdP p) me 3 l), Z1, V1, S1, O1, zc1, vc1, sc1, oc1⟩, ⟨(replayP (cdP p) me 3 m), Z2, V2, S2, O2, zc2, vc2, sc2, oc2⟩, rfl, rfl, rfl, rfl, Lib.hid hL.1, Lib.hid hL.2.1, hL.2.2.2.2.2, hL.2.2.2.1, hL.2.2.2.2.1, Lib.hid hS9, Lib.hid (fun b hb => hb.elim (fun h => ⟨fun e => (hIA b h).2.1 (by rw [e]), fun e => (hIA b h).2.2 (by rw [e])⟩) (fun h => ⟨fun e => (hIB b h).2.1 (by rw [e]), fun e => (hIB b h).2.2 (by rw [e])⟩))⟩



        case rest =>
          obtain ⟨p1, p2, r1, r2, rfl, rfl, hr1, hr2, HX1, HX2, hpq, lp1, lp2, HBX, HIN⟩ := hcut
          obtain ⟨s1, Z1, V1, S1, O1, zc1, vc1, sc1, oc1⟩ := r1
          obtain ⟨s2, Z2, V2, S2, O2, zc2, vc2, sc2, oc2⟩ := r2
          replace hr1 : s1 = replayP (cdP p) me 3 l := hr1
          replace hr2 : s2 = replayP (cdP p) me 3 m := hr2
          have he1 : s1.evs = l := by rw [hr1]; exact replayP_evs _ _ _ _
          have he2 : s2.evs = m := by rw [hr2]; exact replayP_evs _ _ _ _
          have HAL : Hid (PAlike s2 s1) := by show PAlike _ _; rw [hr1, hr2, ← HML.out]; exact replayP_lab _ _ _ _ _ _
          have HOK : Hid (POk ⟨s2.cells, [], s2.sent, s2.outs⟩) := by
            obtain ⟨ns1, ns2, ns3, ns4⟩ := replayP_num (cdP p) me m
            have hcl : (replayP (cdP p) me 3 m).cells.length = k0 := by rw [replayP_len]; exact HCI4.out.len.symm
            have hfw := replayP_few (cdP p) me 3 m
            rw [HMN.out] at hfw
            have hkf := HCI4.out.few
            refine ⟨fun r hr => (nomatch hr), ?_, ?_, ?_, by simp, ?_, ?_⟩
            · rw [hr2]; exact nmbS_len _ me _ (0, -1) ns1
            · rw [hr2]; exact nmbO_len _ _ 0 ns3
            · show s2.cells.length ≤ _; rw [hr2, hcl]; omega
            · show s2.sent.length ≤ _; rw [hr2]; omega
            · show s2.outs.length ≤ _; rw [hr2]; omega
          have hl1 : s1.evs.length = k := by rw [he1, HN.out]
          have hl2 : s2.evs.length = k := by rw [he2, HMN.out]
          have hb1 := HX1.out.1
          have hb2 := HX2.out.1
          have hd1 : SRd wc s1 Z1 V1 S1 O1 := HX1.out.2
          have hd2 : SRd wc s2 Z2 V2 S2 O2 := HX2.out.2
          simp only [hl1] at hb1
          simp only [hl2] at hb2
          have hv1 := hd1.evs
          have hv2 := hd2.evs
          rw [he1, HN.out] at hv1
          rw [he2, HMN.out] at hv2
          have HD1 := Lib.hid hd1
          have HD2 := Lib.hid hd2
          have HB1 := Lib.hid hb1
          have HB2 := Lib.hid hb2
          have HE1 : Hid (Calls Tryd.prog 32 #[.slice V1 k vc1, .slice A k lc] wc fun e w' => e = .returned (.bool true) ∧ Below wc.heap.size wc w') := by
            refine (sameE l l H7.out H7.out V1 A k k vc1 lc wc hv1 HN.out.symm (by have := HRR.out.below (by decide) HBX.out; rwa [HN.out] at this) HN.out.symm (by omega)).mono ?_
            rintro e w' ⟨rfl, h⟩
            exact ⟨by simp, h⟩
          have HE2 : Hid (∀ w', Below wc.heap.size wc w' → Calls Tryd.prog 32 #[.slice V2 k vc2, .slice B k mc] w' fun e w'' => e = .returned (.bool true) ∧ Below w'.heap.size w' w'') := by
            intro w' hw
            refine (sameE m m HM7.out HM7.out V2 B k k vc2 mc w' (hv2.below (by decide) hw) HMN.out.symm (by have := (HMR.out.below (by decide) HBX.out).below (by decide) hw; rwa [HMN.out] at this) HMN.out.symm (by omega)).mono ?_
            rintro e w'' ⟨rfl, h⟩
            exact ⟨by simp, h⟩
          obtain ⟨c0, c1, c2, c3⟩ := box4 hb1
          obtain ⟨d0, d1, d2, d3⟩ := box4 hb2
          clear hr1 hr2 he1 he2 hl1 hl2 hb1 hb2 hd1 hd2 hv1 hv2
          go_wp2_with fail
          refine HE1.out.mono ?_
          rintro e w7 ⟨rfl, h7⟩
          have hb1 := below_blk h7 HB1.out
          have hb2 := below_blk h7 HB2.out
          obtain ⟨c0, c1, c2, c3⟩ := box4 hb1
          obtain ⟨d0, d1, d2, d3⟩ := box4 hb2
          replace HB1 := Lib.hid hb1
          replace HB2 := Lib.hid hb2
          have H78 := Lib.hid h7
          clear hb1 hb2 h7
          go_wp2_with fail
          refine (HE2.out w7 H78.out).mono ?_
          rintro e w8 ⟨rfl, h8⟩
          have hb1 := below_blk h8 HB1.out
          have hb2 := below_blk h8 HB2.out
          have H88 : Hid (Below wc.heap.size wc w8) := H78.out.trans (h8.mono H78.out.size)
          obtain ⟨c0, c1, c2, c3⟩ := box4 hb1
          obtain ⟨d0, d1, d2, d3⟩ := box4 hb2
          have f1 := frz hb1 1
          have f2 := frz hb2 1
          have z1 := lt_of_block hb1
          have z2 := lt_of_block hb2
          have HB1 := Lib.hid hb1
          have HB2 := Lib.hid hb2
          clear hb1 hb2 h8 HE1 HE2
          go_upto_region 17 with fail
          obtain ⟨w9, hw9⟩ : ∃ x, (w8.setCell ⟨p1, 1, none⟩ (.slice none 0 0)).setCell ⟨p2, 1, none⟩ (.slice none 0 0) = x := ⟨_, rfl⟩
          have hb1 : w9.heap[p1]? = some (.cells #[.slice Z1 s1.cells.length zc1, .slice none 0 0, .slice S1 s1.sent.length sc1, .slice O1 s1.outs.length oc1] 36 (0, 0)) := by rw [← hw9, Below.heap_setCell _ _ _ _ (show p1 ≠ (⟨p2, 1, none⟩ : Addr).block from hpq)]; exact blk_set HB1.out 1 _
          have hb2 : w9.heap[p2]? = some (.cells #[.slice Z2 s2.cells.length zc2, .slice none 0 0, .slice S2 s2.sent.length sc2, .slice O2 s2.outs.length oc2] 36 (0, 0)) := by rw [← hw9]; exact blk_set ((Below.heap_setCell w8 ⟨p1, 1, none⟩ _ p2 (Ne.symm hpq)).trans HB2.out) 1 _
          have hk9 : ∀ b, b ≠ p1 → b ≠ p2 → w9.heap[b]? = w8.heap[b]? := fun b h1 h2 => by rw [← hw9, Below.heap_setCell _ _ _ _ (show b ≠ (⟨p2, 1, none⟩ : Addr).block from h2), Below.heap_setCell _ _ _ _ (show b ≠ (⟨p1, 1, none⟩ : Addr).block from h1)]
          have h89 : Below wr.heap.size wr w9 := by
            rw [← hw9]
            exact ((HBX.out.trans (H88.out.mono HBX.out.size)).setCell (p := ⟨p1, 1, none⟩) lp1 _).setCell (p := ⟨p2, 1, none⟩) lp2 _
          have hs1 : SRd w9 (⟨s1.cells, [], s1.sent, s1.outs⟩ : PS) Z1 none S1 O1 := by
            have hd := HD1.out.below H88.out
            have hi := fun b o e => HIN.out b (.inl ⟨o, e⟩)
            exact ⟨hd.cells.at' (fun b o e => hk9 b (hi b o (.inl e)).1 (hi b o (.inl e)).2), ⟨rfl, fun h => absurd h (Nat.lt_irrefl 0)⟩, hd.sent.at' (fun b o e => hk9 b (hi b o (.inr (.inr (.inl e)))).1 (hi b o (.inr (.inr (.inl e)))).2), hd.outs.at' (fun b o e => hk9 b (hi b o (.inr (.inr (.inr e)))).1 (hi b o (.inr (.inr (.inr e)))).2)⟩
          have hs2 : SRd w9 (⟨s2.cells, [], s2.sent, s2.outs⟩ : PS) Z2 none S2 O2 := by
            have hd := HD2.out.below H88.out
            have hi := fun b o e => HIN.out b (.inr ⟨o, e⟩)
            exact ⟨hd.cells.at' (fun b o e => hk9 b (hi b o (.inl e)).1 (hi b o (.inl e)).2), ⟨rfl, fun h => absurd h (Nat.lt_irrefl 0)⟩, hd.sent.at' (fun b o e => hk9 b (hi b o (.inr (.inr (.inl e)))).1 (hi b o (.inr (.inr (.inl e)))).2), hd.outs.at' (fun b o e => hk9 b (hi b o (.inr (.inr (.inr e)))).1 (hi b o (.inr (.inr (.inr e)))).2)⟩
          rw [hw9]
          replace HB1 := Lib.hid hb1
          replace HB2 := Lib.hid hb2
          have HS1 := Lib.hid hs1
          have HS2 := Lib.hid hs2
          have H89 := Lib.hid h89
          clear hw9 hb1 hb2 hk9 h89 hs1 hs2 c0 c1 c2 c3 d0 d1 d2 d3 f1 f2 z1 z2
          obtain ⟨c0, c1, c2, c3⟩ := box4 HB1.out
          obtain ⟨d0, d1, d2, d3⟩ := box4 HB2.out
          go_wp2_with fail
          refine (same_pro (⟨s1.cells, [], s1.sent, s1.outs⟩ : PS) (⟨s2.cells, [], s2.sent, s2.outs⟩ : PS) w9 (Za := Z1) (Va := none) (Sa := S1) (Oa := O1) (Zb := Z2) (Vb := none) (Sb := S2) (Ob := O2) (zca := zc1) (vca := 0) (sca := sc1) (oca := oc1) (zcb := zc2) (vcb := 0) (scb := sc2) (ocb := oc2) HS1.out HS2.out HOK.out HAL.out.cells.symm rfl HAL.out.sent.symm HAL.out.outs.symm).mono ?_
          rintro e w10 ⟨rfl, h10⟩
          replace HB1 := Lib.hid (below_blk h10 HB1.out)
          replace HB2 := Lib.hid (below_blk h10 HB2.out)
          have H10 := Lib.hid h10
          clear c0 c1 c2 c3 d0 d1 d2 d3 h10
          obtain ⟨c0, c1, c2, c3⟩ := box4 HB1.out
          obtain ⟨d0, d1, d2, d3⟩ := box4 HB2.out
          go_wp2_with fail
          refine (same_ref6 (⟨s1.cells, [], s1.sent, s1.outs⟩ : PS) (⟨s2.cells, [], s2.sent, s2.outs⟩ : PS) w10 (Za := Z1) (Va := none) (Sa := S1) (Oa := O1) (Zb := Z2) (Vb := none) (Sb := S2) (Ob := O2) (zca := zc1) (vca := 0) (sca := sc1) (oca := oc1) (zcb := zc2) (vcb := 0) (scb := sc2) (ocb := oc2) (HS1.out.below H10.out) (HS2.out.below H10.out) HOK.out HAL.out.cells.symm rfl HAL.out.sent.symm HAL.out.outs.symm).mono ?_
          rintro e w11 ⟨rfl, h11⟩
          have HF : Hid (Below w.heap.size w w11) := by
            have hr : Below wr.heap.size wr w11 := (H89.out.trans (H10.out.mono H89.out.size)).trans (h11.mono (Nat.le_trans H89.out.size H10.out.size))
            exact HB4.out.trans ((HKR.out.trans (Keep.of_below hr)).below HB4.out.size HCB.out)
          clear h11
          go_wp2_with fail
          go_ret
          exact ⟨rfl, HF.out⟩
end Go.Proofs.YtgblgkkbggdopaaDoor
