/-
  The walk of the law ProcessNumbers (gens55.py writes this text). Conditions: its first argument reads as a list of bytes, its second one is a byte; the tables of names hold what start-up laid.
-/
import Derived.Test.YtgblgkkbggdopaaDoorZaw
import Derived.Test.YtgblgkkbggdopaaDoorZav
import Derived.Test.YtgblgkkbggdopaaDoorZax
import Derived.Deep.RegionHeld3
import Derived.Deep.LoopGhost
import Derived.Deep.CutBlock
import Derived.Deep.Cut
namespace Go.Proofs.YtgblgkkbggdopaaDoor
open Go.RowKit

theorem len4 (r : List Int) (h : r.length = 4) : ∃ x0 x1 x2 x3, r = [x0, x1, x2, x3] := by
  match r, h with
  | [x0, x1, x2, x3], _ => exact ⟨x0, x1, x2, x3, rfl⟩
theorem len2 (r : List Int) (h : r.length = 2) : ∃ x0 x1, r = [x0, x1] := by
  match r, h with
  | [x0, x1], _ => exact ⟨x0, x1, rfl⟩

set_option maxHeartbeats 16000000 in
set_option maxRecDepth 100000 in
theorem processNumbers_any (codes : Value) (sv : Int) (w : World) (hcd : BytesIn w.heap.size w codes) (hs0 : 0 ≤ sv) (hs1 : sv ≤ 255) (hg : GlAt w) (hgt : glTop ≤ w.heap.size) :
    Calls Tryd.prog 7 #[codes, .int .u8 sv] w fun e w' => e = .returned (.bool true) ∧ Below w.heap.size w w' := by
  have HCD0 := Lib.hid hcd
  have HG := Lib.hid hg
  clear hcd hg
  go_enter Tryd.func7, Tryd.ntmps7
  go_wp2_with fail
  refine (awake6_any _).mono ?_
  rintro e w1 ⟨rfl, hb⟩
  have HB1 := Lib.hid hb
  clear hb
  go_wp2_with fail
  refine (new_any w.heap.size codes 240 w1 (HCD0.out.below HB1.out) HB1.out.size (by decide)).mono ?_
  rintro e w2 ⟨cb, NA, nn, nc, rfl, -, hcs, hcb1, hb⟩
  have HB2 := Lib.hid (HB1.out.trans (hb.mono HB1.out.size))
  have HC2 : Hid (CodesIn w.heap.size w2 cb) := ⟨NA, nn, nc, 0, hcs⟩
  have hcb : w.heap.size ≤ cb := Nat.le_trans HB1.out.size hcb1
  have hgt' : glTop ≤ cb := Nat.le_trans hgt hcb
  have hg2 : GlAt w2 := by
    obtain ⟨⟨T, fr, h1⟩, ⟨T', fr', h2⟩⟩ := HG.out
    exact ⟨⟨T, fr, below_blk HB2.out h1⟩, ⟨T', fr', below_blk HB2.out h2⟩⟩
  have HG2 := Lib.hid hg2
  have HCB := Lib.hid hcb
  clear hb hcs hcb1 HB1 hg2 hcb
  go_wp2_with fail
  refine (code_any w.heap.size cb w2 HC2.out HG2.out hgt').mono ?_
  rintro e w3 ⟨p, C0, C1, C2, C3, C4, k0, q0, k1, q1, k2, q2, k3, q3, k4, q4, hdp, rfl, hcin, hcc, hk⟩
  have HC3 := Lib.hid hcc
  have HCI := Lib.hid hcin
  have HDP := Lib.hid hdp
  have HB3 := Lib.hid (HB2.out.trans (hk.below HB2.out.size HCB.out))
  have HCL : Hid (cb < w2.heap.size) := HC2.out.lt
  have HZ2 : Hid (w2.heap.size ≤ w3.heap.size) := hk.size
  obtain ⟨lo, hlo⟩ : ∃ x, w2.heap.size = x := ⟨_, rfl⟩
  obtain ⟨hi, hhi⟩ : ∃ x, w3.heap.size = x := ⟨_, rfl⟩
  rw [hlo] at HCL HZ2 HCI
  rw [hhi] at HCI
  rw [hhi] at HZ2
  have HHI := Lib.hid hhi
  clear hcc hcin hdp hk HC2 HG2 HB2 hgt' hlo hhi
  go_upto_region 6 with fail
  obtain ⟨me, hme⟩ : ∃ x, sv % 3 = x := ⟨_, rfl⟩
  obtain ⟨w4, hw4⟩ : ∃ x, w3.alloc (.cells #[.slice C0 k0 q0, .slice C1 k1 q1, .slice C2 k2 q2, .slice C3 k3 q3, .slice C4 k4 q4] 29) = x := ⟨_, rfl⟩
  have hhi := HHI.out
  have h34 : Below w3.heap.size w3 w4 := by rw [← hw4]; exact rp_one1 _ _
  have hx4 : w4.heap[hi]? = some (.cells #[.slice C0 k0 q0, .slice C1 k1 q1, .slice C2 k2 q2, .slice C3 k3 q3, .slice C4 k4 q4] 29 (0, 0)) := by rw [← hw4, ← hhi]; exact new_blk _ _
  simp only [hme, hw4, hhi]
  have HX4 := Lib.hid hx4
  have HB4 := Lib.hid (HB3.out.trans (h34.mono HB3.out.size))
  have HC4 := Lib.hid (HC3.out.below h34)
  have HCI4 := Lib.hid (HCI.out.at' (w' := w4) fun k h1 h2 => h34.block k (by omega))
  have HNE : Hid (hi ≠ cb) := by show _ ≠ _; have := HCL.out; have := HZ2.out; omega
  have HS : Hid (∀ w', Keep cb w4 w' → w'.cell? ⟨hi, 0, none⟩ = some (.slice C0 k0 q0) ∧ w'.cell? ⟨hi, 1, none⟩ = some (.slice C1 k1 q1) ∧ w'.cell? ⟨hi, 2, none⟩ = some (.slice C2 k2 q2) ∧ w'.cell? ⟨hi, 3, none⟩ = some (.slice C3 k3 q3) ∧ w'.cell? ⟨hi, 4, none⟩ = some (.slice C4 k4 q4)) := fun w' hk => by
    have hx := hk.blk HX4.out HNE.out
    obtain ⟨b0, b1, b2, b3, b4, _⟩ := box5 hx
    exact ⟨b0, b1, b2, b3, b4⟩
  have HKD : Hid (Keep cb w4 w4.drew) := (Keep.refl cb w4).drew
  have HEV : Hid (∀ W', Below w4.heap.size w4 W' → Calls Tryd.prog 11 #[.pointer (some ⟨cb, 0, none⟩), .int .i64 8] W' fun e w6 => ∃ (l : List (List Int)) (A : Option Addr) (lc : Nat), e = .returned (.slice A l.length lc) ∧ RwAt w6 7 (rowC l) A l.length ∧ l.length ≤ 8 ∧ (∀ r ∈ l, r.length = 7) ∧ (∀ r ∈ l, ∀ x ∈ r, I64 x) ∧ CodesIn w.heap.size w6 cb ∧ Keep cb w4 w6 ∧ Keep cb W' w6) := fun W' hb =>
    (events_any w.heap.size cb W' (HC4.out.below hb)).mono fun e w6 ⟨l, A, lc, h1, h2, h3, h4, h5, h6, h7⟩ => ⟨l, A, lc, h1, RwAt.own h2, h3, h4, h5, h6, (Keep.of_below hb).trans h7, h7⟩
  have HRP : Hid (∀ l w6 W' A lc, RwAt w6 7 (rowC l) A l.length → (∀ r ∈ l, r.length = 7) → l.length ≤ 8 → Keep cb w4 w6 → Below w6.heap.size w6 W' → Calls Tryd.prog 17 #[.agg #[.slice C0 k0 q0, .slice C1 k1 q1, .slice C2 k2 q2, .slice C3 k3 q3, .slice C4 k4 q4], .int .i64 me, .int .i64 3, .slice A l.length lc] W' (RdPost (replayP (cdP p) me 3 l) W')) := fun l w6 W' A lc h1 h2 h3 h4 h5 => by
    have hz4 := lt_of_block HX4.out
    have hz6 := h4.size
    have hz7 := h5.size
    have hcl := HCL.out
    exact (replay_any hi me 3 C0 C1 C2 C3 C4 k0 q0 k1 q1 k2 q2 k3 q3 k4 q4 (cdP p) W' l h2 (by omega) A l.length lc (h1.below (by decide) h5) rfl ((HCI4.out.at' (w' := W') fun k h1 h2 => (h5.block k (by omega)).trans (h4.block k (by omega) (by omega))).cd) (by omega)).mono fun e w' h => rd_of_rep h
  clear hme hw4 hhi h34 hx4 hs0 hs1
  go_cut [8] (fun q wx => ∃ (sb : Nat) (l : List (List Int)) (Z V S O : Option Addr) (zc vc sc oc : Nat), q = .pointer (some ⟨sb, 0, none⟩) ∧ Hid (SBox wx (replayP (cdP p) me 3 l) sb Z V S O zc vc sc oc) ∧ Hid (l.length ≤ 8) ∧ Hid (∀ r ∈ l, r.length = 7) ∧ Hid (∀ r ∈ l, ∀ x ∈ r, I64 x) ∧ Hid (Keep cb w4 wx) ∧ Hid (CodesIn w.heap.size wx cb))
  case first =>
    have hS : Keep cb w4 w4.drew := HKD.out
    refine wp_region_held_drew (S := fun w' => Keep cb w4 w') (by kernel_rfl) hS (fun _ => ?_)
    obtain ⟨wd, hwd⟩ : ∃ x, w4.drew = x := ⟨_, rfl⟩
    have hBd : Below w4.heap.size w4 wd := by rw [← hwd]; exact below_drew1 w4
    rw [hwd] at hS ⊢
    clear hwd
    refine' wpAnyH_take (i := 0) (v := _) ?hi1 (by kernel_rfl) (by kernel_rfl) (by kernel_rfl) ?hQ1 (Or.inl ⟨?hw1, ?hy1⟩) hS ?rest1
    case hi1 => (simp only [List.getElem?_toArray, List.getElem?_cons_zero]; rfl)
    case hQ1 => exact fun _ _ _ h => h
    case hw1 => rfl
    case hy1 =>
      rintro w9 hk9
      obtain ⟨b0, b1, b2, b3, b4⟩ := HS.out _ hk9
      go_simp
      with_reducible rfl
    try simp only [Act.put, List.setIfInBounds_toArray, List.set_cons_zero, List.set_cons_succ]
    refine' wpAnyH_take (i := 1) (v := _) ?hi2 (by kernel_rfl) (by kernel_rfl) (by kernel_rfl) ?hQ2 (Or.inl ⟨?hw2, ?hy2⟩) hS ?rest2
    case hi2 => (simp only [List.getElem?_toArray, List.getElem?_cons_succ, List.getElem?_cons_zero]; rfl)
    case hQ2 => exact fun _ _ _ h => h
    case hw2 => rfl
    case hy2 =>
      rintro w9 -
      go_simp
      with_reducible rfl
    try simp only [Act.put, List.setIfInBounds_toArray, List.set_cons_zero, List.set_cons_succ]
    refine' wpAnyH_take (i := 2) (v := _) ?hi3 (by kernel_rfl) (by kernel_rfl) (by kernel_rfl) ?hQ3 (Or.inl ⟨?hw3, ?hy3⟩) hS ?rest3
    case hi3 => (simp only [List.getElem?_toArray, List.getElem?_cons_succ, List.getElem?_cons_zero]; rfl)
    case hQ3 => exact fun _ _ _ h => h
    case hw3 => rfl
    case hy3 =>
      rintro w9 -
      go_simp
      with_reducible rfl
    try simp only [Act.put, List.setIfInBounds_toArray, List.set_cons_zero, List.set_cons_succ]
    refine wpAnyH_ready (rs := [3, 5]) (by kernel_rfl) (by simp) ?_
    refine' (AllReadyH.cons ?hi13 (fun K hK => ?op13) (AllReadyH.cons ?hi14 (fun K hK => ?op14) AllReadyH.nil))
    case hi13 => (simp only [List.getElem?_toArray, List.getElem?_cons_succ, List.getElem?_cons_zero]; rfl)
    case hi14 => (simp only [List.getElem?_toArray, List.getElem?_cons_succ, List.getElem?_cons_zero]; rfl)
    case op13 =>
      go_simp
      go_at_call 11
      refine (HEV.out wd hBd).mono ?_
      rintro e9 w6 ⟨l, A, lc, rfl, hrw, h8, h7, hwf, hc6, hk6, hkk⟩
      have HRW := Lib.hid hrw
      have H8 := Lib.hid h8
      have H7 := Lib.hid h7
      have HWF := Lib.hid hwf
      have HC6 := Lib.hid hc6
      have hS9 : Keep cb w4 w6 := hk6
      clear hrw h8 h7 hwf hc6 hk6 hkk
      refine hK.out _ _ hS9 (fun _ => ?_)
      clear hK K hS
      have hS := hS9
      clear hS9
      try simp only [Act.put, List.setIfInBounds_toArray, List.set_cons_zero, List.set_cons_succ]
      refine wpAnyH_ready (rs := [4, 5]) (by kernel_rfl) (by simp) ?_
      refine' (AllReadyH.cons ?hi8 (fun K hK => ?op8) (AllReadyH.cons ?hi9 (fun K hK => ?op9) AllReadyH.nil))
      case hi8 => (simp only [List.getElem?_toArray, List.getElem?_cons_succ, List.getElem?_cons_zero]; rfl)
      case hi9 => (simp only [List.getElem?_toArray, List.getElem?_cons_succ, List.getElem?_cons_zero]; rfl)
      case op8 =>
        go_simp
        go_at_call 17
        refine (HRP.out l w6 w6 A lc HRW.out H7.out H8.out hS (Below.refl _ _)).mono ?_
        rintro e9 w7 ⟨Z, V0, S0, O0, zc, vc, sc, oc, rfl, hrd, hb7, hx7⟩
        have HRD := Lib.hid hrd
        have HX7 := Lib.hid hx7
        have HC7 := Lib.hid (HC6.out.below hb7)
        have hS9 : Keep cb w4 w7 := hS.trans (Keep.of_below hb7)
        have HXL : Hid (∀ b o, Z = some ⟨b, o, none⟩ ∨ V0 = some ⟨b, o, none⟩ ∨ S0 = some ⟨b, o, none⟩ ∨ O0 = some ⟨b, o, none⟩ → b < w7.heap.size) := fun b o h => (hx7 b o h).2
        clear hrd hb7 hx7
        refine hK.out _ _ hS9 (fun _ => ?_)
        clear hK K hS
        have hS := hS9
        clear hS9
        try simp only [Act.put, List.setIfInBounds_toArray, List.set_cons_zero, List.set_cons_succ]
        refine wpAnyH_ready (rs := [5]) (by kernel_rfl) (by simp) ?_
        refine' (AllReadyH.cons ?hi5 (fun K hK => ?op5) AllReadyH.nil)
        case hi5 => (simp only [List.getElem?_toArray, List.getElem?_cons_succ, List.getElem?_cons_zero]; rfl)
        go_simp
        have hS9 : Keep cb w4 (w7.alloc (.cells #[.slice none 0 0, .slice none 0 0, .slice none 0 0, .slice none 0 0] 36)) := hS.alloc _
        have HQ := Lib.hid (new_blk w7 (.cells #[.slice none 0 0, .slice none 0 0, .slice none 0 0, .slice none 0 0] 36))
        have h6q := Lib.hid (rp_one1 w7 (.cells #[.slice none 0 0, .slice none 0 0, .slice none 0 0, .slice none 0 0] 36))
        have hqm : w4.heap.size ≤ w7.heap.size := hS.size
        have HXN : Hid (∀ b o, Z = some ⟨b, o, none⟩ ∨ V0 = some ⟨b, o, none⟩ ∨ S0 = some ⟨b, o, none⟩ ∨ O0 = some ⟨b, o, none⟩ → b ≠ w7.heap.size) := fun b o h => by have := HXL.out b o h; omega
        replace HRD := Lib.hid (HRD.out.below h6q.out)
        replace HC7 := Lib.hid (HC7.out.below h6q.out)
        refine hK.out _ _ hS9 (fun _ => ?_)
        clear hK K hS
        obtain ⟨nq, hnq⟩ : ∃ x, w7.heap.size = x := ⟨_, rfl⟩
        obtain ⟨w8, hWn⟩ : ∃ x, w7.alloc (.cells #[.slice none 0 0, .slice none 0 0, .slice none 0 0, .slice none 0 0] 36) = x := ⟨_, rfl⟩
        rw [hnq] at HXN
        rw [hWn] at HRD HC7
        rw [hWn] at hS9 HQ h6q
        rw [hnq] at HQ hqm
        simp only [hWn, hnq]
        have HQ7 := HQ
        clear hWn hnq
        have hS := hS9
        clear hS9
        try simp only [Act.put, List.setIfInBounds_toArray, List.set_cons_zero, List.set_cons_succ]
        obtain ⟨e0, e1, e2, e3⟩ := box4 HQ7.out
        have ef0 := frz HQ7.out 0
        have ef1 := frz HQ7.out 1
        have ef2 := frz HQ7.out 2
        have ef3 := frz HQ7.out 3
        have hzq := lt_of_block HQ7.out
        refine wpAnyH_ready (rs := [6]) (by kernel_rfl) (by simp) ?_
        refine' (AllReadyH.cons ?hi4 (fun K hK => ?op4) AllReadyH.nil)
        case hi4 => (simp only [List.getElem?_toArray, List.getElem?_cons_succ, List.getElem?_cons_zero]; rfl)
        go_simp
        have HSB := Lib.hid (sbox_early (zc := zc) (vc := vc) (sc := sc) (oc := oc) HRD.out HQ7.out HXN.out)
        have hS9 := Keep.set4 hS hqm (.slice Z (replayP (cdP p) me 3 l).cells.length zc) (.slice V0 (replayP (cdP p) me 3 l).evs.length vc) (.slice S0 (replayP (cdP p) me 3 l).sent.length sc) (.slice O0 (replayP (cdP p) me 3 l).outs.length oc)
        have HC9 := Lib.hid (HC7.out.up (w' := set4 w8 nq (.slice Z (replayP (cdP p) me 3 l).cells.length zc) (.slice V0 (replayP (cdP p) me 3 l).evs.length vc) (.slice S0 (replayP (cdP p) me 3 l).sent.length sc) (.slice O0 (replayP (cdP p) me 3 l).outs.length oc)) fun k hk => set4_blk _ _ _ _ _ _ (by have := HC4.out.lt; omega))
        refine hK.out _ _ hS9 (fun _ => ?_)
        clear hK K
        try simp only [Act.put, List.setIfInBounds_toArray, List.set_cons_zero, List.set_cons_succ]
        refine wpAnyH_done (by kernel_rfl) ?_ _
        go_wp2_with fail
        go_meet
        case rel => exact ⟨nq, l, Z, V0, S0, O0, zc, vc, sc, oc, rfl, HSB, H8, H7, HWF, Lib.hid hS9, HC9⟩

      case op9 =>
        go_simp
        have hS9 : Keep cb w4 (w6.alloc (.cells #[.slice none 0 0, .slice none 0 0, .slice none 0 0, .slice none 0 0] 36)) := hS.alloc _
        have HQ := Lib.hid (new_blk w6 (.cells #[.slice none 0 0, .slice none 0 0, .slice none 0 0, .slice none 0 0] 36))
        have h6q := Lib.hid (rp_one1 w6 (.cells #[.slice none 0 0, .slice none 0 0, .slice none 0 0, .slice none 0 0] 36))
        have hqm : w4.heap.size ≤ w6.heap.size := hS.size
        have HK6 := Lib.hid hS
        refine hK.out _ _ hS9 (fun _ => ?_)
        clear hK K hS
        obtain ⟨nq, hnq⟩ : ∃ x, w6.heap.size = x := ⟨_, rfl⟩
        obtain ⟨wq, hWn⟩ : ∃ x, w6.alloc (.cells #[.slice none 0 0, .slice none 0 0, .slice none 0 0, .slice none 0 0] 36) = x := ⟨_, rfl⟩


        rw [hWn] at hS9 HQ h6q
        rw [hnq] at HQ hqm
        simp only [hWn, hnq]
        have HQN : Hid (nq ≠ cb) := by show _ ≠ _; have := HC4.out.lt; omega
        clear hWn hnq
        have hS := hS9
        clear hS9
        try simp only [Act.put, List.setIfInBounds_toArray, List.set_cons_zero, List.set_cons_succ]
        refine wpAnyH_ready (rs := [4]) (by kernel_rfl) (by simp) ?_
        refine' (AllReadyH.cons ?hi7 (fun K hK => ?op7) AllReadyH.nil)
        case hi7 => (simp only [List.getElem?_toArray, List.getElem?_cons_succ, List.getElem?_cons_zero]; rfl)
        go_simp
        go_at_call 17
        refine (HRP.out l w6 wq A lc HRW.out H7.out H8.out HK6.out h6q.out).mono ?_
        rintro e9 w7 ⟨Z, V0, S0, O0, zc, vc, sc, oc, rfl, hrd, hb7, hx7⟩
        have HRD := Lib.hid hrd
        have HX7 := Lib.hid hx7
        have HC7 := Lib.hid (HC6.out.below (h6q.out.trans (hb7.mono h6q.out.size)))
        have hS9 : Keep cb w4 w7 := hS.trans (Keep.of_below hb7)
        have HQ7 := Lib.hid (below_blk hb7 HQ.out)
        have HXN : Hid (∀ b o, Z = some ⟨b, o, none⟩ ∨ V0 = some ⟨b, o, none⟩ ∨ S0 = some ⟨b, o, none⟩ ∨ O0 = some ⟨b, o, none⟩ → b ≠ nq) := fun b o h => by have := (hx7 b o h).1; have := lt_of_block HQ.out; omega
        clear hrd hb7 hx7
        refine hK.out _ _ hS9 (fun _ => ?_)
        clear hK K hS
        have hS := hS9
        clear hS9
        try simp only [Act.put, List.setIfInBounds_toArray, List.set_cons_zero, List.set_cons_succ]
        obtain ⟨e0, e1, e2, e3⟩ := box4 HQ7.out
        have ef0 := frz HQ7.out 0
        have ef1 := frz HQ7.out 1
        have ef2 := frz HQ7.out 2
        have ef3 := frz HQ7.out 3
        have hzq := lt_of_block HQ7.out
        refine wpAnyH_ready (rs := [6]) (by kernel_rfl) (by simp) ?_
        refine' (AllReadyH.cons ?hi6 (fun K hK => ?op6) AllReadyH.nil)
        case hi6 => (simp only [List.getElem?_toArray, List.getElem?_cons_succ, List.getElem?_cons_zero]; rfl)
        go_simp
        have HSB := Lib.hid (sbox_early (zc := zc) (vc := vc) (sc := sc) (oc := oc) HRD.out HQ7.out HXN.out)
        have hS9 := Keep.set4 hS hqm (.slice Z (replayP (cdP p) me 3 l).cells.length zc) (.slice V0 (replayP (cdP p) me 3 l).evs.length vc) (.slice S0 (replayP (cdP p) me 3 l).sent.length sc) (.slice O0 (replayP (cdP p) me 3 l).outs.length oc)
        have HC9 := Lib.hid (HC7.out.up (w' := set4 w7 nq (.slice Z (replayP (cdP p) me 3 l).cells.length zc) (.slice V0 (replayP (cdP p) me 3 l).evs.length vc) (.slice S0 (replayP (cdP p) me 3 l).sent.length sc) (.slice O0 (replayP (cdP p) me 3 l).outs.length oc)) fun k hk => set4_blk _ _ _ _ _ _ (by have := HC4.out.lt; omega))
        refine hK.out _ _ hS9 (fun _ => ?_)
        clear hK K
        try simp only [Act.put, List.setIfInBounds_toArray, List.set_cons_zero, List.set_cons_succ]
        refine wpAnyH_done (by kernel_rfl) ?_ _
        go_wp2_with fail
        go_meet
        case rel => exact ⟨nq, l, Z, V0, S0, O0, zc, vc, sc, oc, rfl, HSB, H8, H7, HWF, Lib.hid hS9, HC9⟩


    case op14 =>
      go_simp
      have hS9 : Keep cb w4 (wd.alloc (.cells #[.slice none 0 0, .slice none 0 0, .slice none 0 0, .slice none 0 0] 36)) := hS.alloc _
      have HQ := Lib.hid (new_blk wd (.cells #[.slice none 0 0, .slice none 0 0, .slice none 0 0, .slice none 0 0] 36))
      have h6q := Lib.hid (rp_one1 wd (.cells #[.slice none 0 0, .slice none 0 0, .slice none 0 0, .slice none 0 0] 36))
      have hqm : w4.heap.size ≤ wd.heap.size := hS.size
      refine hK.out _ _ hS9 (fun _ => ?_)
      clear hK K hS
      obtain ⟨nq, hnq⟩ : ∃ x, wd.heap.size = x := ⟨_, rfl⟩
      obtain ⟨wq, hWn⟩ : ∃ x, wd.alloc (.cells #[.slice none 0 0, .slice none 0 0, .slice none 0 0, .slice none 0 0] 36) = x := ⟨_, rfl⟩


      rw [hWn] at hS9 HQ h6q
      rw [hnq] at HQ hqm
      simp only [hWn, hnq]
      have HQN : Hid (nq ≠ cb) := by show _ ≠ _; have := HC4.out.lt; omega
      clear hWn hnq
      have hS := hS9
      clear hS9
      try simp only [Act.put, List.setIfInBounds_toArray, List.set_cons_zero, List.set_cons_succ]
      refine wpAnyH_ready (rs := [3]) (by kernel_rfl) (by simp) ?_
      refine' (AllReadyH.cons ?hi12 (fun K hK => ?op12) AllReadyH.nil)
      case hi12 => (simp only [List.getElem?_toArray, List.getElem?_cons_succ, List.getElem?_cons_zero]; rfl)
      go_simp
      go_at_call 11
      refine (HEV.out wq (hBd.trans (h6q.out.mono hBd.size))).mono ?_
      rintro e9 w6 ⟨l, A, lc, rfl, hrw, h8, h7, hwf, hc6, hk6, hkk⟩
      have HRW := Lib.hid hrw
      have H8 := Lib.hid h8
      have H7 := Lib.hid h7
      have HWF := Lib.hid hwf
      have HC6 := Lib.hid hc6
      have hS9 : Keep cb w4 w6 := hk6
      have HQ6 := Lib.hid (hkk.blk HQ.out HQN.out)
      clear hrw h8 h7 hwf hc6 hk6 hkk
      refine hK.out _ _ hS9 (fun _ => ?_)
      clear hK K hS
      have hS := hS9
      clear hS9
      try simp only [Act.put, List.setIfInBounds_toArray, List.set_cons_zero, List.set_cons_succ]
      refine wpAnyH_ready (rs := [4]) (by kernel_rfl) (by simp) ?_
      refine' (AllReadyH.cons ?hi11 (fun K hK => ?op11) AllReadyH.nil)
      case hi11 => (simp only [List.getElem?_toArray, List.getElem?_cons_succ, List.getElem?_cons_zero]; rfl)
      go_simp
      go_at_call 17
      refine (HRP.out l w6 w6 A lc HRW.out H7.out H8.out hS (Below.refl _ _)).mono ?_
      rintro e9 w7 ⟨Z, V0, S0, O0, zc, vc, sc, oc, rfl, hrd, hb7, hx7⟩
      have HRD := Lib.hid hrd
      have HX7 := Lib.hid hx7
      have HC7 := Lib.hid (HC6.out.below hb7)
      have hS9 : Keep cb w4 w7 := hS.trans (Keep.of_below hb7)
      have HQ7 := Lib.hid (below_blk hb7 HQ6.out)
      have HXN : Hid (∀ b o, Z = some ⟨b, o, none⟩ ∨ V0 = some ⟨b, o, none⟩ ∨ S0 = some ⟨b, o, none⟩ ∨ O0 = some ⟨b, o, none⟩ → b ≠ nq) := fun b o h => by have := (hx7 b o h).1; have := lt_of_block HQ6.out; omega
      clear hrd hb7 hx7
      refine hK.out _ _ hS9 (fun _ => ?_)
      clear hK K hS
      have hS := hS9
      clear hS9
      try simp only [Act.put, List.setIfInBounds_toArray, List.set_cons_zero, List.set_cons_succ]
      obtain ⟨e0, e1, e2, e3⟩ := box4 HQ7.out
      have ef0 := frz HQ7.out 0
      have ef1 := frz HQ7.out 1
      have ef2 := frz HQ7.out 2
      have ef3 := frz HQ7.out 3
      have hzq := lt_of_block HQ7.out
      refine wpAnyH_ready (rs := [6]) (by kernel_rfl) (by simp) ?_
      refine' (AllReadyH.cons ?hi10 (fun K hK => ?op10) AllReadyH.nil)
      case hi10 => (simp only [List.getElem?_toArray, List.getElem?_cons_succ, List.getElem?_cons_zero]; rfl)
      go_simp
      have HSB := Lib.hid (sbox_early (zc := zc) (vc := vc) (sc := sc) (oc := oc) HRD.out HQ7.out HXN.out)
      have hS9 := Keep.set4 hS hqm (.slice Z (replayP (cdP p) me 3 l).cells.length zc) (.slice V0 (replayP (cdP p) me 3 l).evs.length vc) (.slice S0 (replayP (cdP p) me 3 l).sent.length sc) (.slice O0 (replayP (cdP p) me 3 l).outs.length oc)
      have HC9 := Lib.hid (HC7.out.up (w' := set4 w7 nq (.slice Z (replayP (cdP p) me 3 l).cells.length zc) (.slice V0 (replayP (cdP p) me 3 l).evs.length vc) (.slice S0 (replayP (cdP p) me 3 l).sent.length sc) (.slice O0 (replayP (cdP p) me 3 l).outs.length oc)) fun k hk => set4_blk _ _ _ _ _ _ (by have := HC4.out.lt; omega))
      refine hK.out _ _ hS9 (fun _ => ?_)
      clear hK K
      try simp only [Act.put, List.setIfInBounds_toArray, List.set_cons_zero, List.set_cons_succ]
      refine wpAnyH_done (by kernel_rfl) ?_ _
      go_wp2_with fail
      go_meet
      case rel => exact ⟨nq, l, Z, V0, S0, O0, zc, vc, sc, oc, rfl, HSB, H8, H7, HWF, Lib.hid hS9, HC9⟩


  case rest =>
    obtain ⟨sb, l, Z, V, S, O, zc, vc, sc, oc, rfl, HSB, H8, H7, HWF, HK5, HC5⟩ := hcut
    obtain ⟨ns1, ns2, ns3, ns4⟩ := replayP_num (cdP p) me l
    have hev : (replayP (cdP p) me 3 l).evs.length = l.length := by rw [replayP_evs]
    have hcl : (replayP (cdP p) me 3 l).cells.length = k0 := by rw [replayP_len]; exact HCI4.out.len.symm
    have hfw := replayP_few (cdP p) me 3 l
    obtain ⟨s, hs⟩ : ∃ x, replayP (cdP p) me 3 l = x := ⟨_, rfl⟩
    have h8 := H8.out
    rw [hs] at HSB ns1 ns3 hev hcl hfw
    obtain ⟨nv, hnv⟩ : ∃ x, l.length = x := ⟨_, rfl⟩
    rw [hnv] at ns1 ns3 hev hfw h8
    have HN1 := Lib.hid ns1
    have HN3 := Lib.hid ns3
    have hbx := HSB.out.1
    rw [hev, hcl] at hbx
    obtain ⟨m1, hm1⟩ : ∃ x, s.sent.length = x := ⟨_, rfl⟩
    obtain ⟨m2, hm2⟩ : ∃ x, s.outs.length = x := ⟨_, rfl⟩
    rw [hm1, hm2] at hbx
    have HM1 := Lib.hid hm1
    have HM2 := Lib.hid hm2
    have HBX := Lib.hid hbx
    have hm72 : m1 ≤ 1000 := by omega
    have hm73 : m2 ≤ 1000 := by omega
    obtain ⟨b0, b1, b2, b3⟩ := box4 hbx
    have HCD := Lib.hid (HS.out wc HK5.out)
    have HBW : Hid (Below w.heap.size w wc) := HB4.out.trans (HK5.out.below HB4.out.size HCB.out)
    have hzs : sb < wc.heap.size := lt_of_block hbx
    clear ns1 ns2 ns3 ns4 hev hcl hfw hs hnv hm1 hm2 hbx
    go_wp2_with fail
    go_loopg [9, 10, 32] m1 (fun g idx od i wr => ∃ (k : Nat) (x y : Int), k + g = m1 ∧ i = .int .i64 k ∧ idx = .int .i64 x ∧ od = .int .i64 y ∧ -1 ≤ y ∧ y ≤ 8 ∧ Hid (nmbS nv me (s.sent.drop k) (x, y) = true) ∧ Hid (Below wc.heap.size wc wr))
    case atStart => exact ⟨0, 0, -1, by omega, rfl, rfl, rfl, by omega, by omega, by rw [List.drop_zero]; exact HN1, Below.refl _ _⟩
    case round =>
      obtain ⟨k, x, y, hkg, rfl, rfl, rfl, hy0, hy1, HNB, HBR⟩ := hrel
      have hbx := below_blk HBR.out HBX.out
      obtain ⟨c0, c1, c2, c3⟩ := box4 hbx
      have hzr : sb < wr.heap.size := lt_of_block hbx
      cases gk with
      | zero =>
        have hge : m1 ≤ k := by omega
        clear hkg hbx c0 c1 c2 b0 b1 b2 b3
        obtain ⟨wo, rfl⟩ : ∃ wo : World, wo = wr := ⟨_, rfl⟩
        go_wp2_with fail
        rw [show decide (k < m1) = false from decide_eq_false (by omega)]
        go_loopg [9, 84] m2 (fun g idx i wr => ∃ (j : Nat) (x : Int), j + g = m2 ∧ i = .int .i64 j ∧ idx = .int .i64 x ∧ Hid (nmbO nv (s.outs.drop j) x = true) ∧ Hid (Below wc.heap.size wc wr))
        case atStart => exact ⟨0, 0, by omega, rfl, rfl, by rw [List.drop_zero]; exact HN3, HBR⟩
        case round =>
          obtain ⟨j, x, hjg, rfl, rfl, HNO, HBS⟩ := hrel
          have hbs := below_blk HBS.out HBX.out
          obtain ⟨e0, e1, e2, e3⟩ := box4 hbs
          have hzs' : sb < wr.heap.size := lt_of_block hbs
          cases gk with
          | zero =>
            have hge2 : m2 ≤ j := by omega
            obtain ⟨p0, -⟩ := HCD.out
            have p0' : wr.cell? ⟨hi, 0, none⟩ = some (.slice C0 k0 q0) := (HBS.out.cell (p := ⟨hi, 0, none⟩) (World.block_lt_of_cell? wc _ p0)).trans p0
            have hzh : hi < wr.heap.size := World.block_lt_of_cell? wr _ p0'
            clear hjg hbs p0 e1 e2 e3 c3
            go_wp2_with fail
            go_ret
            exact ⟨rfl, HBW.out.trans (HBS.out.mono HBW.out.size)⟩
          | succ g =>
            have hlt : j < m2 := by omega
            have HG := Lib.hid hjg
            obtain ⟨r, hr⟩ : ∃ r, s.outs[j]? = some r := ⟨_, List.getElem?_eq_getElem (by have := HM2.out; omega)⟩
            have HDR : s.outs.drop j = r :: s.outs.drop (j + 1) := by
              obtain ⟨hk, he⟩ := List.getElem?_eq_some_iff.1 hr
              rw [← he]
              exact List.drop_eq_getElem_cons hk
            have hn := HNO.out
            rw [HDR] at hn
            simp only [nmbO, Bool.and_eq_true, decide_eq_true_eq] at hn
            obtain ⟨⟨h1, h2, h3⟩, h4⟩ := hn
            obtain ⟨r0, r1, rfl⟩ := len2 r h3
            have hrw := HSB.out.2.outs.below (by decide) HBS.out
            obtain ⟨eb, eo, rfl, -⟩ := hrw.2 (by have := HM2.out; omega)
            have hrow := hrw.row (nmbO_len nv s.outs 0 HN3.out) rfl rfl hr
            have y0 := hrow 0 r0 rfl
            have y1 := hrow 1 r1 rfl
            rw [Nat.add_zero] at y0
            have heb : eb < wr.heap.size := World.block_lt_of_cell? wr _ y0
            have h1' : x ≤ r0 := h1
            have h2' : r0 ≤ (nv : Int) := h2
            have HN4 : Hid (nmbO nv (s.outs.drop (j + 1)) r0 = true) := h4
            have hj' : (j : Int) < (m2 : Int) := by omega
            have HBT := Lib.hid (HBS.out.alloc HBS.out.size (.cells #[.int .i64 r0, .int .i64 r1] 66))
            clear hjg hr HDR h1 h2 h3 h4 hrw hrow hbs e0 e2
            go_wp2_with fail
            go_roundg g
            case rel => exact ⟨j + 1, r0, by have := HG.out; omega, by go_num, rfl, HN4, HBT⟩
            case measure => omega
      | succ g =>
        have hlt : k < m1 := by omega
        have HG := Lib.hid hkg
        obtain ⟨r, hr⟩ : ∃ r, s.sent[k]? = some r := ⟨_, List.getElem?_eq_getElem (by have := HM1.out; omega)⟩
        have HDR : s.sent.drop k = r :: s.sent.drop (k + 1) := by
          obtain ⟨hk, he⟩ := List.getElem?_eq_some_iff.1 hr
          rw [← he]
          exact List.drop_eq_getElem_cons hk
        have hn := HNB.out
        rw [HDR] at hn
        simp only [nmbS, Bool.and_eq_true, decide_eq_true_eq] at hn
        obtain ⟨⟨h1, h2, h3, h4, h5, h6, h6', h7, h8'⟩, h9⟩ := hn
        obtain ⟨r0, r1, r2, r3, rfl⟩ := len4 r h8'
        have hrw := HSB.out.2.sent.below (by decide) HBR.out
        obtain ⟨eb, eo, rfl, -⟩ := hrw.2 (by have := HM1.out; omega)
        have hrow := hrw.row (nmbS_len nv me s.sent (0, -1) HN1.out) rfl rfl hr
        have y0 := hrow 0 r0 rfl
        have y1 := hrow 1 r1 rfl
        have y2 := hrow 2 r2 rfl
        have y3 := hrow 3 r3 rfl
        rw [Nat.add_zero] at y0
        have heb : eb < wr.heap.size := World.block_lt_of_cell? wr _ y0
        have q1 : x ≤ r0 := h1
        have q2 : r0 ≤ (nv : Int) := h2
        have q3 : 0 ≤ r2 := h3
        have q4 : r2 ≤ 2 := h4
        have q5 : (r2 == me) = false := by simpa using (show r2 ≠ me from h5)
        have q6 : r1 = (if x < r0 then -1 else y) + 1 := h6
        have q7 : r1 < 8 := h7
        have q8 : 0 ≤ r1 := h6'
        have HN4 : Hid (nmbS nv me (s.sent.drop (k + 1)) (r0, r1) = true) := h9
        have hk' : (k : Int) < (m1 : Int) := by omega
        have HBT := Lib.hid (HBR.out.alloc HBR.out.size (.cells #[.int .i64 r0, .int .i64 r1, .int .i64 r2, .int .i64 r3] 64))
        clear hkg hr HDR h1 h2 h3 h4 h5 h6 h6' h7 h8' h9 hrw hrow hbx c0 c2 c3
        by_cases hgt : x < r0
        · rw [if_pos hgt] at q6
          obtain rfl : r1 = 0 := by omega
          clear q6 q7 q8
          go_wp2_with fail
          go_roundg g
          case rel => exact ⟨k + 1, r0, 0, by have := HG.out; omega, by go_num, rfl, by go_num, by omega, by omega, HN4, HBT⟩
          case measure => omega
        · rw [if_neg hgt] at q6
          obtain rfl : r0 = x := by omega
          subst q6
          clear hgt
          go_wp2_with fail
          go_roundg g
          case rel => exact ⟨k + 1, r0, y + 1, by have := HG.out; omega, by go_num, rfl, by go_num, by omega, by omega, HN4, HBT⟩
          case measure => omega
end Go.Proofs.YtgblgkkbggdopaaDoor
