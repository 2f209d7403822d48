/-
  The walk of the law ProcessPrefixes (gens61.py writes this text). Conditions: its first argument reads as a list of bytes, its second one is a byte; the tables of names hold what start-up laid.
-/
import Derived.Test.YtgblgkkbggdopaaDoorZaw
import Derived.Test.YtgblgkkbggdopaaDoorZav
import Derived.Test.YtgblgkkbggdopaaDoorYMathPf
import Derived.Test.YtgblgkkbggdopaaDoorYWalkMod
import Derived.Deep.RegionHeld3
import Derived.Deep.LoopGhost
import Derived.Deep.CutBlock
import Derived.Deep.Cut
namespace Go.Proofs.YtgblgkkbggdopaaDoor
open Go.RowKit

set_option maxHeartbeats 16000000 in
set_option maxRecDepth 100000 in
theorem processPrefixes_any (codes : Value) (sv kq : Int) (w : World) (hcd : BytesIn w.heap.size w codes) (hs0 : 0 ≤ sv) (hs1 : sv ≤ 255) (hg : GlAt w) (hgt : glTop ≤ w.heap.size) :
    Calls Tryd.prog 4 #[codes, .int .u8 sv, .int .i64 kq] w fun e w' => e = .returned (.bool true) ∧ Below w.heap.size w w' := by
  have HCD0 := Lib.hid hcd
  have HG := Lib.hid hg
  clear hcd hg
  go_enter Tryd.func4, Tryd.ntmps4
  go_wp2_with fail
  refine (awake6_any _).mono ?_
  rintro e w1 ⟨rfl, hb⟩
  have HB1 := Lib.hid hb
  clear hb
  go_wp2_with fail
  refine (new_any w.heap.size codes 240 w1 (HCD0.out.below HB1.out) HB1.out.size (by decide)).mono ?_
  rintro e w2 ⟨cb, NA, nn, nc, rfl, -, hcs, hcb1, hb⟩
  have HB2 := Lib.hid (HB1.out.trans (hb.mono HB1.out.size))
  have HC2 : Hid (CodesIn w.heap.size w2 cb) := ⟨NA, nn, nc, 0, hcs⟩
  have hcb : w.heap.size ≤ cb := Nat.le_trans HB1.out.size hcb1
  have hgt' : glTop ≤ cb := Nat.le_trans hgt hcb
  have hg2 : GlAt w2 := by
    obtain ⟨⟨T, fr, h1⟩, ⟨T', fr', h2⟩⟩ := HG.out
    exact ⟨⟨T, fr, below_blk HB2.out h1⟩, ⟨T', fr', below_blk HB2.out h2⟩⟩
  have HG2 := Lib.hid hg2
  have HCB := Lib.hid hcb
  clear hb hcs hcb1 HB1 hg2 hcb
  go_wp2_with fail
  refine (code_any w.heap.size cb w2 HC2.out HG2.out hgt').mono ?_
  rintro e w3 ⟨p, C0, C1, C2, C3, C4, k0, q0, k1, q1, k2, q2, k3, q3, k4, q4, hdp, rfl, hcin, hcc, hk⟩
  have HC3 := Lib.hid hcc
  have HCI := Lib.hid hcin
  have HDP := Lib.hid hdp
  have HB3 := Lib.hid (HB2.out.trans (hk.below HB2.out.size HCB.out))
  have HCL : Hid (cb < w2.heap.size) := HC2.out.lt
  have HZ2 : Hid (w2.heap.size ≤ w3.heap.size) := hk.size
  obtain ⟨lo, hlo⟩ : ∃ x, w2.heap.size = x := ⟨_, rfl⟩
  obtain ⟨hi, hhi⟩ : ∃ x, w3.heap.size = x := ⟨_, rfl⟩
  rw [hlo] at HCL HZ2 HCI
  rw [hhi] at HCI
  rw [hhi] at HZ2
  have HHI := Lib.hid hhi
  clear hcc hcin hdp hk HC2 HG2 HB2 hgt' hlo hhi
  go_upto_region 6 with fail
  obtain ⟨me, hme⟩ : ∃ x, sv % 3 = x := ⟨_, rfl⟩
  obtain ⟨w4, hw4⟩ : ∃ x, w3.alloc (.cells #[.slice C0 k0 q0, .slice C1 k1 q1, .slice C2 k2 q2, .slice C3 k3 q3, .slice C4 k4 q4] 29) = x := ⟨_, rfl⟩
  have hhi := HHI.out
  have h34 : Below w3.heap.size w3 w4 := by rw [← hw4]; exact rp_one1 _ _
  have hx4 : w4.heap[hi]? = some (.cells #[.slice C0 k0 q0, .slice C1 k1 q1, .slice C2 k2 q2, .slice C3 k3 q3, .slice C4 k4 q4] 29 (0, 0)) := by rw [← hw4, ← hhi]; exact new_blk _ _
  simp only [hme, hw4, hhi]
  have HX4 := Lib.hid hx4
  have HB4 := Lib.hid (HB3.out.trans (h34.mono HB3.out.size))
  have HC4 := Lib.hid (HC3.out.below h34)
  have HCI4 := Lib.hid (HCI.out.at' (w' := w4) fun k h1 h2 => h34.block k (by omega))
  have HNE : Hid (hi ≠ cb) := by show _ ≠ _; have := HCL.out; have := HZ2.out; omega
  have HS : Hid (∀ w', Keep cb w4 w' → w'.cell? ⟨hi, 0, none⟩ = some (.slice C0 k0 q0) ∧ w'.cell? ⟨hi, 1, none⟩ = some (.slice C1 k1 q1) ∧ w'.cell? ⟨hi, 2, none⟩ = some (.slice C2 k2 q2) ∧ w'.cell? ⟨hi, 3, none⟩ = some (.slice C3 k3 q3) ∧ w'.cell? ⟨hi, 4, none⟩ = some (.slice C4 k4 q4)) := fun w' hk => by
    have hx := hk.blk HX4.out HNE.out
    obtain ⟨b0, b1, b2, b3, b4, _⟩ := box5 hx
    exact ⟨b0, b1, b2, b3, b4⟩
  have HEV : Hid (∀ W', Below w4.heap.size w4 W' → Calls Tryd.prog 11 #[.pointer (some ⟨cb, 0, none⟩), .int .i64 8] W' fun e w6 => ∃ (l : List (List Int)) (A : Option Addr) (lc : Nat), e = .returned (.slice A l.length lc) ∧ RwAt w6 7 (rowC l) A l.length ∧ l.length ≤ lc ∧ l.length ≤ 8 ∧ (∀ r ∈ l, r.length = 7) ∧ Keep cb w4 w6) := fun W' hb =>
    (events_any w.heap.size cb W' (HC4.out.below hb)).mono fun e w6 ⟨l, A, lc, h1, h2, h3, h4, h5, h6, h7⟩ => ⟨l, A, lc, h1, RwAt.own h2, cap_of_own h2, h3, h4, (Keep.of_below hb).trans h7⟩
  have HCA : Hid (∀ W', Keep cb w4 W' → hi ≤ W'.heap.size ∧ CdAt hi W' (cdP p) C0 C1 C2 C3 C4 k0 q0 k1 q1 k2 q2 k3 q3 k4 q4) := fun W' h4 => by
    have hz4 := lt_of_block HX4.out
    have hz6 := h4.size
    have hcl := HCL.out
    exact ⟨by omega, (HCI4.out.at' (w' := W') fun k h1 h2 => h4.block k (by omega) (by omega)).cd⟩
  have HRP : Hid (∀ l n W' A lc, l.length = n → RwAt W' 7 (rowC l) A l.length → (∀ r ∈ l, r.length = 7) → n ≤ 8 → Keep cb w4 W' → Calls Tryd.prog 17 #[.agg #[.slice C0 k0 q0, .slice C1 k1 q1, .slice C2 k2 q2, .slice C3 k3 q3, .slice C4 k4 q4], .int .i64 me, .int .i64 3, .slice A n lc] W' fun e w' => RdPost (replayP (cdP p) me 3 l) W' e w' ∧ RdCap (replayP (cdP p) me 3 l) W' e w') := fun l n W' A lc hn h1 h2 h3 h4 => by
    subst hn
    obtain ⟨ha, hb⟩ := HCA.out W' h4
    exact (replay_any hi me 3 C0 C1 C2 C3 C4 k0 q0 k1 q1 k2 q2 k3 q3 k4 q4 (cdP p) W' l h2 (by omega) A l.length lc h1 rfl hb ha).mono fun e w' h => ⟨rd_of_rep h, cap_of_rep h⟩
  clear hme hw4 hhi h34 hx4 hs0 hs1
  go_wp2_with fail
  refine (HEV.out w4 (Below.refl _ _)).mono ?_
  rintro e w6 ⟨l, A, lc, rfl, hrw, hlc, h8, h7, hk6⟩
  have HR7 := Lib.hid (HRP.out l l.length w6 A lc rfl hrw h7 h8 hk6)
  obtain ⟨n, hn⟩ : ∃ x, l.length = x := ⟨_, rfl⟩
  rw [hn] at hrw h8 hlc HR7
  simp only [hn]
  have HRW := Lib.hid hrw
  have H7 := Lib.hid h7
  have HN := Lib.hid hn
  have HK6 := Lib.hid hk6
  obtain ⟨b0, b1, b2, b3, b4⟩ := HS.out w6 hk6
  clear hrw h7 hk6 hn HEV
  go_wp2_with fail
  refine HR7.out.mono ?_
  rintro e w7 ⟨-, Z, V, S, O, zc, vc, sc, oc, rfl, hrd, hb7, cv, cs, co⟩
  have HEVS : Hid ((replayP (cdP p) me 3 l).evs = l) := replayP_evs _ _ _ _
  obtain ⟨s, hs⟩ : ∃ x, replayP (cdP p) me 3 l = x := ⟨_, rfl⟩
  rw [hs] at hrd cv cs co HEVS
  simp only [hs]
  have HSS := Lib.hid hs
  have HRD := Lib.hid hrd
  have HB7 := Lib.hid hb7
  have HK7 := Lib.hid (HK6.out.trans (Keep.of_below hb7))
  have hev : s.evs.length = n := by rw [HEVS.out, HN.out]
  simp only [hev] at cv ⊢
  have HEL := Lib.hid hev
  clear hs hrd hb7 hev b0 b1 b2 b3 b4 HR7
  go_upto_region 8 with fail
  obtain ⟨sb, hsb⟩ : ∃ x, w7.heap.size = x := ⟨_, rfl⟩
  obtain ⟨w8, hw8⟩ : ∃ x, w7.alloc (.cells #[.slice Z s.cells.length zc, .slice V n vc, .slice S s.sent.length sc, .slice O s.outs.length oc] 36) = x := ⟨_, rfl⟩
  have h78 : Below w7.heap.size w7 w8 := by rw [← hw8]; exact rp_one1 _ _
  have hx8 : w8.heap[sb]? = some (.cells #[.slice Z s.cells.length zc, .slice V n vc, .slice S s.sent.length sc, .slice O s.outs.length oc] 36 (0, 0)) := by rw [← hw8, ← hsb]; exact new_blk _ _
  have HK8 := Lib.hid (HK7.out.trans (Keep.of_below h78))
  have HX8 := Lib.hid hx8
  have HRD8 := Lib.hid (HRD.out.below h78)
  have HR8 := Lib.hid ((HRW.out.below (by decide) HB7.out).below (by decide) h78)
  simp only [hw8, hsb]
  obtain ⟨b0, b1, b2, b3, b4⟩ := HS.out w8 HK8.out
  obtain ⟨c0, c1, c2, c3⟩ := box4 hx8
  have HMD := mod_any kq (n + 1) w8 (by omega) (by omega)
  rw [show ((n + 1 : Nat) : Int) = (n : Int) + 1 from by omega] at HMD
  have HMD := Lib.hid HMD
  clear hsb hw8 h78 hx8
  go_wp2_with fail
  refine HMD.out.mono ?_
  rintro e w8' ⟨m, hm, rfl, hw⟩
  rw [hw]
  clear hw w8'
  have hva : RwAt w8 7 (rowC l) V n := by
    have := HRD8.out.evs
    rwa [HEL.out, HEVS.out] at this
  obtain ⟨hca, hcb⟩ := HCA.out w8 HK8.out
  have HAT := Lib.hid (at_any hi C0 C1 C2 C3 C4 k0 q0 k1 q1 k2 q2 k3 q3 k4 q4 (cdP p) me 3 m s.cells.length n s.sent.length s.outs.length l Z V S O zc vc sc oc w8 hva HN.out.symm H7.out (by have := HN.out; omega) cv (by omega) hcb hca)
  clear hva hca hcb
  go_wp2_with fail
  refine HAT.out.mono ?_
  rintro e w10 ⟨v, rfl, Z1, V1, S1, O1, zc1, vc1, sc1, oc1, hv, hrd, hb, hx⟩
  injection hv with hv
  subst hv
  have HE1 : Hid ((replayP (cdP p) me 3 (l.take m)).evs = l.take m) := replayP_evs _ _ _ _
  obtain ⟨s1, hs1⟩ : ∃ x, replayP (cdP p) me 3 (l.take m) = x := ⟨_, rfl⟩
  rw [hs1] at hrd HE1
  simp only [hs1]
  have HS1 := Lib.hid hs1
  have HRD1 := Lib.hid hrd
  have HB10 := Lib.hid hb
  have HK10 := Lib.hid (HK8.out.trans (Keep.of_below hb))
  clear hs1 hrd hb hx HAT b0 b1 b2 b3 b4 c0 c1 c2 c3
  go_upto_region 10 with fail
  obtain ⟨ab, hab⟩ : ∃ x, w10.heap.size = x := ⟨_, rfl⟩
  obtain ⟨wq, hwr⟩ : ∃ x, w10.alloc (.cells #[.slice Z1 s1.cells.length zc1, .slice V1 s1.evs.length vc1, .slice S1 s1.sent.length sc1, .slice O1 s1.outs.length oc1] 36) = x := ⟨_, rfl⟩
  have hrr : Below w10.heap.size w10 wq := by rw [← hwr]; exact rp_one1 _ _
  have hxr : wq.heap[ab]? = some (.cells #[.slice Z1 s1.cells.length zc1, .slice V1 s1.evs.length vc1, .slice S1 s1.sent.length sc1, .slice O1 s1.outs.length oc1] 36 (0, 0)) := by rw [← hwr, ← hab]; exact new_blk _ _
  have HKR := Lib.hid (HK10.out.trans (Keep.of_below hrr))
  have HXA := Lib.hid hxr
  have HRDA := Lib.hid (HRD1.out.below hrr)
  have HB8R : Hid (Below w8.heap.size w8 wq) := HB10.out.trans (hrr.mono HB10.out.size)
  have HLR := Lib.hid (HR8.out.below (by decide) HB8R.out)
  have HXS := Lib.hid (below_blk HB8R.out HX8.out)
  have HRDS := Lib.hid (HRD8.out.below HB8R.out)
  simp only [hwr, hab]
  obtain ⟨lt, hlt⟩ : ∃ x, l.take m = x := ⟨_, rfl⟩
  have HLT : Hid (RwAt wq 7 (rowC lt) A lt.length) := by
    have h := RwAt.cut HLR.out H7.out HN.out.symm m (by omega)
    have hl : lt.length = m := by rw [← hlt, List.length_take, HN.out]; omega
    show RwAt _ _ _ _ _
    rw [hl, ← hlt]; exact h
  have HTM := Lib.hid hlt
  have HLM : Hid (lt.length = m) := by show _ = _; rw [← hlt, List.length_take, HN.out]; omega
  have HS' : Hid (∀ w', Below wq.heap.size wq w' → w'.cell? ⟨hi, 0, none⟩ = some (.slice C0 k0 q0) ∧ w'.cell? ⟨hi, 1, none⟩ = some (.slice C1 k1 q1) ∧ w'.cell? ⟨hi, 2, none⟩ = some (.slice C2 k2 q2) ∧ w'.cell? ⟨hi, 3, none⟩ = some (.slice C3 k3 q3) ∧ w'.cell? ⟨hi, 4, none⟩ = some (.slice C4 k4 q4)) := fun w' h => HS.out w' (HKR.out.trans (Keep.of_below h))
  have HRM : Hid (∀ W', Below wq.heap.size wq W' → Calls Tryd.prog 17 #[.agg #[.slice C0 k0 q0, .slice C1 k1 q1, .slice C2 k2 q2, .slice C3 k3 q3, .slice C4 k4 q4], .int .i64 me, .int .i64 3, .slice A m lc] W' (RdPost s1 W')) := fun W' h => by
    have := HRP.out lt m W' A lc HLM.out (HLT.out.below (by decide) h) (by rw [← HTM.out]; exact fun r hr => H7.out r (List.mem_of_mem_take hr)) (by omega) (HKR.out.trans (Keep.of_below h))
    refine this.mono fun e w' hq => ?_
    rw [← HTM.out, HS1.out] at hq
    exact hq.1
  have hmc : (m : Int) ≤ (lc : Int) := by omega
  have hm0 : (0 : Int) ≤ (m : Int) := by omega
  replace HS := HS'
  clear HS' hlt hab hwr hrr hxr HR8 HX8 HRD8 HB10 HRD1 HK10
  go_cut [15] (fun q wx => ∃ (pb : Nat) (Z2 V2 S2 O2 : Option Addr) (zc2 vc2 sc2 oc2 : Nat), q = .pointer (some ⟨pb, 0, none⟩) ∧ Hid (SBox wx s1 pb Z2 V2 S2 O2 zc2 vc2 sc2 oc2) ∧ Hid (Below wq.heap.size wq wx))
  case first =>
    refine wp_region_held_drew (S := fun w' => Below wq.heap.size wq w') (by kernel_rfl) (below_drew1 wq) (fun _ => ?_)
    obtain ⟨wd, hwd⟩ : ∃ x, wq.drew = x := ⟨_, rfl⟩
    have hS : Below wq.heap.size wq wd := by rw [← hwd]; exact below_drew1 wq
    have HI : Hid (LbI wq.heap.size lt lt A A wd none none none none) := LbI.start (hS.size) (HLT.out.below (by decide) hS) (HLT.out.below (by decide) hS)
    rw [hwd]
    clear hwd
    refine' wpAnyH_take (i := 0) (v := _) ?hi1 (by kernel_rfl) (by kernel_rfl) (by kernel_rfl) ?hQ1 (Or.inl ⟨?hw1, ?hy1⟩) hS ?rest1
    case hi1 => (simp only [List.getElem?_toArray, List.getElem?_cons_zero]; rfl)
    case hQ1 => exact fun _ _ _ h => h
    case hw1 => rfl
    case hy1 =>
      rintro w9 hk9
      obtain ⟨b0, b1, b2, b3, b4⟩ := HS.out _ hk9
      go_simp
      with_reducible rfl
    try simp only [Act.put, List.setIfInBounds_toArray, List.set_cons_zero, List.set_cons_succ]
    refine' wpAnyH_take (i := 1) (v := _) ?hi2 (by kernel_rfl) (by kernel_rfl) (by kernel_rfl) ?hQ2 (Or.inl ⟨?hw2, ?hy2⟩) hS ?rest2
    case hi2 => (simp only [List.getElem?_toArray, List.getElem?_cons_succ, List.getElem?_cons_zero]; rfl)
    case hQ2 => exact fun _ _ _ h => h
    case hw2 => rfl
    case hy2 =>
      rintro w9 -
      go_simp
      with_reducible rfl
    try simp only [Act.put, List.setIfInBounds_toArray, List.set_cons_zero, List.set_cons_succ]
    refine' wpAnyH_take (i := 2) (v := _) ?hi3 (by kernel_rfl) (by kernel_rfl) (by kernel_rfl) ?hQ3 (Or.inl ⟨?hw3, ?hy3⟩) hS ?rest3
    case hi3 => (simp only [List.getElem?_toArray, List.getElem?_cons_succ, List.getElem?_cons_zero]; rfl)
    case hQ3 => exact fun _ _ _ h => h
    case hw3 => rfl
    case hy3 =>
      rintro w9 -
      go_simp
      with_reducible rfl
    try simp only [Act.put, List.setIfInBounds_toArray, List.set_cons_zero, List.set_cons_succ]
    refine' wpAnyH_take (i := 3) (v := _) ?hi4 (by kernel_rfl) (by kernel_rfl) (by kernel_rfl) ?hQ4 (Or.inl ⟨?hw4, ?hy4⟩) hS ?rest4
    case hi4 => (simp only [List.getElem?_toArray, List.getElem?_cons_succ, List.getElem?_cons_zero]; rfl)
    case hQ4 => exact fun _ _ _ h => h
    case hw4 => rfl
    case hy4 =>
      rintro w9 -
      go_simp
      with_reducible rfl
    try simp only [Act.put, List.setIfInBounds_toArray, List.set_cons_zero, List.set_cons_succ]
    refine' wpAnyH_take (i := 4) (v := _) ?hi5 (by kernel_rfl) (by kernel_rfl) (by kernel_rfl) ?hQ5 (Or.inl ⟨?hw5, ?hy5⟩) hS ?rest5
    case hi5 => (simp only [List.getElem?_toArray, List.getElem?_cons_succ, List.getElem?_cons_zero]; rfl)
    case hQ5 => exact fun _ _ _ h => h
    case hw5 => rfl
    case hy5 =>
      rintro w9 -
      go_simp
      with_reducible rfl
    try simp only [Act.put, List.setIfInBounds_toArray, List.set_cons_zero, List.set_cons_succ]
    refine wpAnyH_ready (rs := [5, 6]) (by kernel_rfl) (by simp) ?_
    refine' (AllReadyH.cons ?hi6 (fun K hK => ?op6) (AllReadyH.cons ?hi7 (fun K hK => ?op7) AllReadyH.nil))
    case hi6 => (simp only [List.getElem?_toArray, List.getElem?_cons_succ, List.getElem?_cons_zero]; rfl)
    case hi7 => (simp only [List.getElem?_toArray, List.getElem?_cons_succ, List.getElem?_cons_zero]; rfl)
    case op6 =>
      go_simp
      go_at_call 17
      refine (HRM.out wd hS).mono ?_
      rintro e9 u8 ⟨Z2, V2, S2, O2, zc2, vc2, sc2, oc2, rfl, hrd, hb7, hx7⟩
      have HI9 := Lib.hid (HI.out.callA (r := ⟨s1, Z2, V2, S2, O2, zc2, vc2, sc2, oc2⟩) hb7 hrd (fun b ⟨o, h⟩ => hx7 b o h))
      have hS9 : Below wq.heap.size wq u8 := hS.trans (hb7.mono hS.size)
      clear hrd hb7 hx7 HI
      have HI := HI9
      clear HI9
      refine hK.out _ _ hS9 (fun _ => ?_)
      clear hK K hS
      have hS := hS9
      clear hS9
      try simp only [Act.put, List.setIfInBounds_toArray, List.set_cons_zero, List.set_cons_succ]
      refine wpAnyH_ready (rs := [6]) (by kernel_rfl) (by simp) ?_
      refine' (AllReadyH.cons ?hi9 (fun K hK => ?op9) AllReadyH.nil)
      case hi9 => (simp only [List.getElem?_toArray, List.getElem?_cons_succ, List.getElem?_cons_zero]; rfl)
      go_simp
      have hI9 : LbI wq.heap.size lt lt A A (u8.alloc (.cells #[.slice none 0 0, .slice none 0 0, .slice none 0 0, .slice none 0 0] 36)) (some ⟨s1, Z2, V2, S2, O2, zc2, vc2, sc2, oc2⟩) none (some u8.heap.size) none := HI.out.allocA
      have hS9 : Below wq.heap.size wq (u8.alloc (.cells #[.slice none 0 0, .slice none 0 0, .slice none 0 0, .slice none 0 0] 36)) := hS.alloc hS.size _
      refine hK.out _ _ hS9 (fun _ => ?_)
      clear hK K hS HI
      obtain ⟨p1, hnm⟩ : ∃ x, u8.heap.size = x := ⟨_, rfl⟩
      obtain ⟨u10, hWn⟩ : ∃ x, u8.alloc (.cells #[.slice none 0 0, .slice none 0 0, .slice none 0 0, .slice none 0 0] 36) = x := ⟨_, rfl⟩
      rw [hWn, hnm] at hI9
      rw [hWn] at hS9
      simp only [hWn, hnm]
      clear hWn hnm
      have HI := Lib.hid hI9
      have hS := hS9
      clear hS9 hI9
      try simp only [Act.put, List.setIfInBounds_toArray, List.set_cons_zero, List.set_cons_succ]
      refine wpAnyH_ready (rs := [7]) (by kernel_rfl) (by simp) ?_
      refine' (AllReadyH.cons ?hi11 (fun K hK => ?op11) AllReadyH.nil)
      case hi11 => (simp only [List.getElem?_toArray, List.getElem?_cons_succ, List.getElem?_cons_zero]; rfl)
      obtain ⟨e0, e1, e2, e3⟩ := box4 (HI.out.boxA p1 rfl).1
      have ef0 := frz (HI.out.boxA p1 rfl).1 0
      have ef1 := frz (HI.out.boxA p1 rfl).1 1
      have ef2 := frz (HI.out.boxA p1 rfl).1 2
      have ef3 := frz (HI.out.boxA p1 rfl).1 3
      have hzq := lt_of_block (HI.out.boxA p1 rfl).1
      go_simp
      have hS9 : Below wq.heap.size wq (set4 u10 p1 (.slice Z2 s1.cells.length zc2) (.slice V2 s1.evs.length vc2) (.slice S2 s1.sent.length sc2) (.slice O2 s1.outs.length oc2)) := hS.trans (set4_below u10 (HI.out.boxA p1 rfl).2 _ _ _ _)
      refine hK.out _ _ hS9 (fun _ => ?_)
      clear hK K hS e0 e1 e2 e3 ef0 ef1 ef2 ef3 hzq
      try simp only [Act.put, List.setIfInBounds_toArray, List.set_cons_zero, List.set_cons_succ]
      refine wpAnyH_done (by kernel_rfl) ?_ _
      go_wp2_with fail
      go_meet
      case rel => exact ⟨p1, Z2, V2, S2, O2, zc2, vc2, sc2, oc2, rfl, Lib.hid HI.out.last1.1, Lib.hid hS9⟩

    case op7 =>
      go_simp
      have hI9 : LbI wq.heap.size lt lt A A (wd.alloc (.cells #[.slice none 0 0, .slice none 0 0, .slice none 0 0, .slice none 0 0] 36)) none none (some wd.heap.size) none := HI.out.allocA
      have hS9 : Below wq.heap.size wq (wd.alloc (.cells #[.slice none 0 0, .slice none 0 0, .slice none 0 0, .slice none 0 0] 36)) := hS.alloc hS.size _
      refine hK.out _ _ hS9 (fun _ => ?_)
      clear hK K hS HI
      obtain ⟨p1, hnm⟩ : ∃ x, wd.heap.size = x := ⟨_, rfl⟩
      obtain ⟨u13, hWn⟩ : ∃ x, wd.alloc (.cells #[.slice none 0 0, .slice none 0 0, .slice none 0 0, .slice none 0 0] 36) = x := ⟨_, rfl⟩
      rw [hWn, hnm] at hI9
      rw [hWn] at hS9
      simp only [hWn, hnm]
      clear hWn hnm
      have HI := Lib.hid hI9
      have hS := hS9
      clear hS9 hI9
      try simp only [Act.put, List.setIfInBounds_toArray, List.set_cons_zero, List.set_cons_succ]
      refine wpAnyH_ready (rs := [5]) (by kernel_rfl) (by simp) ?_
      refine' (AllReadyH.cons ?hi14 (fun K hK => ?op14) AllReadyH.nil)
      case hi14 => (simp only [List.getElem?_toArray, List.getElem?_cons_succ, List.getElem?_cons_zero]; rfl)
      go_simp
      go_at_call 17
      refine (HRM.out u13 hS).mono ?_
      rintro e9 u15 ⟨Z2, V2, S2, O2, zc2, vc2, sc2, oc2, rfl, hrd, hb7, hx7⟩
      have HI9 := Lib.hid (HI.out.callA (r := ⟨s1, Z2, V2, S2, O2, zc2, vc2, sc2, oc2⟩) hb7 hrd (fun b ⟨o, h⟩ => hx7 b o h))
      have hS9 : Below wq.heap.size wq u15 := hS.trans (hb7.mono hS.size)
      clear hrd hb7 hx7 HI
      have HI := HI9
      clear HI9
      refine hK.out _ _ hS9 (fun _ => ?_)
      clear hK K hS
      have hS := hS9
      clear hS9
      try simp only [Act.put, List.setIfInBounds_toArray, List.set_cons_zero, List.set_cons_succ]
      refine wpAnyH_ready (rs := [7]) (by kernel_rfl) (by simp) ?_
      refine' (AllReadyH.cons ?hi16 (fun K hK => ?op16) AllReadyH.nil)
      case hi16 => (simp only [List.getElem?_toArray, List.getElem?_cons_succ, List.getElem?_cons_zero]; rfl)
      obtain ⟨e0, e1, e2, e3⟩ := box4 (HI.out.boxA p1 rfl).1
      have ef0 := frz (HI.out.boxA p1 rfl).1 0
      have ef1 := frz (HI.out.boxA p1 rfl).1 1
      have ef2 := frz (HI.out.boxA p1 rfl).1 2
      have ef3 := frz (HI.out.boxA p1 rfl).1 3
      have hzq := lt_of_block (HI.out.boxA p1 rfl).1
      go_simp
      have hS9 : Below wq.heap.size wq (set4 u15 p1 (.slice Z2 s1.cells.length zc2) (.slice V2 s1.evs.length vc2) (.slice S2 s1.sent.length sc2) (.slice O2 s1.outs.length oc2)) := hS.trans (set4_below u15 (HI.out.boxA p1 rfl).2 _ _ _ _)
      refine hK.out _ _ hS9 (fun _ => ?_)
      clear hK K hS e0 e1 e2 e3 ef0 ef1 ef2 ef3 hzq
      try simp only [Act.put, List.setIfInBounds_toArray, List.set_cons_zero, List.set_cons_succ]
      refine wpAnyH_done (by kernel_rfl) ?_ _
      go_wp2_with fail
      go_meet
      case rel => exact ⟨p1, Z2, V2, S2, O2, zc2, vc2, sc2, oc2, rfl, Lib.hid HI.out.last1.1, Lib.hid hS9⟩


  case rest =>
    obtain ⟨pb, Z2, V2, S2, O2, zc2, vc2, sc2, oc2, rfl, HXB, HBC⟩ := hcut
    have HXA := Lib.hid (below_blk HBC.out HXA.out)
    have HXS := Lib.hid (below_blk HBC.out HXS.out)
    have HRDA := Lib.hid (HRDA.out.below HBC.out)
    have HRDS := Lib.hid (HRDS.out.below HBC.out)
    have HLC := Lib.hid (HLR.out.below (by decide) HBC.out)
    have HKC := Lib.hid (HKR.out.trans (Keep.of_below HBC.out))
    have hpre := replayP_pre (cdP p) me 3 l m
    rw [HSS.out, HS1.out] at hpre
    have HPR := Lib.hid hpre
    have hle1 : ¬ (s.sent.length : Int) < (s1.sent.length : Int) := by
      obtain ⟨x, y, h1, h2⟩ := hpre
      rw [h1, List.length_append]; omega
    have hle2 : ¬ (s.outs.length : Int) < (s1.outs.length : Int) := by
      obtain ⟨x, y, h1, h2⟩ := hpre
      rw [h2, List.length_append]; omega
    have hle1n : ¬ s.sent.length < s1.sent.length := by omega
    have hle2n : ¬ s.outs.length < s1.outs.length := by omega
    have HOK : Hid (POk s1) := by
      show POk s1
      rw [← HS1.out]
      exact pok_replay (cdP p) me (l.take m) (fun r hr => H7.out r (List.mem_of_mem_take hr)) (by rw [List.length_take]; have := HN.out; omega) (by have := HCI4.out.few; have := HCI4.out.len; omega)
    obtain ⟨c0, c1, c2, c3⟩ := box4 HXA.out
    obtain ⟨d0, d1, d2, d3⟩ := box4 HXB.out.1
    obtain ⟨e0, e1, e2, e3⟩ := box4 HXS.out
    clear hpre
    go_wp2_with fail
    refine (same_pro s1 s1 wc (Za := Z1) (Va := V1) (Sa := S1) (Oa := O1) (Zb := Z2) (Vb := V2) (Sb := S2) (Ob := O2) (zca := zc1) (vca := vc1) (sca := sc1) (oca := oc1) (zcb := zc2) (vcb := vc2) (scb := sc2) (ocb := oc2) HRDA.out HXB.out.2 HOK.out rfl rfl rfl rfl).mono ?_
    rintro e wd ⟨rfl, hbd⟩
    have HD := Lib.hid hbd
    obtain ⟨c0, c1, c2, c3⟩ := box4 (below_blk hbd HXA.out)
    obtain ⟨d0, d1, d2, d3⟩ := box4 (below_blk hbd HXB.out.1)
    obtain ⟨e0, e1, e2, e3⟩ := box4 (below_blk hbd HXS.out)
    clear hbd
    go_wp2_with fail
    refine (same_ref6 s1 s1 wd (Za := Z1) (Va := V1) (Sa := S1) (Oa := O1) (Zb := Z2) (Vb := V2) (Sb := S2) (Ob := O2) (zca := zc1) (vca := vc1) (sca := sc1) (oca := oc1) (zcb := zc2) (vcb := vc2) (scb := sc2) (ocb := oc2) (HRDA.out.below HD.out) (HXB.out.2.below HD.out) HOK.out rfl rfl rfl rfl).mono ?_
    rintro e we ⟨rfl, hbe⟩
    have HE : Hid (Below wc.heap.size wc we) := HD.out.trans (hbe.mono HD.out.size)
    obtain ⟨c0, c1, c2, c3⟩ := box4 (below_blk HE.out HXA.out)
    obtain ⟨e0, e1, e2, e3⟩ := box4 (below_blk HE.out HXS.out)
    clear hbe d0 d1 d2 d3
    go_upto_region 13 with fail
    go_upto_block 0 with fail
    obtain ⟨ib, hib⟩ : ∃ x, we.heap.size = x := ⟨_, rfl⟩
    obtain ⟨wl, hwl⟩ : ∃ x, we.alloc (.cells #[.int .i64 (-1), .int .i64 ((n : Int) + 1), .int .i64 kq] 3) = x := ⟨_, rfl⟩
    have hll : Below we.heap.size we wl := by rw [← hwl]; exact rp_one1 _ _
    have hxl : wl.heap[ib]? = some (.cells #[.int .i64 (-1), .int .i64 ((n : Int) + 1), .int .i64 kq] 3 (0, 0)) := by rw [← hwl, ← hib]; exact new_blk _ _
    simp only [hwl, hib]
    have HCL2 : Hid (Below wc.heap.size wc wl) := HE.out.trans (hll.mono HE.out.size)
    have HXL := Lib.hid hxl
    have HWA := Lib.hid (below_blk HCL2.out HXA.out)
    have HWS := Lib.hid (below_blk HCL2.out HXS.out)
    have HDA := Lib.hid (HRDA.out.below HCL2.out)
    have HDS := Lib.hid (HRDS.out.below HCL2.out)
    have HKL := Lib.hid (HKC.out.trans (Keep.of_below HCL2.out))
    have HSL : Hid (∀ w', Below wl.heap.size wl w' → w'.cell? ⟨hi, 0, none⟩ = some (.slice C0 k0 q0) ∧ w'.cell? ⟨hi, 1, none⟩ = some (.slice C1 k1 q1) ∧ w'.cell? ⟨hi, 2, none⟩ = some (.slice C2 k2 q2) ∧ w'.cell? ⟨hi, 3, none⟩ = some (.slice C3 k3 q3) ∧ w'.cell? ⟨hi, 4, none⟩ = some (.slice C4 k4 q4)) := fun w' h => HS.out w' ((HBC.out.trans (HCL2.out.mono HBC.out.size)).trans (h.mono (Nat.le_trans HBC.out.size HCL2.out.size)))
    have hev : RwAt wl 7 (rowC l) V n := by
      have := HDS.out.evs
      rwa [HEL.out, HEVS.out] at this
    have HEW := Lib.hid hev
    clear hib hwl hll hxl hev c0 c1 c2 c3 e0 e1 e2 e3
    go_wp2_with fail
    go_loopg [92] 3 (fun g i wr => ∃ j : Nat, j + g = 3 ∧ i = .int .i64 j ∧ Hid (Below wl.heap.size wl wr))
    case atStart => exact ⟨0, by omega, rfl, Below.refl _ _⟩
    case round =>
      obtain ⟨j, hjg, rfl, HB⟩ := hrel
      cases gk with
      | succ g =>
        have hjl : j < 3 := by omega
        have hj' : (j : Int) < 3 := by omega
        have HG := Lib.hid hjg
        obtain ⟨q, hq⟩ : ∃ q : Int, wl.cell? ⟨ib, j, none⟩ = some (.int .i64 q) := by
          match j, hjl with
          | 0, _ => exact ⟨_, by rw [Lib.cell_of_heap HXL.out]; rfl⟩
          | 1, _ => exact ⟨_, by rw [Lib.cell_of_heap HXL.out]; rfl⟩
          | 2, _ => exact ⟨_, by rw [Lib.cell_of_heap HXL.out]; rfl⟩
        have hql := World.block_lt_of_cell? wl _ hq
        have y0 := (HB.out.cell (p := ⟨ib, j, none⟩) hql).trans hq
        obtain ⟨b0, b1, b2, b3, b4⟩ := HSL.out wr HB.out
        obtain ⟨e0, e1, e2, e3⟩ := box4 (below_blk HB.out HWS.out)
        have hzi : ib < wr.heap.size := World.block_lt_of_cell? wr _ y0
        have hzs : sb < wr.heap.size := lt_of_block (below_blk HB.out HWS.out)
        clear hjg hq hql
        by_cases h0 : q < 0
        · have h0' : ¬ 0 ≤ q := by omega
          go_wp2_with fail
          refine (at_low C0 C1 C2 C3 C4 k0 q0 k1 q1 k2 q2 k3 q3 k4 q4 me 3 q s.cells.length n s.sent.length s.outs.length Z V S O zc vc sc oc wr h0).mono ?_
          rintro e w5 ⟨rfl, h5⟩
          have H5 : Hid (Below wl.heap.size wl w5) := HB.out.trans (h5.mono HB.out.size)
          have H6 := Lib.hid (H5.out.alloc H5.out.size (.cells #[.slice none 0 0, .slice none 0 0, .slice none 0 0, .slice none 0 0] 36))
          clear h5 y0 b0 b1 b2 b3 b4 e0 e1 e2 e3
          go_wp2_with fail
          go_roundg g
          case rel => exact ⟨j + 1, by have := HG.out; omega, by go_num, H6⟩
          case measure => omega
        · have h0' : 0 ≤ q := by omega
          by_cases h1 : (n : Int) < q
          · have h1' : ¬ q ≤ (n : Int) := by omega
            go_wp2_with fail
            refine (at_high C0 C1 C2 C3 C4 k0 q0 k1 q1 k2 q2 k3 q3 k4 q4 me 3 q s.cells.length n s.sent.length s.outs.length Z V S O zc vc sc oc wr (by omega) h1).mono ?_
            rintro e w5 ⟨rfl, h5⟩
            have H5 : Hid (Below wl.heap.size wl w5) := HB.out.trans (h5.mono HB.out.size)
            have H6 := Lib.hid (H5.out.alloc H5.out.size (.cells #[.slice none 0 0, .slice none 0 0, .slice none 0 0, .slice none 0 0] 36))
            clear h5 y0 b0 b1 b2 b3 b4 e0 e1 e2 e3
            go_wp2_with fail
            go_roundg g
            case rel => exact ⟨j + 1, by have := HG.out; omega, by go_num, H6⟩
            case measure => omega
          · obtain ⟨kk, rfl⟩ : ∃ kk : Nat, q = (kk : Int) := ⟨q.toNat, by omega⟩
            have h1' : (kk : Int) ≤ (n : Int) := by omega
            obtain ⟨hca, hcb⟩ := HCA.out wr (HKL.out.trans (Keep.of_below HB.out))
            have HAT := Lib.hid (at_any hi C0 C1 C2 C3 C4 k0 q0 k1 q1 k2 q2 k3 q3 k4 q4 (cdP p) me 3 kk s.cells.length n s.sent.length s.outs.length l Z V S O zc vc sc oc wr (HEW.out.below (by decide) HB.out) HN.out.symm H7.out (by have := HN.out; omega) cv (by omega) hcb hca)
            clear hca hcb
            go_wp2_with fail
            refine HAT.out.mono ?_
            rintro e w5 ⟨v, rfl, Z3, V3, S3, O3, zc3, vc3, sc3, oc3, hv, hrd, h5, hx⟩
            injection hv with hv
            subst hv
            have H5 : Hid (Below wl.heap.size wl w5) := HB.out.trans (h5.mono HB.out.size)
            obtain ⟨s3, hs3⟩ : ∃ x, replayP (cdP p) me 3 (l.take kk) = x := ⟨_, rfl⟩
            simp only [hs3]
            have H6 := Lib.hid (H5.out.alloc H5.out.size (.cells #[.slice Z3 s3.cells.length zc3, .slice V3 s3.evs.length vc3, .slice S3 s3.sent.length sc3, .slice O3 s3.outs.length oc3] 36))
            clear hrd h5 hx hs3 y0 b0 b1 b2 b3 b4 e0 e1 e2 e3 HAT
            go_wp2_with fail
            go_roundg g
            case rel => exact ⟨j + 1, by have := HG.out; omega, by go_num, H6⟩
            case measure => omega
      | zero =>
        have hge : 3 ≤ j := by omega
        have hj3 : j = 3 := by omega
        subst hj3
        clear hjg hge
        go_upto_region 20 with fail
        obtain ⟨px, py, hp1, hp2⟩ := HPR.out
        have HOKS : Hid (POk s) := by
          show POk s
          rw [← HSS.out]
          exact pok_replay (cdP p) me l H7.out (by have := HN.out; omega) (by have := HCI4.out.few; have := HCI4.out.len; omega)
        have HT : Hid (∀ w', Below wr.heap.size wr w' → w'.cell? ⟨ab, 2, none⟩ = some (.slice S1 s1.sent.length sc1) ∧ w'.cell? ⟨ab, 3, none⟩ = some (.slice O1 s1.outs.length oc1) ∧ w'.cell? ⟨sb, 2, none⟩ = some (.slice S s.sent.length sc) ∧ w'.cell? ⟨sb, 3, none⟩ = some (.slice O s.outs.length oc)) := fun w' h => by
          have hh := HB.out.trans (h.mono HB.out.size)
          obtain ⟨_, _, x2, x3⟩ := box4 (below_blk hh HWA.out)
          obtain ⟨_, _, y2, y3⟩ := box4 (below_blk hh HWS.out)
          exact ⟨x2, x3, y2, y3⟩
        have hg1 : (s1.sent.length : Int) ≤ (sc : Int) := by omega
        have hg2 : (s1.outs.length : Int) ≤ (oc : Int) := by omega
        have hg3 : (0 : Int) ≤ (s1.sent.length : Int) := by omega
        have hg4 : (0 : Int) ≤ (s1.outs.length : Int) := by omega
        have HQS : Hid (∀ w', Below wr.heap.size wr w' → Calls Tryd.prog 21 #[.slice S1 s1.sent.length sc1, .slice S s1.sent.length sc] w' fun e w'' => e = .returned (.bool true) ∧ Below w'.heap.size w' w'') := fun w' h => by
          have hh := HB.out.trans (h.mono HB.out.size)
          have t := (HDS.out.sent.below (by decide) hh).cut HOKS.out.sent rfl s1.sent.length (by omega)
          rw [show s.sent.take s1.sent.length = s1.sent from by rw [hp1]; simp] at t
          refine (sameS s1.sent s1.sent HOK.out.sent HOK.out.sent S1 S s1.sent.length s1.sent.length sc1 sc w' (HDA.out.sent.below (by decide) hh) rfl t rfl HOK.out.sent_few).mono ?_
          rintro e w'' ⟨rfl, h9⟩
          exact ⟨by simp, h9⟩
        have HQO : Hid (∀ w', Below wr.heap.size wr w' → Calls Tryd.prog 22 #[.slice O1 s1.outs.length oc1, .slice O s1.outs.length oc] w' fun e w'' => e = .returned (.bool true) ∧ Below w'.heap.size w' w'') := fun w' h => by
          have hh := HB.out.trans (h.mono HB.out.size)
          have t := (HDS.out.outs.below (by decide) hh).cut HOKS.out.outs rfl s1.outs.length (by omega)
          rw [show s.outs.take s1.outs.length = s1.outs from by rw [hp2]; simp] at t
          refine (sameO s1.outs s1.outs HOK.out.outs HOK.out.outs O1 O s1.outs.length s1.outs.length oc1 oc w' (HDA.out.outs.below (by decide) hh) rfl t rfl HOK.out.outs_few).mono ?_
          rintro e w'' ⟨rfl, h9⟩
          exact ⟨by simp, h9⟩
        clear hp1 hp2
        refine wp_region_held_drew (S := fun w' => Below wr.heap.size wr w') (by kernel_rfl) (below_drew1 wr) (fun _ => ?_)
        obtain ⟨wd, hwd⟩ : ∃ x, wr.drew = x := ⟨_, rfl⟩
        have hS : Below wr.heap.size wr wd := by rw [← hwd]; exact below_drew1 wr
        rw [hwd]
        clear hwd
        refine' wpAnyH_take (i := 0) (v := _) ?hi501 (by kernel_rfl) (by kernel_rfl) (by kernel_rfl) ?hQ501 (Or.inl ⟨?hw501, ?hy501⟩) hS ?rest501
        case hi501 => (simp only [List.getElem?_toArray, List.getElem?_cons_zero]; rfl)
        case hQ501 => exact fun _ _ _ h => h
        case hw501 => rfl
        case hy501 =>
          rintro w9 -
          go_simp
          with_reducible rfl
        try simp only [Act.put, List.setIfInBounds_toArray, List.set_cons_zero, List.set_cons_succ]
        refine' wpAnyH_take (i := 1) (v := _) ?hi502 (by kernel_rfl) (by kernel_rfl) (by kernel_rfl) ?hQ502 (Or.inl ⟨?hw502, ?hy502⟩) hS ?rest502
        case hi502 => (simp only [List.getElem?_toArray, List.getElem?_cons_succ, List.getElem?_cons_zero]; rfl)
        case hQ502 => exact fun _ _ _ h => h
        case hw502 => rfl
        case hy502 =>
          rintro w9 hk9
          obtain ⟨b0, b1, b2, b3⟩ := HT.out _ hk9
          go_simp
          with_reducible rfl
        try simp only [Act.put, List.setIfInBounds_toArray, List.set_cons_zero, List.set_cons_succ]
        refine' wpAnyH_take (i := 2) (v := _) ?hi503 (by kernel_rfl) (by kernel_rfl) (by kernel_rfl) ?hQ503 (Or.inl ⟨?hw503, ?hy503⟩) hS ?rest503
        case hi503 => (simp only [List.getElem?_toArray, List.getElem?_cons_succ, List.getElem?_cons_zero]; rfl)
        case hQ503 => exact fun _ _ _ h => h
        case hw503 => rfl
        case hy503 =>
          rintro w9 -
          go_simp
          with_reducible rfl
        try simp only [Act.put, List.setIfInBounds_toArray, List.set_cons_zero, List.set_cons_succ]
        refine' wpAnyH_take (i := 3) (v := _) ?hi504 (by kernel_rfl) (by kernel_rfl) (by kernel_rfl) ?hQ504 (Or.inl ⟨?hw504, ?hy504⟩) hS ?rest504
        case hi504 => (simp only [List.getElem?_toArray, List.getElem?_cons_succ, List.getElem?_cons_zero]; rfl)
        case hQ504 => exact fun _ _ _ h => h
        case hw504 => rfl
        case hy504 =>
          rintro w9 hk9
          obtain ⟨b0, b1, b2, b3⟩ := HT.out _ hk9
          go_simp
          with_reducible rfl
        try simp only [Act.put, List.setIfInBounds_toArray, List.set_cons_zero, List.set_cons_succ]
        refine' wpAnyH_take (i := 4) (v := _) ?hi505 (by kernel_rfl) (by kernel_rfl) (by kernel_rfl) ?hQ505 (Or.inl ⟨?hw505, ?hy505⟩) hS ?rest505
        case hi505 => (simp only [List.getElem?_toArray, List.getElem?_cons_succ, List.getElem?_cons_zero]; rfl)
        case hQ505 => exact fun _ _ _ h => h
        case hw505 => rfl
        case hy505 =>
          rintro w9 -
          go_simp
          with_reducible rfl
        try simp only [Act.put, List.setIfInBounds_toArray, List.set_cons_zero, List.set_cons_succ]
        refine' wpAnyH_take (i := 5) (v := _) ?hi506 (by kernel_rfl) (by kernel_rfl) (by kernel_rfl) ?hQ506 (Or.inl ⟨?hw506, ?hy506⟩) hS ?rest506
        case hi506 => (simp only [List.getElem?_toArray, List.getElem?_cons_succ, List.getElem?_cons_zero]; rfl)
        case hQ506 => exact fun _ _ _ h => h
        case hw506 => rfl
        case hy506 =>
          rintro w9 hk9
          obtain ⟨b0, b1, b2, b3⟩ := HT.out _ hk9
          go_simp
          with_reducible rfl
        try simp only [Act.put, List.setIfInBounds_toArray, List.set_cons_zero, List.set_cons_succ]
        refine' wpAnyH_take (i := 6) (v := _) ?hi507 (by kernel_rfl) (by kernel_rfl) (by kernel_rfl) ?hQ507 (Or.inl ⟨?hw507, ?hy507⟩) hS ?rest507
        case hi507 => (simp only [List.getElem?_toArray, List.getElem?_cons_succ, List.getElem?_cons_zero]; rfl)
        case hQ507 => exact fun _ _ _ h => h
        case hw507 => rfl
        case hy507 =>
          rintro w9 -
          go_simp
          with_reducible rfl
        try simp only [Act.put, List.setIfInBounds_toArray, List.set_cons_zero, List.set_cons_succ]
        refine' wpAnyH_take (i := 7) (v := _) ?hi508 (by kernel_rfl) (by kernel_rfl) (by kernel_rfl) ?hQ508 (Or.inl ⟨?hw508, ?hy508⟩) hS ?rest508
        case hi508 => (simp only [List.getElem?_toArray, List.getElem?_cons_succ, List.getElem?_cons_zero]; rfl)
        case hQ508 => exact fun _ _ _ h => h
        case hw508 => rfl
        case hy508 =>
          rintro w9 -
          go_simp
          with_reducible rfl
        try simp only [Act.put, List.setIfInBounds_toArray, List.set_cons_zero, List.set_cons_succ]
        refine wpAnyH_ready (rs := [8]) (by kernel_rfl) (by simp) ?_
        refine' (AllReadyH.cons ?hi509 (fun K hK => ?op509) AllReadyH.nil)
        case hi509 => (simp only [List.getElem?_toArray, List.getElem?_cons_succ, List.getElem?_cons_zero]; rfl)
        go_simp
        go_at_call 21
        refine (HQS.out wd hS).mono ?_
        rintro e9 wu ⟨rfl, hb7⟩
        have hS9 : Below wr.heap.size wr wu := hS.trans (hb7.mono hS.size)
        clear hb7
        refine hK.out _ _ hS9 (fun _ => ?_)
        clear hK K hS
        have hS := hS9
        clear hS9
        try simp only [Act.put, List.setIfInBounds_toArray, List.set_cons_zero, List.set_cons_succ]
        refine' wpAnyH_take (i := 9) (v := _) ?hi510 (by kernel_rfl) (by kernel_rfl) (by kernel_rfl) ?hQ510 (Or.inl ⟨?hw510, ?hy510⟩) hS ?rest510
        case hi510 => (simp only [List.getElem?_toArray, List.getElem?_cons_succ, List.getElem?_cons_zero]; rfl)
        case hQ510 => exact fun _ _ _ h => h
        case hw510 => rfl
        case hy510 =>
          rintro w9 -
          go_simp
          with_reducible rfl
        try simp only [Act.put, List.setIfInBounds_toArray, List.set_cons_zero, List.set_cons_succ]
        refine' wpAnyH_take (i := 10) (v := _) ?hi511 (by kernel_rfl) (by kernel_rfl) (by kernel_rfl) ?hQ511 (Or.inl ⟨?hw511, ?hy511⟩) hS ?rest511
        case hi511 => (simp only [List.getElem?_toArray, List.getElem?_cons_succ, List.getElem?_cons_zero]; rfl)
        case hQ511 => exact fun _ _ _ h => h
        case hw511 => rfl
        case hy511 =>
          rintro w9 -
          go_simp
          with_reducible rfl
        try simp only [Act.put, List.setIfInBounds_toArray, List.set_cons_zero, List.set_cons_succ]
        refine' wpAnyH_take (i := 11) (v := _) ?hi512 (by kernel_rfl) (by kernel_rfl) (by kernel_rfl) ?hQ512 (Or.inl ⟨?hw512, ?hy512⟩) hS ?rest512
        case hi512 => (simp only [List.getElem?_toArray, List.getElem?_cons_succ, List.getElem?_cons_zero]; rfl)
        case hQ512 => exact fun _ _ _ h => h
        case hw512 => rfl
        case hy512 =>
          rintro w9 hk9
          obtain ⟨b0, b1, b2, b3⟩ := HT.out _ hk9
          go_simp
          with_reducible rfl
        try simp only [Act.put, List.setIfInBounds_toArray, List.set_cons_zero, List.set_cons_succ]
        refine' wpAnyH_take (i := 12) (v := _) ?hi513 (by kernel_rfl) (by kernel_rfl) (by kernel_rfl) ?hQ513 (Or.inl ⟨?hw513, ?hy513⟩) hS ?rest513
        case hi513 => (simp only [List.getElem?_toArray, List.getElem?_cons_succ, List.getElem?_cons_zero]; rfl)
        case hQ513 => exact fun _ _ _ h => h
        case hw513 => rfl
        case hy513 =>
          rintro w9 -
          go_simp
          with_reducible rfl
        try simp only [Act.put, List.setIfInBounds_toArray, List.set_cons_zero, List.set_cons_succ]
        refine' wpAnyH_take (i := 13) (v := _) ?hi514 (by kernel_rfl) (by kernel_rfl) (by kernel_rfl) ?hQ514 (Or.inl ⟨?hw514, ?hy514⟩) hS ?rest514
        case hi514 => (simp only [List.getElem?_toArray, List.getElem?_cons_succ, List.getElem?_cons_zero]; rfl)
        case hQ514 => exact fun _ _ _ h => h
        case hw514 => rfl
        case hy514 =>
          rintro w9 hk9
          obtain ⟨b0, b1, b2, b3⟩ := HT.out _ hk9
          go_simp
          with_reducible rfl
        try simp only [Act.put, List.setIfInBounds_toArray, List.set_cons_zero, List.set_cons_succ]
        refine' wpAnyH_take (i := 14) (v := _) ?hi515 (by kernel_rfl) (by kernel_rfl) (by kernel_rfl) ?hQ515 (Or.inl ⟨?hw515, ?hy515⟩) hS ?rest515
        case hi515 => (simp only [List.getElem?_toArray, List.getElem?_cons_succ, List.getElem?_cons_zero]; rfl)
        case hQ515 => exact fun _ _ _ h => h
        case hw515 => rfl
        case hy515 =>
          rintro w9 -
          go_simp
          with_reducible rfl
        try simp only [Act.put, List.setIfInBounds_toArray, List.set_cons_zero, List.set_cons_succ]
        refine' wpAnyH_take (i := 15) (v := _) ?hi516 (by kernel_rfl) (by kernel_rfl) (by kernel_rfl) ?hQ516 (Or.inl ⟨?hw516, ?hy516⟩) hS ?rest516
        case hi516 => (simp only [List.getElem?_toArray, List.getElem?_cons_succ, List.getElem?_cons_zero]; rfl)
        case hQ516 => exact fun _ _ _ h => h
        case hw516 => rfl
        case hy516 =>
          rintro w9 hk9
          obtain ⟨b0, b1, b2, b3⟩ := HT.out _ hk9
          go_simp
          with_reducible rfl
        try simp only [Act.put, List.setIfInBounds_toArray, List.set_cons_zero, List.set_cons_succ]
        refine' wpAnyH_take (i := 16) (v := _) ?hi517 (by kernel_rfl) (by kernel_rfl) (by kernel_rfl) ?hQ517 (Or.inl ⟨?hw517, ?hy517⟩) hS ?rest517
        case hi517 => (simp only [List.getElem?_toArray, List.getElem?_cons_succ, List.getElem?_cons_zero]; rfl)
        case hQ517 => exact fun _ _ _ h => h
        case hw517 => rfl
        case hy517 =>
          rintro w9 -
          go_simp
          with_reducible rfl
        try simp only [Act.put, List.setIfInBounds_toArray, List.set_cons_zero, List.set_cons_succ]
        refine' wpAnyH_take (i := 17) (v := _) ?hi518 (by kernel_rfl) (by kernel_rfl) (by kernel_rfl) ?hQ518 (Or.inl ⟨?hw518, ?hy518⟩) hS ?rest518
        case hi518 => (simp only [List.getElem?_toArray, List.getElem?_cons_succ, List.getElem?_cons_zero]; rfl)
        case hQ518 => exact fun _ _ _ h => h
        case hw518 => rfl
        case hy518 =>
          rintro w9 -
          go_simp
          with_reducible rfl
        try simp only [Act.put, List.setIfInBounds_toArray, List.set_cons_zero, List.set_cons_succ]
        refine wpAnyH_ready (rs := [18]) (by kernel_rfl) (by simp) ?_
        refine' (AllReadyH.cons ?hi519 (fun K hK => ?op519) AllReadyH.nil)
        case hi519 => (simp only [List.getElem?_toArray, List.getElem?_cons_succ, List.getElem?_cons_zero]; rfl)
        go_simp
        go_at_call 22
        refine (HQO.out wu hS).mono ?_
        rintro e9 wv ⟨rfl, hb7⟩
        have hS9 : Below wr.heap.size wr wv := hS.trans (hb7.mono hS.size)
        clear hb7
        refine hK.out _ _ hS9 (fun _ => ?_)
        clear hK K hS
        have hS := hS9
        clear hS9
        try simp only [Act.put, List.setIfInBounds_toArray, List.set_cons_zero, List.set_cons_succ]
        refine' wpAnyH_take (i := 19) (v := _) ?hi520 (by kernel_rfl) (by kernel_rfl) (by kernel_rfl) ?hQ520 (Or.inl ⟨?hw520, ?hy520⟩) hS ?rest520
        case hi520 => (simp only [List.getElem?_toArray, List.getElem?_cons_succ, List.getElem?_cons_zero]; rfl)
        case hQ520 => exact fun _ _ _ h => h
        case hw520 => rfl
        case hy520 =>
          rintro w9 -
          go_simp
          with_reducible rfl
        try simp only [Act.put, List.setIfInBounds_toArray, List.set_cons_zero, List.set_cons_succ]
        refine' wpAnyH_take (i := 20) (v := _) ?hi521 (by kernel_rfl) (by kernel_rfl) (by kernel_rfl) ?hQ521 (Or.inl ⟨?hw521, ?hy521⟩) hS ?rest521
        case hi521 => (simp only [List.getElem?_toArray, List.getElem?_cons_succ, List.getElem?_cons_zero]; rfl)
        case hQ521 => exact fun _ _ _ h => h
        case hw521 => rfl
        case hy521 =>
          rintro w9 -
          go_simp
          with_reducible rfl
        try simp only [Act.put, List.setIfInBounds_toArray, List.set_cons_zero, List.set_cons_succ]
        refine wpAnyH_done (by kernel_rfl) ?_ _
        have HF : Hid (Below w.heap.size w wv) := HB4.out.trans ((HKL.out.trans (Keep.of_below (HB.out.trans (hS.mono HB.out.size)))).below HB4.out.size HCB.out)
        clear hS
        go_wp2_with fail
        go_ret
        exact ⟨rfl, HF.out⟩

end Go.Proofs.YtgblgkkbggdopaaDoor
