/-
  What State of the document's answer for chapter 8 returns (gens101.py writes this text). Conditions: at most 2^40 bytes.
-/
import Derived.Test.YtadikcioacaphaaWalkQs8
import Derived.Deep.CutBlock
import Derived.Deep.DeepCutAuto
import Derived.Deep.RegionLaw
namespace Go.Proofs.Ytadikcioacaphaa
open Go.RowKit

theorem rp_oneD (w : World) (a : Obj) : Below w.heap.size w ((w.alloc a).drew) := ((Below.refl _ _).alloc (Nat.le_refl _) a).drew
theorem rows_newsD {w : World} (zs : List Int) (T : TypeId) : ∀ (j : Nat) (u : Value), (zs.map (Value.int .i64))[j]? = some u → ((w.alloc (.cells (zs.map (Value.int .i64)).toArray T)).drew).cell? ((⟨w.heap.size, 0, none⟩ : Addr).add j) = some u := fun j u hj => rows_news zs T j u hj

set_option maxHeartbeats 8000000 in
set_option maxRecDepth 100000 in
theorem State_ref (B : Nat) (bs : List Nat) (A : Option Addr) (n c : Nat) (k : Int) (w : World) (h : BsIn B w bs A n c) (hB : B ≤ w.heap.size) (b0 : Nat) (hb9 : b0 ≤ w.heap.size) :
    Calls Try.prog 43 #[.slice A n c, .int .i64 k] w (RD (VState b0) (.agg #[.slice none 0 0, .slice none 0 0, .slice none 0 0, .slice none 0 0]) bs (rdS stS bs k) w) := by
  obtain ⟨i0, hinf, hz0, hz1, hz2⟩ := info_parts info_listE
  have HI := Lib.hid hinf
  have HI0 := Lib.hid hz0
  have HI1 := Lib.hid hz1
  have HI2 := Lib.hid hz2
  obtain ⟨j0, hinf', hz0', hz1', hz2'⟩ := info_parts info_listS
  have HJ := Lib.hid hinf'
  have HJ0 := Lib.hid hz0'
  have HJ1 := Lib.hid hz1'
  have HJ2 := Lib.hid hz2'
  obtain ⟨k0, hinf'', hz0'', hz1'', hz2''⟩ := info_parts info_listO
  have HO := Lib.hid hinf''
  have HO0 := Lib.hid hz0''
  have HO1 := Lib.hid hz1''
  have HO2 := Lib.hid hz2''
  clear hinf hz0 hz1 hz2 hinf' hz0' hz1' hz2' hinf'' hz0'' hz1'' hz2''
  have HBZ : Hid (b0 ≤ w.heap.size) := hb9
  have HLN := Lib.hid h.len
  have hn40 := h.le40
  obtain ⟨nb, hnb⟩ : ∃ x, w.heap.size = x := ⟨_, rfl⟩
  obtain ⟨W, hW⟩ : ∃ x, (w.alloc (.cells #[.slice none 0 0, .slice none 0 0, .slice none 0 0, .slice none 0 0] 43)) = x := ⟨_, rfl⟩
  have hb0 : Below w.heap.size w W := by rw [← hW]; exact rp_one1 _ _
  have hzs : W.heap.size = nb + 1 := by rw [← hW, new_size, hnb]
  have HZ0 : Hid (W.heap[nb]? = some (.cells #[.slice none 0 0, .slice none 0 0, .slice none 0 0, .slice none 0 0] 43 (0, 0))) := by show _ = _; rw [← hW, ← hnb]; exact new_blk _ _
  have H := Lib.hid (begin_q B bs A n c k W (h.below (hb0.mono hB)) (by omega))
  have HB0 := Lib.hid hb0
  have HNB : Hid (w.heap.size = nb) := hnb
  have HNW : Hid (w.heap.size ≤ nb) := Nat.le_of_eq hnb
  clear h hb0 hb9
  obtain ⟨s0, hs0⟩ : ∃ x, begS bs k = x := ⟨_, rfl⟩
  have HE : Hid (∀ ke, rowsQ 2 (stU (rowsQ 4 (stU (rowsQ 7 (stU (rowsQ 1 s0)))))) = .err ke → rdS stS bs k = .err ke) := fun ke he => by rw [← hs0] at he; exact st_err he
  have HK : Hid (∀ d t, rowsQ 2 (stU (rowsQ 4 (stU (rowsQ 7 (stU (rowsQ 1 s0)))))) = .ok d t → ∃ a b c ta tb tc, rowsQ 1 s0 = .ok a ta ∧ rowsQ 7 (stU (rowsQ 1 s0)) = .ok b tb ∧ rowsQ 4 (stU (rowsQ 7 (stU (rowsQ 1 s0)))) = .ok c tc ∧ rdS stS bs k = .ok (a, b, c, d) t) := fun d t he => by rw [← hs0] at he ⊢; exact st_ok he
  have HS0 := Lib.hid hs0
  obtain ⟨T, hT⟩ : ∃ T, rdS stS bs k = T := ⟨_, rfl⟩
  rw [hT] at HE HK ⊢
  clear hs0 hT
  go_enter Try.func43, Try.ntmps43
  go_wp2_with fail
  try simp only [hW]
  refine H.out.mono ?_
  rintro e w1 ⟨R, rfl, hR, hq, hb⟩
  rw [HS0.out] at hq
  have HR : Hid (nb + 1 ≤ R) := by show _ ≤ _; omega
  have hRl := hq.lt
  have HB1 := HB0.out.trans (hb.mono HB0.out.size)
  have HZ1 := below_blk hb HZ0.out
  obtain ⟨xb, hxb⟩ : ∃ x, w1.heap.size = x := ⟨_, rfl⟩
  obtain ⟨w2, hw2⟩ : ∃ x, (w1.alloc (.cells #[.slice none 0 0, .slice none 0 0, .slice none 0 0, .slice none 0 0] 43)) = x := ⟨_, rfl⟩
  have hb2 : Below w1.heap.size w1 w2 := by rw [← hw2]; exact rp_one1 _ _
  have HX2 : Hid (w2.heap[xb]? = some (.cells #[.slice none 0 0, .slice none 0 0, .slice none 0 0, .slice none 0 0] 43 (0, 0))) := by show _ = _; rw [← hw2, ← hxb]; exact new_blk _ _
  have HQ2 := Lib.hid (hq.below hb2)
  have HB2 := Lib.hid (HB1.trans (hb2.mono HB1.size))
  have HZ2 := Lib.hid (below_blk hb2 HZ1)
  have HXR : Hid (R < xb) := by show _ < _; omega
  have HXW : Hid (w.heap.size ≤ xb) := by show _ ≤ _; have := HR.out; have := HNB.out; omega
  clear hq hb hR hW hnb hzs hRl HB1 HZ1 hb2 HZ0 HS0
  go_upto_region 3 with fail
  try simp only [hw2, hxb]
  clear hw2 hxb
  go_wp2_with fail
  refine (count_q R bs _ _ HQ2.out).mono ?_
  rintro e w3 ⟨N, rfl, hN, hNv, hq, hk⟩
  have hN40 : N ≤ 1099511627776 := by have := HLN.out; omega
  have HX3 := Lib.hid (hk.blk HX2.out (show xb ≠ R by have := HXR.out; omega))
  have HZ3 := Lib.hid (hk.blk HZ2.out (show nb ≠ R by have := HR.out; omega))
  have HB3 := Lib.hid (HB2.out.trans (hk.below (B := w.heap.size) HB2.out.size (by have := HR.out; have := HNB.out; omega)))
  have HQ3 := Lib.hid hq
  have HE1 : Hid (rowsQ 1 s0 = numsQ (1 * N) (stU (cntQ s0))) := rowsQ_cnt hNv
  clear hN hNv hq hk
  go_wp2_with fail
  refine (ints_q R N bs _ _ HQ3.out hN40).mono ?_
  rintro e w4 ⟨zs0, A0, m0, q0, rfl, hzl, hm0, hown, hzv, hq, hk⟩
  have hX := hk.blk HX3.out (show xb ≠ R by have := HXR.out; omega)
  have hZ := hk.blk HZ3.out (show nb ≠ R by have := HR.out; omega)
  have HB4 := Lib.hid (HB3.out.trans (hk.below (B := w.heap.size) HB3.out.size (by have := HR.out; have := HNB.out; omega)))
  have cc : w4.cell? ⟨xb, 0, none⟩ = some (.slice none 0 0) := by rw [Lib.cell_of_heap hX]; rfl
  have ff := frz8 hX 0
  have hzz : xb < w4.heap.size := lt_of_block hX
  have HXx := Lib.hid hX
  have HZx := Lib.hid hZ
  have HQx : Hid (Qd R w4 bs (stU (rowsQ 1 s0))) := by show Qd _ _ _ _; rw [HE1.out, Nat.one_mul]; exact hq
  have h3x : xb < w3.heap.size := lt_of_block HX3.out
  have HVx : Hid (∀ zs t, rowsQ 1 s0 = .ok zs t → VList 3 1 (xb + 1) w4 zs (.slice A0 m0 q0)) := fun zs t h => by
    rw [HE1.out, Nat.one_mul] at h
    rw [hzv zs t h]
    exact ⟨m0, by rw [Nat.one_mul]; exact hzl, by omega, own_base hown h3x⟩
  clear hzl hm0 hown hzv hq hk hX hZ h3x
  go_upto_region 5 with fail
  obtain ⟨w5, hw⟩ : ∃ x, w4.setCell ⟨xb, 0, none⟩ (.slice A0 m0 q0) = x := ⟨_, rfl⟩
  have hkx : KeepX R xb w4 w5 := by rw [← hw]; exact (KeepX.refl _ _ _).setX _ _
  have HQ5 : Hid (Qd R w5 bs (stU (rowsQ 1 s0))) := by
    show Qd _ _ _ _
    rw [← hw]
    exact HQx.out.still fun k hk => Below.heap_setCell _ _ _ _ (by show k ≠ xb; have := HXR.out; omega)
  have HB5 : Hid (Below w.heap.size w w5) := by show Below _ _ _; rw [← hw]; exact HB4.out.setCell (p := ⟨xb, 0, none⟩) HXW.out _
  have HX5 : Hid (w5.heap[xb]? = some (.cells #[.slice A0 m0 q0, .slice none 0 0, .slice none 0 0, .slice none 0 0] 43 (0, 0))) := by show _ = _; rw [← hw]; exact blk_set HXx.out 0 _
  have HZ5 := Lib.hid (hkx.blk HZx.out (by have := HR.out; omega) (by have := HXR.out; have := HR.out; omega))
  have HA5_0 : Hid (∀ zs t, rowsQ 1 s0 = .ok zs t → VList 3 1 (xb + 1) w5 zs (.slice A0 m0 q0)) := fun zs t h => (HVx.out zs t h).keepX hkx (by have := HXR.out; omega) (by omega)
  try simp only [hw]
  clear hw cc ff hzz HXx HZx HQx HVx hkx HE1 hN40
  go_wp2_with fail
  refine (count_q R bs _ _ HQ5.out).mono ?_
  rintro e w6 ⟨N1, rfl, hN, hNv, hq, hk⟩
  have HN1 : Hid (N1 ≤ 1099511627776) := by show _ ≤ _; have := HLN.out; omega
  have HX6 := Lib.hid (hk.blk HX5.out (show xb ≠ R by have := HXR.out; omega))
  have HZ6 := Lib.hid (hk.blk HZ5.out (show nb ≠ R by have := HR.out; omega))
  have HB6 := Lib.hid (HB5.out.trans (hk.below (B := w.heap.size) HB5.out.size (by have := HR.out; have := HNB.out; omega)))
  have HF6 : Hid (KeepX R xb w5 w6) := hk.x
  obtain ⟨s1, hs⟩ : ∃ x, stU (cntQ (stU (rowsQ 1 s0))) = x := ⟨_, rfl⟩
  have HE1 : Hid (rowsQ 7 (stU (rowsQ 1 s0)) = numsQ (7 * N1) s1) := by show _ = _; rw [← hs]; exact rowsQ_cnt hNv
  rw [hs] at hq
  have HP0 : Hid (RqSt R xb 35 7 N1 bs s1 w6 w6 (.slice none 0 0) 0 N1 s1) := RqSt.made hq (lt_of_block HX6.out) HXR.out
  have HC6 : Hid (xb + 1 ≤ w6.heap.size) := lt_of_block HX6.out
  clear hN hNv hq hk hs
  go_upto_block 0 with fail
  go_cut [] (fun wx => ∃ (V : Option Addr) (m q : Nat), Hid (wx.heap[xb]? = some (.cells #[.slice A0 m0 q0, .slice V m q, .slice none 0 0, .slice none 0 0] 43 (0, 0))) ∧ Hid (KeepX R xb w6 wx ∧ Qd R wx bs (stU (numsQ (7 * N1) s1)) ∧ ∀ zs t, numsQ (7 * N1) s1 = .ok zs t → VList 35 7 w6.heap.size wx zs (.slice V m q)))
  case first =>
    go_wp2_with fail
    go_loopg [10] N1 (fun g b wr => ∃ (i : Nat) (s' : RR Unit) (V : Option Addr) (q : Nat), i + g = N1 ∧ b = .int .i64 i ∧ Hid (RqSt R xb 35 7 N1 bs s1 w6 wr (.slice V i q) i g s') ∧ Hid (wr.heap[xb]? = some (.cells #[.slice A0 m0 q0, .slice V i q, .slice none 0 0, .slice none 0 0] 43 (0, 0))))
    case atStart => exact ⟨0, _, none, 0, by omega, rfl, HP0, HX6⟩
    case round =>
      obtain ⟨i, s', V, q, hig, rfl, HP, HX⟩ := hrel
      cases s' with
      | err ke =>
        have hd : QdEr R wr ke := HP.out.st
        have c2 := hd.c2
        have hp := hd.pos
        have hne : ((ke : Int) == 0) = false := by simp; omega
        have hR1 : R < wr.heap.size := World.block_lt_of_cell? wr _ c2
        have HQ := Lib.hid HP.out.end_err
        clear hd hp
        by_cases hlt : (i : Int) < (N1 : Int)
        all_goals
          clear hig
          go_wp2_with fail
          go_meet
          exact ⟨V, i, q, HX, HQ⟩
      | ok u t =>
        have hd : QdOk R wr bs t := HP.out.st
        have c2 := hd.c2
        have hR1 : R < wr.heap.size := hd.rd.lt
        clear hd
        cases gk with
        | zero =>
          have hiN : i = N1 := by omega
          have HQ := Lib.hid (HP.out.end_ok (by have := HN1.out; omega))
          have hnn : ¬ (i : Int) < (N1 : Int) := by omega
          clear hig hiN
          go_wp2_with fail
          go_meet
          exact ⟨V, i, q, HX, HQ⟩
        | succ g =>
          have hlt : (i : Int) < (N1 : Int) := by omega
          have hi40 : i ≤ 1099511627776 := by have := HN1.out; omega
          obtain ⟨zs, hl, ho, hqq⟩ := HP.out.own
          have HG := Lib.hid hig
          have HL := Lib.hid hl
          have HOW := Lib.hid ho
          have HQQ := Lib.hid hqq
          clear hig hl ho hqq
          have cx : wr.cell? ⟨xb, 1, none⟩ = some (.slice V i q) := by rw [Lib.cell_of_heap HX.out]; rfl
          have fx := frz8 HX.out 1
          have hxw : xb < wr.heap.size := lt_of_block HX.out
          have HEV : Hid (∀ W', Below wr.heap.size wr W' → Calls Try.prog 61 #[.pointer (some ⟨R, 0, none⟩)] W' fun e w9 => ∃ a0 a1 a2 a3 a4 a5 a6, e = .returned (.agg #[.int .i64 a0, .int .i64 a1, .int .i64 a2, .int .i64 a3, .int .i64 a4, .int .i64 a5, .int .i64 a6]) ∧ (∀ vs t', numsS 7 t = .ok vs t' → vs = [a0, a1, a2, a3, a4, a5, a6]) ∧ Qd R w9 bs (stU (numsS 7 t)) ∧ Keep R wr w9) := fun W' hb => (event_q R bs (.ok () t) W' (HP.out.st.below hb)).mono fun e w9 ⟨zs', h1, h2, h3, h4, h5⟩ => by
            obtain ⟨a0, a1, a2, a3, a4, a5, a6, rfl⟩ := len7r h2
            exact ⟨a0, a1, a2, a3, a4, a5, a6, h1, h3, h4, (Keep.of_below hb).trans h5⟩
          have HNO : Hid ((Value.slice V i q).ownBlock ≠ some xb) := fun e => by have := (HOW.out.lt _ e).1; have := HP.out.ltX; omega
          go_upto_region 9 with fail
          go_region_law (first
            | (refine step_append_own_at rfl (.tmp 39) (.tmp 42) 39 rfl w6.heap.size 35 i0 _ 7 56 Try.underlying39 HI.out HI0.out HI1.out HI2.out rfl (by decide) (.slice V i q) i (zs.map (Value.int .i64)) (by simp [Act.eval]) (own_bel HOW9.out (by first | exact rp_one1 _ _ | exact rp_oneD _ _)) ⟨w9.heap.size, 0, none⟩ 1 1 ([a0, a1, a2, a3, a4, a5, a6].map (Value.int .i64)) (by simp [Act.eval]) rfl (by first | exact rows_news [a0, a1, a2, a3, a4, a5, a6] _ | exact rows_newsD [a0, a1, a2, a3, a4, a5, a6] _) (ints_cell _) (by unfold maxLen; omega) (by omega) (Nat.le_trans HSZ9.out (by simp)) ?_; intro v9 wz hown9 hgrow9 hob9; obtain ⟨A9, q9, rfl⟩ := own_slice hown9; have HO10 := Lib.hid hown9; have HG10 := Lib.hid hgrow9; have hx10 : wz.heap[xb]? = some (.cells #[.slice A0 m0 q0, .slice V i q, .slice none 0 0, .slice none 0 0] 43 (0, 0)) := (hgrow9.block xb (by have := lt_of_block HX9.out; simp; omega) (fun e => HNO.out e.symm)).trans ((Below.block (by first | exact rp_one1 _ _ | exact rp_oneD _ _) xb (lt_of_block HX9.out)).trans HX9.out); have c10 : wz.cell? ⟨xb, 1, none⟩ = some (.slice V i q) := by rw [Lib.cell_of_heap hx10]; rfl
               have f10 := frz8 hx10 1
               have HX10 := Lib.hid hx10
               clear hown9 hgrow9 hob9 hx10)
            | (go_simp; go_at_call 61; refine (HEV.out _ (by first | exact Below.refl _ _ | exact (Below.refl _ _).drew | exact below_drew1 _)).mono ?_; rintro e w9 ⟨a0, a1, a2, a3, a4, a5, a6, rfl, hv9, hq9, hk9⟩; have HV9 := Lib.hid hv9; have HQ9 := Lib.hid hq9; have HK9 := Lib.hid hk9; have HX9 := Lib.hid (hk9.blk HX.out (show xb ≠ R by have := HXR.out; omega)); have HOW9 := Lib.hid (own_keep HOW.out hk9 HP.out.ltR); have HSZ9 : Hid (w6.heap.size ≤ w9.heap.size) := Nat.le_trans HP.out.keep.size hk9.size; have c9 : w9.cell? ⟨xb, 1, none⟩ = some (.slice V i q) := by rw [Lib.cell_of_heap HX9.out]; rfl
               have hxw9 : xb < w9.heap.size := lt_of_block HX9.out
               clear hv9 hq9 hk9))
          all_goals
            have HR9 : Hid (RqSt R xb 35 7 N1 bs s1 w6 (wz.setCell ⟨xb, 1, none⟩ (.slice A9 (i + 1) q9)) (.slice A9 (i + 1) q9) (i + 1) g (stU (numsS 7 t))) := HP.out.push (j := 1) HV9.out rfl HQ9.out HK9.out.x _ HL.out HOW.out HQQ.out HO10.out HG10.out
            have HXN : Hid ((wz.setCell ⟨xb, 1, none⟩ (.slice A9 (i + 1) q9)).heap[xb]? = some (.cells #[.slice A0 m0 q0, .slice A9 (i + 1) q9, .slice none 0 0, .slice none 0 0] 43 (0, 0))) := blk_set HX10.out 1 _
            go_wp2_with fail
            go_roundg g
            case rel => exact ⟨i + 1, _, A9, q9, by have := HG.out; omega, by go_num, HR9, HXN⟩
            case measure => omega
  rename World => w7
  obtain ⟨A1, m1, q1, HX7, HCUT⟩ := hcut
  obtain ⟨hk, hq, hv⟩ := HCUT.out
  have hkk := HF6.out.trans hk
  have HQ7 : Hid (Qd R w7 bs (stU (rowsQ 7 (stU (rowsQ 1 s0))))) := by show Qd _ _ _ _; rw [HE1.out]; exact hq
  have HZ7 := Lib.hid (hk.blk HZ6.out (by have := HR.out; omega) (by have := HXR.out; have := HR.out; omega))
  have HB7 := Lib.hid (HB6.out.trans (hk.below HB6.out.size (by have := HR.out; have := HNB.out; omega) HXW.out))
  have HA7_0 : Hid (∀ zs t, rowsQ 1 s0 = .ok zs t → VList 3 1 (xb + 1) w7 zs (.slice A0 m0 q0)) := fun zs t h => (HA5_0.out zs t h).keepX hkk (by have := HXR.out; omega) (by omega)
  have HA7_1 : Hid (∀ zs t, rowsQ 7 (stU (rowsQ 1 s0)) = .ok zs t → VList 35 7 (xb + 1) w7 zs (.slice A1 m1 q1)) := fun zs t h => (hv zs t (by rw [← HE1.out]; exact h)).base HC6.out
  clear hk hq hv hkk HCUT HE1 HP0 HC6 HF6 HX6 HZ6 HB6
  go_wp2_with fail
  refine (count_q R bs _ _ HQ7.out).mono ?_
  rintro e w8 ⟨N2, rfl, hN, hNv, hq, hk⟩
  have HN2 : Hid (N2 ≤ 1099511627776) := by show _ ≤ _; have := HLN.out; omega
  have HX8 := Lib.hid (hk.blk HX7.out (show xb ≠ R by have := HXR.out; omega))
  have HZ8 := Lib.hid (hk.blk HZ7.out (show nb ≠ R by have := HR.out; omega))
  have HB8 := Lib.hid (HB7.out.trans (hk.below (B := w.heap.size) HB7.out.size (by have := HR.out; have := HNB.out; omega)))
  have HF8 : Hid (KeepX R xb w7 w8) := hk.x
  obtain ⟨s2, hs⟩ : ∃ x, stU (cntQ (stU (rowsQ 7 (stU (rowsQ 1 s0))))) = x := ⟨_, rfl⟩
  have HE2 : Hid (rowsQ 4 (stU (rowsQ 7 (stU (rowsQ 1 s0)))) = numsQ (4 * N2) s2) := by show _ = _; rw [← hs]; exact rowsQ_cnt hNv
  rw [hs] at hq
  have HP0 : Hid (RqSt R xb 73 4 N2 bs s2 w8 w8 (.slice none 0 0) 0 N2 s2) := RqSt.made hq (lt_of_block HX8.out) HXR.out
  have HC8 : Hid (xb + 1 ≤ w8.heap.size) := lt_of_block HX8.out
  clear hN hNv hq hk hs
  go_upto_block 2 with fail
  go_cut [] (fun wx => ∃ (V : Option Addr) (m q : Nat), Hid (wx.heap[xb]? = some (.cells #[.slice A0 m0 q0, .slice A1 m1 q1, .slice V m q, .slice none 0 0] 43 (0, 0))) ∧ Hid (KeepX R xb w8 wx ∧ Qd R wx bs (stU (numsQ (4 * N2) s2)) ∧ ∀ zs t, numsQ (4 * N2) s2 = .ok zs t → VList 73 4 w8.heap.size wx zs (.slice V m q)))
  case first =>
    go_wp2_with fail
    go_loopg [11] N2 (fun g b wr => ∃ (i : Nat) (s' : RR Unit) (V : Option Addr) (q : Nat), i + g = N2 ∧ b = .int .i64 i ∧ Hid (RqSt R xb 73 4 N2 bs s2 w8 wr (.slice V i q) i g s') ∧ Hid (wr.heap[xb]? = some (.cells #[.slice A0 m0 q0, .slice A1 m1 q1, .slice V i q, .slice none 0 0] 43 (0, 0))))
    case atStart => exact ⟨0, _, none, 0, by omega, rfl, HP0, HX8⟩
    case round =>
      obtain ⟨i, s', V, q, hig, rfl, HP, HX⟩ := hrel
      cases s' with
      | err ke =>
        have hd : QdEr R wr ke := HP.out.st
        have c2 := hd.c2
        have hp := hd.pos
        have hne : ((ke : Int) == 0) = false := by simp; omega
        have hR1 : R < wr.heap.size := World.block_lt_of_cell? wr _ c2
        have HQ := Lib.hid HP.out.end_err
        clear hd hp
        by_cases hlt : (i : Int) < (N2 : Int)
        all_goals
          clear hig
          go_wp2_with fail
          go_meet
          exact ⟨V, i, q, HX, HQ⟩
      | ok u t =>
        have hd : QdOk R wr bs t := HP.out.st
        have c2 := hd.c2
        have hR1 : R < wr.heap.size := hd.rd.lt
        clear hd
        cases gk with
        | zero =>
          have hiN : i = N2 := by omega
          have HQ := Lib.hid (HP.out.end_ok (by have := HN2.out; omega))
          have hnn : ¬ (i : Int) < (N2 : Int) := by omega
          clear hig hiN
          go_wp2_with fail
          go_meet
          exact ⟨V, i, q, HX, HQ⟩
        | succ g =>
          have hlt : (i : Int) < (N2 : Int) := by omega
          have hi40 : i ≤ 1099511627776 := by have := HN2.out; omega
          obtain ⟨zs, hl, ho, hqq⟩ := HP.out.own
          have HG := Lib.hid hig
          have HL := Lib.hid hl
          have HOW := Lib.hid ho
          have HQQ := Lib.hid hqq
          clear hig hl ho hqq
          obtain ⟨pb, hpb⟩ : ∃ x, wr.heap.size = x := ⟨_, rfl⟩
          obtain ⟨x0, hx0⟩ : ∃ x, (wr.alloc (.cells #[.int .i64 0, .int .i64 0, .int .i64 0, .int .i64 0] 73)) = x := ⟨_, rfl⟩
          have hb3 : Below wr.heap.size wr x0 := by rw [← hx0]; exact rp_one1 _ _
          have HY0 : Hid (x0.heap[pb]? = some (.cells #[.int .i64 0, .int .i64 0, .int .i64 0, .int .i64 0] 73 (0, 0))) := by show _ = _; rw [← hx0, ← hpb]; exact new_blk _ _
          have HU0 := Lib.hid (HP.out.st.below hb3)
          have HW0 := Lib.hid (Keep.of_below (R := R) hb3)
          have HPR : Hid (R < pb) := by show _ < _; omega
          have HPW : Hid (wr.heap.size ≤ pb) := Nat.le_of_eq hpb
          have HPX : Hid (xb < pb) := by show _ < _; have := lt_of_block HX.out; omega
          clear hb3
          go_upto_region 15 with fail
          try simp only [hx0, hpb]
          clear hx0 hpb
          go_wp2_with fail
          refine (int_q HU0.out).mono ?_
          rintro e u0 ⟨y0, rfl, hy, _, hq, hk⟩
          have HY_0 := Lib.hid hy
          have hX := hk.blk HY0.out (show pb ≠ R by have := HPR.out; omega)
          have cc : u0.cell? ⟨pb, 0, none⟩ = some (.int .i64 0) := by rw [Lib.cell_of_heap hX]; rfl
          have ff := frz8 hX 0
          have hzz : pb < u0.heap.size := lt_of_block hX
          have HXx := Lib.hid hX
          have HQx := Lib.hid hq
          have HKx := Lib.hid (HW0.out.trans hk)
          clear hy hq hk hX
          go_upto_region 16 with fail
          obtain ⟨x1, hw⟩ : ∃ x, u0.setCell ⟨pb, 0, none⟩ (.int .i64 y0) = x := ⟨_, rfl⟩
          have HU1 : Hid (Qd R x1 bs (stU (intS (.ok () t : RR Unit)))) := by
            show Qd _ _ _ _
            rw [← hw]
            exact HQx.out.still fun k hk => Below.heap_setCell _ _ _ _ (by show k ≠ pb; have := HPR.out; omega)
          have HY1 : Hid (x1.heap[pb]? = some (.cells #[.int .i64 y0, .int .i64 0, .int .i64 0, .int .i64 0] 73 (0, 0))) := by show _ = _; rw [← hw]; exact blk_set HXx.out 0 _
          have HW1 : Hid (Keep R wr x1) := by show Keep _ _ _; rw [← hw]; exact HKx.out.setNew (p := ⟨pb, 0, none⟩) HPW.out _
          try simp only [hw]
          clear hw cc ff hzz HXx HQx HKx
          go_wp2_with fail
          refine (int_q HU1.out).mono ?_
          rintro e u1 ⟨y1, rfl, hy, _, hq, hk⟩
          have HY_1 := Lib.hid hy
          have hX := hk.blk HY1.out (show pb ≠ R by have := HPR.out; omega)
          have cc : u1.cell? ⟨pb, 1, none⟩ = some (.int .i64 0) := by rw [Lib.cell_of_heap hX]; rfl
          have ff := frz8 hX 1
          have hzz : pb < u1.heap.size := lt_of_block hX
          have HXx := Lib.hid hX
          have HQx := Lib.hid hq
          have HKx := Lib.hid (HW1.out.trans hk)
          clear hy hq hk hX
          go_upto_region 17 with fail
          obtain ⟨x2, hw⟩ : ∃ x, u1.setCell ⟨pb, 1, none⟩ (.int .i64 y1) = x := ⟨_, rfl⟩
          have HU2 : Hid (Qd R x2 bs (stU (intS (stU (intS (.ok () t : RR Unit)))))) := by
            show Qd _ _ _ _
            rw [← hw]
            exact HQx.out.still fun k hk => Below.heap_setCell _ _ _ _ (by show k ≠ pb; have := HPR.out; omega)
          have HY2 : Hid (x2.heap[pb]? = some (.cells #[.int .i64 y0, .int .i64 y1, .int .i64 0, .int .i64 0] 73 (0, 0))) := by show _ = _; rw [← hw]; exact blk_set HXx.out 1 _
          have HW2 : Hid (Keep R wr x2) := by show Keep _ _ _; rw [← hw]; exact HKx.out.setNew (p := ⟨pb, 1, none⟩) HPW.out _
          try simp only [hw]
          clear hw cc ff hzz HXx HQx HKx
          go_wp2_with fail
          refine (int_q HU2.out).mono ?_
          rintro e u2 ⟨y2, rfl, hy, _, hq, hk⟩
          have HY_2 := Lib.hid hy
          have hX := hk.blk HY2.out (show pb ≠ R by have := HPR.out; omega)
          have cc : u2.cell? ⟨pb, 2, none⟩ = some (.int .i64 0) := by rw [Lib.cell_of_heap hX]; rfl
          have ff := frz8 hX 2
          have hzz : pb < u2.heap.size := lt_of_block hX
          have HXx := Lib.hid hX
          have HQx := Lib.hid hq
          have HKx := Lib.hid (HW2.out.trans hk)
          clear hy hq hk hX
          go_upto_region 18 with fail
          obtain ⟨x3, hw⟩ : ∃ x, u2.setCell ⟨pb, 2, none⟩ (.int .i64 y2) = x := ⟨_, rfl⟩
          have HU3 : Hid (Qd R x3 bs (stU (intS (stU (intS (stU (intS (.ok () t : RR Unit)))))))) := by
            show Qd _ _ _ _
            rw [← hw]
            exact HQx.out.still fun k hk => Below.heap_setCell _ _ _ _ (by show k ≠ pb; have := HPR.out; omega)
          have HY3 : Hid (x3.heap[pb]? = some (.cells #[.int .i64 y0, .int .i64 y1, .int .i64 y2, .int .i64 0] 73 (0, 0))) := by show _ = _; rw [← hw]; exact blk_set HXx.out 2 _
          have HW3 : Hid (Keep R wr x3) := by show Keep _ _ _; rw [← hw]; exact HKx.out.setNew (p := ⟨pb, 2, none⟩) HPW.out _
          try simp only [hw]
          clear hw cc ff hzz HXx HQx HKx
          go_wp2_with fail
          refine (int_q HU3.out).mono ?_
          rintro e u3 ⟨y3, rfl, hy, _, hq, hk⟩
          have HY_3 := Lib.hid hy
          have hX := hk.blk HY3.out (show pb ≠ R by have := HPR.out; omega)
          have cc : u3.cell? ⟨pb, 3, none⟩ = some (.int .i64 0) := by rw [Lib.cell_of_heap hX]; rfl
          have ff := frz8 hX 3
          have hzz : pb < u3.heap.size := lt_of_block hX
          have HXx := Lib.hid hX
          have HQx := Lib.hid hq
          have HKx := Lib.hid (HW3.out.trans hk)
          clear hy hq hk hX
          go_upto_region 19 with fail
          obtain ⟨x4, hw⟩ : ∃ x, u3.setCell ⟨pb, 3, none⟩ (.int .i64 y3) = x := ⟨_, rfl⟩
          have HU4 : Hid (Qd R x4 bs (stU (intS (stU (intS (stU (intS (stU (intS (.ok () t : RR Unit)))))))))) := by
            show Qd _ _ _ _
            rw [← hw]
            exact HQx.out.still fun k hk => Below.heap_setCell _ _ _ _ (by show k ≠ pb; have := HPR.out; omega)
          have HY4 : Hid (x4.heap[pb]? = some (.cells #[.int .i64 y0, .int .i64 y1, .int .i64 y2, .int .i64 y3] 73 (0, 0))) := by show _ = _; rw [← hw]; exact blk_set HXx.out 3 _
          have HW4 : Hid (Keep R wr x4) := by show Keep _ _ _; rw [← hw]; exact HKx.out.setNew (p := ⟨pb, 3, none⟩) HPW.out _
          try simp only [hw]
          clear hw cc ff hzz HXx HQx HKx
          have HCH : Hid (Chn (.ok () t) [y0, y1, y2, y3] (stU (intS (stU (intS (stU (intS (stU (intS (.ok () t : RR Unit)))))))))) := ⟨HY_0.out, HY_1.out, HY_2.out, HY_3.out, rfl⟩
          have HV9 : Hid (∀ vs t', numsS 4 t = .ok vs t' → vs = [y0, y1, y2, y3]) := fun vs t' h => HCH.out.nums.2 vs t' h
          have HQ9 : Hid (Qd R x4 bs (stU (numsS 4 t))) := by
            have e := HCH.out.nums.1
            show Qd _ _ _ _
            rw [show numsS 4 t = numsQ [y0, y1, y2, y3].length (.ok () t) from rfl, ← e]
            exact HU4.out
          have HK9 : Hid (KeepX R xb wr x4) := HW4.out.x
          have HX9 := Lib.hid (HW4.out.blk HX.out (show xb ≠ R by have := HXR.out; omega))
          have HOW9 := Lib.hid (own_bel (own_keep HOW.out HW4.out HP.out.ltR) (rp_one1 x4 (.cells #[.int .i64 y0, .int .i64 y1, .int .i64 y2, .int .i64 y3] 73)))
          have HSZ9 : Hid (w8.heap.size ≤ x4.heap.size) := Nat.le_trans HP.out.keep.size HW4.out.size
          have HNO : Hid ((Value.slice V i q).ownBlock ≠ some xb) := fun e => by have := (HOW.out.lt _ e).1; have := HP.out.ltX; omega
          have c9 : x4.cell? ⟨xb, 2, none⟩ = some (.slice V i q) := by rw [Lib.cell_of_heap HX9.out]; rfl
          have hxw9 : xb < x4.heap.size := lt_of_block HX9.out
          have hpw9 : pb < x4.heap.size := lt_of_block HY4.out
          obtain ⟨d0, d1, d2, d3⟩ := box4' HY4.out
          go_wp2_with (at_builtin; refine wpList_append_own_at _ rfl (.tmp 72) (.tmp 74) 40 rfl w8.heap.size 73 j0 _ 4 32 Try.underlying40 HJ.out HJ0.out HJ1.out HJ2.out rfl (by decide) (.slice V i q) i (zs.map (Value.int .i64)) (by simp [Act.eval]) HOW9.out ⟨x4.heap.size, 0, none⟩ 1 1 ([y0, y1, y2, y3].map (Value.int .i64)) (by simp [Act.eval]) rfl (rows_news [y0, y1, y2, y3] _) (ints_cell _) (by unfold maxLen; omega) (by omega) (by have := HSZ9.out; simp only [new_size]; omega) ?_; intro v9 wz hown9 hgrow9 hnil9 hob9; obtain ⟨A9, q9, rfl⟩ := own_slice hown9; have HO10 := Lib.hid hown9; have HG10 := Lib.hid hgrow9; have hx10 : wz.heap[xb]? = some (.cells #[.slice A0 m0 q0, .slice A1 m1 q1, .slice V i q, .slice none 0 0] 43 (0, 0)) := (hgrow9.block xb (by have := lt_of_block HX9.out; simp; omega) (fun e => HNO.out e.symm)).trans ((Below.block (rp_one1 _ _) xb (lt_of_block HX9.out)).trans HX9.out); have c10 : wz.cell? ⟨xb, 2, none⟩ = some (.slice V i q) := by rw [Lib.cell_of_heap hx10]; rfl
                       have f10 := frz8 hx10 2
                       have HX10 := Lib.hid hx10
                       clear hown9 hgrow9 hob9 hnil9 hx10)
          have HR9 : Hid (RqSt R xb 73 4 N2 bs s2 w8 (wz.setCell ⟨xb, 2, none⟩ (.slice A9 (i + 1) q9)) (.slice A9 (i + 1) q9) (i + 1) g (stU (numsS 4 t))) := HP.out.push (j := 2) HV9.out rfl HQ9.out HK9.out _ HL.out HOW.out HQQ.out HO10.out HG10.out
          have HXN : Hid ((wz.setCell ⟨xb, 2, none⟩ (.slice A9 (i + 1) q9)).heap[xb]? = some (.cells #[.slice A0 m0 q0, .slice A1 m1 q1, .slice A9 (i + 1) q9, .slice none 0 0] 43 (0, 0))) := blk_set HX10.out 2 _
          go_roundg g
          case rel => exact ⟨i + 1, _, A9, q9, by have := HG.out; omega, by go_num, HR9, HXN⟩
          case measure => omega
  rename World => w9
  obtain ⟨A2, m2, q2, HX9, HCUT⟩ := hcut
  obtain ⟨hk, hq, hv⟩ := HCUT.out
  have hkk := HF8.out.trans hk
  have HQ9 : Hid (Qd R w9 bs (stU (rowsQ 4 (stU (rowsQ 7 (stU (rowsQ 1 s0))))))) := by show Qd _ _ _ _; rw [HE2.out]; exact hq
  have HZ9 := Lib.hid (hk.blk HZ8.out (by have := HR.out; omega) (by have := HXR.out; have := HR.out; omega))
  have HB9 := Lib.hid (HB8.out.trans (hk.below HB8.out.size (by have := HR.out; have := HNB.out; omega) HXW.out))
  have HA9_0 : Hid (∀ zs t, rowsQ 1 s0 = .ok zs t → VList 3 1 (xb + 1) w9 zs (.slice A0 m0 q0)) := fun zs t h => (HA7_0.out zs t h).keepX hkk (by have := HXR.out; omega) (by omega)
  have HA9_1 : Hid (∀ zs t, rowsQ 7 (stU (rowsQ 1 s0)) = .ok zs t → VList 35 7 (xb + 1) w9 zs (.slice A1 m1 q1)) := fun zs t h => (HA7_1.out zs t h).keepX hkk (by have := HXR.out; omega) (by omega)
  have HA9_2 : Hid (∀ zs t, rowsQ 4 (stU (rowsQ 7 (stU (rowsQ 1 s0)))) = .ok zs t → VList 73 4 (xb + 1) w9 zs (.slice A2 m2 q2)) := fun zs t h => (hv zs t (by rw [← HE2.out]; exact h)).base HC8.out
  clear hk hq hv hkk HCUT HE2 HP0 HC8 HF8 HX8 HZ8 HB8
  go_wp2_with fail
  refine (count_q R bs _ _ HQ9.out).mono ?_
  rintro e w10 ⟨N3, rfl, hN, hNv, hq, hk⟩
  have HN3 : Hid (N3 ≤ 1099511627776) := by show _ ≤ _; have := HLN.out; omega
  have HX10 := Lib.hid (hk.blk HX9.out (show xb ≠ R by have := HXR.out; omega))
  have HZ10 := Lib.hid (hk.blk HZ9.out (show nb ≠ R by have := HR.out; omega))
  have HB10 := Lib.hid (HB9.out.trans (hk.below (B := w.heap.size) HB9.out.size (by have := HR.out; have := HNB.out; omega)))
  have HF10 : Hid (KeepX R xb w9 w10) := hk.x
  obtain ⟨s3, hs⟩ : ∃ x, stU (cntQ (stU (rowsQ 4 (stU (rowsQ 7 (stU (rowsQ 1 s0))))))) = x := ⟨_, rfl⟩
  have HE3 : Hid (rowsQ 2 (stU (rowsQ 4 (stU (rowsQ 7 (stU (rowsQ 1 s0)))))) = numsQ (2 * N3) s3) := by show _ = _; rw [← hs]; exact rowsQ_cnt hNv
  rw [hs] at hq
  have HP0 : Hid (RqSt R xb 75 2 N3 bs s3 w10 w10 (.slice none 0 0) 0 N3 s3) := RqSt.made hq (lt_of_block HX10.out) HXR.out
  have HC10 : Hid (xb + 1 ≤ w10.heap.size) := lt_of_block HX10.out
  clear hN hNv hq hk hs
  go_upto_block 4 with fail
  go_cut [] (fun wx => ∃ (V : Option Addr) (m q : Nat), Hid (wx.heap[xb]? = some (.cells #[.slice A0 m0 q0, .slice A1 m1 q1, .slice A2 m2 q2, .slice V m q] 43 (0, 0))) ∧ Hid (KeepX R xb w10 wx ∧ Qd R wx bs (stU (numsQ (2 * N3) s3)) ∧ ∀ zs t, numsQ (2 * N3) s3 = .ok zs t → VList 75 2 w10.heap.size wx zs (.slice V m q)))
  case first =>
    go_wp2_with fail
    go_loopg [13] N3 (fun g b wr => ∃ (i : Nat) (s' : RR Unit) (V : Option Addr) (q : Nat), i + g = N3 ∧ b = .int .i64 i ∧ Hid (RqSt R xb 75 2 N3 bs s3 w10 wr (.slice V i q) i g s') ∧ Hid (wr.heap[xb]? = some (.cells #[.slice A0 m0 q0, .slice A1 m1 q1, .slice A2 m2 q2, .slice V i q] 43 (0, 0))))
    case atStart => exact ⟨0, _, none, 0, by omega, rfl, HP0, HX10⟩
    case round =>
      obtain ⟨i, s', V, q, hig, rfl, HP, HX⟩ := hrel
      cases s' with
      | err ke =>
        have hd : QdEr R wr ke := HP.out.st
        have c2 := hd.c2
        have hp := hd.pos
        have hne : ((ke : Int) == 0) = false := by simp; omega
        have hR1 : R < wr.heap.size := World.block_lt_of_cell? wr _ c2
        have HQ := Lib.hid HP.out.end_err
        clear hd hp
        by_cases hlt : (i : Int) < (N3 : Int)
        all_goals
          clear hig
          go_wp2_with fail
          go_meet
          exact ⟨V, i, q, HX, HQ⟩
      | ok u t =>
        have hd : QdOk R wr bs t := HP.out.st
        have c2 := hd.c2
        have hR1 : R < wr.heap.size := hd.rd.lt
        clear hd
        cases gk with
        | zero =>
          have hiN : i = N3 := by omega
          have HQ := Lib.hid (HP.out.end_ok (by have := HN3.out; omega))
          have hnn : ¬ (i : Int) < (N3 : Int) := by omega
          clear hig hiN
          go_wp2_with fail
          go_meet
          exact ⟨V, i, q, HX, HQ⟩
        | succ g =>
          have hlt : (i : Int) < (N3 : Int) := by omega
          have hi40 : i ≤ 1099511627776 := by have := HN3.out; omega
          obtain ⟨zs, hl, ho, hqq⟩ := HP.out.own
          have HG := Lib.hid hig
          have HL := Lib.hid hl
          have HOW := Lib.hid ho
          have HQQ := Lib.hid hqq
          clear hig hl ho hqq
          obtain ⟨pb, hpb⟩ : ∃ x, wr.heap.size = x := ⟨_, rfl⟩
          obtain ⟨x0, hx0⟩ : ∃ x, (wr.alloc (.cells #[.int .i64 0, .int .i64 0] 75)) = x := ⟨_, rfl⟩
          have hb3 : Below wr.heap.size wr x0 := by rw [← hx0]; exact rp_one1 _ _
          have HY0 : Hid (x0.heap[pb]? = some (.cells #[.int .i64 0, .int .i64 0] 75 (0, 0))) := by show _ = _; rw [← hx0, ← hpb]; exact new_blk _ _
          have HU0 := Lib.hid (HP.out.st.below hb3)
          have HW0 := Lib.hid (Keep.of_below (R := R) hb3)
          have HPR : Hid (R < pb) := by show _ < _; omega
          have HPW : Hid (wr.heap.size ≤ pb) := Nat.le_of_eq hpb
          have HPX : Hid (xb < pb) := by show _ < _; have := lt_of_block HX.out; omega
          clear hb3
          go_upto_region 25 with fail
          try simp only [hx0, hpb]
          clear hx0 hpb
          go_wp2_with fail
          refine (int_q HU0.out).mono ?_
          rintro e u0 ⟨y0, rfl, hy, _, hq, hk⟩
          have HY_0 := Lib.hid hy
          have hX := hk.blk HY0.out (show pb ≠ R by have := HPR.out; omega)
          have cc : u0.cell? ⟨pb, 0, none⟩ = some (.int .i64 0) := by rw [Lib.cell_of_heap hX]; rfl
          have ff := frz8 hX 0
          have hzz : pb < u0.heap.size := lt_of_block hX
          have HXx := Lib.hid hX
          have HQx := Lib.hid hq
          have HKx := Lib.hid (HW0.out.trans hk)
          clear hy hq hk hX
          go_upto_region 26 with fail
          obtain ⟨x1, hw⟩ : ∃ x, u0.setCell ⟨pb, 0, none⟩ (.int .i64 y0) = x := ⟨_, rfl⟩
          have HU1 : Hid (Qd R x1 bs (stU (intS (.ok () t : RR Unit)))) := by
            show Qd _ _ _ _
            rw [← hw]
            exact HQx.out.still fun k hk => Below.heap_setCell _ _ _ _ (by show k ≠ pb; have := HPR.out; omega)
          have HY1 : Hid (x1.heap[pb]? = some (.cells #[.int .i64 y0, .int .i64 0] 75 (0, 0))) := by show _ = _; rw [← hw]; exact blk_set HXx.out 0 _
          have HW1 : Hid (Keep R wr x1) := by show Keep _ _ _; rw [← hw]; exact HKx.out.setNew (p := ⟨pb, 0, none⟩) HPW.out _
          try simp only [hw]
          clear hw cc ff hzz HXx HQx HKx
          go_wp2_with fail
          refine (int_q HU1.out).mono ?_
          rintro e u1 ⟨y1, rfl, hy, _, hq, hk⟩
          have HY_1 := Lib.hid hy
          have hX := hk.blk HY1.out (show pb ≠ R by have := HPR.out; omega)
          have cc : u1.cell? ⟨pb, 1, none⟩ = some (.int .i64 0) := by rw [Lib.cell_of_heap hX]; rfl
          have ff := frz8 hX 1
          have hzz : pb < u1.heap.size := lt_of_block hX
          have HXx := Lib.hid hX
          have HQx := Lib.hid hq
          have HKx := Lib.hid (HW1.out.trans hk)
          clear hy hq hk hX
          go_upto_region 27 with fail
          obtain ⟨x2, hw⟩ : ∃ x, u1.setCell ⟨pb, 1, none⟩ (.int .i64 y1) = x := ⟨_, rfl⟩
          have HU2 : Hid (Qd R x2 bs (stU (intS (stU (intS (.ok () t : RR Unit)))))) := by
            show Qd _ _ _ _
            rw [← hw]
            exact HQx.out.still fun k hk => Below.heap_setCell _ _ _ _ (by show k ≠ pb; have := HPR.out; omega)
          have HY2 : Hid (x2.heap[pb]? = some (.cells #[.int .i64 y0, .int .i64 y1] 75 (0, 0))) := by show _ = _; rw [← hw]; exact blk_set HXx.out 1 _
          have HW2 : Hid (Keep R wr x2) := by show Keep _ _ _; rw [← hw]; exact HKx.out.setNew (p := ⟨pb, 1, none⟩) HPW.out _
          try simp only [hw]
          clear hw cc ff hzz HXx HQx HKx
          have HCH : Hid (Chn (.ok () t) [y0, y1] (stU (intS (stU (intS (.ok () t : RR Unit)))))) := ⟨HY_0.out, HY_1.out, rfl⟩
          have HV9 : Hid (∀ vs t', numsS 2 t = .ok vs t' → vs = [y0, y1]) := fun vs t' h => HCH.out.nums.2 vs t' h
          have HQ9 : Hid (Qd R x2 bs (stU (numsS 2 t))) := by
            have e := HCH.out.nums.1
            show Qd _ _ _ _
            rw [show numsS 2 t = numsQ [y0, y1].length (.ok () t) from rfl, ← e]
            exact HU2.out
          have HK9 : Hid (KeepX R xb wr x2) := HW2.out.x
          have HX9 := Lib.hid (HW2.out.blk HX.out (show xb ≠ R by have := HXR.out; omega))
          have HOW9 := Lib.hid (own_bel (own_keep HOW.out HW2.out HP.out.ltR) (rp_one1 x2 (.cells #[.int .i64 y0, .int .i64 y1] 75)))
          have HSZ9 : Hid (w10.heap.size ≤ x2.heap.size) := Nat.le_trans HP.out.keep.size HW2.out.size
          have HNO : Hid ((Value.slice V i q).ownBlock ≠ some xb) := fun e => by have := (HOW.out.lt _ e).1; have := HP.out.ltX; omega
          have c9 : x2.cell? ⟨xb, 3, none⟩ = some (.slice V i q) := by rw [Lib.cell_of_heap HX9.out]; rfl
          have hxw9 : xb < x2.heap.size := lt_of_block HX9.out
          have hpw9 : pb < x2.heap.size := lt_of_block HY2.out
          obtain ⟨d0, d1⟩ := box2' HY2.out
          go_wp2_with (at_builtin; refine wpList_append_own_at _ rfl (.tmp 98) (.tmp 100) 41 rfl w10.heap.size 75 k0 _ 2 16 Try.underlying41 HO.out HO0.out HO1.out HO2.out rfl (by decide) (.slice V i q) i (zs.map (Value.int .i64)) (by simp [Act.eval]) HOW9.out ⟨x2.heap.size, 0, none⟩ 1 1 ([y0, y1].map (Value.int .i64)) (by simp [Act.eval]) rfl (rows_news [y0, y1] _) (ints_cell _) (by unfold maxLen; omega) (by omega) (by have := HSZ9.out; simp only [new_size]; omega) ?_; intro v9 wz hown9 hgrow9 hnil9 hob9; obtain ⟨A9, q9, rfl⟩ := own_slice hown9; have HO10 := Lib.hid hown9; have HG10 := Lib.hid hgrow9; have hx10 : wz.heap[xb]? = some (.cells #[.slice A0 m0 q0, .slice A1 m1 q1, .slice A2 m2 q2, .slice V i q] 43 (0, 0)) := (hgrow9.block xb (by have := lt_of_block HX9.out; simp; omega) (fun e => HNO.out e.symm)).trans ((Below.block (rp_one1 _ _) xb (lt_of_block HX9.out)).trans HX9.out); have c10 : wz.cell? ⟨xb, 3, none⟩ = some (.slice V i q) := by rw [Lib.cell_of_heap hx10]; rfl
                       have f10 := frz8 hx10 3
                       have HX10 := Lib.hid hx10
                       clear hown9 hgrow9 hob9 hnil9 hx10)
          have HR9 : Hid (RqSt R xb 75 2 N3 bs s3 w10 (wz.setCell ⟨xb, 3, none⟩ (.slice A9 (i + 1) q9)) (.slice A9 (i + 1) q9) (i + 1) g (stU (numsS 2 t))) := HP.out.push (j := 3) HV9.out rfl HQ9.out HK9.out _ HL.out HOW.out HQQ.out HO10.out HG10.out
          have HXN : Hid ((wz.setCell ⟨xb, 3, none⟩ (.slice A9 (i + 1) q9)).heap[xb]? = some (.cells #[.slice A0 m0 q0, .slice A1 m1 q1, .slice A2 m2 q2, .slice A9 (i + 1) q9] 43 (0, 0))) := blk_set HX10.out 3 _
          go_roundg g
          case rel => exact ⟨i + 1, _, A9, q9, by have := HG.out; omega, by go_num, HR9, HXN⟩
          case measure => omega
  rename World => w11
  obtain ⟨A3, m3, q3, HX11, HCUT⟩ := hcut
  obtain ⟨hk, hq, hv⟩ := HCUT.out
  have hkk := HF10.out.trans hk
  have HQ11 : Hid (Qd R w11 bs (stU (rowsQ 2 (stU (rowsQ 4 (stU (rowsQ 7 (stU (rowsQ 1 s0))))))))) := by show Qd _ _ _ _; rw [HE3.out]; exact hq
  have HZ11 := Lib.hid (hk.blk HZ10.out (by have := HR.out; omega) (by have := HXR.out; have := HR.out; omega))
  have HB11 := Lib.hid (HB10.out.trans (hk.below HB10.out.size (by have := HR.out; have := HNB.out; omega) HXW.out))
  have HA11_0 : Hid (∀ zs t, rowsQ 1 s0 = .ok zs t → VList 3 1 (xb + 1) w11 zs (.slice A0 m0 q0)) := fun zs t h => (HA9_0.out zs t h).keepX hkk (by have := HXR.out; omega) (by omega)
  have HA11_1 : Hid (∀ zs t, rowsQ 7 (stU (rowsQ 1 s0)) = .ok zs t → VList 35 7 (xb + 1) w11 zs (.slice A1 m1 q1)) := fun zs t h => (HA9_1.out zs t h).keepX hkk (by have := HXR.out; omega) (by omega)
  have HA11_2 : Hid (∀ zs t, rowsQ 4 (stU (rowsQ 7 (stU (rowsQ 1 s0)))) = .ok zs t → VList 73 4 (xb + 1) w11 zs (.slice A2 m2 q2)) := fun zs t h => (HA9_2.out zs t h).keepX hkk (by have := HXR.out; omega) (by omega)
  have HA11_3 : Hid (∀ zs t, rowsQ 2 (stU (rowsQ 4 (stU (rowsQ 7 (stU (rowsQ 1 s0)))))) = .ok zs t → VList 75 2 (xb + 1) w11 zs (.slice A3 m3 q3)) := fun zs t h => (hv zs t (by rw [← HE3.out]; exact h)).base HC10.out
  clear hk hq hv hkk HCUT HE3 HP0 HC10 HF10 HX10 HZ10 HB10
  cases hs : rowsQ 2 (stU (rowsQ 4 (stU (rowsQ 7 (stU (rowsQ 1 s0)))))) with
  | err ke =>
    have hq := HQ11.out
    rw [hs] at hq
    have hd : QdEr R w11 ke := hq
    have c2 := hd.c2
    have hp := hd.pos
    have hne : ((ke : Int) != 0) = true := by simp; omega
    have hRl : R < w11.heap.size := World.block_lt_of_cell? w11 _ c2
    obtain ⟨d0, d1, d2, d3⟩ := box4' HZ11.out
    have g0 := frz8 HZ11.out 0
    have g1 := frz8 HZ11.out 1
    have g2 := frz8 HZ11.out 2
    have g3 := frz8 HZ11.out 3
    have hzz : nb < w11.heap.size := lt_of_block HZ11.out
    have hRn : nb ≠ R := by have := HR.out; omega
    have hbb := HB11.out
    have hbe : Below w.heap.size w ((((w11.setCell ⟨nb, 0, none⟩ (.slice none 0 0)).setCell ⟨nb, 1, none⟩ (.slice none 0 0)).setCell ⟨nb, 2, none⟩ (.slice none 0 0)).setCell ⟨nb, 3, none⟩ (.slice none 0 0)) := ((((hbb.setCell (p := ⟨nb, 0, none⟩) HNW.out (.slice none 0 0)).setCell (p := ⟨nb, 1, none⟩) HNW.out (.slice none 0 0)).setCell (p := ⟨nb, 2, none⟩) HNW.out (.slice none 0 0)).setCell (p := ⟨nb, 3, none⟩) HNW.out (.slice none 0 0))
    have hbd := hbe.drew
    have HQ : Hid (RD (VState b0) (.agg #[.slice none 0 0, .slice none 0 0, .slice none 0 0, .slice none 0 0]) bs T w (.returned (.tuple #[.agg #[.slice none 0 0, .slice none 0 0, .slice none 0 0, .slice none 0 0], .int .i64 0, .int .i64 ke])) (World.drew ((((w11.setCell ⟨nb, 0, none⟩ (.slice none 0 0)).setCell ⟨nb, 1, none⟩ (.slice none 0 0)).setCell ⟨nb, 2, none⟩ (.slice none 0 0)).setCell ⟨nb, 3, none⟩ (.slice none 0 0)))) := by
      show RD _ _ _ _ _ _ _
      rw [HE.out ke hs]
      exact ⟨rfl, hbd⟩
    clear hs hd hp hbb hbe hbd hq
    go_wp2_with fail
    go_region
    go_wp2_with fail
    refine bodyPost_ret (v := .tuple #[.agg #[.slice none 0 0, .slice none 0 0, .slice none 0 0, .slice none 0 0], .int .i64 0, .int .i64 ke]) ?_ rfl ?_
    · simp [results, Try.results43, go_sem, World.cell?_setCell_same, World.cell?_setCell_other, d0, d1, d2, d3]
    · exact HQ.out
  | ok zz t =>
    obtain ⟨za, zb, zc, ta, tb, tc, r1, r2, r3, r4⟩ := HK.out zz t hs
    have hq := HQ11.out
    rw [hs] at hq
    have hd : QdOk R w11 bs t := hq
    obtain ⟨A9, c9', k9, n9, hkn, hn49, hrl, hRl, hnb9, c0, c1, c2, f2, f1, hby⟩ : ∃ A9 c9' k9 n9, k9 ≤ n9 ∧ n9 ≤ 1099511627776 ∧ t.length = n9 - k9 ∧ R < w11.heap.size ∧ n9 = bs.length ∧ w11.cell? ⟨R, 0, none⟩ = some (.slice A9 n9 c9') ∧ w11.cell? ⟨R, 1, none⟩ = some (.int .i64 (k9 : Nat)) ∧ w11.cell? ⟨R, 2, none⟩ = some (.int .i64 0) ∧ w11.frozen? ⟨R, 2, none⟩ = false ∧ w11.frozen? ⟨R, 1, none⟩ = false ∧ True := by
      obtain ⟨A1, c1', k1, n1, c0, c1, hkn, hn40, hrl, hRl, hnb1, c2, f2, f1, hby⟩ := hd.at
      exact ⟨A1, c1', k1, n1, hkn, hn40, hrl, hRl, hnb1, c0, c1, c2, f2, f1, trivial⟩
    obtain ⟨d0, d1, d2, d3⟩ := box4' HZ11.out
    obtain ⟨x0, x1, x2, x3⟩ := box4' HX11.out
    have g0 := frz8 HZ11.out 0
    have g1 := frz8 HZ11.out 1
    have g2 := frz8 HZ11.out 2
    have g3 := frz8 HZ11.out 3
    have hzz : nb < w11.heap.size := lt_of_block HZ11.out
    have hxz : xb < w11.heap.size := lt_of_block HX11.out
    have hRn : nb ≠ R := by have := HR.out; omega
    have hxn : nb ≠ xb := by have := HXR.out; have := HR.out; omega
    have hbb := HB11.out
    have hbe : Below w.heap.size w ((((w11.setCell ⟨nb, 0, none⟩ (.slice A0 m0 q0)).setCell ⟨nb, 1, none⟩ (.slice A1 m1 q1)).setCell ⟨nb, 2, none⟩ (.slice A2 m2 q2)).setCell ⟨nb, 3, none⟩ (.slice A3 m3 q3)) := ((((hbb.setCell (p := ⟨nb, 0, none⟩) HNW.out (.slice A0 m0 q0)).setCell (p := ⟨nb, 1, none⟩) HNW.out (.slice A1 m1 q1)).setCell (p := ⟨nb, 2, none⟩) HNW.out (.slice A2 m2 q2)).setCell (p := ⟨nb, 3, none⟩) HNW.out (.slice A3 m3 q3))
    have hbd := hbe.drew
    have hvs : VState (xb + 1) w11 (za, zb, zc, zz) (.agg #[.slice A0 m0 q0, .slice A1 m1 q1, .slice A2 m2 q2, .slice A3 m3 q3]) := ⟨_, _, _, _, rfl, HA11_0.out _ _ r1, HA11_1.out _ _ r2, HA11_2.out _ _ r3, HA11_3.out _ _ hs⟩
    have HQ : Hid (RD (VState b0) (.agg #[.slice none 0 0, .slice none 0 0, .slice none 0 0, .slice none 0 0]) bs T w (.returned (.tuple #[.agg #[.slice A0 m0 q0, .slice A1 m1 q1, .slice A2 m2 q2, .slice A3 m3 q3], .int .i64 (k9 : Nat), .int .i64 0])) (World.drew ((((w11.setCell ⟨nb, 0, none⟩ (.slice A0 m0 q0)).setCell ⟨nb, 1, none⟩ (.slice A1 m1 q1)).setCell ⟨nb, 2, none⟩ (.slice A2 m2 q2)).setCell ⟨nb, 3, none⟩ (.slice A3 m3 q3)))) := by
      show RD _ _ _ _ _ _ _
      rw [r4]
      refine ⟨_, by rw [show ((bs.length : Int) - t.length) = (k9 : Int) by omega], hvs.up (w' := World.drew ((((w11.setCell ⟨nb, 0, none⟩ (.slice A0 m0 q0)).setCell ⟨nb, 1, none⟩ (.slice A1 m1 q1)).setCell ⟨nb, 2, none⟩ (.slice A2 m2 q2)).setCell ⟨nb, 3, none⟩ (.slice A3 m3 q3))) (fun i hi => ?_) (by have := HBZ.out; have := HXW.out; omega), by omega, hbd⟩
      have hin : i ≠ nb := by have := HXR.out; have := HR.out; omega
      show ((((w11.setCell ⟨nb, 0, none⟩ (.slice A0 m0 q0)).setCell ⟨nb, 1, none⟩ (.slice A1 m1 q1)).setCell ⟨nb, 2, none⟩ (.slice A2 m2 q2)).setCell ⟨nb, 3, none⟩ (.slice A3 m3 q3)).heap[i]? = _
      rw [Below.heap_setCell _ _ _ _ hin, Below.heap_setCell _ _ _ _ hin, Below.heap_setCell _ _ _ _ hin, Below.heap_setCell _ _ _ _ hin]
    clear hs hd hq r1 r2 r3 r4 hby hnb9 hrl c0 hbb hbe hbd hvs
    go_wp2_with fail
    go_region
    go_wp2_with fail
    refine bodyPost_ret (v := .tuple #[.agg #[.slice A0 m0 q0, .slice A1 m1 q1, .slice A2 m2 q2, .slice A3 m3 q3], .int .i64 k9, .int .i64 0]) ?_ rfl ?_
    · simp [results, Try.results43, go_sem, World.cell?_setCell_same, World.cell?_setCell_other, d0, d1, d2, d3]
    · exact HQ.out
end Go.Proofs.Ytadikcioacaphaa
