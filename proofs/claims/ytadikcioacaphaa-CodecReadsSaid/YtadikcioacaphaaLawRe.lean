/-
  The walk of the law CodecReads of package rollbacknetlaw08: both readers return the same of whatever bytes at whatever offset (gens104.py writes this text). Conditions: its arguments are a list of bytes and an int.
-/
import Derived.Test.YtadikcioacaphaaMathRe
import Derived.Test.YtadikcioacaphaaWalkQz8
import Derived.Test.YtadikcioacaphaaLawNm
namespace Go.Proofs.Ytadikcioacaphaa
open Go.RowKit

theorem PgAt.keep {w w' : World} {ps : List Pg} {A : Option Addr} {n : Nat} (h : PgAt (fun _ => True) w ps A n) (hb : Below w.heap.size w w') : PgAt (fun _ => True) w' ps A n := h.still fun b _ hl => ⟨trivial, hb.block b hl⟩

set_option maxHeartbeats 4000000 in
set_option maxRecDepth 100000 in
theorem same8_any (B : Nat) (bs : List Nat) (A : Option Addr) (n c : Nat) (k : Int) (w : World) (h : BsIn B w bs A n c) (hB : B ≤ w.heap.size) (h400 : n ≤ 400) :
    Calls Try.prog 22 #[.slice A n c, .int .i64 k] w fun e w' => e = .returned (.bool true) ∧ Below w.heap.size w w' := by
  have hl := h.len
  obtain ⟨ze, me, ke, lze, he⟩ := row_head 7 bs k
  obtain ⟨zd, md, kd, lzd, hd⟩ := row_head 9 bs k
  obtain ⟨ps, mp, kp, hp⟩ := pages_head bs k
  obtain ⟨s0, s1, s2, s3, n0, n1, n2, n3, ms, ks, ⟨l0, l1, l2, l3⟩, hs⟩ := state_head bs k (by omega)
  obtain ⟨a0, a1, a2, a3, a4, a5, a6, rfl⟩ := len7r lze
  obtain ⟨b0, b1, b2, b3, b4, b5, b6, b7, b8, rfl⟩ := len9r lzd
  have HE := Lib.hid he
  have HD := Lib.hid hd
  have HP := Lib.hid hp
  have HS := Lib.hid hs
  have H := Lib.hid h
  have HBB : Hid (B ≤ w.heap.size) := hB
  have HLL : Hid (n0 ≤ 1000000000 ∧ n1 ≤ 1000000000 ∧ n2 ≤ 1000000000 ∧ n3 ≤ 1000000000) := ⟨by omega, by omega, by omega, by omega⟩
  clear h hB he hd hp hs lze lzd hl h400 l0 l1 l2 l3
  go_enter Try.func22, Try.ntmps22
  go_wp2_with fail
  refine (Event_cod B bs A n c k _ H.out HBB.out).mono ?_
  rintro e w1 hr
  obtain ⟨rfl, hb⟩ := HE.out _ _ _ hr
  have hbw : Below w.heap.size w w1 := hb
  clear hr hb
  simp only [List.map_cons, List.map_nil]
  obtain ⟨x1, hx1⟩ : ∃ x, w1.heap.size = x := ⟨_, rfl⟩
  obtain ⟨w2, hw2⟩ : ∃ x, (w1.alloc (.cells #[.int .i64 a0, .int .i64 a1, .int .i64 a2, .int .i64 a3, .int .i64 a4, .int .i64 a5, .int .i64 a6] 35)) = x := ⟨_, rfl⟩
  have hb2 : Below w1.heap.size w1 w2 := by rw [← hw2]; exact rp_one1 _ _
  have HX1 : Hid (w2.heap[x1]? = some (.cells #[.int .i64 a0, .int .i64 a1, .int .i64 a2, .int .i64 a3, .int .i64 a4, .int .i64 a5, .int .i64 a6] 35 (0, 0))) := by show _ = _; rw [← hw2, ← hx1]; exact new_blk _ _
  have HB2 := Lib.hid (hbw.trans (hb2.mono hbw.size))
  clear hbw hb2
  go_upto_region 2 with fail
  try simp only [hw2, hx1]
  clear hw2 hx1
  go_wp2_with fail
  refine (Event_ref B bs A n c k _ (H.out.below (HB2.out.mono HBB.out)) (Nat.le_trans HBB.out HB2.out.size)).mono ?_
  rintro e w3 hr
  obtain ⟨rfl, hb⟩ := HE.out _ _ _ hr
  have hbw := HB2.out.trans (hb.mono HB2.out.size)
  have hX := below_blk hb HX1.out
  clear hr hb HX1 HB2
  simp only [List.map_cons, List.map_nil]
  obtain ⟨x2, hx2⟩ : ∃ x, w3.heap.size = x := ⟨_, rfl⟩
  obtain ⟨w4, hw4⟩ : ∃ x, (w3.alloc (.cells #[.int .i64 a0, .int .i64 a1, .int .i64 a2, .int .i64 a3, .int .i64 a4, .int .i64 a5, .int .i64 a6] 35)) = x := ⟨_, rfl⟩
  have hb4 : Below w3.heap.size w3 w4 := by rw [← hw4]; exact rp_one1 _ _
  have hY : w4.heap[x2]? = some (.cells #[.int .i64 a0, .int .i64 a1, .int .i64 a2, .int .i64 a3, .int .i64 a4, .int .i64 a5, .int .i64 a6] 35 (0, 0)) := by rw [← hw4, ← hx2]; exact new_blk _ _
  have hX' := below_blk hb4 hX
  obtain ⟨d0, d1, d2, d3, d4, d5, d6⟩ := box7' hX'
  obtain ⟨e0, e1, e2, e3, e4, e5, e6⟩ := box7' hY
  have EB := Lib.hid (hbw.trans (hb4.mono hbw.size))
  have hne := neq_event_same a0 a1 a2 a3 a4 a5 a6
  clear hb4 hX hX' hY hbw
  go_upto_region 3 with fail
  try simp only [hw4, hx2]
  clear hw4 hx2
  go_wp2_with fail
  refine (Det_cod B bs A n c k _ (H.out.below (EB.out.mono HBB.out)) (Nat.le_trans HBB.out EB.out.size)).mono ?_
  rintro e w1 hr
  obtain ⟨rfl, hb⟩ := HD.out _ _ _ hr
  have hbw : Below w.heap.size w w1 := EB.out.trans (hb.mono EB.out.size)
  clear hr hb
  simp only [List.map_cons, List.map_nil]
  obtain ⟨x1, hx1⟩ : ∃ x, w1.heap.size = x := ⟨_, rfl⟩
  obtain ⟨w2, hw2⟩ : ∃ x, (w1.alloc (.cells #[.int .i64 b0, .int .i64 b1, .int .i64 b2, .int .i64 b3, .int .i64 b4, .int .i64 b5, .int .i64 b6, .int .i64 b7, .int .i64 b8] 37)) = x := ⟨_, rfl⟩
  have hb2 : Below w1.heap.size w1 w2 := by rw [← hw2]; exact rp_one1 _ _
  have HX1 : Hid (w2.heap[x1]? = some (.cells #[.int .i64 b0, .int .i64 b1, .int .i64 b2, .int .i64 b3, .int .i64 b4, .int .i64 b5, .int .i64 b6, .int .i64 b7, .int .i64 b8] 37 (0, 0))) := by show _ = _; rw [← hw2, ← hx1]; exact new_blk _ _
  have HB2 := Lib.hid (hbw.trans (hb2.mono hbw.size))
  clear hbw hb2
  go_upto_region 6 with fail
  try simp only [hw2, hx1]
  clear hw2 hx1
  go_wp2_with fail
  refine (Det_ref B bs A n c k _ (H.out.below (HB2.out.mono HBB.out)) (Nat.le_trans HBB.out HB2.out.size)).mono ?_
  rintro e w3 hr
  obtain ⟨rfl, hb⟩ := HD.out _ _ _ hr
  have hbw := HB2.out.trans (hb.mono HB2.out.size)
  have hX := below_blk hb HX1.out
  clear hr hb HX1 HB2
  simp only [List.map_cons, List.map_nil]
  obtain ⟨x2, hx2⟩ : ∃ x, w3.heap.size = x := ⟨_, rfl⟩
  obtain ⟨w4, hw4⟩ : ∃ x, (w3.alloc (.cells #[.int .i64 b0, .int .i64 b1, .int .i64 b2, .int .i64 b3, .int .i64 b4, .int .i64 b5, .int .i64 b6, .int .i64 b7, .int .i64 b8] 37)) = x := ⟨_, rfl⟩
  have hb4 : Below w3.heap.size w3 w4 := by rw [← hw4]; exact rp_one1 _ _
  have hY : w4.heap[x2]? = some (.cells #[.int .i64 b0, .int .i64 b1, .int .i64 b2, .int .i64 b3, .int .i64 b4, .int .i64 b5, .int .i64 b6, .int .i64 b7, .int .i64 b8] 37 (0, 0)) := by rw [← hw4, ← hx2]; exact new_blk _ _
  have hX' := below_blk hb4 hX
  obtain ⟨d0, d1, d2, d3, d4, d5, d6, d7, d8⟩ := box9' hX'
  obtain ⟨e0, e1, e2, e3, e4, e5, e6, e7, e8⟩ := box9' hY
  have DB := Lib.hid (hbw.trans (hb4.mono hbw.size))
  have hne := neq_det_same b0 b1 b2 b3 b4 b5 b6 b7 b8
  clear hb4 hX hX' hY hbw
  go_upto_region 7 with fail
  try simp only [hw4, hx2]
  clear hw4 hx2
  go_wp2_with fail
  refine (Pages_cod B bs A n c k _ (H.out.below (DB.out.mono HBB.out)) (Nat.le_trans HBB.out DB.out.size) 0 (Nat.zero_le _)).mono ?_
  rintro e w1 hr
  obtain ⟨P1, p1, rfl, hp1, hb⟩ := HP.out _ _ _ _ hr
  have HB1 := Lib.hid (DB.out.trans (hb.mono DB.out.size))
  have HP1 := Lib.hid hp1
  clear hr hb hp1 hne
  go_wp2_with fail
  refine (Pages_ref B bs A n c k _ (H.out.below (HB1.out.mono HBB.out)) (Nat.le_trans HBB.out HB1.out.size) 0 (Nat.zero_le _)).mono ?_
  rintro e w2 hr
  obtain ⟨P2, p2, rfl, hp2, hb⟩ := HP.out _ _ _ _ hr
  have HB2 := Lib.hid (HB1.out.trans (hb.mono HB1.out.size))
  have HP1' := Lib.hid (HP1.out.keep hb)
  have HP2 := Lib.hid hp2
  clear hr hb hp2
  go_wp2_with fail
  refine (same7_any ps ps _ _ _ _ _ _ _ HP1'.out HP2.out).mono ?_
  rintro e w3 ⟨rfl, hb⟩
  rw [show decide (ps = ps) = true by simp]
  have HB3 := Lib.hid (HB2.out.trans (hb.mono HB2.out.size))
  clear hb
  go_wp2_with fail
  refine (State_cod B bs A n c k _ (H.out.below (HB3.out.mono HBB.out)) (Nat.le_trans HBB.out HB3.out.size) 0 (Nat.zero_le _)).mono ?_
  rintro e w4 hr
  obtain ⟨S0, S1, S2, S3, c0, c1, c2, c3, rfl, r0, r1, r2, r3, hb⟩ := HS.out _ _ _ _ hr
  have hbw := HB3.out.trans (hb.mono HB3.out.size)
  clear hr hb
  obtain ⟨x1, hx1⟩ : ∃ x, w4.heap.size = x := ⟨_, rfl⟩
  obtain ⟨w5, hw5⟩ : ∃ x, (w4.alloc (.cells #[.slice S0 n0 c0, .slice S1 n1 c1, .slice S2 n2 c2, .slice S3 n3 c3] 43)) = x := ⟨_, rfl⟩
  have hb5 : Below w4.heap.size w4 w5 := by rw [← hw5]; exact rp_one1 _ _
  have HX1 : Hid (w5.heap[x1]? = some (.cells #[.slice S0 n0 c0, .slice S1 n1 c1, .slice S2 n2 c2, .slice S3 n3 c3] 43 (0, 0))) := by show _ = _; rw [← hw5, ← hx1]; exact new_blk _ _
  have HR := Lib.hid (And.intro (r0.below (by decide) hb5) (And.intro (r1.below (by decide) hb5) (And.intro (r2.below (by decide) hb5) (r3.below (by decide) hb5))))
  have HB5 := Lib.hid (hbw.trans (hb5.mono hbw.size))
  clear hbw hb5 r0 r1 r2 r3
  go_upto_region 14 with fail
  try simp only [hw5, hx1]
  clear hw5 hx1
  go_wp2_with fail
  refine (State_ref B bs A n c k _ (H.out.below (HB5.out.mono HBB.out)) (Nat.le_trans HBB.out HB5.out.size) 0 (Nat.zero_le _)).mono ?_
  rintro e w6 hr
  obtain ⟨U0, U1, U2, U3, v0, v1, v2, v3, rfl, r0, r1, r2, r3, hb⟩ := HS.out _ _ _ _ hr
  have hbw := HB5.out.trans (hb.mono HB5.out.size)
  have hX := below_blk hb HX1.out
  obtain ⟨q0, q1, q2, q3⟩ := HR.out
  have hq := And.intro (q0.below (by decide) hb) (And.intro (q1.below (by decide) hb) (And.intro (q2.below (by decide) hb) (q3.below (by decide) hb)))
  clear hr hb HX1 q0 q1 q2 q3
  obtain ⟨x2, hx2⟩ : ∃ x, w6.heap.size = x := ⟨_, rfl⟩
  obtain ⟨w7, hw7⟩ : ∃ x, (w6.alloc (.cells #[.slice U0 n0 v0, .slice U1 n1 v1, .slice U2 n2 v2, .slice U3 n3 v3] 43)) = x := ⟨_, rfl⟩
  have hb7 : Below w6.heap.size w6 w7 := by rw [← hw7]; exact rp_one1 _ _
  have hY : w7.heap[x2]? = some (.cells #[.slice U0 n0 v0, .slice U1 n1 v1, .slice U2 n2 v2, .slice U3 n3 v3] 43 (0, 0)) := by rw [← hw7, ← hx2]; exact new_blk _ _
  have hX' := below_blk hb7 hX
  obtain ⟨d0, d1, d2, d3⟩ := box4' hX'
  obtain ⟨e0, e1, e2, e3⟩ := box4' hY
  obtain ⟨q0, q1, q2, q3⟩ := hq
  have HM := Lib.hid (same6_any s0 s1 s2 s3 w7 (c0 := c0) (c1 := c1) (c2 := c2) (c3 := c3) (d0 := v0) (d1 := v1) (d2 := v2) (d3 := v3) (q0.below (by decide) hb7) (q1.below (by decide) hb7) (q2.below (by decide) hb7) (q3.below (by decide) hb7) (r0.below (by decide) hb7) (r1.below (by decide) hb7) (r2.below (by decide) hb7) (r3.below (by decide) hb7) HLL.out.1 HLL.out.2.1 HLL.out.2.2.1 HLL.out.2.2.2)
  have HB7 := Lib.hid (hbw.trans (hb7.mono hbw.size))
  clear hb7 hX hX' hY hbw q0 q1 q2 q3 r0 r1 r2 r3 HR
  go_upto_region 15 with fail
  try simp only [hw7, hx2]
  clear hw7 hx2
  go_wp2_with fail
  refine HM.out.mono ?_
  rintro e w8 ⟨rfl, hb⟩
  have HB8 := Lib.hid (HB7.out.trans (hb.mono HB7.out.size))
  clear hb
  go_wp2_with fail
  go_ret
  exact ⟨rfl, HB8.out⟩

set_option maxHeartbeats 4000000 in
set_option maxRecDepth 100000 in
theorem codecReads_any (bs : List Nat) (A : Option Addr) (n c : Nat) (k : Int) (w : World) (hb : n ≤ 1099511627776 → BsIn w.heap.size w bs A n c) (hnc : n ≤ c) (hc : c ≤ 9223372036854775807) :
    Calls Try.prog 5 #[.slice A n c, .int .i64 k] w fun e w' => e = .returned (.bool true) ∧ Below w.heap.size w w' := by
  by_cases h400 : 400 < n
  · have h4 : (400 : Int) < (n : Int) := by omega
    have hn63 : n ≤ 9223372036854775807 := by omega
    clear h400 hb
    go_enter Try.func5, Try.ntmps5
    go_wp2_with fail
    refine (awake8_any _).mono ?_
    rintro e w1 ⟨rfl, hb⟩
    have HB1 := Lib.hid hb
    clear hb
    go_wp2_with fail
    go_ret
    exact ⟨rfl, HB1.out⟩
  have h := hb (by omega)
  have H := Lib.hid h
  have hn40 := h.le40
  have HN4 : Hid (n ≤ 400) := by show _ ≤ _; omega
  clear h hc hb hnc
  have h4 : ¬ (400 : Int) < (n : Int) := by omega
  go_enter Try.func5, Try.ntmps5
  go_wp2_with fail
  refine (awake8_any _).mono ?_
  rintro e w1 ⟨rfl, hb⟩
  have HB1 := Lib.hid hb
  clear hb
  have HM : Hid (∀ W, Calls Try.prog 8 #[.int .i64 k, .int .i64 ((n : Int) + 1)] W fun e w' => ∃ m : Nat, m < n + 1 ∧ e = .returned (.int .i64 m) ∧ w' = W) := fun W => by
    have := mod_any k (n + 1) W (by omega) (by omega)
    rwa [show ((n + 1 : Nat) : Int) = (n : Int) + 1 by omega] at this
  have hw8 : IntKind.i64.wrap ((n : Int) + 1) = (n : Int) + 1 := IntWalk.i64_in _ (by omega)
  clear h400
  go_wp2_with fail
  refine (same8_any w.heap.size bs A n c k _ (H.out.below HB1.out) HB1.out.size HN4.out).mono ?_
  rintro e w2 ⟨rfl, hb⟩
  have HB2 := Lib.hid (HB1.out.trans (hb.mono HB1.out.size))
  clear hb
  go_wp2_with fail
  refine (HM.out _).mono ?_
  rintro e w' ⟨m, hm, rfl, rfl⟩
  clear hm
  go_wp2_with fail
  refine (same8_any w.heap.size bs A n c m _ (H.out.below HB2.out) HB2.out.size HN4.out).mono ?_
  rintro e w3 ⟨rfl, hb⟩
  have HB3 := Lib.hid (HB2.out.trans (hb.mono HB2.out.size))
  clear hb
  go_wp2_with fail
  go_ret
  exact ⟨rfl, HB3.out⟩
end Go.Proofs.Ytadikcioacaphaa
