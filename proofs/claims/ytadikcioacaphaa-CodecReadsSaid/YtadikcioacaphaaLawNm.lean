/-
  The laws' own check of the example of chapter 8 returns true, and the walk of the law CodecNumbers. Conditions: its arguments are two ints and a list of bytes.
-/
import Derived.Test.YtadikcioacaphaaWalkRq
import Derived.Test.YtadikcioacaphaaWalkQp
import Derived.Test.YtadikcioacaphaaWalkPi
import Derived.Test.YtadikcioacaphaaWalkMod
namespace Go.Proofs.Ytadikcioacaphaa
open Go.RowKit

theorem BsIn.out {w : World} {bs : List Nat} {A : Option Addr} {n c : Nat} (h : BsIn w.heap.size w bs A n c) (hc : c ≤ 9223372036854775807) : BOut w (.slice A n c) bs := by
  have hn := h.len
  subst hn
  refine ⟨A, c, rfl, h.cap, h.row, h.nil, fun a ha => ?_, hc⟩
  have hsp := h.spot a ha
  obtain ⟨b, o, sp⟩ := a
  cases hsp
  exact ⟨rfl, h.lt b o ha⟩
theorem BOut.nil (w : World) : BOut w (.slice none 0 0) [] := ⟨none, 0, rfl, Nat.le_refl _, ⟨rfl, fun h => absurd h (by decide)⟩, fun _ => rfl, fun a h => (by cases h), by decide⟩
theorem two_in (w : World) (x y : Nat) (hx : x ≤ 255) (hy : y ≤ 255) : BsIn (w.heap.size + 1) (w.alloc (.cells #[.int .u8 (x : Nat), .int .u8 (y : Nat)] 5)) [x, y] (some ⟨w.heap.size, 0, none⟩) 2 2 :=
  ⟨rfl, Nat.le_refl _, ⟨rfl, fun _ => ⟨_, _, rfl, new_cells w [.int .u8 (x : Nat), .int .u8 (y : Nat)] _⟩⟩, fun b o e => (by cases e; exact Nat.lt_succ_self _), fun e => (by cases e), fun a e => (by cases e; rfl), fun b hb => by simp only [List.mem_cons, List.not_mem_nil, or_false] at hb; rcases hb with rfl | rfl <;> assumption, by decide⟩
theorem aw1 : bytZ (-1) = [1] := by decide +kernel
theorem aw2 : rdS numS [128, 0] 0 = .err 9 := by rfl
theorem aw3 : rdS numS [128, 1] 0 = .ok 64 [] := by rfl

set_option maxHeartbeats 2000000 in
set_option maxRecDepth 100000 in
theorem awake8_any (w : World) : Calls Try.prog 7 #[] w fun e w' => e = .returned (.bool true) ∧ Below w.heap.size w w' := by
  have HP : Hid (∀ W, Calls Try.prog 12 #[.slice none 0 0, .int .i64 (-1)] W (PO [1] W)) := fun W => by
    have := putInt_cod [] (.slice none 0 0) (-1) W (BOut.nil W) (by constructor <;> decide) (by rw [aw1]; decide)
    rwa [aw1] at this
  go_enter Try.func7, Try.ntmps7
  go_wp2_with fail
  refine (HP.out _).mono ?_
  rintro e w1 ⟨v, rfl, ⟨A, c, rfl, hc, hr, _⟩, hb⟩
  obtain ⟨b, o, rfl, y0⟩ := hr.byte' (k := 0) (by decide)
  have HB1 := Lib.hid hb
  have y0' : w1.cell? ⟨b, o, none⟩ = some (.int .u8 1) := y0
  have HY1 : Hid (∀ W, Below w1.heap.size w1 W → W.cell? ⟨b, o, none⟩ = some (.int .u8 1)) := fun W hb => (hb.cell (p := ⟨b, o, none⟩) (World.block_lt_of_cell? _ _ y0')).trans y0'
  clear hr hb hc y0 y0'
  have HI1 : Hid (Calls Try.prog 9 #[.slice (some ⟨w1.heap.size, 0, none⟩) 2 2, .int .i64 0] (w1.alloc (.cells #[.int .u8 128, .int .u8 0] 5)) fun e w' => e = .returned (.tuple #[.int .i64 0, .int .i64 0, .int .i64 9]) ∧ Below w1.heap.size w1 w') := by
    have h := Int_cod (w1.heap.size + 1) [128, 0] _ 2 2 0 _ (two_in w1 128 0 (by decide) (by decide)) (by rw [new_size]; exact Nat.le_refl _)
    rw [aw2] at h
    refine h.mono ?_
    rintro e w' ⟨rfl, hb⟩
    exact ⟨rfl, (rp_one1 _ _).trans (hb.mono (by rw [new_size]; omega))⟩
  go_wp2_with fail
  refine HI1.out.mono ?_
  rintro e w2 ⟨rfl, hb⟩
  have HB2 := Lib.hid (HB1.out.trans (hb.mono HB1.out.size))
  have HY2 := Lib.hid (HY1.out w2 hb)
  clear hb HI1
  have HI2 : Hid (Calls Try.prog 9 #[.slice (some ⟨w2.heap.size, 0, none⟩) 2 2, .int .i64 0] (w2.alloc (.cells #[.int .u8 128, .int .u8 1] 5)) fun e w' => e = .returned (.tuple #[.int .i64 64, .int .i64 2, .int .i64 0]) ∧ Below w2.heap.size w2 w') := by
    have h := Int_cod (w2.heap.size + 1) [128, 1] _ 2 2 0 _ (two_in w2 128 1 (by decide) (by decide)) (by rw [new_size]; exact Nat.le_refl _)
    rw [aw3] at h
    refine h.mono ?_
    rintro e w' ⟨v, rfl, hv, _, hb⟩
    exact ⟨by rw [show v = .int .i64 64 from hv]; rfl, (rp_one1 _ _).trans (hb.mono (by rw [new_size]; omega))⟩
  go_wp2_with fail
  refine HI2.out.mono ?_
  rintro e w3 ⟨rfl, hb⟩
  have HB3 := Lib.hid (HB2.out.trans (hb.mono HB2.out.size))
  have y3 := (hb.cell (p := ⟨b, o, none⟩) (World.block_lt_of_cell? _ _ HY2.out)).trans HY2.out
  have hbl := World.block_lt_of_cell? _ _ y3
  clear hb HI2
  go_wp2_with fail
  first
  | (go_ret; exact ⟨rfl, HB3.out⟩)
  | (go_quiet (fail); go_wp2_with fail; go_ret; exact ⟨rfl, below_drewN HB3.out _⟩)

set_option maxHeartbeats 4000000 in
set_option maxRecDepth 100000 in
theorem codecNumbers_any (v : Int) (bs : List Nat) (A : Option Addr) (n c : Nat) (k : Int) (w : World) (hb : n ≤ 1099511627776 → BsIn w.heap.size w bs A n c) (hnc : n ≤ c) (hc : c ≤ 9223372036854775807) (hv : I64 v) :
    Calls Try.prog 3 #[.int .i64 v, .slice A n c, .int .i64 k] w fun e w' => e = .returned (.bool true) ∧ Below w.heap.size w w' := by
  by_cases h400 : 400 < n
  · have h4 : (400 : Int) < (n : Int) := by omega
    have hn63 : n ≤ 9223372036854775807 := by omega
    clear h400 hb hv
    go_enter Try.func3, Try.ntmps3
    go_wp2_with fail
    refine (awake8_any _).mono ?_
    rintro e w1 ⟨rfl, hb⟩
    have HB1 := Lib.hid hb
    clear hb
    go_wp2_with fail
    go_ret
    exact ⟨rfl, HB1.out⟩
  have h := hb (by omega)
  have H := Lib.hid h
  have hn40 := h.le40
  have HV : Hid (I64 v) := hv
  have HO := Lib.hid (h.out hc)
  have HN := Lib.hid h.len
  clear h hc hv hb hnc
  have h4 : ¬ (400 : Int) < (n : Int) := by omega
  go_enter Try.func3, Try.ntmps3
  go_wp2_with fail
  refine (awake8_any _).mono ?_
  rintro e w1 ⟨rfl, hb⟩
  have HB1 := Lib.hid hb
  clear hb
  have HM : Hid (∀ W, Calls Try.prog 8 #[.int .i64 k, .int .i64 ((n : Int) + 1)] W fun e w' => ∃ m : Nat, m < n + 1 ∧ e = .returned (.int .i64 m) ∧ w' = W) := fun W => by
    have := mod_any k (n + 1) W (by omega) (by omega)
    rwa [show ((n + 1 : Nat) : Int) = (n : Int) + 1 by omega] at this
  have H1 := Lib.hid (H.out.below HB1.out)
  have hw8 : IntKind.i64.wrap ((n : Int) + 1) = (n : Int) + 1 := IntWalk.i64_in _ (by omega)
  clear h400
  go_wp2_with fail
  refine (HM.out _).mono ?_
  rintro e w' ⟨m, hm, rfl, rfl⟩
  have hm400 : m ≤ 400 := by omega
  clear hm
  obtain ⟨lb, hlb⟩ : ∃ x, w'.heap.size = x := ⟨_, rfl⟩
  obtain ⟨w0, hw0⟩ : ∃ x, w'.alloc (.cells #[.int .i64 k, .int .i64 (m : Nat)] 3) = x := ⟨_, rfl⟩
  have hb0 : Below w'.heap.size w' w0 := by rw [← hw0]; exact rp_one1 _ _
  have HL0 : Hid (w0.heap[lb]? = some (.cells #[.int .i64 k, .int .i64 (m : Nat)] 3 (0, 0))) := by show _ = _; rw [← hw0, ← hlb]; exact new_blk _ _
  have HB2 := Lib.hid (HB1.out.trans (hb0.mono HB1.out.size))
  have HS : Hid (∃ m0, 0 < m0) := ⟨1, by decide⟩
  go_upto_region 6 with fail
  try simp only [hw0, hlb]
  clear hw0 hlb hb0 hw8 HM HS
  go_loopg [28] 2 (fun g i wr => ∃ j : Nat, j + g = 2 ∧ i = .int .i64 j ∧ Hid (Below w.heap.size w wr ∧ wr.heap[lb]? = some (.cells #[.int .i64 k, .int .i64 (m : Nat)] 3 (0, 0))))
  case atStart => exact ⟨0, rfl, rfl, HB2.out, HL0.out⟩
  case round =>
    obtain ⟨j, hj, rfl, HP⟩ := hrel
    cases gk with
    | zero =>
      have hj2 : j = 2 := by omega
      subst hj2
      have hcz := bytZ_len v
      have HLE : Hid ((bs ++ bytZ v).length ≤ 140737488355328) := by show _ ≤ _; rw [List.length_append, ← HN.out]; omega
      have HO1 := Lib.hid (HO.out.below HP.out.1)
      clear hj hcz
      go_wp2_with fail
      refine (putInt_cod bs _ v _ HO1.out HV.out HLE.out).mono ?_
      rintro e w5 ⟨v5, rfl, ho5, hb5⟩
      have HO5 := Lib.hid ho5
      have HB5 := Lib.hid (HP.out.1.trans (hb5.mono HP.out.1.size))
      have HO2 := Lib.hid (HO1.out.below hb5)
      clear ho5 hb5
      go_wp2_with fail
      refine (putInt_ref bs _ v _ HO2.out HV.out HLE.out).mono ?_
      rintro e w6 ⟨v6, rfl, ho6, hb6⟩
      have HO6 := Lib.hid ho6
      have HO7 := Lib.hid (HO5.out.below hb6)
      have HB6 := Lib.hid (HB5.out.trans (hb6.mono HB5.out.size))
      clear ho6 hb6
      go_wp2_with fail
      refine (sameBytes_any _ _ _ _ HO7.out HO6.out HLE.out).mono ?_
      rintro e w7 ⟨rfl, hb7⟩
      have HB7 := Lib.hid (HB6.out.trans (hb7.mono HB6.out.size))
      clear hb7
      go_wp2_with fail
      go_ret
      exact ⟨rfl, HB7.out⟩
    | succ g =>
      have hlt : (j : Int) < 2 := by omega
      obtain ⟨kj, y0⟩ : ∃ kj, wr.cell? ⟨lb, 0 + j, none⟩ = some (.int .i64 kj) := by
        have hj2 : j < 2 := by omega
        rw [Nat.zero_add, Lib.cell_of_heap HP.out.2]
        match j, hj2 with
        | 0, _ => exact ⟨_, rfl⟩
        | 1, _ => exact ⟨_, rfl⟩
      rw [Nat.zero_add] at y0
      have hlbw : lb < wr.heap.size := lt_of_block HP.out.2
      have HG := Lib.hid hj
      have HI1 := Lib.hid (Int_cod w.heap.size bs A n c kj wr (H.out.below HP.out.1) HP.out.1.size)
      have HI2 : Hid (∀ W, Below wr.heap.size wr W → Calls Try.prog 10 #[.slice A n c, .int .i64 kj] W (RD VInt (.int .i64 0) bs (rdS numS bs kj) W)) := fun W hb => Int_ref w.heap.size bs A n c kj W (H.out.below (HP.out.1.trans (hb.mono HP.out.1.size))) (Nat.le_trans HP.out.1.size hb.size)
      clear hj
      cases hr : rdS numS bs kj with
      | err ke =>
        rw [hr] at HI1 HI2
        have hee : ((ke : Int) != (ke : Int)) = false := by simp
        clear hr
        go_wp2_with fail
        refine HI1.out.mono ?_
        rintro e w5 ⟨rfl, hb⟩
        have HB5 := Lib.hid hb
        clear hb
        go_wp2_with fail
        refine (HI2.out _ HB5.out).mono ?_
        rintro e w6 ⟨rfl, hb⟩
        have HB6 := Lib.hid (HB5.out.trans (hb.mono HB5.out.size))
        clear hb
        have HR : Hid (Below w.heap.size w w6 ∧ w6.heap[lb]? = some (.cells #[.int .i64 k, .int .i64 (m : Nat)] 3 (0, 0))) := ⟨HP.out.1.trans (HB6.out.mono HP.out.1.size), below_blk HB6.out HP.out.2⟩
        clear y0
        go_wp2_with fail
        go_roundg g
        case rel => exact ⟨j + 1, by have := HG.out; omega, by go_num, HR⟩
        case measure => omega
      | ok z t =>
        rw [hr] at HI1 HI2
        have hee : (z != z) = false := by simp
        obtain ⟨q, hq⟩ : ∃ q, (bs.length : Int) - t.length = q := ⟨_, rfl⟩
        have hqq : (q != q) = false := by simp
        have HQ := Lib.hid hq
        clear hr
        go_wp2_with fail
        refine HI1.out.mono ?_
        rintro e w5 ⟨v5, rfl, rfl, _, hb⟩
        have HB5 := Lib.hid hb
        clear hb
        simp only [hq]
        clear hq
        go_wp2_with fail
        refine (HI2.out _ HB5.out).mono ?_
        rintro e w6 ⟨v6, rfl, rfl, _, hb⟩
        have HB6 := Lib.hid (HB5.out.trans (hb.mono HB5.out.size))
        clear hb
        simp only [HQ.out]
        have HR : Hid (Below w.heap.size w w6 ∧ w6.heap[lb]? = some (.cells #[.int .i64 k, .int .i64 (m : Nat)] 3 (0, 0))) := ⟨HP.out.1.trans (HB6.out.mono HP.out.1.size), below_blk HB6.out HP.out.2⟩
        clear y0
        go_wp2_with fail
        go_roundg g
        case rel => exact ⟨j + 1, by have := HG.out; omega, by go_num, HR⟩
        case measure => omega
end Go.Proofs.Ytadikcioacaphaa
