/-
  What Int, Event, Det, Pages and State of package codec return: the value at an offset and the offset behind it, or the first error (gens87.py writes this text). Conditions: at most 2^40 bytes.
-/
import Derived.Test.YtadikcioacaphaaWalkRwE
import Derived.Test.YtadikcioacaphaaWalkRwD
import Derived.Test.YtadikcioacaphaaWalkRwS
import Derived.Test.YtadikcioacaphaaWalkRwP
namespace Go.Proofs.Ytadikcioacaphaa
open Go.RowKit

theorem VRow.any {w w' : World} {a : List Int} {v : Value} (h : VRow w a v) : VRow w' a v := h
theorem rdS_ok {α : Type} {f : List Nat → RR α} {bs : List Nat} {k : Int} {a : α} {t : List Nat} (h : rdS f bs k = .ok a t) : (0 ≤ k ∧ k ≤ bs.length) ∧ f (bs.drop k.toNat) = .ok a t := by
  unfold rdS at h
  split at h
  · cases h
  · exact ⟨by omega, h⟩

set_option maxHeartbeats 1000000 in
set_option maxRecDepth 100000 in
theorem Int_cod (B : Nat) (bs : List Nat) (A : Option Addr) (n c : Nat) (k : Int) (w : World) (h : BsIn B w bs A n c) (hB : B ≤ w.heap.size) :
    Calls Try.prog 9 #[.slice A n c, .int .i64 k] w (RD VInt (.int .i64 0) bs (rdS numS bs k) w) := by
  have H := Lib.hid (readI_any B bs A n c k w h hB)
  clear h
  cases hr : rdS numS bs k with
  | err ke =>
    rw [hr] at H
    clear hr
    go_enter Try.func9, Try.ntmps9
    go_wp2_with fail
    refine H.out.mono ?_
    rintro e w1 ⟨rfl, hb⟩
    have HQ : Hid (RD VInt (.int .i64 0) bs (.err ke) w (.returned (.tuple #[(.int .i64 0), .int .i64 0, .int .i64 ke])) w1) := ⟨rfl, hb⟩
    clear hb
    go_wp2_with fail
    refine bodyPost_ret (v := .tuple #[(.int .i64 0), .int .i64 0, .int .i64 ke]) ?_ rfl ?_
    · simp [results, Try.results9, go_sem]
    · exact HQ.out
  | ok a t =>
    rw [hr] at H
    clear hr
    go_enter Try.func9, Try.ntmps9
    go_wp2_with fail
    refine H.out.mono ?_
    rintro e w1 ⟨v, rfl, hv⟩
    have HQ : Hid (RD VInt (.int .i64 0) bs (.ok a t) w (.returned (.tuple #[v, .int .i64 ((bs.length : Int) - t.length), .int .i64 0])) w1) := ⟨v, rfl, hv⟩
    clear hv
    go_wp2_with fail
    refine bodyPost_ret (v := .tuple #[v, .int .i64 ((bs.length : Int) - t.length), .int .i64 0]) ?_ rfl ?_
    · simp [results, Try.results9, go_sem]
    · exact HQ.out

set_option maxHeartbeats 1000000 in
set_option maxRecDepth 100000 in
theorem Pages_cod (B : Nat) (bs : List Nat) (A : Option Addr) (n c : Nat) (k : Int) (w : World) (h : BsIn B w bs A n c) (hB : B ≤ w.heap.size) (b0 : Nat) (hb9 : b0 ≤ w.heap.size) :
    Calls Try.prog 24 #[.slice A n c, .int .i64 k] w (RD (VPages b0) (.slice none 0 0) bs (rdS pgsS bs k) w) := by
  have H := Lib.hid (readP_any B bs A n c k w h hB b0 hb9)
  clear h
  cases hr : rdS pgsS bs k with
  | err ke =>
    rw [hr] at H
    clear hr
    go_enter Try.func24, Try.ntmps24
    go_wp2_with fail
    refine H.out.mono ?_
    rintro e w1 ⟨rfl, hb⟩
    have HQ : Hid (RD (VPages b0) (.slice none 0 0) bs (.err ke) w (.returned (.tuple #[(.slice none 0 0), .int .i64 0, .int .i64 ke])) w1) := ⟨rfl, hb⟩
    clear hb
    go_wp2_with fail
    refine bodyPost_ret (v := .tuple #[(.slice none 0 0), .int .i64 0, .int .i64 ke]) ?_ rfl ?_
    · simp [results, Try.results24, go_sem]
    · exact HQ.out
  | ok a t =>
    rw [hr] at H
    clear hr
    go_enter Try.func24, Try.ntmps24
    go_wp2_with fail
    refine H.out.mono ?_
    rintro e w1 ⟨v, rfl, hv⟩
    have HQ : Hid (RD (VPages b0) (.slice none 0 0) bs (.ok a t) w (.returned (.tuple #[v, .int .i64 ((bs.length : Int) - t.length), .int .i64 0])) w1) := ⟨v, rfl, hv⟩
    clear hv
    go_wp2_with fail
    refine bodyPost_ret (v := .tuple #[v, .int .i64 ((bs.length : Int) - t.length), .int .i64 0]) ?_ rfl ?_
    · simp [results, Try.results24, go_sem]
    · exact HQ.out

set_option maxHeartbeats 4000000 in
set_option maxRecDepth 100000 in
theorem Event_cod (B : Nat) (bs : List Nat) (A : Option Addr) (n c : Nat) (k : Int) (w : World) (h : BsIn B w bs A n c) (hB : B ≤ w.heap.size) :
    Calls Try.prog 23 #[.slice A n c, .int .i64 k] w (RD VRow (.agg #[.int .i64 0, .int .i64 0, .int .i64 0, .int .i64 0, .int .i64 0, .int .i64 0, .int .i64 0]) bs (rdS (numsS 7) bs k) w) := by
  obtain ⟨nb, hnb⟩ : ∃ x, w.heap.size = x := ⟨_, rfl⟩
  obtain ⟨W, hW⟩ : ∃ x, (w.alloc (.cells #[.int .i64 0, .int .i64 0, .int .i64 0, .int .i64 0, .int .i64 0, .int .i64 0, .int .i64 0] 35)) = x := ⟨_, rfl⟩
  have hb0 : Below w.heap.size w W := by rw [← hW]; exact rp_one1 _ _
  have hzs : W.heap.size = nb + 1 := by rw [← hW, new_size, hnb]
  have HZ0 : Hid (W.heap[nb]? = some (.cells #[.int .i64 0, .int .i64 0, .int .i64 0, .int .i64 0, .int .i64 0, .int .i64 0, .int .i64 0] 35 (0, 0))) := by show _ = _; rw [← hW, ← hnb]; exact new_blk _ _
  have H := Lib.hid (readE_any B bs A n c k W (h.below (hb0.mono hB)) (by omega) 0 (Nat.zero_le _))
  have HB0 := Lib.hid hb0
  have HZS := Lib.hid hzs
  clear h hb0
  cases hr : rdS (numsS 7) bs k with
  | err ke =>
    rw [hr] at H
    clear hr
    go_enter Try.func23, Try.ntmps23
    go_wp2_with fail
    try simp only [hW]
    refine H.out.mono ?_
    rintro e w1 ⟨rfl, hb⟩
    have hz1 := below_blk hb HZ0.out
    obtain ⟨d0, d1, d2, d3, d4, d5, d6⟩ := box7' hz1
    have g0 := frz8 hz1 0
    have g1 := frz8 hz1 1
    have g2 := frz8 hz1 2
    have g3 := frz8 hz1 3
    have g4 := frz8 hz1 4
    have g5 := frz8 hz1 5
    have g6 := frz8 hz1 6
    have hzz : nb < w1.heap.size := lt_of_block hz1
    have hbb := HB0.out.trans (hb.mono HB0.out.size)
    have HQ : Hid (RD VRow (.agg #[.int .i64 0, .int .i64 0, .int .i64 0, .int .i64 0, .int .i64 0, .int .i64 0, .int .i64 0]) bs (.err ke) w (.returned (.tuple #[.agg #[.int .i64 0, .int .i64 0, .int .i64 0, .int .i64 0, .int .i64 0, .int .i64 0, .int .i64 0], .int .i64 0, .int .i64 ke])) (((((((w1.setCell ⟨nb, 0, none⟩ (.int .i64 0)).setCell ⟨nb, 1, none⟩ (.int .i64 0)).setCell ⟨nb, 2, none⟩ (.int .i64 0)).setCell ⟨nb, 3, none⟩ (.int .i64 0)).setCell ⟨nb, 4, none⟩ (.int .i64 0)).setCell ⟨nb, 5, none⟩ (.int .i64 0)).setCell ⟨nb, 6, none⟩ (.int .i64 0))) := ⟨rfl, (((((((hbb.setCell (p := ⟨nb, 0, none⟩) (by show _ ≤ nb; omega) (.int .i64 0)).setCell (p := ⟨nb, 1, none⟩) (by show _ ≤ nb; omega) (.int .i64 0)).setCell (p := ⟨nb, 2, none⟩) (by show _ ≤ nb; omega) (.int .i64 0)).setCell (p := ⟨nb, 3, none⟩) (by show _ ≤ nb; omega) (.int .i64 0)).setCell (p := ⟨nb, 4, none⟩) (by show _ ≤ nb; omega) (.int .i64 0)).setCell (p := ⟨nb, 5, none⟩) (by show _ ≤ nb; omega) (.int .i64 0)).setCell (p := ⟨nb, 6, none⟩) (by show _ ≤ nb; omega) (.int .i64 0))⟩
    clear hb hbb hz1
    go_wp2_with fail
    refine bodyPost_ret (v := .tuple #[.agg #[.int .i64 0, .int .i64 0, .int .i64 0, .int .i64 0, .int .i64 0, .int .i64 0, .int .i64 0], .int .i64 0, .int .i64 ke]) ?_ rfl ?_
    · simp [results, Try.results23, go_sem, World.cell?_setCell_same, World.cell?_setCell_other, d0, d1, d2, d3, d4, d5, d6]
    · exact HQ.out
  | ok a t =>
    rw [hr] at H
    have HR := Lib.hid hr
    clear hr
    go_enter Try.func23, Try.ntmps23
    go_wp2_with fail
    try simp only [hW]
    refine H.out.mono ?_
    rintro e w1 ⟨v, rfl, hv, hlen, hb⟩
    have hz1 := below_blk hb HZ0.out
    obtain ⟨d0, d1, d2, d3, d4, d5, d6⟩ := box7' hz1
    have g0 := frz8 hz1 0
    have g1 := frz8 hz1 1
    have g2 := frz8 hz1 2
    have g3 := frz8 hz1 3
    have g4 := frz8 hz1 4
    have g5 := frz8 hz1 5
    have g6 := frz8 hz1 6
    have hzz : nb < w1.heap.size := lt_of_block hz1
    have hbb := HB0.out.trans (hb.mono HB0.out.size)
    obtain ⟨a0, a1, a2, a3, a4, a5, a6, hvs⟩ := len7r (show a.length = 7 from numsS_len (rdS_ok HR.out).2)
    have hve : v = .agg #[.int .i64 a0, .int .i64 a1, .int .i64 a2, .int .i64 a3, .int .i64 a4, .int .i64 a5, .int .i64 a6] := by rw [show v = _ from hv, hvs]; rfl
    subst hve
    have hblk : ∀ i, i ≠ nb → (((((((w1.setCell ⟨nb, 0, none⟩ (.int .i64 a0)).setCell ⟨nb, 1, none⟩ (.int .i64 a1)).setCell ⟨nb, 2, none⟩ (.int .i64 a2)).setCell ⟨nb, 3, none⟩ (.int .i64 a3)).setCell ⟨nb, 4, none⟩ (.int .i64 a4)).setCell ⟨nb, 5, none⟩ (.int .i64 a5)).setCell ⟨nb, 6, none⟩ (.int .i64 a6)).heap[i]? = w1.heap[i]? := fun i e1 => by rw [Below.heap_setCell _ _ _ _ e1, Below.heap_setCell _ _ _ _ e1, Below.heap_setCell _ _ _ _ e1, Below.heap_setCell _ _ _ _ e1, Below.heap_setCell _ _ _ _ e1, Below.heap_setCell _ _ _ _ e1, Below.heap_setCell _ _ _ _ e1]
    have HB8 : Hid (nb < nb + 1) := Nat.lt_succ_self _
    have HQ : Hid (RD VRow (.agg #[.int .i64 0, .int .i64 0, .int .i64 0, .int .i64 0, .int .i64 0, .int .i64 0, .int .i64 0]) bs (.ok a t) w (.returned (.tuple #[.agg #[.int .i64 a0, .int .i64 a1, .int .i64 a2, .int .i64 a3, .int .i64 a4, .int .i64 a5, .int .i64 a6], .int .i64 ((bs.length : Int) - t.length), .int .i64 0])) (((((((w1.setCell ⟨nb, 0, none⟩ (.int .i64 a0)).setCell ⟨nb, 1, none⟩ (.int .i64 a1)).setCell ⟨nb, 2, none⟩ (.int .i64 a2)).setCell ⟨nb, 3, none⟩ (.int .i64 a3)).setCell ⟨nb, 4, none⟩ (.int .i64 a4)).setCell ⟨nb, 5, none⟩ (.int .i64 a5)).setCell ⟨nb, 6, none⟩ (.int .i64 a6))) := ⟨_, rfl, VRow.any hv, hlen, (((((((hbb.setCell (p := ⟨nb, 0, none⟩) (by show _ ≤ nb; omega) (.int .i64 a0)).setCell (p := ⟨nb, 1, none⟩) (by show _ ≤ nb; omega) (.int .i64 a1)).setCell (p := ⟨nb, 2, none⟩) (by show _ ≤ nb; omega) (.int .i64 a2)).setCell (p := ⟨nb, 3, none⟩) (by show _ ≤ nb; omega) (.int .i64 a3)).setCell (p := ⟨nb, 4, none⟩) (by show _ ≤ nb; omega) (.int .i64 a4)).setCell (p := ⟨nb, 5, none⟩) (by show _ ≤ nb; omega) (.int .i64 a5)).setCell (p := ⟨nb, 6, none⟩) (by show _ ≤ nb; omega) (.int .i64 a6))⟩
    clear hb hbb hz1 hv hlen hblk
    go_wp2_with fail
    refine bodyPost_ret (v := .tuple #[.agg #[.int .i64 a0, .int .i64 a1, .int .i64 a2, .int .i64 a3, .int .i64 a4, .int .i64 a5, .int .i64 a6], .int .i64 ((bs.length : Int) - t.length), .int .i64 0]) ?_ rfl ?_
    · simp [results, Try.results23, go_sem, World.cell?_setCell_same, World.cell?_setCell_other, d0, d1, d2, d3, d4, d5, d6]
    · exact HQ.out

set_option maxHeartbeats 4000000 in
set_option maxRecDepth 100000 in
theorem Det_cod (B : Nat) (bs : List Nat) (A : Option Addr) (n c : Nat) (k : Int) (w : World) (h : BsIn B w bs A n c) (hB : B ≤ w.heap.size) :
    Calls Try.prog 39 #[.slice A n c, .int .i64 k] w (RD VRow (.agg #[.int .i64 0, .int .i64 0, .int .i64 0, .int .i64 0, .int .i64 0, .int .i64 0, .int .i64 0, .int .i64 0, .int .i64 0]) bs (rdS (numsS 9) bs k) w) := by
  obtain ⟨nb, hnb⟩ : ∃ x, w.heap.size = x := ⟨_, rfl⟩
  obtain ⟨W, hW⟩ : ∃ x, (w.alloc (.cells #[.int .i64 0, .int .i64 0, .int .i64 0, .int .i64 0, .int .i64 0, .int .i64 0, .int .i64 0, .int .i64 0, .int .i64 0] 37)) = x := ⟨_, rfl⟩
  have hb0 : Below w.heap.size w W := by rw [← hW]; exact rp_one1 _ _
  have hzs : W.heap.size = nb + 1 := by rw [← hW, new_size, hnb]
  have HZ0 : Hid (W.heap[nb]? = some (.cells #[.int .i64 0, .int .i64 0, .int .i64 0, .int .i64 0, .int .i64 0, .int .i64 0, .int .i64 0, .int .i64 0, .int .i64 0] 37 (0, 0))) := by show _ = _; rw [← hW, ← hnb]; exact new_blk _ _
  have H := Lib.hid (readD_any B bs A n c k W (h.below (hb0.mono hB)) (by omega) 0 (Nat.zero_le _))
  have HB0 := Lib.hid hb0
  have HZS := Lib.hid hzs
  clear h hb0
  cases hr : rdS (numsS 9) bs k with
  | err ke =>
    rw [hr] at H
    clear hr
    go_enter Try.func39, Try.ntmps39
    go_wp2_with fail
    try simp only [hW]
    refine H.out.mono ?_
    rintro e w1 ⟨rfl, hb⟩
    have hz1 := below_blk hb HZ0.out
    obtain ⟨d0, d1, d2, d3, d4, d5, d6, d7, d8⟩ := box9' hz1
    have g0 := frz8 hz1 0
    have g1 := frz8 hz1 1
    have g2 := frz8 hz1 2
    have g3 := frz8 hz1 3
    have g4 := frz8 hz1 4
    have g5 := frz8 hz1 5
    have g6 := frz8 hz1 6
    have g7 := frz8 hz1 7
    have g8 := frz8 hz1 8
    have hzz : nb < w1.heap.size := lt_of_block hz1
    have hbb := HB0.out.trans (hb.mono HB0.out.size)
    have HQ : Hid (RD VRow (.agg #[.int .i64 0, .int .i64 0, .int .i64 0, .int .i64 0, .int .i64 0, .int .i64 0, .int .i64 0, .int .i64 0, .int .i64 0]) bs (.err ke) w (.returned (.tuple #[.agg #[.int .i64 0, .int .i64 0, .int .i64 0, .int .i64 0, .int .i64 0, .int .i64 0, .int .i64 0, .int .i64 0, .int .i64 0], .int .i64 0, .int .i64 ke])) (((((((((w1.setCell ⟨nb, 0, none⟩ (.int .i64 0)).setCell ⟨nb, 1, none⟩ (.int .i64 0)).setCell ⟨nb, 2, none⟩ (.int .i64 0)).setCell ⟨nb, 3, none⟩ (.int .i64 0)).setCell ⟨nb, 4, none⟩ (.int .i64 0)).setCell ⟨nb, 5, none⟩ (.int .i64 0)).setCell ⟨nb, 6, none⟩ (.int .i64 0)).setCell ⟨nb, 7, none⟩ (.int .i64 0)).setCell ⟨nb, 8, none⟩ (.int .i64 0))) := ⟨rfl, (((((((((hbb.setCell (p := ⟨nb, 0, none⟩) (by show _ ≤ nb; omega) (.int .i64 0)).setCell (p := ⟨nb, 1, none⟩) (by show _ ≤ nb; omega) (.int .i64 0)).setCell (p := ⟨nb, 2, none⟩) (by show _ ≤ nb; omega) (.int .i64 0)).setCell (p := ⟨nb, 3, none⟩) (by show _ ≤ nb; omega) (.int .i64 0)).setCell (p := ⟨nb, 4, none⟩) (by show _ ≤ nb; omega) (.int .i64 0)).setCell (p := ⟨nb, 5, none⟩) (by show _ ≤ nb; omega) (.int .i64 0)).setCell (p := ⟨nb, 6, none⟩) (by show _ ≤ nb; omega) (.int .i64 0)).setCell (p := ⟨nb, 7, none⟩) (by show _ ≤ nb; omega) (.int .i64 0)).setCell (p := ⟨nb, 8, none⟩) (by show _ ≤ nb; omega) (.int .i64 0))⟩
    clear hb hbb hz1
    go_wp2_with fail
    refine bodyPost_ret (v := .tuple #[.agg #[.int .i64 0, .int .i64 0, .int .i64 0, .int .i64 0, .int .i64 0, .int .i64 0, .int .i64 0, .int .i64 0, .int .i64 0], .int .i64 0, .int .i64 ke]) ?_ rfl ?_
    · simp [results, Try.results39, go_sem, World.cell?_setCell_same, World.cell?_setCell_other, d0, d1, d2, d3, d4, d5, d6, d7, d8]
    · exact HQ.out
  | ok a t =>
    rw [hr] at H
    have HR := Lib.hid hr
    clear hr
    go_enter Try.func39, Try.ntmps39
    go_wp2_with fail
    try simp only [hW]
    refine H.out.mono ?_
    rintro e w1 ⟨v, rfl, hv, hlen, hb⟩
    have hz1 := below_blk hb HZ0.out
    obtain ⟨d0, d1, d2, d3, d4, d5, d6, d7, d8⟩ := box9' hz1
    have g0 := frz8 hz1 0
    have g1 := frz8 hz1 1
    have g2 := frz8 hz1 2
    have g3 := frz8 hz1 3
    have g4 := frz8 hz1 4
    have g5 := frz8 hz1 5
    have g6 := frz8 hz1 6
    have g7 := frz8 hz1 7
    have g8 := frz8 hz1 8
    have hzz : nb < w1.heap.size := lt_of_block hz1
    have hbb := HB0.out.trans (hb.mono HB0.out.size)
    obtain ⟨a0, a1, a2, a3, a4, a5, a6, a7, a8, hvs⟩ := len9r (show a.length = 9 from numsS_len (rdS_ok HR.out).2)
    have hve : v = .agg #[.int .i64 a0, .int .i64 a1, .int .i64 a2, .int .i64 a3, .int .i64 a4, .int .i64 a5, .int .i64 a6, .int .i64 a7, .int .i64 a8] := by rw [show v = _ from hv, hvs]; rfl
    subst hve
    have hblk : ∀ i, i ≠ nb → (((((((((w1.setCell ⟨nb, 0, none⟩ (.int .i64 a0)).setCell ⟨nb, 1, none⟩ (.int .i64 a1)).setCell ⟨nb, 2, none⟩ (.int .i64 a2)).setCell ⟨nb, 3, none⟩ (.int .i64 a3)).setCell ⟨nb, 4, none⟩ (.int .i64 a4)).setCell ⟨nb, 5, none⟩ (.int .i64 a5)).setCell ⟨nb, 6, none⟩ (.int .i64 a6)).setCell ⟨nb, 7, none⟩ (.int .i64 a7)).setCell ⟨nb, 8, none⟩ (.int .i64 a8)).heap[i]? = w1.heap[i]? := fun i e1 => by rw [Below.heap_setCell _ _ _ _ e1, Below.heap_setCell _ _ _ _ e1, Below.heap_setCell _ _ _ _ e1, Below.heap_setCell _ _ _ _ e1, Below.heap_setCell _ _ _ _ e1, Below.heap_setCell _ _ _ _ e1, Below.heap_setCell _ _ _ _ e1, Below.heap_setCell _ _ _ _ e1, Below.heap_setCell _ _ _ _ e1]
    have HB8 : Hid (nb < nb + 1) := Nat.lt_succ_self _
    have HQ : Hid (RD VRow (.agg #[.int .i64 0, .int .i64 0, .int .i64 0, .int .i64 0, .int .i64 0, .int .i64 0, .int .i64 0, .int .i64 0, .int .i64 0]) bs (.ok a t) w (.returned (.tuple #[.agg #[.int .i64 a0, .int .i64 a1, .int .i64 a2, .int .i64 a3, .int .i64 a4, .int .i64 a5, .int .i64 a6, .int .i64 a7, .int .i64 a8], .int .i64 ((bs.length : Int) - t.length), .int .i64 0])) (((((((((w1.setCell ⟨nb, 0, none⟩ (.int .i64 a0)).setCell ⟨nb, 1, none⟩ (.int .i64 a1)).setCell ⟨nb, 2, none⟩ (.int .i64 a2)).setCell ⟨nb, 3, none⟩ (.int .i64 a3)).setCell ⟨nb, 4, none⟩ (.int .i64 a4)).setCell ⟨nb, 5, none⟩ (.int .i64 a5)).setCell ⟨nb, 6, none⟩ (.int .i64 a6)).setCell ⟨nb, 7, none⟩ (.int .i64 a7)).setCell ⟨nb, 8, none⟩ (.int .i64 a8))) := ⟨_, rfl, VRow.any hv, hlen, (((((((((hbb.setCell (p := ⟨nb, 0, none⟩) (by show _ ≤ nb; omega) (.int .i64 a0)).setCell (p := ⟨nb, 1, none⟩) (by show _ ≤ nb; omega) (.int .i64 a1)).setCell (p := ⟨nb, 2, none⟩) (by show _ ≤ nb; omega) (.int .i64 a2)).setCell (p := ⟨nb, 3, none⟩) (by show _ ≤ nb; omega) (.int .i64 a3)).setCell (p := ⟨nb, 4, none⟩) (by show _ ≤ nb; omega) (.int .i64 a4)).setCell (p := ⟨nb, 5, none⟩) (by show _ ≤ nb; omega) (.int .i64 a5)).setCell (p := ⟨nb, 6, none⟩) (by show _ ≤ nb; omega) (.int .i64 a6)).setCell (p := ⟨nb, 7, none⟩) (by show _ ≤ nb; omega) (.int .i64 a7)).setCell (p := ⟨nb, 8, none⟩) (by show _ ≤ nb; omega) (.int .i64 a8))⟩
    clear hb hbb hz1 hv hlen hblk
    go_wp2_with fail
    refine bodyPost_ret (v := .tuple #[.agg #[.int .i64 a0, .int .i64 a1, .int .i64 a2, .int .i64 a3, .int .i64 a4, .int .i64 a5, .int .i64 a6, .int .i64 a7, .int .i64 a8], .int .i64 ((bs.length : Int) - t.length), .int .i64 0]) ?_ rfl ?_
    · simp [results, Try.results39, go_sem, World.cell?_setCell_same, World.cell?_setCell_other, d0, d1, d2, d3, d4, d5, d6, d7, d8]
    · exact HQ.out

set_option maxHeartbeats 4000000 in
set_option maxRecDepth 100000 in
theorem State_cod (B : Nat) (bs : List Nat) (A : Option Addr) (n c : Nat) (k : Int) (w : World) (h : BsIn B w bs A n c) (hB : B ≤ w.heap.size) (b0 : Nat) (hb9 : b0 ≤ w.heap.size) :
    Calls Try.prog 25 #[.slice A n c, .int .i64 k] w (RD (VState b0) (.agg #[.slice none 0 0, .slice none 0 0, .slice none 0 0, .slice none 0 0]) bs (rdS stS bs k) w) := by
  obtain ⟨nb, hnb⟩ : ∃ x, w.heap.size = x := ⟨_, rfl⟩
  obtain ⟨W, hW⟩ : ∃ x, (w.alloc (.cells #[.slice none 0 0, .slice none 0 0, .slice none 0 0, .slice none 0 0] 43)) = x := ⟨_, rfl⟩
  have hb0 : Below w.heap.size w W := by rw [← hW]; exact rp_one1 _ _
  have hzs : W.heap.size = nb + 1 := by rw [← hW, new_size, hnb]
  have HZ0 : Hid (W.heap[nb]? = some (.cells #[.slice none 0 0, .slice none 0 0, .slice none 0 0, .slice none 0 0] 43 (0, 0))) := by show _ = _; rw [← hW, ← hnb]; exact new_blk _ _
  have H := Lib.hid (readS_any B bs A n c k W (h.below (hb0.mono hB)) (by omega) (nb + 1) (by omega))
  have HB0 := Lib.hid hb0
  have HZS := Lib.hid hzs
  clear h hb0
  cases hr : rdS stS bs k with
  | err ke =>
    rw [hr] at H
    clear hr
    go_enter Try.func25, Try.ntmps25
    go_wp2_with fail
    try simp only [hW]
    refine H.out.mono ?_
    rintro e w1 ⟨rfl, hb⟩
    have hz1 := below_blk hb HZ0.out
    obtain ⟨d0, d1, d2, d3⟩ := box4' hz1
    have g0 := frz8 hz1 0
    have g1 := frz8 hz1 1
    have g2 := frz8 hz1 2
    have g3 := frz8 hz1 3
    have hzz : nb < w1.heap.size := lt_of_block hz1
    have hbb := HB0.out.trans (hb.mono HB0.out.size)
    have HQ : Hid (RD (VState b0) (.agg #[.slice none 0 0, .slice none 0 0, .slice none 0 0, .slice none 0 0]) bs (.err ke) w (.returned (.tuple #[.agg #[.slice none 0 0, .slice none 0 0, .slice none 0 0, .slice none 0 0], .int .i64 0, .int .i64 ke])) ((((w1.setCell ⟨nb, 0, none⟩ (.slice none 0 0)).setCell ⟨nb, 1, none⟩ (.slice none 0 0)).setCell ⟨nb, 2, none⟩ (.slice none 0 0)).setCell ⟨nb, 3, none⟩ (.slice none 0 0))) := ⟨rfl, ((((hbb.setCell (p := ⟨nb, 0, none⟩) (by show _ ≤ nb; omega) (.slice none 0 0)).setCell (p := ⟨nb, 1, none⟩) (by show _ ≤ nb; omega) (.slice none 0 0)).setCell (p := ⟨nb, 2, none⟩) (by show _ ≤ nb; omega) (.slice none 0 0)).setCell (p := ⟨nb, 3, none⟩) (by show _ ≤ nb; omega) (.slice none 0 0))⟩
    clear hb hbb hz1
    go_wp2_with fail
    refine bodyPost_ret (v := .tuple #[.agg #[.slice none 0 0, .slice none 0 0, .slice none 0 0, .slice none 0 0], .int .i64 0, .int .i64 ke]) ?_ rfl ?_
    · simp [results, Try.results25, go_sem, World.cell?_setCell_same, World.cell?_setCell_other, d0, d1, d2, d3]
    · exact HQ.out
  | ok a t =>
    rw [hr] at H
    have HR := Lib.hid hr
    clear hr
    go_enter Try.func25, Try.ntmps25
    go_wp2_with fail
    try simp only [hW]
    refine H.out.mono ?_
    rintro e w1 ⟨v, rfl, hv, hlen, hb⟩
    have hz1 := below_blk hb HZ0.out
    obtain ⟨d0, d1, d2, d3⟩ := box4' hz1
    have g0 := frz8 hz1 0
    have g1 := frz8 hz1 1
    have g2 := frz8 hz1 2
    have g3 := frz8 hz1 3
    have hzz : nb < w1.heap.size := lt_of_block hz1
    have hbb := HB0.out.trans (hb.mono HB0.out.size)
    obtain ⟨v0, v1, v2, v3, hve, hv1, hv2, hv3, hv4⟩ := id hv
    subst hve
    obtain ⟨B0, n0, q0, rfl, _⟩ := hv1.slice
    obtain ⟨B1, n1, q1, rfl, _⟩ := hv2.slice
    obtain ⟨B2, n2, q2, rfl, _⟩ := hv3.slice
    obtain ⟨B3, n3, q3, rfl, _⟩ := hv4.slice
    clear hv1 hv2 hv3 hv4
    have hblk : ∀ i, i ≠ nb → ((((w1.setCell ⟨nb, 0, none⟩ (.slice B0 n0 q0)).setCell ⟨nb, 1, none⟩ (.slice B1 n1 q1)).setCell ⟨nb, 2, none⟩ (.slice B2 n2 q2)).setCell ⟨nb, 3, none⟩ (.slice B3 n3 q3)).heap[i]? = w1.heap[i]? := fun i e1 => by rw [Below.heap_setCell _ _ _ _ e1, Below.heap_setCell _ _ _ _ e1, Below.heap_setCell _ _ _ _ e1, Below.heap_setCell _ _ _ _ e1]
    have HB8 : Hid (nb < nb + 1) := Nat.lt_succ_self _
    have HQ : Hid (RD (VState b0) (.agg #[.slice none 0 0, .slice none 0 0, .slice none 0 0, .slice none 0 0]) bs (.ok a t) w (.returned (.tuple #[.agg #[.slice B0 n0 q0, .slice B1 n1 q1, .slice B2 n2 q2, .slice B3 n3 q3], .int .i64 ((bs.length : Int) - t.length), .int .i64 0])) ((((w1.setCell ⟨nb, 0, none⟩ (.slice B0 n0 q0)).setCell ⟨nb, 1, none⟩ (.slice B1 n1 q1)).setCell ⟨nb, 2, none⟩ (.slice B2 n2 q2)).setCell ⟨nb, 3, none⟩ (.slice B3 n3 q3))) := ⟨_, rfl, hv.up (fun i hi => hblk i (by have := HB8.out; omega)) (by have := HB8.out; omega), hlen, ((((hbb.setCell (p := ⟨nb, 0, none⟩) (by show _ ≤ nb; omega) (.slice B0 n0 q0)).setCell (p := ⟨nb, 1, none⟩) (by show _ ≤ nb; omega) (.slice B1 n1 q1)).setCell (p := ⟨nb, 2, none⟩) (by show _ ≤ nb; omega) (.slice B2 n2 q2)).setCell (p := ⟨nb, 3, none⟩) (by show _ ≤ nb; omega) (.slice B3 n3 q3))⟩
    clear hb hbb hz1 hv hlen hblk
    go_wp2_with fail
    refine bodyPost_ret (v := .tuple #[.agg #[.slice B0 n0 q0, .slice B1 n1 q1, .slice B2 n2 q2, .slice B3 n3 q3], .int .i64 ((bs.length : Int) - t.length), .int .i64 0]) ?_ rfl ?_
    · simp [results, Try.results25, go_sem, World.cell?_setCell_same, World.cell?_setCell_other, d0, d1, d2, d3]
    · exact HQ.out
end Go.Proofs.Ytadikcioacaphaa
