/-
  What putEvent, putSend, putOutput of package codec return: the bytes of their numbers behind others (gens78.py writes this text). Conditions: all bytes together number at most 2^47.
-/
import Derived.Test.YtadikcioacaphaaWalkPs
namespace Go.Proofs.Ytadikcioacaphaa
open Go.RowKit

theorem Buf.lt {base : Nat} {w : World} {v : Value} {bs : List Nat} (h : Buf base w v bs) {k : Nat} (hk : v.ownBlock = some k) (hb : base ≤ w.heap.size) : k < w.heap.size := by
  rcases h with h | ⟨b, o, rfl, _, hlt⟩
  · exact (h.lt k hk).2
  · have : b = k := by simpa [Value.ownBlock] using hk
    omega
theorem row_new (w : World) (zs : List Int) (T : TypeId) : RwAt (w.alloc (.cells (zs.map (Value.int .i64)).toArray T)) 1 (zs.map (Value.int .i64)) (some ⟨w.heap.size, 0, none⟩) zs.length :=
  ⟨by simp, fun _ => ⟨_, _, rfl, new_cells w _ T⟩⟩
theorem away_new {base : Nat} {w : World} {v : Value} {bs : List Nat} (h : Buf base w v bs) (hb : base ≤ w.heap.size) {n : Nat} (hn : w.heap.size ≤ n) : Away base v (some ⟨n, 0, none⟩) := fun b o e => by
  cases e
  right
  intro e
  have := h.lt e hb
  omega
theorem box7' {w : World} {n : Nat} {c0 c1 c2 c3 c4 c5 c6 : Value} {T : TypeId} {fr : Nat × Nat} (h : w.heap[n]? = some (.cells #[c0, c1, c2, c3, c4, c5, c6] T fr)) : w.cell? ⟨n, 0, none⟩ = some c0 ∧ w.cell? ⟨n, 1, none⟩ = some c1 ∧ w.cell? ⟨n, 2, none⟩ = some c2 ∧ w.cell? ⟨n, 3, none⟩ = some c3 ∧ w.cell? ⟨n, 4, none⟩ = some c4 ∧ w.cell? ⟨n, 5, none⟩ = some c5 ∧ w.cell? ⟨n, 6, none⟩ = some c6 := by
  refine ⟨?_, ?_, ?_, ?_, ?_, ?_, ?_⟩ <;> (rw [Lib.cell_of_heap h]; rfl)
theorem box4' {w : World} {n : Nat} {c0 c1 c2 c3 : Value} {T : TypeId} {fr : Nat × Nat} (h : w.heap[n]? = some (.cells #[c0, c1, c2, c3] T fr)) : w.cell? ⟨n, 0, none⟩ = some c0 ∧ w.cell? ⟨n, 1, none⟩ = some c1 ∧ w.cell? ⟨n, 2, none⟩ = some c2 ∧ w.cell? ⟨n, 3, none⟩ = some c3 := by
  refine ⟨?_, ?_, ?_, ?_⟩ <;> (rw [Lib.cell_of_heap h]; rfl)
theorem box2' {w : World} {n : Nat} {c0 c1 : Value} {T : TypeId} {fr : Nat × Nat} (h : w.heap[n]? = some (.cells #[c0, c1] T fr)) : w.cell? ⟨n, 0, none⟩ = some c0 ∧ w.cell? ⟨n, 1, none⟩ = some c1 := by
  refine ⟨?_, ?_⟩ <;> (rw [Lib.cell_of_heap h]; rfl)

set_option maxHeartbeats 1000000 in
set_option maxRecDepth 100000 in
theorem putEvent_any (base : Nat) (bs : List Nat) (v : Value) (a0 a1 a2 a3 a4 a5 a6 : Int) (w : World) (hb : Buf base w v bs) (hi : ∀ z ∈ [a0, a1, a2, a3, a4, a5, a6], I64 z) (hbase : base ≤ w.heap.size) (hl : (bs ++ bytL [a0, a1, a2, a3, a4, a5, a6]).length ≤ 140737488355328) :
    Calls Try.prog 32 #[v, .agg #[.int .i64 a0, .int .i64 a1, .int .i64 a2, .int .i64 a3, .int .i64 a4, .int .i64 a5, .int .i64 a6]] w (BufPost base v (bs ++ bytL [a0, a1, a2, a3, a4, a5, a6]) w) := by
  obtain ⟨W, hW⟩ : ∃ x, (w.alloc (.cells #[.int .i64 a0, .int .i64 a1, .int .i64 a2, .int .i64 a3, .int .i64 a4, .int .i64 a5, .int .i64 a6] 35)) = x := ⟨_, rfl⟩
  have hst : BufSt base v w W v bs := by rw [← hW]; exact (BufSt.start hb hbase).alloc _
  have hz : W.heap.size = w.heap.size + 1 := by rw [← hW, new_size]
  have HB : Hid (W.heap[w.heap.size]? = some (.cells #[.int .i64 a0, .int .i64 a1, .int .i64 a2, .int .i64 a3, .int .i64 a4, .int .i64 a5, .int .i64 a6] 35 (0, 0))) := by show _ = _; rw [← hW]; exact new_blk _ _
  have HST := Lib.hid hst
  have HI := Lib.hid hi
  have HL := Lib.hid hl
  have HW := Lib.hid (away_new hst.buf hst.size (Nat.le_refl _))
  obtain ⟨nb, hnb⟩ : ∃ x, w.heap.size = x := ⟨_, rfl⟩
  rw [hnb] at HB
  clear hst hb hi hl hbase hz
  go_enter Try.func32, Try.ntmps32
  go_upto_region 1 with fail
  try simp only [hW, hnb]
  clear hW hnb
  obtain ⟨d0, d1, d2, d3, d4, d5, d6⟩ := box7' HB.out
  go_wp2_with fail
  refine (putNumbers_any base bs v [a0, a1, a2, a3, a4, a5, a6] _ 7 7 _ (HST.out.alloc _).buf (row_new _ [a0, a1, a2, a3, a4, a5, a6] _) HW.out HI.out (HST.out.alloc _).size HL.out (by decide)).mono ?_
  intro e w9 hp
  obtain ⟨v9, rfl, hs9⟩ := (HST.out.alloc _).step hp
  have HS9 := Lib.hid hs9
  have HQ := Lib.hid hs9.post
  clear hp hs9
  go_wp2_with fail
  go_ret
  exact HQ.out

set_option maxHeartbeats 1000000 in
set_option maxRecDepth 100000 in
theorem putSend_any (base : Nat) (bs : List Nat) (v : Value) (a0 a1 a2 a3 : Int) (w : World) (hb : Buf base w v bs) (hi : ∀ z ∈ [a0, a1, a2, a3], I64 z) (hbase : base ≤ w.heap.size) (hl : (bs ++ bytL [a0, a1, a2, a3]).length ≤ 140737488355328) :
    Calls Try.prog 58 #[v, .agg #[.int .i64 a0, .int .i64 a1, .int .i64 a2, .int .i64 a3]] w (BufPost base v (bs ++ bytL [a0, a1, a2, a3]) w) := by
  obtain ⟨W, hW⟩ : ∃ x, (w.alloc (.cells #[.int .i64 a0, .int .i64 a1, .int .i64 a2, .int .i64 a3] 73)) = x := ⟨_, rfl⟩
  have hst : BufSt base v w W v bs := by rw [← hW]; exact (BufSt.start hb hbase).alloc _
  have hz : W.heap.size = w.heap.size + 1 := by rw [← hW, new_size]
  have HB : Hid (W.heap[w.heap.size]? = some (.cells #[.int .i64 a0, .int .i64 a1, .int .i64 a2, .int .i64 a3] 73 (0, 0))) := by show _ = _; rw [← hW]; exact new_blk _ _
  have HST := Lib.hid hst
  have HI := Lib.hid hi
  have HL := Lib.hid hl
  have HW := Lib.hid (away_new hst.buf hst.size (Nat.le_refl _))
  obtain ⟨nb, hnb⟩ : ∃ x, w.heap.size = x := ⟨_, rfl⟩
  rw [hnb] at HB
  clear hst hb hi hl hbase hz
  go_enter Try.func58, Try.ntmps58
  go_upto_region 1 with fail
  try simp only [hW, hnb]
  clear hW hnb
  obtain ⟨d0, d1, d2, d3⟩ := box4' HB.out
  go_wp2_with fail
  refine (putNumbers_any base bs v [a0, a1, a2, a3] _ 4 4 _ (HST.out.alloc _).buf (row_new _ [a0, a1, a2, a3] _) HW.out HI.out (HST.out.alloc _).size HL.out (by decide)).mono ?_
  intro e w9 hp
  obtain ⟨v9, rfl, hs9⟩ := (HST.out.alloc _).step hp
  have HS9 := Lib.hid hs9
  have HQ := Lib.hid hs9.post
  clear hp hs9
  go_wp2_with fail
  go_ret
  exact HQ.out

set_option maxHeartbeats 1000000 in
set_option maxRecDepth 100000 in
theorem putOutput_any (base : Nat) (bs : List Nat) (v : Value) (a0 a1 : Int) (w : World) (hb : Buf base w v bs) (hi : ∀ z ∈ [a0, a1], I64 z) (hbase : base ≤ w.heap.size) (hl : (bs ++ bytL [a0, a1]).length ≤ 140737488355328) :
    Calls Try.prog 60 #[v, .agg #[.int .i64 a0, .int .i64 a1]] w (BufPost base v (bs ++ bytL [a0, a1]) w) := by
  obtain ⟨W, hW⟩ : ∃ x, (w.alloc (.cells #[.int .i64 a0, .int .i64 a1] 75)) = x := ⟨_, rfl⟩
  have hst : BufSt base v w W v bs := by rw [← hW]; exact (BufSt.start hb hbase).alloc _
  have hz : W.heap.size = w.heap.size + 1 := by rw [← hW, new_size]
  have HB : Hid (W.heap[w.heap.size]? = some (.cells #[.int .i64 a0, .int .i64 a1] 75 (0, 0))) := by show _ = _; rw [← hW]; exact new_blk _ _
  have HST := Lib.hid hst
  have HI := Lib.hid hi
  have HL := Lib.hid hl
  have HW := Lib.hid (away_new hst.buf hst.size (Nat.le_refl _))
  obtain ⟨nb, hnb⟩ : ∃ x, w.heap.size = x := ⟨_, rfl⟩
  rw [hnb] at HB
  clear hst hb hi hl hbase hz
  go_enter Try.func60, Try.ntmps60
  go_upto_region 1 with fail
  try simp only [hW, hnb]
  clear hW hnb
  obtain ⟨d0, d1⟩ := box2' HB.out
  go_wp2_with fail
  refine (putNumbers_any base bs v [a0, a1] _ 2 2 _ (HST.out.alloc _).buf (row_new _ [a0, a1] _) HW.out HI.out (HST.out.alloc _).size HL.out (by decide)).mono ?_
  intro e w9 hp
  obtain ⟨v9, rfl, hs9⟩ := (HST.out.alloc _).step hp
  have HS9 := Lib.hid hs9
  have HQ := Lib.hid hs9.post
  clear hp hs9
  go_wp2_with fail
  go_ret
  exact HQ.out
end Go.Proofs.Ytadikcioacaphaa
