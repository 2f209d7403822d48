/-
  What putDet of package codec returns: the bytes of its numbers behind others (gens79.py writes this text). Conditions: all bytes together number at most 2^47.
-/
import Derived.Test.YtadikcioacaphaaWalkPt
namespace Go.Proofs.Ytadikcioacaphaa
open Go.RowKit

theorem Grew.alloc {base : Nat} {v : Value} {a w : World} (h : Grew base v a w) (o : Obj) : Grew base v a (w.alloc o) := h.trans (Moved.refl _ _) (Grew.of_below ((Below.refl _ _).alloc (Nat.le_refl _) _))
theorem BufSt.drew {base : Nat} {v0 v : Value} {w0 w : World} {bs : List Nat} (h : BufSt base v0 w0 w v bs) : BufSt base v0 w0 w.drew v bs :=
  ⟨h.buf.below (below_drew1 _), h.grew.trans h.moved (Grew.of_below (below_drew1 _)), h.moved, h.size⟩
theorem BufSt.over {base : Nat} {v0 v : Value} {w0 w w' : World} {bs bs' : List Nat} {e : Ending} (h : BufSt base v0 w0 w v bs) (hp : BufPost base v bs' w e w') : BufPost base v0 bs' w0 e w' := by
  obtain ⟨v', rfl, hs⟩ := h.step hp
  exact hs.post
theorem box9' {w : World} {n : Nat} {c0 c1 c2 c3 c4 c5 c6 c7 c8 : Value} {T : TypeId} {fr : Nat × Nat} (h : w.heap[n]? = some (.cells #[c0, c1, c2, c3, c4, c5, c6, c7, c8] T fr)) : w.cell? ⟨n, 0, none⟩ = some c0 ∧ w.cell? ⟨n, 1, none⟩ = some c1 ∧ w.cell? ⟨n, 2, none⟩ = some c2 ∧ w.cell? ⟨n, 3, none⟩ = some c3 ∧ w.cell? ⟨n, 4, none⟩ = some c4 ∧ w.cell? ⟨n, 5, none⟩ = some c5 ∧ w.cell? ⟨n, 6, none⟩ = some c6 ∧ w.cell? ⟨n, 7, none⟩ = some c7 ∧ w.cell? ⟨n, 8, none⟩ = some c8 := by
  refine ⟨?_, ?_, ?_, ?_, ?_, ?_, ?_, ?_, ?_⟩ <;> (rw [Lib.cell_of_heap h]; rfl)

set_option maxHeartbeats 4000000 in
set_option maxRecDepth 100000 in
theorem putDet_any (base : Nat) (bs : List Nat) (v : Value) (a0 a1 a2 a3 a4 a5 a6 a7 a8 : Int) (w : World) (hb : Buf base w v bs) (hi : ∀ z ∈ [a0, a1, a2, a3, a4, a5, a6, a7, a8], I64 z) (hbase : base ≤ w.heap.size) (hl : (bs ++ bytL [a0, a1, a2, a3, a4, a5, a6, a7, a8]).length ≤ 140737488355328) :
    Calls Try.prog 34 #[v, .agg #[.int .i64 a0, .int .i64 a1, .int .i64 a2, .int .i64 a3, .int .i64 a4, .int .i64 a5, .int .i64 a6, .int .i64 a7, .int .i64 a8]] w (BufPost base v (bs ++ bytL [a0, a1, a2, a3, a4, a5, a6, a7, a8]) w) := by
  obtain ⟨W, hW⟩ : ∃ x, (w.alloc (.cells #[.int .i64 a0, .int .i64 a1, .int .i64 a2, .int .i64 a3, .int .i64 a4, .int .i64 a5, .int .i64 a6, .int .i64 a7, .int .i64 a8] 37)) = x := ⟨_, rfl⟩
  have hst : BufSt base v w W v bs := by rw [← hW]; exact (BufSt.start hb hbase).alloc _
  have hz : W.heap.size = w.heap.size + 1 := by rw [← hW, new_size]
  have HB : Hid (W.heap[w.heap.size]? = some (.cells #[.int .i64 a0, .int .i64 a1, .int .i64 a2, .int .i64 a3, .int .i64 a4, .int .i64 a5, .int .i64 a6, .int .i64 a7, .int .i64 a8] 37 (0, 0))) := by show _ = _; rw [← hW]; exact new_blk _ _
  have HV : Hid (∀ k, v.ownBlock = some k → k < w.heap.size) := fun k hk => hb.lt hk hbase
  have HST := Lib.hid (BufSt.start hst.buf hst.size)
  have HST0 := Lib.hid hst
  have HI := Lib.hid hi
  have HL := Lib.hid hl
  have HI2 : Hid (∀ z ∈ [a0, a1], I64 z) := fun z hz => hi z (by simp only [List.mem_cons, List.not_mem_nil, or_false] at hz ⊢; rcases hz with h | h <;> simp [h])
  have HI7 : Hid (∀ z ∈ [a2, a3, a4, a5, a6, a7, a8], I64 z) := fun z hz => hi z (by exact List.mem_cons_of_mem _ (List.mem_cons_of_mem _ hz))
  have hll : bs ++ bytL [a0, a1, a2, a3, a4, a5, a6, a7, a8] = bs ++ bytL [a0, a1] ++ bytL [a2, a3, a4, a5, a6, a7, a8] := by rw [List.append_assoc, ← bytL_append]; rfl
  have HL7 : Hid ((bs ++ bytL [a0, a1] ++ bytL [a2, a3, a4, a5, a6, a7, a8]).length ≤ 140737488355328) := by rw [← hll]; exact hl
  have HL2 : Hid ((bs ++ bytL [a0, a1]).length ≤ 140737488355328) := by have := HL7.out; rw [List.length_append] at this; show _ ≤ _; omega
  have HLL := Lib.hid hll
  have HW := Lib.hid (away_new hst.buf hst.size (Nat.le_refl _))
  obtain ⟨nb, hnb⟩ : ∃ x, w.heap.size = x := ⟨_, rfl⟩
  rw [hnb] at HB HV
  clear hst hb hi hl hbase hz hll
  go_enter Try.func34, Try.ntmps34
  go_upto_region 1 with fail
  try simp only [hW, hnb]
  clear hW hnb
  have HK : Hid (∀ W', Grew base v W W' → Grew base v W W' ∧ W'.cell? ⟨nb, 0, none⟩ = some (.int .i64 a0) ∧ W'.cell? ⟨nb, 1, none⟩ = some (.int .i64 a1) ∧ W'.cell? ⟨nb, 2, none⟩ = some (.int .i64 a2) ∧ W'.cell? ⟨nb, 3, none⟩ = some (.int .i64 a3) ∧ W'.cell? ⟨nb, 4, none⟩ = some (.int .i64 a4) ∧ W'.cell? ⟨nb, 5, none⟩ = some (.int .i64 a5) ∧ W'.cell? ⟨nb, 6, none⟩ = some (.int .i64 a6) ∧ W'.cell? ⟨nb, 7, none⟩ = some (.int .i64 a7) ∧ W'.cell? ⟨nb, 8, none⟩ = some (.int .i64 a8)) := fun W' hg => ⟨hg, box9' ((hg.block nb (lt_of_block HB.out) (.inr fun e => by have := HV.out nb e; omega)).trans HB.out)⟩
  go_region_held3 (fun w' => Grew base v W w' ∧ w'.cell? ⟨nb, 0, none⟩ = some (.int .i64 a0) ∧ w'.cell? ⟨nb, 1, none⟩ = some (.int .i64 a1) ∧ w'.cell? ⟨nb, 2, none⟩ = some (.int .i64 a2) ∧ w'.cell? ⟨nb, 3, none⟩ = some (.int .i64 a3) ∧ w'.cell? ⟨nb, 4, none⟩ = some (.int .i64 a4) ∧ w'.cell? ⟨nb, 5, none⟩ = some (.int .i64 a5) ∧ w'.cell? ⟨nb, 6, none⟩ = some (.int .i64 a6) ∧ w'.cell? ⟨nb, 7, none⟩ = some (.int .i64 a7) ∧ w'.cell? ⟨nb, 8, none⟩ = some (.int .i64 a8)) (exact HK.out _ (by first | assumption | exact Grew.of_below (below_drew1 _) | exact Grew.alloc (by assumption) _ | exact Grew.alloc (Grew.of_below (below_drew1 _)) _)) (first | (go_at_call 54; refine (putNumbers_any base bs v [a0, a1] _ 2 2 _ (HST.out.alloc _).drew.buf ((row_new _ [a0, a1] _).below (by decide) (below_drew1 _)) HW.out HI2.out (HST.out.alloc _).drew.size HL2.out (by decide)).mono ?_; intro e w9 hp; obtain ⟨v9, rfl, hs9⟩ := (HST.out.alloc _).drew.step hp; have HS9 := Lib.hid hs9; have HG9 : Grew base v W w9 := hs9.grew; clear hp hs9) | (go_at_call 32; refine (putEvent_any base _ _ a2 a3 a4 a5 a6 a7 a8 _ HS9.out.buf HI7.out HS9.out.size HL7.out).mono ?_; intro e w10 hp; obtain ⟨v10, rfl, hs10⟩ := HS9.out.step hp; have HS10 := Lib.hid hs10; have HG10 : Grew base v W w10 := hs10.grew; clear hp hs10))
  have HQ : Hid (BufPost base v (bs ++ bytL [a0, a1, a2, a3, a4, a5, a6, a7, a8]) w (.returned v10) w10) := by
    show BufPost _ _ _ _ _ _
    rw [HLL.out]
    exact HST0.out.over HS10.out.post
  go_wp2_with fail
  go_ret
  exact HQ.out
end Go.Proofs.Ytadikcioacaphaa
