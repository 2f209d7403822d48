/-
  What PutEvent, PutDet, PutPages, PutState of package codec return (gens95.py writes this text). Conditions: all bytes together number at most 2^47; at most 2^40 elements each.
-/
import Derived.Test.YtadikcioacaphaaWalkPq8
namespace Go.Proofs.Ytadikcioacaphaa
open Go.RowKit

/-- What Clip makes of a slice of bytes. -/
theorem clip_any {bs : List Nat} {v : Value} {w : World} (h : BOut w v bs) : ∃ v', (∀ W, Calls Try.prog 31 #[v] W (fun e w' => e = .returned v' ∧ w' = W)) ∧ Buf w.heap.size w v' bs := by
  obtain ⟨A, c, rfl, hc, hr, hnil, hsp, hc9⟩ := h
  cases A with
  | some a =>
    obtain ⟨b, o, sp⟩ := a
    obtain ⟨h1, h2⟩ := hsp _ rfl
    cases h1
    exact ⟨_, fun W => clip_some b o _ c W hc, .inr ⟨b, o, rfl, hr, h2⟩⟩
  | none =>
    have hm : bs.length = 0 := by
      rcases Nat.eq_zero_or_pos bs.length with h0 | h0
      · exact h0
      · obtain ⟨_, _, e, _⟩ := hr.2 h0
        cases e
    have hb : bs = [] := List.eq_nil_of_length_eq_zero hm
    subst hb
    have hc0 := hnil rfl
    subst hc0
    exact ⟨_, fun W => clip_none W, .inl (World.ownsRow_nil _ _ _ _)⟩

set_option maxHeartbeats 4000000 in
set_option maxRecDepth 100000 in
theorem pPutEvent_cod (bs : List Nat) (v : Value) (a0 a1 a2 a3 a4 a5 a6 : Int) (w : World) (h : BOut w v bs) (hi : ∀ z ∈ [a0, a1, a2, a3, a4, a5, a6], I64 z) (hl : (bs ++ bytL [a0, a1, a2, a3, a4, a5, a6]).length ≤ 140737488355328) :
    Calls Try.prog 14 #[v, .agg #[.int .i64 a0, .int .i64 a1, .int .i64 a2, .int .i64 a3, .int .i64 a4, .int .i64 a5, .int .i64 a6]] w (PO (bs ++ bytL [a0, a1, a2, a3, a4, a5, a6]) w) := by
  obtain ⟨v', hcl, hbuf⟩ := clip_any h
  obtain ⟨nb, hnb⟩ : ∃ x, w.heap.size = x := ⟨_, rfl⟩
  obtain ⟨W, hW⟩ : ∃ x, (w.alloc (.cells #[.int .i64 a0, .int .i64 a1, .int .i64 a2, .int .i64 a3, .int .i64 a4, .int .i64 a5, .int .i64 a6] 35)) = x := ⟨_, rfl⟩
  have hbw : Below w.heap.size w W := by rw [← hW]; exact rp_one1 _ _
  have HB : Hid (W.heap[nb]? = some (.cells #[.int .i64 a0, .int .i64 a1, .int .i64 a2, .int .i64 a3, .int .i64 a4, .int .i64 a5, .int .i64 a6] 35 (0, 0))) := by show _ = _; rw [← hW, ← hnb]; exact new_blk _ _
  have HV : Hid (v'.ownBlock ≠ some nb) := fun e => by have := hbuf.lt e (Nat.le_refl _); omega
  have hbd : Below w.heap.size w W.drew := hbw.drew
  have hbf := hbuf.below hbd
  have hbs : w.heap.size ≤ W.drew.heap.size := hbd.size
  have HP := Lib.hid (putEvent_any w.heap.size bs v' a0 a1 a2 a3 a4 a5 a6 W.drew hbf hi hbs hl)
  have HC := Lib.hid hcl
  have HL := Lib.hid hl
  have HBD := Lib.hid hbd
  clear hcl hbuf hl hbw hbf hbs hbd h
  go_enter Try.func14, Try.ntmps14
  go_upto_region 1 with fail
  try simp only [hW, hnb]
  clear hW hnb
  have HK : Hid (∀ W' : World, Grew w.heap.size v' W W' → Grew w.heap.size v' W W' ∧ W'.cell? ⟨nb, 0, none⟩ = some (.int .i64 a0) ∧ W'.cell? ⟨nb, 1, none⟩ = some (.int .i64 a1) ∧ W'.cell? ⟨nb, 2, none⟩ = some (.int .i64 a2) ∧ W'.cell? ⟨nb, 3, none⟩ = some (.int .i64 a3) ∧ W'.cell? ⟨nb, 4, none⟩ = some (.int .i64 a4) ∧ W'.cell? ⟨nb, 5, none⟩ = some (.int .i64 a5) ∧ W'.cell? ⟨nb, 6, none⟩ = some (.int .i64 a6)) := fun W' hg => ⟨hg, box7' ((hg.block nb (lt_of_block HB.out) (.inr HV.out)).trans HB.out)⟩
  go_region_held3 (fun w' => Grew w.heap.size v' W w' ∧ w'.cell? ⟨nb, 0, none⟩ = some (.int .i64 a0) ∧ w'.cell? ⟨nb, 1, none⟩ = some (.int .i64 a1) ∧ w'.cell? ⟨nb, 2, none⟩ = some (.int .i64 a2) ∧ w'.cell? ⟨nb, 3, none⟩ = some (.int .i64 a3) ∧ w'.cell? ⟨nb, 4, none⟩ = some (.int .i64 a4) ∧ w'.cell? ⟨nb, 5, none⟩ = some (.int .i64 a5) ∧ w'.cell? ⟨nb, 6, none⟩ = some (.int .i64 a6)) (exact HK.out _ (by first | assumption | exact Grew.of_below (below_drew1 _))) (first | (go_at_call 31; refine (HC.out _).mono ?_; rintro e w' ⟨rfl, rfl⟩) | (go_at_call 32; refine HP.out.mono ?_; intro e w9 hp; obtain ⟨v9, rfl, hq1, hq2, hq3⟩ := hp; have HQ1 := Lib.hid hq1; have HQ2 := Lib.hid hq2; have HG9 : Grew w.heap.size v' W w9 := (Grew.of_below (below_drew1 W)).trans (Moved.refl _ _) hq2; clear hq1 hq2 hq3))
  have HQ : Hid (PO (bs ++ bytL [a0, a1, a2, a3, a4, a5, a6]) w (.returned v9) w9) := ⟨v9, rfl, HQ1.out.out (Nat.le_trans HBD.out.size HQ2.out.size) HL.out, HBD.out.trans (HQ2.out.below HBD.out.size)⟩
  go_wp2_with fail
  go_ret
  exact HQ.out

set_option maxHeartbeats 4000000 in
set_option maxRecDepth 100000 in
theorem pPutDet_cod (bs : List Nat) (v : Value) (a0 a1 a2 a3 a4 a5 a6 a7 a8 : Int) (w : World) (h : BOut w v bs) (hi : ∀ z ∈ [a0, a1, a2, a3, a4, a5, a6, a7, a8], I64 z) (hl : (bs ++ bytL [a0, a1, a2, a3, a4, a5, a6, a7, a8]).length ≤ 140737488355328) :
    Calls Try.prog 16 #[v, .agg #[.int .i64 a0, .int .i64 a1, .int .i64 a2, .int .i64 a3, .int .i64 a4, .int .i64 a5, .int .i64 a6, .int .i64 a7, .int .i64 a8]] w (PO (bs ++ bytL [a0, a1, a2, a3, a4, a5, a6, a7, a8]) w) := by
  obtain ⟨v', hcl, hbuf⟩ := clip_any h
  obtain ⟨nb, hnb⟩ : ∃ x, w.heap.size = x := ⟨_, rfl⟩
  obtain ⟨W, hW⟩ : ∃ x, (w.alloc (.cells #[.int .i64 a0, .int .i64 a1, .int .i64 a2, .int .i64 a3, .int .i64 a4, .int .i64 a5, .int .i64 a6, .int .i64 a7, .int .i64 a8] 37)) = x := ⟨_, rfl⟩
  have hbw : Below w.heap.size w W := by rw [← hW]; exact rp_one1 _ _
  have HB : Hid (W.heap[nb]? = some (.cells #[.int .i64 a0, .int .i64 a1, .int .i64 a2, .int .i64 a3, .int .i64 a4, .int .i64 a5, .int .i64 a6, .int .i64 a7, .int .i64 a8] 37 (0, 0))) := by show _ = _; rw [← hW, ← hnb]; exact new_blk _ _
  have HV : Hid (v'.ownBlock ≠ some nb) := fun e => by have := hbuf.lt e (Nat.le_refl _); omega
  have hbd : Below w.heap.size w W.drew := hbw.drew
  have hbf := hbuf.below hbd
  have hbs : w.heap.size ≤ W.drew.heap.size := hbd.size
  have HP := Lib.hid (putDet_any w.heap.size bs v' a0 a1 a2 a3 a4 a5 a6 a7 a8 W.drew hbf hi hbs hl)
  have HC := Lib.hid hcl
  have HL := Lib.hid hl
  have HBD := Lib.hid hbd
  clear hcl hbuf hl hbw hbf hbs hbd h
  go_enter Try.func16, Try.ntmps16
  go_upto_region 1 with fail
  try simp only [hW, hnb]
  clear hW hnb
  have HK : Hid (∀ W' : World, Grew w.heap.size v' W W' → Grew w.heap.size v' W W' ∧ W'.cell? ⟨nb, 0, none⟩ = some (.int .i64 a0) ∧ W'.cell? ⟨nb, 1, none⟩ = some (.int .i64 a1) ∧ W'.cell? ⟨nb, 2, none⟩ = some (.int .i64 a2) ∧ W'.cell? ⟨nb, 3, none⟩ = some (.int .i64 a3) ∧ W'.cell? ⟨nb, 4, none⟩ = some (.int .i64 a4) ∧ W'.cell? ⟨nb, 5, none⟩ = some (.int .i64 a5) ∧ W'.cell? ⟨nb, 6, none⟩ = some (.int .i64 a6) ∧ W'.cell? ⟨nb, 7, none⟩ = some (.int .i64 a7) ∧ W'.cell? ⟨nb, 8, none⟩ = some (.int .i64 a8)) := fun W' hg => ⟨hg, box9' ((hg.block nb (lt_of_block HB.out) (.inr HV.out)).trans HB.out)⟩
  go_region_held3 (fun w' => Grew w.heap.size v' W w' ∧ w'.cell? ⟨nb, 0, none⟩ = some (.int .i64 a0) ∧ w'.cell? ⟨nb, 1, none⟩ = some (.int .i64 a1) ∧ w'.cell? ⟨nb, 2, none⟩ = some (.int .i64 a2) ∧ w'.cell? ⟨nb, 3, none⟩ = some (.int .i64 a3) ∧ w'.cell? ⟨nb, 4, none⟩ = some (.int .i64 a4) ∧ w'.cell? ⟨nb, 5, none⟩ = some (.int .i64 a5) ∧ w'.cell? ⟨nb, 6, none⟩ = some (.int .i64 a6) ∧ w'.cell? ⟨nb, 7, none⟩ = some (.int .i64 a7) ∧ w'.cell? ⟨nb, 8, none⟩ = some (.int .i64 a8)) (exact HK.out _ (by first | assumption | exact Grew.of_below (below_drew1 _))) (first | (go_at_call 31; refine (HC.out _).mono ?_; rintro e w' ⟨rfl, rfl⟩) | (go_at_call 34; refine HP.out.mono ?_; intro e w9 hp; obtain ⟨v9, rfl, hq1, hq2, hq3⟩ := hp; have HQ1 := Lib.hid hq1; have HQ2 := Lib.hid hq2; have HG9 : Grew w.heap.size v' W w9 := (Grew.of_below (below_drew1 W)).trans (Moved.refl _ _) hq2; clear hq1 hq2 hq3))
  have HQ : Hid (PO (bs ++ bytL [a0, a1, a2, a3, a4, a5, a6, a7, a8]) w (.returned v9) w9) := ⟨v9, rfl, HQ1.out.out (Nat.le_trans HBD.out.size HQ2.out.size) HL.out, HBD.out.trans (HQ2.out.below HBD.out.size)⟩
  go_wp2_with fail
  go_ret
  exact HQ.out

set_option maxHeartbeats 1000000 in
set_option maxRecDepth 100000 in
theorem pPutPages_cod (bs : List Nat) (v : Value) (ps : List Pg) (A : Option Addr) (n c : Nat) (w : World) (h : BOut w v bs) (hp : PgAt (fun b => b < w.heap.size) w ps A n) (hi : PgOk ps) (hn : n ≤ 1099511627776) (hl : (bs ++ bytZ n ++ bytP ps).length ≤ 140737488355328) :
    Calls Try.prog 18 #[v, .slice A n c] w (PO (bs ++ bytZ n ++ bytP ps) w) := by
  obtain ⟨v', hcl, hbuf⟩ := clip_any h
  have hb9 : w.heap.size ≤ w.heap.size := Nat.le_refl _
  have HP := Lib.hid (putPagesL_any w.heap.size bs _ ps A n c w hbuf (hp.still fun b hb _ => ⟨.inl hb, rfl⟩) hi hb9 hl hn)
  have HC := Lib.hid hcl
  have HL := Lib.hid hl
  clear hcl hbuf hl hb9 h
  go_enter Try.func18, Try.ntmps18
  go_wp2_with fail
  refine (HC.out _).mono ?_
  rintro e w' ⟨rfl, rfl⟩
  go_wp2_with fail
  refine HP.out.mono ?_
  intro e w9 hp
  obtain ⟨v9, rfl, ho⟩ := hp.out HL.out
  have HO := Lib.hid ho
  clear hp ho
  go_wp2_with fail
  go_ret
  exact ⟨_, rfl, HO.out⟩

set_option maxHeartbeats 4000000 in
set_option maxRecDepth 100000 in
theorem pPutState_cod (bs : List Nat) (v : Value) (z0 : List Int) (A0 : Option Addr) (n0 c0 : Nat) (z1 : List Int) (A1 : Option Addr) (n1 c1 : Nat) (z2 : List Int) (A2 : Option Addr) (n2 c2 : Nat) (z3 : List Int) (A3 : Option Addr) (n3 c3 : Nat) (w : World) (h : BOut w v bs) (h0 : RwAt w 1 (z0.map (Value.int .i64)) A0 n0) (i0 : ∀ z ∈ z0, I64 z) (l0 : n0 ≤ 1099511627776) (h1 : RwAt w 7 (z1.map (Value.int .i64)) A1 n1) (i1 : ∀ z ∈ z1, I64 z) (l1 : n1 ≤ 1099511627776) (h2 : RwAt w 4 (z2.map (Value.int .i64)) A2 n2) (i2 : ∀ z ∈ z2, I64 z) (l2 : n2 ≤ 1099511627776) (h3 : RwAt w 2 (z3.map (Value.int .i64)) A3 n3) (i3 : ∀ z ∈ z3, I64 z) (l3 : n3 ≤ 1099511627776) (hl : (bs ++ bytR n0 z0 ++ bytR n1 z1 ++ bytR n2 z2 ++ bytR n3 z3).length ≤ 140737488355328) :
    Calls Try.prog 20 #[v, .agg #[.slice A0 n0 c0, .slice A1 n1 c1, .slice A2 n2 c2, .slice A3 n3 c3]] w (PO (bs ++ bytR n0 z0 ++ bytR n1 z1 ++ bytR n2 z2 ++ bytR n3 z3) w) := by
  obtain ⟨v', hcl, hbuf⟩ := clip_any h
  obtain ⟨nb, hnb⟩ : ∃ x, w.heap.size = x := ⟨_, rfl⟩
  obtain ⟨W, hW⟩ : ∃ x, (w.alloc (.cells #[.slice A0 n0 c0, .slice A1 n1 c1, .slice A2 n2 c2, .slice A3 n3 c3] 43)) = x := ⟨_, rfl⟩
  have hbw : Below w.heap.size w W := by rw [← hW]; exact rp_one1 _ _
  have HB : Hid (W.heap[nb]? = some (.cells #[.slice A0 n0 c0, .slice A1 n1 c1, .slice A2 n2 c2, .slice A3 n3 c3] 43 (0, 0))) := by show _ = _; rw [← hW, ← hnb]; exact new_blk _ _
  have HV : Hid (v'.ownBlock ≠ some nb) := fun e => by have := hbuf.lt e (Nat.le_refl _); omega
  have hbd : Below w.heap.size w W.drew := hbw.drew
  have hbf := hbuf.below hbd
  have hbs : w.heap.size ≤ W.drew.heap.size := hbd.size
  have haw : ∀ (k n : Nat) (cs : List Value) (A : Option Addr), 0 < k → RwAt w k cs A n → 0 < n → Away w.heap.size v' A := fun k n cs A hk hr h0 b o e => by
    obtain ⟨b', o', e', hc⟩ := hr.2 h0
    rw [e] at e'
    cases e'
    obtain ⟨u, r, e2⟩ := List.exists_cons_of_length_pos (show 0 < cs.length by rw [hr.1]; exact Nat.mul_pos h0 hk)
    rw [e2] at hc
    exact .inl hc.lt
  have HP := Lib.hid (putState_any w.heap.size bs v' z0 A0 n0 c0 z1 A1 n1 c1 z2 A2 n2 c2 z3 A3 n3 c3 W.drew hbf (h0.below (by decide) hbd) (haw 1 _ _ _ (by decide) h0) i0 l0 (h1.below (by decide) hbd) (haw 7 _ _ _ (by decide) h1) i1 l1 (h2.below (by decide) hbd) (haw 4 _ _ _ (by decide) h2) i2 l2 (h3.below (by decide) hbd) (haw 2 _ _ _ (by decide) h3) i3 l3 hbs hl)
  have HC := Lib.hid hcl
  have HL := Lib.hid hl
  have HBD := Lib.hid hbd
  clear hcl hbuf hl hbw hbf hbs hbd h haw h0 h1 h2 h3 i0 i1 i2 i3
  go_enter Try.func20, Try.ntmps20
  go_upto_region 1 with fail
  try simp only [hW, hnb]
  clear hW hnb
  have HK : Hid (∀ W' : World, Grew w.heap.size v' W W' → Grew w.heap.size v' W W' ∧ W'.cell? ⟨nb, 0, none⟩ = some (.slice A0 n0 c0) ∧ W'.cell? ⟨nb, 1, none⟩ = some (.slice A1 n1 c1) ∧ W'.cell? ⟨nb, 2, none⟩ = some (.slice A2 n2 c2) ∧ W'.cell? ⟨nb, 3, none⟩ = some (.slice A3 n3 c3)) := fun W' hg => ⟨hg, box4' ((hg.block nb (lt_of_block HB.out) (.inr HV.out)).trans HB.out)⟩
  go_region_held3 (fun w' => Grew w.heap.size v' W w' ∧ w'.cell? ⟨nb, 0, none⟩ = some (.slice A0 n0 c0) ∧ w'.cell? ⟨nb, 1, none⟩ = some (.slice A1 n1 c1) ∧ w'.cell? ⟨nb, 2, none⟩ = some (.slice A2 n2 c2) ∧ w'.cell? ⟨nb, 3, none⟩ = some (.slice A3 n3 c3)) (exact HK.out _ (by first | assumption | exact Grew.of_below (below_drew1 _))) (first | (go_at_call 31; refine (HC.out _).mono ?_; rintro e w' ⟨rfl, rfl⟩) | (go_at_call 37; refine HP.out.mono ?_; intro e w9 hp; obtain ⟨v9, rfl, hq1, hq2, hq3⟩ := hp; have HQ1 := Lib.hid hq1; have HQ2 := Lib.hid hq2; have HG9 : Grew w.heap.size v' W w9 := (Grew.of_below (below_drew1 W)).trans (Moved.refl _ _) hq2; clear hq1 hq2 hq3))
  have HQ : Hid (PO (bs ++ bytR n0 z0 ++ bytR n1 z1 ++ bytR n2 z2 ++ bytR n3 z3) w (.returned v9) w9) := ⟨v9, rfl, HQ1.out.out (Nat.le_trans HBD.out.size HQ2.out.size) HL.out, HBD.out.trans (HQ2.out.below HBD.out.size)⟩
  go_wp2_with fail
  go_ret
  exact HQ.out
end Go.Proofs.Ytadikcioacaphaa
