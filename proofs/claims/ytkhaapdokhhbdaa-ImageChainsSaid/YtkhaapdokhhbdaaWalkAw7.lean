/-
  The laws' own check of the example of chapter 7 returns true. No conditions.
-/
import Derived.Test.YtkhaapdokhhbdaaWalkDf
import Derived.Test.YtkhaapdokhhbdaaMathJ
namespace Go.Proofs.Ytkhaapdokhhbdaa
open Go.RowKit

theorem five_at (w : World) (a0 a1 a2 a3 a4 : Int) : ZsAt (w.alloc (.cells #[.int .i64 a0, .int .i64 a1, .int .i64 a2, .int .i64 a3, .int .i64 a4] 3)) [a0, a1, a2, a3, a4] (some ⟨w.heap.size, 0, none⟩) 5 := by
  refine ⟨rfl, by decide, fun _ => ⟨_, _, rfl, fun i hi => ?_⟩⟩
  rw [Lib.cell_of_heap (new_blk w _)]
  match i, hi with
  | 0, _ => rfl
  | 1, _ => rfl
  | 2, _ => rfl
  | 3, _ => rfl
  | 4, _ => rfl
/-- One page of a list of its own. -/
theorem PgPost.one {base : Nat} {w w' : World} {e : Ending} {n : Int} {c : List Int} (h : PgPost base w [(n, c)] e w') : ∃ b cap A k, e = .returned (.slice (some ⟨b, 0, none⟩) 1 cap) ∧ 1 ≤ cap ∧ w'.cell? ⟨b, 0, none⟩ = some (.int .i64 n) ∧ w'.cell? ⟨b, 1, none⟩ = some (.slice A c.length k) ∧ c.length ≤ k ∧ ZsAt w' c A c.length ∧ Below base w w' := by
  obtain ⟨v, rfl, ho, hb⟩ := h
  obtain ⟨ss, hr, ha⟩ := ho
  rcases hr.2 with ⟨_, h0⟩ | ⟨g, cap, cur, rfl, hg, hblk, hle, hcap, hsz, htk⟩
  · simp at h0
  · match ss, ha with
    | [s], ha =>
      have hc := hr.cells (g := g) rfl
      have h0 := hc 0 _ rfl
      have h1 := hc 1 _ rfl
      rw [Addr.add_lit] at h0 h1
      exact ⟨g, cap, s.1, s.2, rfl, hle, h0, h1, ha.1.1, ha.1.2.at, hb⟩
theorem PgPost.none {base : Nat} {w w' : World} {e : Ending} (h : PgPost base w [] e w') : ∃ A c, e = .returned (.slice A 0 c) ∧ Below base w w' := by
  obtain ⟨v, rfl, ho, hb⟩ := h
  obtain ⟨ss, hr, ha⟩ := ho
  obtain ⟨A, c, rfl⟩ := own_slice hr
  exact ⟨A, c, rfl, hb⟩

set_option maxHeartbeats 1000000 in
set_option maxRecDepth 100000 in
theorem awake7_any (w : World) : Calls Try.prog 9 #[] w fun e w' => e = .returned (.bool true) ∧ Below w.heap.size w w' := by
  have HD : Hid (∀ W : World, Calls Try.prog 12 #[.slice (some ⟨W.heap.size, 0, none⟩) 5 5, .slice (some ⟨W.heap.size + 1, 0, none⟩) 5 5] ((W.alloc (.cells #[.int .i64 1, .int .i64 2, .int .i64 3, .int .i64 4, .int .i64 5] 3)).alloc (.cells #[.int .i64 1, .int .i64 2, .int .i64 3, .int .i64 4, .int .i64 6] 3)) fun e w' => PgPost W.heap.size W [(1, [6])] e w') := fun W => by
    have h := diff_any [1, 2, 3, 4, 5] [1, 2, 3, 4, 6] (some ⟨W.heap.size, 0, none⟩) (some ⟨W.heap.size + 1, 0, none⟩) 5 5 5 5 ((W.alloc (.cells #[.int .i64 1, .int .i64 2, .int .i64 3, .int .i64 4, .int .i64 5] 3)).alloc (.cells #[.int .i64 1, .int .i64 2, .int .i64 3, .int .i64 4, .int .i64 6] 3))
      ((five_at W 1 2 3 4 5).below ((Below.refl _ _).alloc (Nat.le_refl _) _)) (by have := five_at (W.alloc (.cells #[.int .i64 1, .int .i64 2, .int .i64 3, .int .i64 4, .int .i64 5] 3)) 1 2 3 4 6; rwa [new_size] at this) (by decide) (by decide) (by decide) (by decide)
    rw [aw_diff] at h
    refine h.mono fun e w' hp => ?_
    obtain ⟨v, he, ho, hb⟩ := hp
    obtain ⟨ss, hr, ha⟩ := ho
    have hsz : W.heap.size ≤ ((W.alloc (.cells #[.int .i64 1, .int .i64 2, .int .i64 3, .int .i64 4, .int .i64 5] 3)).alloc (.cells #[.int .i64 1, .int .i64 2, .int .i64 3, .int .i64 4, .int .i64 6] 3)).heap.size := by rw [new_size, new_size]; omega
    exact ⟨v, he, ⟨ss, own_base hr hsz, ha.still fun b hS _ => ⟨⟨Nat.le_trans hsz hS.1, hS.2⟩, rfl⟩⟩, (((Below.refl _ _).alloc (Nat.le_refl _) _).alloc (by rw [new_size]; omega) _).trans (hb.mono hsz)⟩
  go_enter Try.func9, Try.ntmps9
  go_wp2_with fail
  refine (HD.out _).mono ?_
  intro e w1 hp
  obtain ⟨b, cap, A, k, rfl, hcap, c0, c1, hk, hz, hb⟩ := hp.one
  obtain ⟨_, _, hz3⟩ := hz
  obtain ⟨b2, o2, rfl, hc⟩ := hz3 (by decide)
  have c2 : w1.cell? ⟨b2, o2, none⟩ = some (.int .i64 6) := hc 0 (by decide)
  have HB := Lib.hid hb
  clear hp hz3 hc hb
  simp only [List.length_cons, List.length_nil, Nat.zero_add] at c1 hk
  go_wp2_with fail
  go_ret
  exact ⟨rfl, HB.out⟩
end Go.Proofs.Ytkhaapdokhhbdaa
