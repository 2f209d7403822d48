/-
  What Parse returns for a text that was reckoned beforehand, and that the laws' own check of the example of chapter 2 returns true. Conditions: the variables of the library and the table of symbols hold what start-up laid.
-/
import Derived.Test.YtdlnpfocmgclmaaDoorWalkPz
import Derived.Test.YtdlnpfocmgclmaaDoorMathX
namespace Go.Proofs.YtdlnpfocmgclmaaDoor
open Go.RowKit

theorem parse_good (s : ByteArray) (w : World) (hL : LW w) (hsym : SymAt w) (hg : goodT s.data.toList = true) : Calls Tryd.prog 6 #[.string s] w (PzPost (parseS s.data.toList) w) :=
  Parse_any s w hL hsym (scanS s.data.toList).toks (scanS s.data.toList).off (scanS s.data.toList).err rfl (goodT_ok hg) (goodT_big hg)

theorem ex_parse (w : World) (hL : LW w) (hsym : SymAt w) : Calls Tryd.prog 6 #[.string { data := #[111, 110, 32, 116, 105, 99, 107, 32, 123, 32, 120, 32, 61, 32, 45, 49, 32, 45, 32, 50, 59, 32, 125] }] w fun e w' =>
    ∃ (A0 A1 A2 A4 : Option Addr) (l0 q0 l1 q1 l2 q2 q3 l4 q4 b o : Nat), e = .returned (.tuple #[.agg #[.slice A0 l0 q0, .slice A1 l1 q1, .slice A2 l2 q2, .slice (some ⟨b, o, none⟩) 1 q3, .slice A4 l4 q4], .int .i64 0, .int .i64 0]) ∧
      w'.cell? ⟨b, o, none⟩ = some (.int .i64 1) ∧ w'.cell? ⟨b, o + 10, none⟩ = some (.int .i64 11) ∧ Below w.heap.size w w' := by
  have h := parse_good (strB exT) w hL hsym exT_good
  refine h.mono ?_
  rintro e w' ⟨v, rfl, hv, hb⟩
  have he : parseS (strB exT).data.toList = (⟨[], [], [], [exSt], []⟩, 0, 0) := exT_parse
  rw [he] at hv ⊢
  obtain ⟨A0, A1, A2, A3, A4, l0, q0, l1, q1, l2, q2, l3, q3, l4, q4, rfl, h0, h1, h2, h3, h4⟩ := hv
  obtain ⟨A, c, hv, hc, hr⟩ := h3
  injection hv with e1 e2 e3
  obtain ⟨b, o, hA, _, hrow⟩ := hr (by simp)
  simp only [StRow] at hrow
  obtain ⟨⟨cs, hcs, hl⟩, _⟩ := hrow
  simp only [exSt, StL] at hl
  obtain ⟨cp, cv, B, c1, B', c2, rfl, hp, hve, _⟩ := hl
  simp only [ex0, ExL] at hp hve
  obtain ⟨_, _, rfl, _⟩ := hp
  obtain ⟨_, _, rfl, _⟩ := hve
  subst e1
  subst hA
  have e2' : l3 = 1 := e2
  subst e2'
  exact ⟨A0, A1, A2, A4, l0, q0, l1, q1, l2, q2, q3, l4, q4, b, o, rfl, hcs 0 _ rfl, hcs 10 _ rfl, hb⟩

set_option maxHeartbeats 2000000 in
set_option maxRecDepth 100000 in
theorem awake2_any (w : World) (hL : LW w) (hsym : SymAt w) : Calls Tryd.prog 5 #[] w fun e w' => e = .returned (.bool true) ∧ Below w.heap.size w w' := by
  have HC := Lib.hid (ex_parse w hL hsym)
  clear hL hsym
  go_enter Tryd.func5, Tryd.ntmps5
  go_wp2_with fail
  refine HC.out.mono ?_
  rintro e w1 ⟨A0, A1, A2, A4, l0, q0, l1, q1, l2, q2, q3, l4, q4, b, o, rfl, c0, c1, hb⟩
  have HB := Lib.hid hb
  have hbs := World.block_lt_of_cell? w1 _ c0
  simp only at hbs
  have hne : b ≠ w1.heap.size := by omega
  clear hb HC
  go_wp2_with fail
  all_goals first
    | (go_ret; exact ⟨rfl, HB.out.alloc HB.out.size _⟩)
    | skip
end Go.Proofs.YtdlnpfocmgclmaaDoor
