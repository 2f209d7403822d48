/-
  The walk of the law TokenScans: it returns true for every text, and leaves memory below its own blocks as it was. Condition: the library variables ErrRange and uint64pow10 hold what start-up laid.
-/
import Derived.Test.YtaenmaokieomgaaDoorWalkW
namespace Go.Proofs.YtaenmaokieomgaaDoor
open Go.RowKit

theorem scan_len {s : ByteArray} {R : ScanR} (h : scanS s.data.toList = R) : R.toks.length ≤ 100000 := by
  have := (scanS_len s.data.toList).1
  rw [h] at this
  omega

theorem scan_at (s : ByteArray) (w : World) (hL : LW w) (R : ScanR) (h : scanS s.data.toList = R) : Calls Tryd.prog 12 #[.string s] w fun e w' =>
    ∃ v, e = .returned (.tuple #[v, .int .i64 R.off, .int .i64 R.err]) ∧ TokSlice w' v R.toks ∧ Below w.heap.size w w' := by
  subst h
  exact (scan_any s w hL).mono fun e w' ⟨v, he, ho, hb⟩ => ⟨v, he, tokSlice_of_own ho, hb⟩
theorem rscan_at (s : ByteArray) (w : World) (R : ScanR) (h : scanS s.data.toList = R) : Calls Tryd.prog 13 #[.string s] w fun e w' =>
    ∃ v, e = .returned (.tuple #[v, .int .i64 R.off, .int .i64 R.err]) ∧ TokSlice w' v R.toks ∧ Below w.heap.size w w' := by
  subst h
  exact (rscan_any s w).mono fun e w' ⟨v, he, ho, hb⟩ => ⟨v, he, tokSlice_of_own ho, hb⟩

set_option maxHeartbeats 1000000 in
set_option maxRecDepth 100000 in
theorem tokenScans_any (s : ByteArray) (w : World) (_hs : s.size ≤ maxLen) (hL : LW w) : Calls Tryd.prog 3 #[.string s] w fun e w' => e = .returned (.bool true) ∧ Below w.heap.size w w' := by
  obtain ⟨R, hR⟩ : ∃ R, scanS s.data.toList = R := ⟨_, rfl⟩
  have HR := Lib.hid hR
  have HN := Lib.hid (scan_len hR)
  have HL := Lib.hid hL
  obtain ⟨ts, off, err⟩ := R
  clear hR hL
  go_enter Tryd.func3, Tryd.ntmps3
  go_wp2_with (go_at_call 11; refine (awake_any _ HL.out).mono ?_; rintro e w1 ⟨rfl, hb⟩; have HB1 := Lib.hid hb; clear hb)
  have HL1 := Lib.hid (HL.out.below HB1.out HL.out.big)
  go_wp2_with (go_at_call 12; refine (scan_at s _ HL1.out _ HR.out).mono ?_; rintro e w2 ⟨v, rfl, hs, hb⟩; have HS1 := Lib.hid hs; have HB2 := Lib.hid hb; clear hb hs)
  go_wp2_with (go_at_call 13; refine (rscan_at s _ _ HR.out).mono ?_; rintro e w3 ⟨v', rfl, hs, hb⟩; have HS2 := Lib.hid hs; have HS3 := Lib.hid (HS1.out.below hb); have HB3 := Lib.hid hb; clear hb hs)
  go_wp2_with (go_at_call 14; refine (requal_any _ _ _ _ HN.out HS3.out HS2.out).mono ?_; rintro e w4 ⟨rfl, m, rfl⟩)
  go_ret
  refine ⟨rfl, ?_⟩
  have h1 := HB1.out
  have h2 := h1.trans (HB2.out.mono h1.size)
  have h3 := h2.trans (HB3.out.mono h2.size)
  exact below_drewN h3 m
end Go.Proofs.YtaenmaokieomgaaDoor
