/-
  What awake returns: true. Condition: as for Scan.
-/
import Derived.Test.YtaenmaokieomgaaDoorWalkE
namespace Go.Proofs.YtaenmaokieomgaaDoor
open Go.RowKit

def exR : ScanR := ⟨[⟨1, [97], 0, 0⟩, ⟨3, [61, 61], 0, 1⟩, ⟨3, [33], 0, 3⟩, ⟨1, [98], 0, 4⟩], 0, 0⟩
theorem ex_scan : scanS [97, 61, 61, 33, 98, 32, 35, 32, 99] = exR := by kernel_rfl

theorem ex_post (w : World) (hL : LW w) : Calls Tryd.prog 12 #[.string ⟨#[97, 61, 61, 33, 98, 32, 35, 32, 99]⟩] w fun e w' =>
    ∃ g cap, e = .returned (.tuple #[.slice (some ⟨g, 0, none⟩) 4 cap, .int .i64 0, .int .i64 0]) ∧ w'.cell? ⟨g, 15, none⟩ = some (.int .i64 4) ∧ w'.cell? ⟨g, 5, none⟩ = some (.string ⟨#[61, 61]⟩) ∧ Below w.heap.size w w' := by
  have h := scan_any ⟨#[97, 61, 61, 33, 98, 32, 35, 32, 99]⟩ w hL
  rw [show (⟨#[97, 61, 61, 33, 98, 32, 35, 32, 99]⟩ : ByteArray).data.toList = [97, 61, 61, 33, 98, 32, 35, 32, 99] from rfl, ex_scan] at h
  refine h.mono ?_
  rintro e w' ⟨v, rfl, ho, hb⟩
  have hs := tokSlice_of_own ho
  rcases ho.2 with ⟨_, h0⟩ | ⟨g, cap, cur, rfl, _⟩
  · cases h0
  · obtain ⟨A, c, hv, _, h1⟩ := hs
    injection hv with hA _ _
    obtain ⟨b, o, hA', h2⟩ := h1 (by intro h; cases h)
    rw [← hA] at hA'
    injection hA' with hA''
    injection hA'' with e1 e2 _
    subst e1 e2
    exact ⟨g, cap, rfl, (h2 3 _ rfl).2.2.2, (h2 1 _ rfl).2.1, hb⟩

set_option maxHeartbeats 1000000 in
set_option maxRecDepth 100000 in
theorem awake_any (w : World) (hL : LW w) : Calls Tryd.prog 11 #[] w fun e w' => e = .returned (.bool true) ∧ Below w.heap.size w w' := by
  have HL := Lib.hid hL
  clear hL
  go_enter Tryd.func11, Tryd.ntmps11
  go_wp2_with (go_at_call 12; refine (ex_post _ HL.out).mono ?_; rintro e w' ⟨g, cap, rfl, c15, c5, hb⟩; have HB := Lib.hid hb; clear hb)
  go_ret
  exact ⟨rfl, HB.out⟩
end Go.Proofs.YtaenmaokieomgaaDoor
