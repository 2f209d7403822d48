/-
  What Cost returns, of package image and of the document's answer: the number of all cells in pages. Condition: at most 1000000 cells.
-/
import Derived.Test.YtkhaapdokhhbdaaWalkPm
namespace Go.Proofs.Ytkhaapdokhhbdaa
open Go.RowKit

theorem cost_le (ps : List Pg) (k : Nat) : costS (ps.take k) ≤ costS ps := by
  have h := costS_app (ps.take k) (ps.drop k)
  rw [List.take_append_drop] at h
  omega
theorem cost_step {ps : List Pg} {k : Nat} {p : Pg} (h : ps[k]? = some p) : costS (ps.take (k + 1)) = costS (ps.take k) + p.2.length := by
  rw [List.take_add_one, h, costS_app]
  simp [costS]

set_option maxHeartbeats 1000000 in
set_option maxRecDepth 100000 in
theorem cost_any {S : Nat → Prop} (ps : List Pg) (A : Option Addr) (n c : Nat) (w : World) (h1 : PgAt S w ps A n) (hc : costS ps ≤ 1000000) :
    Calls Try.prog 15 #[.slice A n c] w fun e w' => e = .returned (.int .i64 (costS ps : Nat)) ∧ Below w.heap.size w w' := by
  have HN := Lib.hid h1.1
  have hii : (n : Int) ≤ 9223372036854775807 := by have := h1.2.1; omega
  have HX := Lib.hid h1
  have HC := Lib.hid hc
  obtain ⟨R, hR⟩ : ∃ R, costS ps = R := ⟨_, rfl⟩
  rw [hR]
  have HR := Lib.hid hR
  clear h1 hc hR
  go_enter Try.func15, Try.ntmps15
  go_wp2_with fail
  go_loopg [3, 8] n (fun g sm i wr => ∃ k s : Nat, k + g = n ∧ i = .int .i64 k ∧ sm = .int .i64 (s : Nat) ∧ Hid (costS (ps.take k) = s) ∧ Hid (Below w.heap.size w wr))
  case atStart => exact ⟨0, 0, by omega, rfl, rfl, by show _ = _; simp [costS], Below.refl _ _⟩
  case round =>
    obtain ⟨k, s, hkg, rfl, rfl, HS, HB⟩ := hrel
    cases gk with
    | zero =>
      have hkn : k = n := by omega
      subst hkn
      have hnl : ¬ (k : Int) < (k : Int) := by omega
      obtain rfl : R = s := by rw [← HS.out, ← HR.out, List.take_of_length_le (by have := HN.out; omega)]
      clear hkg
      go_wp2_with fail
      go_ret
      exact ⟨rfl, HB.out⟩
    | succ g =>
      have hlt : k < n := by omega
      have hlt' : (k : Int) < (n : Int) := by omega
      have hk0 : (0 : Int) ≤ (k : Int) := by omega
      have HG := Lib.hid hkg
      obtain ⟨b1, o1, p, A1, c1, rfl, hp, f1, f2, _, hz1⟩ := (HX.out.belowS HB.out).get hlt
      have hs1 := cost_le ps (k + 1)
      have hs2 := cost_step hp
      have hs3 := HS.out
      have hs4 := HC.out
      obtain ⟨pn, pc⟩ := p
      simp only at f1 f2 hz1 hs2
      obtain ⟨l1, hl1⟩ : ∃ x, pc.length = x := ⟨_, rfl⟩
      rw [hl1] at f2 hs2
      have hsb : s + l1 ≤ 1000000 := by omega
      have HS2 : Hid (costS (ps.take (k + 1)) = s + l1) := by show _ = _; omega
      clear hkg hp hz1 hl1 hs1 hs2 hs3 hs4
      go_wp2_with fail
      go_roundg g
      case rel => exact ⟨k + 1, s + l1, by have := HG.out; omega, by go_num, by go_num, HS2, HB.out.alloc HB.out.size _⟩
      case measure => omega

set_option maxHeartbeats 1000000 in
set_option maxRecDepth 100000 in
theorem rcost_any {S : Nat → Prop} (ps : List Pg) (A : Option Addr) (n c : Nat) (w : World) (h1 : PgAt S w ps A n) (hc : costS ps ≤ 1000000) :
    Calls Try.prog 16 #[.slice A n c] w fun e w' => e = .returned (.int .i64 (costS ps : Nat)) ∧ Below w.heap.size w w' := by
  have HN := Lib.hid h1.1
  have hii : (n : Int) ≤ 9223372036854775807 := by have := h1.2.1; omega
  have HX := Lib.hid h1
  have HC := Lib.hid hc
  obtain ⟨R, hR⟩ : ∃ R, costS ps = R := ⟨_, rfl⟩
  rw [hR]
  have HR := Lib.hid hR
  clear h1 hc hR
  go_enter Try.func16, Try.ntmps16
  go_wp2_with fail
  go_loopg [3, 4] n (fun g sm i wr => ∃ k s : Nat, k + g = n ∧ i = .int .i64 k ∧ sm = .int .i64 (s : Nat) ∧ Hid (costS (ps.take k) = s) ∧ Hid (Below w.heap.size w wr))
  case atStart => exact ⟨0, 0, by omega, rfl, rfl, by show _ = _; simp [costS], Below.refl _ _⟩
  case round =>
    obtain ⟨k, s, hkg, rfl, rfl, HS, HB⟩ := hrel
    cases gk with
    | zero =>
      have hkn : k = n := by omega
      subst hkn
      have hnl : ¬ (k : Int) < (k : Int) := by omega
      obtain rfl : R = s := by rw [← HS.out, ← HR.out, List.take_of_length_le (by have := HN.out; omega)]
      clear hkg
      go_wp2_with fail
      go_ret
      exact ⟨rfl, HB.out⟩
    | succ g =>
      have hlt : k < n := by omega
      have hlt' : (k : Int) < (n : Int) := by omega
      have hk0 : (0 : Int) ≤ (k : Int) := by omega
      have HG := Lib.hid hkg
      obtain ⟨b1, o1, p, A1, c1, rfl, hp, f1, f2, _, hz1⟩ := (HX.out.belowS HB.out).get hlt
      have hs1 := cost_le ps (k + 1)
      have hs2 := cost_step hp
      have hs3 := HS.out
      have hs4 := HC.out
      obtain ⟨pn, pc⟩ := p
      simp only at f1 f2 hz1 hs2
      obtain ⟨l1, hl1⟩ : ∃ x, pc.length = x := ⟨_, rfl⟩
      rw [hl1] at f2 hs2
      have hsb : s + l1 ≤ 1000000 := by omega
      have HS2 : Hid (costS (ps.take (k + 1)) = s + l1) := by show _ = _; omega
      clear hkg hp hz1 hl1 hs1 hs2 hs3 hs4
      go_wp2_with fail
      go_roundg g
      case rel => exact ⟨k + 1, s + l1, by have := HG.out; omega, by go_num, by go_num, HS2, HB.out⟩
      case measure => omega
end Go.Proofs.Ytkhaapdokhhbdaa
