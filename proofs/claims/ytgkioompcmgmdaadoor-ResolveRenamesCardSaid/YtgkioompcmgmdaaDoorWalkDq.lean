/-
  What Depth of package syntax returns. Condition: the program has at most 100000 parts.
-/
import Derived.Test.YtgkioompcmgmdaaDoorWalkDb
namespace Go.Proofs.YtgkioompcmgmdaaDoor
open Go.RowKit

section
variable (A1 A2 A3 A4 : Option Addr) (l1 l2 l3 l4 c1 c2 c3 c4 : Nat)
def hA : Nat → Option Addr | 0 => A1 | 1 => A2 | 2 => A3 | _ => A4
def hN (x1 x2 x3 x4 : Nat) : Nat → Nat | 0 => x1 | 1 => x2 | 2 => x3 | _ => x4
theorem hand_index2 : ∀ (k : Nat) (_ : k < 4) (w : World), (Instr.index 79 (.agg #[.string ⟨#[115, 116, 97, 114, 116]⟩, .slice A1 l1 c1, .string ⟨#[109, 101, 115, 115, 97, 103, 101]⟩, .slice A2 l2 c2, .string ⟨#[116, 105, 99, 107]⟩, .slice A3 l3 c3, .string ⟨#[105, 110, 112, 117, 116]⟩, .slice A4 l4 c4]) (.int .i64 k)).run Tryd.prog w = .ok (.agg #[.string (strB (hWord k)), .slice (hA A1 A2 A3 A4 k) (hN l1 l2 l3 l4 k) (hN c1 c2 c3 c4 k)]) w
  | 0, _, _ => by kernel_rfl
  | 1, _, _ => by kernel_rfl
  | 2, _, _ => by kernel_rfl
  | 3, _, _ => by kernel_rfl
  | k + 4, h, _ => absurd h (by omega)
end
def hB (p : Pr) : Nat → List St | 0 => p.start | 1 => p.message | 2 => p.tick | _ => p.input
def pd (p : Pr) : Nat → Nat | 0 => 0 | k + 1 => max (pd p k) (St.deepL (hB p k))
theorem pd_four (p : Pr) : pd p 4 = p.deep := by simp only [pd, hB, Pr.deep]; omega
theorem pd_le (p : Pr) : ∀ k, k ≤ 4 → pd p k ≤ p.deep
  | 0, _ => by simp only [pd]; omega
  | 1, _ => by simp only [pd, hB, Pr.deep]; omega
  | 2, _ => by simp only [pd, hB, Pr.deep]; omega
  | 3, _ => by simp only [pd, hB, Pr.deep]; omega
  | 4, _ => by rw [pd_four]; omega
  | k + 5, h => by omega
theorem deep_big (p : Pr) : p.deep ≤ p.big := by
  unfold Pr.deep Pr.big
  have := St.deepL_big p.start
  have := St.deepL_big p.message
  have := St.deepL_big p.tick
  have := St.deepL_big p.input
  omega
theorem hB_big (p : Pr) : ∀ k, St.bigL (hB p k) ≤ p.big
  | 0 => by simp only [hB, Pr.big]; omega
  | 1 => by simp only [hB, Pr.big]; omega
  | 2 => by simp only [hB, Pr.big]; omega
  | k + 3 => by simp only [hB, Pr.big]; omega

set_option maxHeartbeats 2000000 in
set_option maxRecDepth 100000 in
theorem depth_any (p : Pr) (hbig : p.big ≤ 100000) (S : Nat → Prop) (w : World) (A0 A1 A2 A3 A4 : Option Addr) (l0 l1 l2 l3 l4 c0 c1 c2 c3 c4 : Nat) (hp : PrAt S w p (.slice A0 l0 c0) (.slice A1 l1 c1) (.slice A2 l2 c2) (.slice A3 l3 c3) (.slice A4 l4 c4)) :
    Calls Tryd.prog 31 #[.agg #[.slice A0 l0 c0, .slice A1 l1 c1, .slice A2 l2 c2, .slice A3 l3 c3, .slice A4 l4 c4]] w fun e w' => e = .returned (.int .i64 p.deep) ∧ Below w.heap.size w w' := by
  have HP : Hid (∀ k, k < 4 → StSlice S w (hB p k) (.slice (hA A1 A2 A3 A4 k) (hN l1 l2 l3 l4 k) (hN c1 c2 c3 c4 k))) := by
    intro k hk
    obtain ⟨_, h1, h2, h3, h4⟩ := hp
    match k, hk with
    | 0, _ => exact h1
    | 1, _ => exact h2
    | 2, _ => exact h3
    | 3, _ => exact h4
  have HBG := Lib.hid hbig
  clear hp hbig
  go_enter Tryd.func31, Tryd.ntmps31
  go_wp2_with fail
  refine (handlers_any _ _ _ _ _ _ _ _ _ _ _ _ _ _ _ _).mono ?_
  rintro e w1 ⟨rfl, hb⟩
  have HB1 : Hid (Below w.heap.size w w1) := ((Below.refl _ _).alloc (Nat.le_refl _) _).trans (hb.mono (by simp only [new_size]; omega))
  clear hb
  go_wp2_with fail
  go_loopg [3, 8] 4 (fun g dv i wr => ∃ k : Nat, k + g = 4 ∧ i = .int .i64 k ∧ dv = .int .i64 (pd p k) ∧ Below w.heap.size w wr)
  case atStart => exact ⟨0, rfl, rfl, rfl, HB1.out⟩
  case round =>
    obtain ⟨k, hkg, rfl, rfl, hb⟩ := hrel
    have HB := Lib.hid hb
    clear hb
    cases gk with
    | zero =>
      have hge : 4 ≤ k := by omega
      have HK : Hid (k = 4) := by show _ = _; omega
      clear hkg
      go_wp2_with fail
      go_ret
      exact ⟨ret_int (by rw [HK.out, pd_four]), HB.out⟩
    | succ g =>
      have hlt : k < 4 := by omega
      have HG := Lib.hid hkg
      clear hkg
      have hi := hand_index2 A1 A2 A3 A4 l1 l2 l3 l4 c1 c2 c3 c4 k hlt
      obtain ⟨B, hB'⟩ : ∃ x, hA A1 A2 A3 A4 k = x := ⟨_, rfl⟩
      obtain ⟨bl, hbl⟩ : ∃ x, hN l1 l2 l3 l4 k = x := ⟨_, rfl⟩
      obtain ⟨bc, hbc⟩ : ∃ x, hN c1 c2 c3 c4 k = x := ⟨_, rfl⟩
      have HS := Lib.hid (HP.out k hlt)
      rw [hB', hbl, hbc] at hi HS
      clear hB' hbl hbc
      go_wp2_with fail
      clear hi
      refine (bodyDepth_all _ (hB p k) (Nat.le_refl _) (Nat.le_trans (hB_big p k) HBG.out) S _ _ _ _ (StSlice.still HS.out (fun b hSb hbl => ⟨hSb, (alloc_blk wr _ (by have := HB.out.size; omega)).trans (HB.out.block b hbl)⟩))).mono ?_
      rintro e w2 ⟨rfl, hb⟩
      have HB2 := Lib.hid ((HB.out.alloc HB.out.size _).trans (hb.mono (by rw [new_size]; have := HB.out.size; omega)))
      clear hb
      go_wp2_with fail
      all_goals
        go_roundg g
        case rel => exact ⟨k + 1, by have := HG.out; omega, by go_num, congrArg (Value.int .i64) (by simp only [pd]; omega), HB2.out⟩
        case measure => omega
end Go.Proofs.YtgkioompcmgmdaaDoor
