/-
  Drawn programs are as parsing makes them, not deep and not large, and all their names are declared and stand for what they are declared as. No conditions.
-/
import Derived.Test.YtgkioompcmgmdaaDoorWalkMp
import Derived.Test.YtgkioompcmgmdaaDoorWalkAr
import Derived.Test.YtgkioompcmgmdaaDoorWalkRt
namespace Go.Proofs.YtgkioompcmgmdaaDoor
open Go.RowKit

/-- What the names of a drawn program stand for. -/
def dPl (a b c : Nat) : Pl := (declS (drV a b c)).2.2
/-- The names of a drawn program are in a map. -/
structure DrF (f : Pl) : Prop where
  s : ∀ k, k < 3 → ∃ x, f (nmS k) = some x ∧ ¬ 0 < x.2
  a : ∀ k, k < 2 → ∃ x, f (nmA k) = some x ∧ 0 < x.2

theorem opN_0 : ∀ k : Nat, k < 4 → opN (4 + (k : Int)) = some 0 := by decide +kernel
theorem opN_1 : ∀ k : Nat, k < 2 → opN (8 + (k : Int)) = some 1 := by decide +kernel
theorem opN_2 : ∀ k : Nat, k < 13 → opN (10 + (k : Int)) = some 2 := by decide +kernel
theorem nmS_ok : ∀ k, k < 3 → validS (nmS k) = true ∧ (nmS k).length = 1 := by decide +kernel
theorem nmA_ok : ∀ k, k < 2 → validS (nmA k) = true ∧ (nmA k).length = 1 := by decide +kernel

theorem drE_ok (f : Pl) (hf : DrF f) : ∀ (d : Nat) (e : Ex), drE d e → e.good = true ∧ e.short ∧ e.rok f ∧ e.big + 1 ≤ 2 ^ d ∧ e.deep ≤ d
  | 0, e, h => h.elim
  | d + 1, .mk op v nm sl sz args, h => by
    simp only [drE] at h
    obtain ⟨h1, h2, h⟩ := h
    subst h1 h2
    have hp : 1 ≤ 2 ^ d := Nat.one_le_two_pow
    rcases h with ⟨rfl, h1, h2, rfl, rfl⟩ | ⟨rfl, rfl, ⟨k, hk, rfl⟩, rfl⟩ | ⟨h1, h2, rfl, rfl, rfl⟩ | ⟨rfl, rfl, ⟨k, hk, rfl⟩, e, rfl, h1⟩ | ⟨h1, h2, rfl, rfl, e, rfl, h3⟩ | ⟨h1, h2, rfl, rfl, a, b, rfl, h3, h4⟩
    · refine ⟨?_, ⟨by simp, trivial⟩, ⟨fun h => by omega, fun h => by omega, by simp, trivial⟩, ?_, by simp only [Ex.deep, Ex.deepL]; omega⟩
      · have : ¬ v < 0 := by omega
        simp [Ex.good, nmB, opN, Ex.goodL, this]
      · simp only [Ex.big, Ex.bigL, Nat.pow_succ]; omega
    · obtain ⟨hv, hl⟩ := nmS_ok k hk
      refine ⟨?_, ⟨by omega, trivial⟩, ⟨fun _ => hf.s k hk, fun h => by omega, by omega, trivial⟩, ?_, by simp only [Ex.deep, Ex.deepL]; omega⟩
      · simp [Ex.good, nmB, opN, Ex.goodL, hv]
      · simp only [Ex.big, Ex.bigL, Nat.pow_succ]; omega
    · obtain ⟨k, hk⟩ := Int.eq_ofNat_of_zero_le (show 0 ≤ op - 4 by omega)
      obtain rfl : op = 4 + (k : Int) := by omega
      have ho := opN_0 k (by omega)
      refine ⟨?_, ⟨by simp, trivial⟩, ⟨fun h => by omega, fun h => by omega, by simp, trivial⟩, ?_, by simp only [Ex.deep, Ex.deepL]; omega⟩
      · have e2 : ¬ (4 + (k : Int) = 2) := by omega
        have e3 : ¬ (4 + (k : Int) = 3) := by omega
        simp [Ex.good, nmB, ho, Ex.goodL, e2, e3]
      · simp only [Ex.big, Ex.bigL, Nat.pow_succ]; omega
    · obtain ⟨hv, hl⟩ := nmA_ok k hk
      obtain ⟨g1, g2, g3, g4, g5⟩ := drE_ok f hf d e h1
      refine ⟨?_, ⟨by omega, g2, trivial⟩, ⟨fun h => by omega, fun _ => hf.a k hk, by omega, g3, trivial⟩, ?_, by simp only [Ex.deep, Ex.deepL]; omega⟩
      · simp [Ex.good, nmB, opN, Ex.goodL, hv, g1]
      · simp only [Ex.big, Ex.bigL, Nat.pow_succ]; omega
    · obtain ⟨k, hk⟩ := Int.eq_ofNat_of_zero_le (show 0 ≤ op - 8 by omega)
      obtain rfl : op = 8 + (k : Int) := by omega
      have ho := opN_1 k (by omega)
      obtain ⟨g1, g2, g3, g4, g5⟩ := drE_ok f hf d e h3
      refine ⟨?_, ⟨by simp, g2, trivial⟩, ⟨fun h => by omega, fun h => by omega, by simp, g3, trivial⟩, ?_, by simp only [Ex.deep, Ex.deepL]; omega⟩
      · have e2 : ¬ (8 + (k : Int) = 2) := by omega
        have e3 : ¬ (8 + (k : Int) = 3) := by omega
        simp [Ex.good, nmB, ho, Ex.goodL, e2, e3, g1]
      · simp only [Ex.big, Ex.bigL, Nat.pow_succ]; omega
    · obtain ⟨k, hk⟩ := Int.eq_ofNat_of_zero_le (show 0 ≤ op - 10 by omega)
      obtain rfl : op = 10 + (k : Int) := by omega
      have ho := opN_2 k (by omega)
      obtain ⟨g1, g2, g3, g4, g5⟩ := drE_ok f hf d a h3
      obtain ⟨i1, i2, i3, i4, i5⟩ := drE_ok f hf d b h4
      refine ⟨?_, ⟨by simp, g2, i2, trivial⟩, ⟨fun h => by omega, fun h => by omega, by simp, g3, i3, trivial⟩, ?_, by simp only [Ex.deep, Ex.deepL]; omega⟩
      · have e2 : ¬ (10 + (k : Int) = 2) := by omega
        have e3 : ¬ (10 + (k : Int) = 3) := by omega
        simp [Ex.good, nmB, ho, Ex.goodL, e2, e3, g1, i1]
      · simp only [Ex.big, Ex.bigL, Nat.pow_succ]; omega

/-- What holds of a list of statements as of each. -/
theorem drL_ok (f : Pl) (N D : Nat) : ∀ (l : List St), (∀ s ∈ l, s.goodR = true ∧ s.shortR ∧ s.rok f ∧ s.big ≤ N ∧ s.deep ≤ D) → St.goodRL l = true ∧ St.shortRL l ∧ St.rokL f l ∧ St.bigL l ≤ l.length * N ∧ St.deepL l ≤ D
  | [], _ => ⟨rfl, trivial, trivial, by simp [St.bigL], by simp [St.deepL]⟩
  | s :: r, h => by
    obtain ⟨h1, h2, h3, h4, h5⟩ := h s (List.mem_cons_self ..)
    obtain ⟨g1, g2, g3, g4, g5⟩ := drL_ok f N D r fun s hs => h s (List.mem_cons_of_mem _ hs)
    refine ⟨by simp [St.goodRL, h1, g1], ⟨h2, g2⟩, ⟨h3, g3⟩, ?_, by simp only [St.deepL]; omega⟩
    simp only [St.bigL, List.length_cons, Nat.succ_mul]
    omega

theorem ex0_ok (f : Pl) : ex0.short ∧ ex0.rok f ∧ ex0.big = 1 ∧ ex0.deep = 1 := ⟨⟨by simp, trivial⟩, ⟨fun h => by omega, fun h => by omega, by simp, trivial⟩, rfl, rfl⟩

/-- How large a drawn statement of a depth is at the most. -/
def dBig : Nat → Nat
  | 0 => 0
  | d + 1 => 20 + 3 * dBig d
theorem drS_ok (f : Pl) (hf : DrF f) : ∀ (d : Nat) (s : St), drS d s → s.goodR = true ∧ s.shortR ∧ s.rok f ∧ s.big ≤ dBig d ∧ s.deep ≤ d + 3
  | 0, s, h => h.elim
  | d + 1, .mk kind nm sl sz place value body els, h => by
    simp only [drS] at h
    obtain ⟨h1, h2, h⟩ := h
    subst h1 h2
    obtain ⟨x1, x2, x3, x4⟩ := ex0_ok f
    rcases h with ⟨rfl, ⟨k, hk, rfl⟩, rfl, hv, rfl, rfl⟩ | ⟨rfl, ⟨k, hk, rfl⟩, hp, hv, rfl, rfl⟩ | ⟨rfl, rfl, hp, hv, rfl, rfl⟩ | ⟨rfl, rfl, rfl, hv, rfl, rfl⟩ | ⟨rfl, rfl, rfl, hv, ⟨hbl, hb⟩, hel, he⟩ | ⟨rfl, rfl, rfl, hv, ⟨hbl, hb⟩, rfl⟩
    · obtain ⟨hvl, hl⟩ := nmS_ok k hk
      obtain ⟨g1, g2, g3, g4, g5⟩ := drE_ok f hf 3 value hv
      refine ⟨?_, ⟨⟨by omega, x1, g2⟩, trivial, trivial⟩, ⟨fun _ => hf.s k hk, fun h => by omega, by omega, x2, g3, trivial, trivial⟩, ?_, ?_⟩
      · simp [St.goodR, St.good1, St.goodRL, nmB, hvl, g1, ex0]
      · simp only [St.big, St.bigL, dBig, x3]; omega
      · simp only [St.deep, St.deepL, x4]; omega
    · obtain ⟨hvl, hl⟩ := nmA_ok k hk
      obtain ⟨g1, g2, g3, g4, g5⟩ := drE_ok f hf 2 value hv
      obtain ⟨i1, i2, i3, i4, i5⟩ := drE_ok f hf 2 place hp
      refine ⟨?_, ⟨⟨by omega, i2, g2⟩, trivial, trivial⟩, ⟨fun h => by omega, fun _ => hf.a k hk, by omega, i3, g3, trivial, trivial⟩, ?_, ?_⟩
      · simp [St.goodR, St.good1, St.goodRL, nmB, hvl, g1, i1]
      · simp only [St.big, St.bigL, dBig]; omega
      · simp only [St.deep, St.deepL]; omega
    · obtain ⟨g1, g2, g3, g4, g5⟩ := drE_ok f hf 2 value hv
      obtain ⟨i1, i2, i3, i4, i5⟩ := drE_ok f hf 2 place hp
      refine ⟨?_, ⟨⟨by simp, i2, g2⟩, trivial, trivial⟩, ⟨fun h => by omega, fun h => by omega, by simp, i3, g3, trivial, trivial⟩, ?_, ?_⟩
      · simp [St.goodR, St.good1, St.goodRL, nmB, g1, i1]
      · simp only [St.big, St.bigL, dBig]; omega
      · simp only [St.deep, St.deepL]; omega
    · obtain ⟨g1, g2, g3, g4, g5⟩ := drE_ok f hf 2 value hv
      refine ⟨?_, ⟨⟨by simp, x1, g2⟩, trivial, trivial⟩, ⟨fun h => by omega, fun h => by omega, by simp, x2, g3, trivial, trivial⟩, ?_, ?_⟩
      · simp [St.goodR, St.good1, St.goodRL, nmB, g1, ex0]
      · simp only [St.big, St.bigL, dBig, x3]; omega
      · simp only [St.deep, St.deepL, x4]; omega
    · obtain ⟨g1, g2, g3, g4, g5⟩ := drE_ok f hf 2 value hv
      obtain ⟨b1, b2, b3, b4, b5⟩ := drL_ok f (dBig d) (d + 3) body fun s hs => drS_ok f hf d s (hb s hs)
      obtain ⟨e1, e2, e3, e4, e5⟩ := drL_ok f (dBig d) (d + 3) els fun s hs => drS_ok f hf d s (he s hs)
      have hb4 : St.bigL body ≤ 2 * dBig d := Nat.le_trans b4 (Nat.mul_le_mul_right _ hbl)
      have he4 : St.bigL els ≤ 1 * dBig d := Nat.le_trans e4 (Nat.mul_le_mul_right _ hel)
      refine ⟨?_, ⟨⟨by simp, x1, g2⟩, b2, e2⟩, ⟨fun h => by omega, fun h => by omega, by simp, x2, g3, b3, e3⟩, ?_, ?_⟩
      · simp [St.goodR, St.good1, nmB, g1, ex0, b1, e1]
      · simp only [St.big, dBig, x3]; omega
      · simp only [St.deep, x4]; omega
    · obtain ⟨g1, g2, g3, g4, g5⟩ := drE_ok f hf 2 value hv
      obtain ⟨b1, b2, b3, b4, b5⟩ := drL_ok f (dBig d) (d + 3) body fun s hs => drS_ok f hf d s (hb s hs)
      have hb4 : St.bigL body ≤ 2 * dBig d := Nat.le_trans b4 (Nat.mul_le_mul_right _ hbl)
      refine ⟨?_, ⟨⟨by simp, x1, g2⟩, b2, trivial⟩, ⟨fun h => by omega, fun h => by omega, by simp, x2, g3, b3, trivial⟩, ?_, ?_⟩
      · simp [St.goodR, St.good1, St.goodRL, nmB, g1, ex0, b1]
      · simp only [St.big, St.bigL, dBig, x3]; omega
      · simp only [St.deep, St.deepL, x4]; omega

def drVB (a b c : Nat) : Bool := decide ((declS (drV a b c)).1 = 0) && decide ((declS (drV a b c)).2.1 = [(a : Int) - 2] ++ List.replicate (1 + b) 0 ++ [0, (c : Int), 0, 0]) && (drV a b c).all varOK &&
    decide (dPl a b c [120] = some (0, 0)) && decide (dPl a b c [97] = some (1, 1 + (b : Int))) && decide (dPl a b c [121] = some (2 + (b : Int), 0)) && decide (dPl a b c [122] = some (3 + (b : Int), 0)) && decide (dPl a b c [98] = some (4 + (b : Int), 2))
theorem drV_all : ((List.range 7).all fun a => (List.range 5).all fun b => (List.range 3).all fun c => drVB a b c) = true := by decide +kernel
theorem drV_names (a : Nat) (ha : a < 7) (b : Nat) (hb : b < 5) (c : Nat) (hc : c < 3) : (declS (drV a b c)).1 = 0 ∧ (declS (drV a b c)).2.1 = [(a : Int) - 2] ++ List.replicate (1 + b) 0 ++ [0, (c : Int), 0, 0] ∧ (drV a b c).all varOK = true ∧
    dPl a b c [120] = some (0, 0) ∧ dPl a b c [97] = some (1, 1 + (b : Int)) ∧ dPl a b c [121] = some (2 + (b : Int), 0) ∧ dPl a b c [122] = some (3 + (b : Int), 0) ∧ dPl a b c [98] = some (4 + (b : Int), 2) := by
  have h := List.all_eq_true.1 (List.all_eq_true.1 (List.all_eq_true.1 drV_all a (List.mem_range.2 ha)) b (List.mem_range.2 hb)) c (List.mem_range.2 hc)
  simp only [drVB, Bool.and_eq_true, decide_eq_true_eq, and_assoc] at h
  exact h
theorem drV_f {a b c : Nat} (ha : a < 7) (hb : b < 5) (hc : c < 3) : DrF (dPl a b c) := by
  obtain ⟨_, _, _, h1, h2, h3, h4, h5⟩ := drV_names a ha b hb c hc
  refine ⟨fun k hk => ?_, fun k hk => ?_⟩
  · match k, hk with
    | 0, _ => exact ⟨_, h1, by simp⟩
    | 1, _ => exact ⟨_, h3, by simp⟩
    | 2, _ => exact ⟨_, h4, by simp⟩
  · match k, hk with
    | 0, _ => exact ⟨_, h2, by simp only; omega⟩
    | 1, _ => exact ⟨_, h5, by simp⟩
end Go.Proofs.YtgkioompcmgmdaaDoor
