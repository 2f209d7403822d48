/-
  Drawn programs with other names are as parsing makes them, not deep and not large, all their names are declared, and they stand for the same places. No conditions.
-/
import Derived.Test.YtgkioompcmgmdaaDoorWalkPj
import Derived.Test.YtgkioompcmgmdaaDoorWalkRn
namespace Go.Proofs.YtgkioompcmgmdaaDoor
open Go.RowKit

/-- A declaration with another name. -/
def renV (l : List Vr) : List Vr := l.map fun v => ⟨renN v.name, v.size, v.init⟩
/-- What the names of a drawn program with other names stand for. -/
def nPl (a b c : Nat) : Pl := (declS (renV (drV a b c))).2.2
/-- The names stand for the same, under other names. -/
structure DrN (f g : Pl) : Prop where
  s : ∀ k, k < 3 → g (renN (nmS k)) = f (nmS k)
  a : ∀ k, k < 2 → g (renN (nmA k)) = f (nmA k)
theorem rnS_ok : ∀ k, k < 3 → validS (renN (nmS k)) = true ∧ (renN (nmS k)).length = 3 := by decide +kernel
theorem rnA_ok : ∀ k, k < 2 → validS (renN (nmA k)) = true ∧ (renN (nmA k)).length = 3 := by decide +kernel

theorem drE_rn (f g : Pl) (hf : DrF f) (hn : DrN f g) : ∀ (d : Nat) (e : Ex), drE d e → e.ren.good = true ∧ e.ren.short ∧ e.ren.rok g ∧ e.ren.big + 1 ≤ 2 ^ d ∧ e.ren.deep ≤ d ∧ e.ren.res g = (e.res f).ren ∧ (e.res f).short
  | 0, e, h => h.elim
  | d + 1, .mk op v nm sl sz args, h => by
    simp only [drE] at h
    obtain ⟨h1, h2, h⟩ := h
    subst h1 h2
    have hp : 1 ≤ 2 ^ d := Nat.one_le_two_pow
    have r0 : renN [] = [] := rfl
    rcases h with ⟨rfl, h1, h2, rfl, rfl⟩ | ⟨rfl, rfl, ⟨k, hk, rfl⟩, rfl⟩ | ⟨h1, h2, rfl, rfl, rfl⟩ | ⟨rfl, rfl, ⟨k, hk, rfl⟩, e, rfl, h1⟩ | ⟨h1, h2, rfl, rfl, e, rfl, h3⟩ | ⟨h1, h2, rfl, rfl, a, b, rfl, h3, h4⟩
    · refine ⟨?_, ⟨by simp [r0], trivial⟩, ⟨fun h => by omega, fun h => by omega, by simp [r0], trivial⟩, ?_, by simp only [Ex.ren, Ex.renL, Ex.deep, Ex.deepL]; omega, ?_, ?_⟩
      · have : ¬ v < 0 := by omega
        simp [Ex.ren, Ex.renL, r0, Ex.good, nmB, opN, Ex.goodL, this]
      · simp only [Ex.ren, Ex.renL, Ex.big, Ex.bigL, Nat.pow_succ]; omega
      · simp [Ex.ren, Ex.renL, Ex.res, Ex.resL]
      · simp [Ex.res, Ex.resL, Ex.short, Ex.shortL]
    · obtain ⟨hv, hl⟩ := rnS_ok k hk
      obtain ⟨hv', hl'⟩ := nmS_ok k hk
      have hq := hn.s k hk
      refine ⟨?_, ⟨by omega, trivial⟩, ⟨fun _ => by rw [hq]; exact hf.s k hk, fun h => by omega, by omega, trivial⟩, ?_, by simp only [Ex.ren, Ex.renL, Ex.deep, Ex.deepL]; omega, ?_, ?_⟩
      · simp [Ex.ren, Ex.renL, Ex.good, nmB, opN, Ex.goodL, hv]
      · simp only [Ex.ren, Ex.renL, Ex.big, Ex.bigL, Nat.pow_succ]; omega
      · simp [Ex.ren, Ex.renL, Ex.res, Ex.resL, hq]
      · simp [Ex.res, Ex.resL, Ex.short, Ex.shortL, hl']
    · obtain ⟨k, hk⟩ := Int.eq_ofNat_of_zero_le (show 0 ≤ op - 4 by omega)
      obtain rfl : op = 4 + (k : Int) := by omega
      have ho := opN_0 k (by omega)
      have e2 : ¬ (4 + (k : Int) = 2) := by omega
      have e3 : ¬ (4 + (k : Int) = 3) := by omega
      refine ⟨?_, ⟨by simp [r0], trivial⟩, ⟨fun h => by omega, fun h => by omega, by simp [r0], trivial⟩, ?_, by simp only [Ex.ren, Ex.renL, Ex.deep, Ex.deepL]; omega, ?_, ?_⟩
      · simp [Ex.ren, Ex.renL, r0, Ex.good, nmB, ho, Ex.goodL, e2, e3]
      · simp only [Ex.ren, Ex.renL, Ex.big, Ex.bigL, Nat.pow_succ]; omega
      · simp [Ex.ren, Ex.renL, Ex.res, Ex.resL, e2, e3]
      · simp [Ex.res, Ex.resL, Ex.short, Ex.shortL, e2, e3]
    · obtain ⟨hv, hl⟩ := rnA_ok k hk
      obtain ⟨hv', hl'⟩ := nmA_ok k hk
      have hq := hn.a k hk
      obtain ⟨g1, g2, g3, g4, g5, g6, g7⟩ := drE_rn f g hf hn d e h1
      refine ⟨?_, ⟨by omega, g2, trivial⟩, ⟨fun h => by omega, fun _ => by rw [hq]; exact hf.a k hk, by omega, g3, trivial⟩, ?_, by simp only [Ex.ren, Ex.renL, Ex.deep, Ex.deepL]; omega, ?_, ?_⟩
      · simp [Ex.ren, Ex.renL, Ex.good, nmB, opN, Ex.goodL, hv, g1]
      · simp only [Ex.ren, Ex.renL, Ex.big, Ex.bigL, Nat.pow_succ]; omega
      · simp [Ex.ren, Ex.renL, Ex.res, Ex.resL, hq, g6]
      · simp [Ex.res, Ex.resL, Ex.short, Ex.shortL, hl', g7]
    · obtain ⟨k, hk⟩ := Int.eq_ofNat_of_zero_le (show 0 ≤ op - 8 by omega)
      obtain rfl : op = 8 + (k : Int) := by omega
      have ho := opN_1 k (by omega)
      have e2 : ¬ (8 + (k : Int) = 2) := by omega
      have e3 : ¬ (8 + (k : Int) = 3) := by omega
      obtain ⟨g1, g2, g3, g4, g5, g6, g7⟩ := drE_rn f g hf hn d e h3
      refine ⟨?_, ⟨by simp [r0], g2, trivial⟩, ⟨fun h => by omega, fun h => by omega, by simp [r0], g3, trivial⟩, ?_, by simp only [Ex.ren, Ex.renL, Ex.deep, Ex.deepL]; omega, ?_, ?_⟩
      · simp [Ex.ren, Ex.renL, r0, Ex.good, nmB, ho, Ex.goodL, e2, e3, g1]
      · simp only [Ex.ren, Ex.renL, Ex.big, Ex.bigL, Nat.pow_succ]; omega
      · simp [Ex.ren, Ex.renL, Ex.res, Ex.resL, e2, e3, g6]
      · simp [Ex.res, Ex.resL, Ex.short, Ex.shortL, e2, e3, g7]
    · obtain ⟨k, hk⟩ := Int.eq_ofNat_of_zero_le (show 0 ≤ op - 10 by omega)
      obtain rfl : op = 10 + (k : Int) := by omega
      have ho := opN_2 k (by omega)
      have e2 : ¬ (10 + (k : Int) = 2) := by omega
      have e3 : ¬ (10 + (k : Int) = 3) := by omega
      obtain ⟨g1, g2, g3, g4, g5, g6, g7⟩ := drE_rn f g hf hn d a h3
      obtain ⟨i1, i2, i3, i4, i5, i6, i7⟩ := drE_rn f g hf hn d b h4
      refine ⟨?_, ⟨by simp [r0], g2, i2, trivial⟩, ⟨fun h => by omega, fun h => by omega, by simp [r0], g3, i3, trivial⟩, ?_, by simp only [Ex.ren, Ex.renL, Ex.deep, Ex.deepL]; omega, ?_, ?_⟩
      · simp [Ex.ren, Ex.renL, r0, Ex.good, nmB, ho, Ex.goodL, e2, e3, g1, i1]
      · simp only [Ex.ren, Ex.renL, Ex.big, Ex.bigL, Nat.pow_succ]; omega
      · simp [Ex.ren, Ex.renL, Ex.res, Ex.resL, e2, e3, g6, i6]
      · simp [Ex.res, Ex.resL, Ex.short, Ex.shortL, e2, e3, g7, i7]

/-- What holds of a statement under other names. -/
def StN (f g : Pl) (N D : Nat) (s : St) : Prop := s.rnm.goodR = true ∧ s.rnm.shortR ∧ s.rnm.rok g ∧ s.rnm.big ≤ N ∧ s.rnm.deep ≤ D ∧ s.rnm.res g = (s.res f).rnm ∧ (s.res f).shortR
/-- What holds of a list of statements as of each. -/
theorem drL_rn (f g : Pl) (N D : Nat) : ∀ (l : List St), (∀ s ∈ l, StN f g N D s) → St.goodRL (St.rnmL l) = true ∧ St.shortRL (St.rnmL l) ∧ St.rokL g (St.rnmL l) ∧ St.bigL (St.rnmL l) ≤ l.length * N ∧ St.deepL (St.rnmL l) ≤ D ∧ St.resL g (St.rnmL l) = St.rnmL (St.resL f l) ∧ St.shortRL (St.resL f l)
  | [], _ => ⟨rfl, trivial, trivial, by simp [St.rnmL, St.bigL], by simp [St.rnmL, St.deepL], rfl, trivial⟩
  | s :: r, h => by
    obtain ⟨h1, h2, h3, h4, h5, h6, h7⟩ := h s (List.mem_cons_self ..)
    obtain ⟨g1, g2, g3, g4, g5, g6, g7⟩ := drL_rn f g N D r fun s hs => h s (List.mem_cons_of_mem _ hs)
    refine ⟨by simp [St.rnmL, St.goodRL, h1, g1], ⟨h2, g2⟩, ⟨h3, g3⟩, ?_, by simp only [St.rnmL, St.deepL]; omega, by simp [St.rnmL, St.resL, h6, g6], ⟨h7, g7⟩⟩
    simp only [St.rnmL, St.bigL, List.length_cons, Nat.succ_mul]
    omega

theorem ex0_rn (f g : Pl) : ex0.ren = ex0 ∧ ex0.res f = ex0 ∧ ex0.short ∧ ex0.rok g ∧ ex0.big = 1 ∧ ex0.deep = 1 ∧ ex0.res g = ex0 := ⟨rfl, by simp [ex0, Ex.res, Ex.resL], (ex0_ok g).1, (ex0_ok g).2.1, rfl, rfl, by simp [ex0, Ex.res, Ex.resL]⟩

theorem drS_rn (f g : Pl) (hf : DrF f) (hn : DrN f g) : ∀ (d : Nat) (s : St), drS d s → StN f g (dBig d) (d + 3) s
  | 0, s, h => h.elim
  | d + 1, .mk kind nm sl sz place value body els, h => by
    simp only [drS] at h
    obtain ⟨h1, h2, h⟩ := h
    subst h1 h2
    obtain ⟨x1, x2, x3, x4, x5, x6, x7⟩ := ex0_rn f g
    have r0 : renN [] = [] := rfl
    unfold StN
    rcases h with ⟨rfl, ⟨k, hk, rfl⟩, rfl, hv, rfl, rfl⟩ | ⟨rfl, ⟨k, hk, rfl⟩, hp, hv, rfl, rfl⟩ | ⟨rfl, rfl, hp, hv, rfl, rfl⟩ | ⟨rfl, rfl, rfl, hv, rfl, rfl⟩ | ⟨rfl, rfl, rfl, hv, ⟨hbl, hb⟩, hel, he⟩ | ⟨rfl, rfl, rfl, hv, ⟨hbl, hb⟩, rfl⟩
    · obtain ⟨hvl, hl⟩ := rnS_ok k hk
      obtain ⟨hvl', hl'⟩ := nmS_ok k hk
      have hq := hn.s k hk
      obtain ⟨g1, g2, g3, g4, g5, g6, g7⟩ := drE_rn f g hf hn 3 value hv
      refine ⟨?_, ⟨⟨by omega, by rw [x1]; exact x3, g2⟩, trivial, trivial⟩, ⟨fun _ => by rw [hq]; exact hf.s k hk, fun h => by omega, by omega, by rw [x1]; exact x4, g3, trivial, trivial⟩, ?_, ?_, ?_, ?_⟩
      · simp [St.rnm, St.rnmL, St.goodR, St.good1, St.goodRL, nmB, hvl, g1, ex0, Ex.ren, Ex.renL, r0]
      · simp only [St.rnm, St.rnmL, St.big, St.bigL, dBig, x1, x5]; omega
      · simp only [St.rnm, St.rnmL, St.deep, St.deepL, x1, x6]; omega
      · simp [St.rnm, St.rnmL, St.res, St.resL, hq, g6, x1, x2, x7]
      · simp [St.res, St.resL, St.shortR, St.short1, St.shortRL, hl', g7, x2, x3]
    · obtain ⟨hvl, hl⟩ := rnA_ok k hk
      obtain ⟨hvl', hl'⟩ := nmA_ok k hk
      have hq := hn.a k hk
      obtain ⟨g1, g2, g3, g4, g5, g6, g7⟩ := drE_rn f g hf hn 2 value hv
      obtain ⟨i1, i2, i3, i4, i5, i6, i7⟩ := drE_rn f g hf hn 2 place hp
      refine ⟨?_, ⟨⟨by omega, i2, g2⟩, trivial, trivial⟩, ⟨fun h => by omega, fun _ => by rw [hq]; exact hf.a k hk, by omega, i3, g3, trivial, trivial⟩, ?_, ?_, ?_, ?_⟩
      · simp [St.rnm, St.rnmL, St.goodR, St.good1, St.goodRL, nmB, hvl, g1, i1]
      · simp only [St.rnm, St.rnmL, St.big, St.bigL, dBig]; omega
      · simp only [St.rnm, St.rnmL, St.deep, St.deepL]; omega
      · simp [St.rnm, St.rnmL, St.res, St.resL, hq, g6, i6]
      · simp [St.res, St.resL, St.shortR, St.short1, St.shortRL, hl', g7, i7]
    · obtain ⟨g1, g2, g3, g4, g5, g6, g7⟩ := drE_rn f g hf hn 2 value hv
      obtain ⟨i1, i2, i3, i4, i5, i6, i7⟩ := drE_rn f g hf hn 2 place hp
      refine ⟨?_, ⟨⟨by simp [r0], i2, g2⟩, trivial, trivial⟩, ⟨fun h => by omega, fun h => by omega, by simp [r0], i3, g3, trivial, trivial⟩, ?_, ?_, ?_, ?_⟩
      · simp [St.rnm, St.rnmL, r0, St.goodR, St.good1, St.goodRL, nmB, g1, i1]
      · simp only [St.rnm, St.rnmL, St.big, St.bigL, dBig]; omega
      · simp only [St.rnm, St.rnmL, St.deep, St.deepL]; omega
      · simp [St.rnm, St.rnmL, St.res, St.resL, g6, i6]
      · simp [St.res, St.resL, St.shortR, St.short1, St.shortRL, g7, i7]
    · obtain ⟨g1, g2, g3, g4, g5, g6, g7⟩ := drE_rn f g hf hn 2 value hv
      refine ⟨?_, ⟨⟨by simp [r0], by rw [x1]; exact x3, g2⟩, trivial, trivial⟩, ⟨fun h => by omega, fun h => by omega, by simp [r0], by rw [x1]; exact x4, g3, trivial, trivial⟩, ?_, ?_, ?_, ?_⟩
      · simp [St.rnm, St.rnmL, r0, St.goodR, St.good1, St.goodRL, nmB, g1, ex0, Ex.ren, Ex.renL]
      · simp only [St.rnm, St.rnmL, St.big, St.bigL, dBig, x1, x5]; omega
      · simp only [St.rnm, St.rnmL, St.deep, St.deepL, x1, x6]; omega
      · simp [St.rnm, St.rnmL, St.res, St.resL, g6, x1, x2, x7]
      · simp [St.res, St.resL, St.shortR, St.short1, St.shortRL, g7, x2, x3]
    · obtain ⟨g1, g2, g3, g4, g5, g6, g7⟩ := drE_rn f g hf hn 2 value hv
      obtain ⟨b1, b2, b3, b4, b5, b6, b7⟩ := drL_rn f g (dBig d) (d + 3) body fun s hs => drS_rn f g hf hn d s (hb s hs)
      obtain ⟨e1, e2, e3, e4, e5, e6, e7⟩ := drL_rn f g (dBig d) (d + 3) els fun s hs => drS_rn f g hf hn d s (he s hs)
      have hb4 : St.bigL (St.rnmL body) ≤ 2 * dBig d := Nat.le_trans b4 (Nat.mul_le_mul_right _ hbl)
      have he4 : St.bigL (St.rnmL els) ≤ 1 * dBig d := Nat.le_trans e4 (Nat.mul_le_mul_right _ hel)
      refine ⟨?_, ⟨⟨by simp [r0], by rw [x1]; exact x3, g2⟩, b2, e2⟩, ⟨fun h => by omega, fun h => by omega, by simp [r0], by rw [x1]; exact x4, g3, b3, e3⟩, ?_, ?_, ?_, ?_⟩
      · simp [St.rnm, r0, St.goodR, St.good1, nmB, g1, ex0, Ex.ren, Ex.renL, b1, e1]
      · simp only [St.rnm, St.big, dBig, x1, x5]; omega
      · simp only [St.rnm, St.deep, x1, x6]; omega
      · simp [St.rnm, St.res, g6, x1, x2, x7, b6, e6]
      · simp [St.res, St.shortR, St.short1, g7, x2, x3, b7, e7]
    · obtain ⟨g1, g2, g3, g4, g5, g6, g7⟩ := drE_rn f g hf hn 2 value hv
      obtain ⟨b1, b2, b3, b4, b5, b6, b7⟩ := drL_rn f g (dBig d) (d + 3) body fun s hs => drS_rn f g hf hn d s (hb s hs)
      have hb4 : St.bigL (St.rnmL body) ≤ 2 * dBig d := Nat.le_trans b4 (Nat.mul_le_mul_right _ hbl)
      refine ⟨?_, ⟨⟨by simp [r0], by rw [x1]; exact x3, g2⟩, b2, trivial⟩, ⟨fun h => by omega, fun h => by omega, by simp [r0], by rw [x1]; exact x4, g3, b3, trivial⟩, ?_, ?_, ?_, ?_⟩
      · simp [St.rnm, St.rnmL, r0, St.goodR, St.good1, St.goodRL, nmB, g1, ex0, Ex.ren, Ex.renL, b1]
      · simp only [St.rnm, St.rnmL, St.big, St.bigL, dBig, x1, x5]; omega
      · simp only [St.rnm, St.rnmL, St.deep, St.deepL, x1, x6]; omega
      · simp [St.rnm, St.rnmL, St.res, St.resL, g6, x1, x2, x7, b6]
      · simp [St.res, St.resL, St.shortR, St.short1, St.shortRL, g7, x2, x3, b7]

def rnVB (a b c : Nat) : Bool := decide ((declS (renV (drV a b c))).1 = 0) && decide ((declS (renV (drV a b c))).2.1 = (declS (drV a b c)).2.1) && (renV (drV a b c)).all varOK &&
    decide (nPl a b c [110, 95, 120] = dPl a b c [120]) && decide (nPl a b c [110, 95, 97] = dPl a b c [97]) && decide (nPl a b c [110, 95, 121] = dPl a b c [121]) && decide (nPl a b c [110, 95, 122] = dPl a b c [122]) && decide (nPl a b c [110, 95, 98] = dPl a b c [98])
theorem rnV_all : ((List.range 7).all fun a => (List.range 5).all fun b => (List.range 3).all fun c => rnVB a b c) = true := by decide +kernel
theorem rnV_names (a : Nat) (ha : a < 7) (b : Nat) (hb : b < 5) (c : Nat) (hc : c < 3) : (declS (renV (drV a b c))).1 = 0 ∧ (declS (renV (drV a b c))).2.1 = (declS (drV a b c)).2.1 ∧ (renV (drV a b c)).all varOK = true ∧ DrN (dPl a b c) (nPl a b c) := by
  have h := List.all_eq_true.1 (List.all_eq_true.1 (List.all_eq_true.1 rnV_all a (List.mem_range.2 ha)) b (List.mem_range.2 hb)) c (List.mem_range.2 hc)
  simp only [rnVB, Bool.and_eq_true, decide_eq_true_eq, and_assoc] at h
  obtain ⟨h1, h2, h3, h4, h5, h6, h7, h8⟩ := h
  refine ⟨h1, h2, h3, fun k hk => ?_, fun k hk => ?_⟩
  · match k, hk with
    | 0, _ => exact h4
    | 1, _ => exact h6
    | 2, _ => exact h7
  · match k, hk with
    | 0, _ => exact h5
    | 1, _ => exact h8

/-- A program with other names. -/
def Pr.rnm (p : Pr) : Pr := ⟨renV p.vars, St.rnmL p.start, St.rnmL p.message, St.rnmL p.tick, St.rnmL p.input⟩
/-- What of a list of statements is asked of both programs. -/
structure LiN (f g : Pl) (l : List St) : Prop where
  s1 : St.shortRL l
  g1 : St.goodRL l = true
  r1 : St.rokL f l
  s2 : St.shortRL (St.rnmL l)
  g2 : St.goodRL (St.rnmL l) = true
  r2 : St.rokL g (St.rnmL l)
  e : St.resL g (St.rnmL l) = St.rnmL (St.resL f l)
  s3 : St.shortRL (St.resL f l)
theorem drP_rn (p : Pr) (hp : drP p) : ∃ (a b c : Nat), a < 7 ∧ b < 5 ∧ c < 3 ∧ p.vars = drV a b c ∧ p.big ≤ 100000 ∧ p.deep ≤ 16 ∧ p.rnm.big ≤ 100000 ∧ p.rnm.deep ≤ 16 ∧
    (∀ l, l = p.start ∨ l = p.message ∨ l = p.tick ∨ l = p.input → LiN (dPl a b c) (nPl a b c) l) := by
  obtain ⟨⟨a, b, c, ha, hb, hc, hv⟩, ⟨ls, hs⟩, ⟨lm, hm⟩, ⟨lt, ht⟩, ⟨li, hi⟩⟩ := hp
  have F := drV_f ha hb hc
  obtain ⟨_, _, _, W⟩ := rnV_names a ha b hb c hc
  have g1 := drL_ok (dPl a b c) (dBig 2) (2 + 3) p.start fun s h => drS_ok _ F 2 s (hs s h)
  have g2 := drL_ok (dPl a b c) (dBig 3) (3 + 3) p.message fun s h => drS_ok _ F 3 s (hm s h)
  have g3 := drL_ok (dPl a b c) (dBig 2) (2 + 3) p.tick fun s h => drS_ok _ F 2 s (ht s h)
  have g4 := drL_ok (dPl a b c) (dBig 2) (2 + 3) p.input fun s h => drS_ok _ F 2 s (hi s h)
  have k1 := drL_rn (dPl a b c) (nPl a b c) (dBig 2) (2 + 3) p.start fun s h => drS_rn _ _ F W 2 s (hs s h)
  have k2 := drL_rn (dPl a b c) (nPl a b c) (dBig 3) (3 + 3) p.message fun s h => drS_rn _ _ F W 3 s (hm s h)
  have k3 := drL_rn (dPl a b c) (nPl a b c) (dBig 2) (2 + 3) p.tick fun s h => drS_rn _ _ F W 2 s (ht s h)
  have k4 := drL_rn (dPl a b c) (nPl a b c) (dBig 2) (2 + 3) p.input fun s h => drS_rn _ _ F W 2 s (hi s h)
  have d2 : dBig 2 = 80 := rfl
  have d3 : dBig 3 = 260 := rfl
  rw [d2] at g1 g3 g4 k1 k3 k4
  rw [d3] at g2 k2
  refine ⟨a, b, c, ha, hb, hc, hv, ?_, ?_, ?_, ?_, ?_⟩
  · unfold Pr.big
    have := g1.2.2.2.1; have := g2.2.2.2.1; have := g3.2.2.2.1; have := g4.2.2.2.1
    omega
  · unfold Pr.deep
    have := g1.2.2.2.2; have := g2.2.2.2.2; have := g3.2.2.2.2; have := g4.2.2.2.2
    omega
  · unfold Pr.big Pr.rnm
    have := k1.2.2.2.1; have := k2.2.2.2.1; have := k3.2.2.2.1; have := k4.2.2.2.1
    simp only
    omega
  · unfold Pr.deep Pr.rnm
    have := k1.2.2.2.2.1; have := k2.2.2.2.2.1; have := k3.2.2.2.2.1; have := k4.2.2.2.2.1
    simp only
    omega
  · rintro l (rfl | rfl | rfl | rfl)
    · exact ⟨g1.2.1, g1.1, g1.2.2.1, k1.2.1, k1.1, k1.2.2.1, k1.2.2.2.2.2.1, k1.2.2.2.2.2.2⟩
    · exact ⟨g2.2.1, g2.1, g2.2.2.1, k2.2.1, k2.1, k2.2.2.1, k2.2.2.2.2.2.1, k2.2.2.2.2.2.2⟩
    · exact ⟨g3.2.1, g3.1, g3.2.2.1, k3.2.1, k3.1, k3.2.2.1, k3.2.2.2.2.2.1, k3.2.2.2.2.2.2⟩
    · exact ⟨g4.2.1, g4.1, g4.2.2.1, k4.2.1, k4.1, k4.2.2.1, k4.2.2.2.2.2.1, k4.2.2.2.2.2.2⟩
end Go.Proofs.YtgkioompcmgmdaaDoor
