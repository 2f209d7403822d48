/-
  All places of a drawn program's code lie within its cells. No conditions.
-/
import Derived.Test.YtbnlgpihongegaaDoorWalkPj
import Derived.Test.YtbnlgpihongegaaDoorWalkIn
namespace Go.Proofs.YtbnlgpihongegaaDoor
open Go.RowKit

/-- The places of the names lie within t cells. -/
structure DrW (f : Pl) (t : Int) : Prop where
  s : ∀ k, k < 3 → ∃ x, f (nmS k) = some x ∧ 0 ≤ x.1 ∧ x.1 + max x.2 1 ≤ t
  a : ∀ k, k < 2 → ∃ x, f (nmA k) = some x ∧ 0 ≤ x.1 ∧ x.1 + max x.2 1 ≤ t

theorem drE_in (f : Pl) (t : Int) (hf : DrW f t) : ∀ (d : Nat) (e : Ex), drE d e → insO t (e.res f)
  | 0, e, h => h.elim
  | d + 1, .mk op v nm sl sz args, h => by
    simp only [drE] at h
    obtain ⟨h1, h2, h⟩ := h
    subst h1 h2
    rcases h with ⟨rfl, h1, h2, rfl, rfl⟩ | ⟨rfl, rfl, ⟨k, hk, rfl⟩, rfl⟩ | ⟨h1, h2, rfl, rfl, rfl⟩ | ⟨rfl, rfl, ⟨k, hk, rfl⟩, e, rfl, h1⟩ | ⟨h1, h2, rfl, rfl, e, rfl, h3⟩ | ⟨h1, h2, rfl, rfl, a, b, rfl, h3, h4⟩
    · simp [Ex.res, Ex.resL, insO, insL]
    · obtain ⟨x, hx, x1, x2⟩ := hf.s k hk
      simp [Ex.res, Ex.resL, insO, insL, hx]
      omega
    · have e2 : ¬ (op = 2) := by omega
      have e3 : ¬ (op = 3) := by omega
      simp [Ex.res, Ex.resL, insO, insL, e2, e3]
    · obtain ⟨x, hx, x1, x2⟩ := hf.a k hk
      have g := drE_in f t hf d e h1
      simp [Ex.res, Ex.resL, insO, insL, hx, g]
      omega
    · have g := drE_in f t hf d e h3
      have e2 : ¬ (op = 2) := by omega
      have e3 : ¬ (op = 3) := by omega
      simp [Ex.res, Ex.resL, insO, insL, e2, e3, g]
    · have g := drE_in f t hf d a h3
      have g2 := drE_in f t hf d b h4
      have e2 : ¬ (op = 2) := by omega
      have e3 : ¬ (op = 3) := by omega
      simp [Ex.res, Ex.resL, insO, insL, e2, e3, g, g2]

theorem drL_in (f : Pl) (t : Int) : ∀ (l : List St), (∀ s ∈ l, witO t (s.res f)) → witL t (St.resL f l)
  | [], _ => by simp [St.resL, witL]
  | s :: r, h => by
    have g := drL_in f t r fun s hs => h s (List.mem_cons_of_mem _ hs)
    simp only [St.resL, witL]
    exact ⟨h s (List.mem_cons_self ..), g⟩
theorem ex0_in (f : Pl) (t : Int) : insO t (ex0.res f) := by simp [ex0, Ex.res, Ex.resL, insO, insL]

theorem drS_in (f : Pl) (t : Int) (hf : DrW f t) : ∀ (d : Nat) (s : St), drS d s → witO t (s.res f)
  | 0, s, h => h.elim
  | d + 1, .mk kind nm sl sz place value body els, h => by
    simp only [drS] at h
    obtain ⟨h1, h2, h⟩ := h
    subst h1 h2
    have x0 := ex0_in f t
    rcases h with ⟨rfl, ⟨k, hk, rfl⟩, rfl, hv, rfl, rfl⟩ | ⟨rfl, ⟨k, hk, rfl⟩, hp, hv, rfl, rfl⟩ | ⟨rfl, rfl, hp, hv, rfl, rfl⟩ | ⟨rfl, rfl, rfl, hv, rfl, rfl⟩ | ⟨rfl, rfl, rfl, hv, ⟨hbl, hb⟩, hel, he⟩ | ⟨rfl, rfl, rfl, hv, ⟨hbl, hb⟩, rfl⟩
    · obtain ⟨x, hx, x1, x2⟩ := hf.s k hk
      have g := drE_in f t hf 3 value hv
      simp [St.res, St.resL, witO, witL, hx, g, x0]
      omega
    · obtain ⟨x, hx, x1, x2⟩ := hf.a k hk
      have g := drE_in f t hf 2 value hv
      have i := drE_in f t hf 2 place hp
      simp [St.res, St.resL, witO, witL, hx, g, i]
      omega
    · have g := drE_in f t hf 2 value hv
      have i := drE_in f t hf 2 place hp
      simp [St.res, St.resL, witO, witL, g, i]
    · have g := drE_in f t hf 2 value hv
      simp [St.res, St.resL, witO, witL, g, x0]
    · have g := drE_in f t hf 2 value hv
      have b1 := drL_in f t body fun s hs => drS_in f t hf d s (hb s hs)
      have e1 := drL_in f t els fun s hs => drS_in f t hf d s (he s hs)
      simp [St.res, witO, g, x0, b1, e1]
    · have g := drE_in f t hf 2 value hv
      have b1 := drL_in f t body fun s hs => drS_in f t hf d s (hb s hs)
      simp [St.res, St.resL, witO, witL, g, x0, b1]

theorem drV_w {a b c : Nat} (ha : a < 7) (hb : b < 5) (hc : c < 3) : DrW (dPl a b c) (6 + (b : Int)) := by
  obtain ⟨_, _, _, h1, h2, h3, h4, h5⟩ := drV_names a ha b hb c hc
  refine ⟨fun k hk => ?_, fun k hk => ?_⟩
  · match k, hk with
    | 0, _ => exact ⟨_, h1, by simp only; omega, by simp only; omega⟩
    | 1, _ => exact ⟨_, h3, by simp only; omega, by simp only; omega⟩
    | 2, _ => exact ⟨_, h4, by simp only; omega, by simp only; omega⟩
  · match k, hk with
    | 0, _ => exact ⟨_, h2, by simp only; omega, by simp only; omega⟩
    | 1, _ => exact ⟨_, h5, by simp only; omega, by simp only; omega⟩

/-- What Resolve asks of a drawn program, and where its places lie. -/
theorem drP_ok (p : Pr) (hp : drP p) : ∃ (a b c : Nat), a < 7 ∧ b < 5 ∧ c < 3 ∧ p.vars = drV a b c ∧ p.big ≤ 100000 ∧ p.deep ≤ 16 ∧
    (∀ l, l = p.start ∨ l = p.message ∨ l = p.tick ∨ l = p.input → St.shortRL l ∧ St.goodRL l = true ∧ St.rokL (dPl a b c) l ∧ witL (6 + (b : Int)) (St.resL (dPl a b c) l)) := by
  obtain ⟨⟨a, b, c, ha, hb, hc, hv⟩, ⟨ls, hs⟩, ⟨lm, hm⟩, ⟨lt, ht⟩, ⟨li, hi⟩⟩ := hp
  have F := drV_f ha hb hc
  have W := drV_w ha hb hc
  have g1 := drL_ok (dPl a b c) (dBig 2) (2 + 3) p.start fun s h => drS_ok _ F 2 s (hs s h)
  have g2 := drL_ok (dPl a b c) (dBig 3) (3 + 3) p.message fun s h => drS_ok _ F 3 s (hm s h)
  have g3 := drL_ok (dPl a b c) (dBig 2) (2 + 3) p.tick fun s h => drS_ok _ F 2 s (ht s h)
  have g4 := drL_ok (dPl a b c) (dBig 2) (2 + 3) p.input fun s h => drS_ok _ F 2 s (hi s h)
  have d2 : dBig 2 = 80 := rfl
  have d3 : dBig 3 = 260 := rfl
  rw [d2] at g1 g3 g4
  rw [d3] at g2
  refine ⟨a, b, c, ha, hb, hc, hv, ?_, ?_, ?_⟩
  · unfold Pr.big
    have := g1.2.2.2.1; have := g2.2.2.2.1; have := g3.2.2.2.1; have := g4.2.2.2.1
    omega
  · unfold Pr.deep
    have := g1.2.2.2.2; have := g2.2.2.2.2; have := g3.2.2.2.2; have := g4.2.2.2.2
    omega
  · rintro l (rfl | rfl | rfl | rfl)
    · exact ⟨g1.2.1, g1.1, g1.2.2.1, drL_in _ _ _ fun s h => drS_in _ _ W 2 s (hs s h)⟩
    · exact ⟨g2.2.1, g2.1, g2.2.2.1, drL_in _ _ _ fun s h => drS_in _ _ W 3 s (hm s h)⟩
    · exact ⟨g3.2.1, g3.1, g3.2.2.1, drL_in _ _ _ fun s h => drS_in _ _ W 2 s (ht s h)⟩
    · exact ⟨g4.2.1, g4.1, g4.2.2.1, drL_in _ _ _ fun s h => drS_in _ _ W 2 s (hi s h)⟩
end Go.Proofs.YtbnlgpihongegaaDoor
