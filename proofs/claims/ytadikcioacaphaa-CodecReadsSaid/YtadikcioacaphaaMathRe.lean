/-
  What is read of bytes has no more elements than there are bytes; and what both readers return of pages and of a state (gens103.py writes this text). No conditions.
-/
import Derived.Test.YtadikcioacaphaaWalkEr
import Derived.Test.YtadikcioacaphaaWalkSm
import Derived.Test.YtadikcioacaphaaWalkSq
namespace Go.Proofs.Ytadikcioacaphaa
open Go.RowKit

theorem numA_rest : ∀ {l r : List Nat} {i u : Nat} {v : Int}, numA i u l = .ok v r → r.length ≤ l.length
  | [], r, i, u, v, h => by simp [numA] at h
  | c :: l, r, i, u, v, h => by
    simp only [numA] at h
    split at h
    · cases h
    · split at h
      · injection h with _ h2
        subst h2
        simp
      · have := numA_rest h
        simp only [List.length_cons]
        omega
theorem numS_rest {l r : List Nat} {v : Int} (h : numS l = .ok v r) : r.length ≤ l.length := numA_rest h
theorem cntR_rest {l r : List Nat} {n : Nat} (h : cntR l = .ok n r) : n ≤ l.length ∧ r.length ≤ l.length := by
  unfold cntR at h
  cases hn : numS l with
  | err e => rw [hn] at h; cases h
  | ok v t =>
    rw [hn] at h
    simp only [RR.bind] at h
    have := numS_rest hn
    split at h
    · cases h
    · injection h with h1 h2
      subst h1 h2
      constructor <;> omega
theorem numsS_rest : ∀ {n : Nat} {l r : List Nat} {vs : List Int}, numsS n l = .ok vs r → r.length ≤ l.length
  | 0, l, r, vs, h => by simp only [numsS] at h; injection h with _ h2; subst h2; exact Nat.le_refl _
  | n + 1, l, r, vs, h => by
    simp only [numsS] at h
    cases hn : numS l with
    | err e => rw [hn] at h; cases h
    | ok v t =>
      rw [hn] at h
      simp only [RR.bind] at h
      cases hm : numsS n t with
      | err e => rw [hm] at h; cases h
      | ok vs' r' =>
        rw [hm] at h
        simp only at h
        injection h with _ h2
        subst h2
        have := numS_rest hn
        have := numsS_rest hm
        omega
theorem rowsS_rest {k : Nat} {l r : List Nat} {zs : List Int} (h : rowsS k l = .ok zs r) : ∃ n, zs.length = k * n ∧ n ≤ l.length ∧ r.length ≤ l.length := by
  unfold rowsS at h
  cases hc : cntR l with
  | err e => rw [hc] at h; cases h
  | ok n t =>
    rw [hc] at h
    simp only [RR.bind] at h
    obtain ⟨h1, h2⟩ := cntR_rest hc
    have := numsS_rest h
    exact ⟨n, numsS_len h, h1, by omega⟩
theorem stS_rest {l r : List Nat} {s : S4} (h : stS l = .ok s r) : ∃ n0 n1 n2 n3, s.1.length = 1 * n0 ∧ s.2.1.length = 7 * n1 ∧ s.2.2.1.length = 4 * n2 ∧ s.2.2.2.length = 2 * n3 ∧ n0 ≤ l.length ∧ n1 ≤ l.length ∧ n2 ≤ l.length ∧ n3 ≤ l.length := by
  unfold stS at h
  cases h1 : rowsS 1 l with
  | err e => rw [h1] at h; cases h
  | ok a ta =>
    rw [h1] at h
    simp only [RR.bind] at h
    cases h2 : rowsS 7 ta with
    | err e => rw [h2] at h; cases h
    | ok b tb =>
      rw [h2] at h
      simp only at h
      cases h3 : rowsS 4 tb with
      | err e => rw [h3] at h; cases h
      | ok c tc =>
        rw [h3] at h
        simp only at h
        cases h4 : rowsS 2 tc with
        | err e => rw [h4] at h; cases h
        | ok d td =>
          rw [h4] at h
          simp only at h
          injection h with hs _
          subst hs
          obtain ⟨n0, a1, a2, a3⟩ := rowsS_rest h1
          obtain ⟨n1, b1, b2, b3⟩ := rowsS_rest h2
          obtain ⟨n2, c1, c2, c3⟩ := rowsS_rest h3
          obtain ⟨n3, d1, d2, d3⟩ := rowsS_rest h4
          exact ⟨n0, n1, n2, n3, a1, b1, c1, d1, by omega, by omega, by omega, by omega⟩

/-- What both readers return of pages. -/
theorem pages_head (bs : List Nat) (k : Int) : ∃ (ps : List Pg) (m : Int) (ke : Nat), ∀ (b0 : Nat) (w : World) (e : Ending) (w' : World), RD (VPages b0) (.slice none 0 0) bs (rdS pgsS bs k) w e w' → ∃ (A : Option Addr) (c : Nat), e = .returned (.tuple #[.slice A ps.length c, .int .i64 m, .int .i64 ke]) ∧ PgAt (fun _ => True) w' ps A ps.length ∧ Below w.heap.size w w' := by
  cases h : rdS pgsS bs k with
  | err ke => exact ⟨[], 0, ke, fun b0 w e w' hr => ⟨none, 0, hr.1, ⟨rfl, by decide, [], trivial, fun h => absurd h (by decide)⟩, hr.2⟩⟩
  | ok ps t =>
    refine ⟨ps, (bs.length : Int) - t.length, 0, fun b0 w e w' hr => ?_⟩
    obtain ⟨v, rfl, ⟨hl, ho⟩, _, hb⟩ := hr
    obtain ⟨A, c, rfl, _, hp⟩ := ho.slice (by omega)
    exact ⟨A, c, rfl, hp.still (fun b _ _ => ⟨trivial, rfl⟩), hb⟩
theorem VList.rw {T : TypeId} {k base n : Nat} {w : World} {zs : List Int} {v : Value} (h : VList T k base w zs v) (hk : 0 < k) (hn : zs.length = k * n) : ∃ A c, v = .slice A n c ∧ RwAt w k (zs.map (Value.int .i64)) A n := by
  obtain ⟨A, m, c, rfl, h1, h2, h3⟩ := h.slice
  have e : m = n := Nat.eq_of_mul_eq_mul_left hk (by omega)
  subst e
  exact ⟨A, c, rfl, RwAt.own h3⟩
/-- What both readers return of a state. -/
theorem state_head (bs : List Nat) (k : Int) (h400 : bs.length ≤ 400) : ∃ (z0 z1 z2 z3 : List Int) (n0 n1 n2 n3 : Nat) (m : Int) (ke : Nat), (n0 ≤ 400 ∧ n1 ≤ 400 ∧ n2 ≤ 400 ∧ n3 ≤ 400) ∧ ∀ (b0 : Nat) (w : World) (e : Ending) (w' : World), RD (VState b0) (.agg #[.slice none 0 0, .slice none 0 0, .slice none 0 0, .slice none 0 0]) bs (rdS stS bs k) w e w' →
    ∃ (A0 A1 A2 A3 : Option Addr) (c0 c1 c2 c3 : Nat), e = .returned (.tuple #[.agg #[.slice A0 n0 c0, .slice A1 n1 c1, .slice A2 n2 c2, .slice A3 n3 c3], .int .i64 m, .int .i64 ke]) ∧ RwAt w' 1 (z0.map (Value.int .i64)) A0 n0 ∧ RwAt w' 7 (z1.map (Value.int .i64)) A1 n1 ∧ RwAt w' 4 (z2.map (Value.int .i64)) A2 n2 ∧ RwAt w' 2 (z3.map (Value.int .i64)) A3 n3 ∧ Below w.heap.size w w' := by
  cases h : rdS stS bs k with
  | err ke => exact ⟨[], [], [], [], 0, 0, 0, 0, 0, ke, ⟨by decide, by decide, by decide, by decide⟩, fun b0 w e w' hr => ⟨none, none, none, none, 0, 0, 0, 0, hr.1, ⟨rfl, fun h => absurd h (by decide)⟩, ⟨rfl, fun h => absurd h (by decide)⟩, ⟨rfl, fun h => absurd h (by decide)⟩, ⟨rfl, fun h => absurd h (by decide)⟩, hr.2⟩⟩
  | ok s t =>
    have hs : ∃ j, stS (bs.drop j) = .ok s t := by
      unfold rdS at h
      split at h
      · cases h
      · exact ⟨_, h⟩
    obtain ⟨j, hs⟩ := hs
    obtain ⟨n0, n1, n2, n3, e0, e1, e2, e3, l0, l1, l2, l3⟩ := stS_rest hs
    rw [List.length_drop] at l0 l1 l2 l3
    refine ⟨s.1, s.2.1, s.2.2.1, s.2.2.2, n0, n1, n2, n3, (bs.length : Int) - t.length, 0, ⟨by omega, by omega, by omega, by omega⟩, fun b0 w e w' hr => ?_⟩
    obtain ⟨v, rfl, ⟨a, b, c, d, rfl, h1, h2, h3, h4⟩, _, hb⟩ := hr
    obtain ⟨A0, c0, rfl, r0⟩ := h1.rw (by decide) e0
    obtain ⟨A1, c1, rfl, r1⟩ := h2.rw (by decide) e1
    obtain ⟨A2, c2, rfl, r2⟩ := h3.rw (by decide) e2
    obtain ⟨A3, c3, rfl, r3⟩ := h4.rw (by decide) e3
    exact ⟨A0, A1, A2, A3, c0, c1, c2, c3, rfl, r0, r1, r2, r3, hb⟩
end Go.Proofs.Ytadikcioacaphaa
