/-
  The walk of the law CodecOne (gens96.py writes this text). Condition: its argument is a list of bytes.
-/
import Derived.Test.YtadikcioacaphaaLawNm
import Derived.Test.YtadikcioacaphaaMathOn
import Derived.Deep.DeepCutAuto
namespace Go.Proofs.Ytadikcioacaphaa
open Go.RowKit

/-- The first m bytes. -/
theorem BsIn.take {B : Nat} {w : World} {bs x r : List Nat} {A : Option Addr} {n c : Nat} (h : BsIn B w bs A n c) (hB : B ≤ w.heap.size) (he : bs = x ++ r) (hc : c ≤ 9223372036854775807) : BOut w (.slice A x.length c) x := by
  have hn := h.len
  have hl : x.length ≤ n := by rw [hn, he, List.length_append]; omega
  refine ⟨A, c, rfl, Nat.le_trans hl h.cap, ⟨by rw [bC_len, Nat.mul_one], fun h0 => ?_⟩, h.nil, fun a ha => ?_, hc⟩
  · obtain ⟨b, o, hA, hi⟩ := h.row.2 (by omega)
    refine ⟨b, o, hA, fun j u hj => hi j u ?_⟩
    have hjl := (List.getElem?_eq_some_iff.1 hj).1
    rw [he]
    unfold bC at hj hjl ⊢
    rw [List.map_append, List.getElem?_append_left hjl]
    exact hj
  · have hsp := h.spot a ha
    obtain ⟨b, o, sp⟩ := a
    cases hsp
    exact ⟨rfl, Nat.lt_of_lt_of_le (h.lt b o ha) hB⟩
theorem numA_le9 : ∀ (l : List Nat) (i u k : Nat), numA i u l = .err k → k ≤ 9
  | [], i, u, k, h => by simp [numA] at h; omega
  | c :: r, i, u, k, h => by
    unfold numA at h
    split at h
    · injection h with h; omega
    · split at h
      · cases h
      · exact numA_le9 r _ _ k h
theorem numsS_le9 : ∀ {n : Nat} {l : List Nat} {k : Nat}, numsS n l = .err k → k ≤ 9
  | 0, l, k, h => by simp [numsS] at h
  | n + 1, l, k, h => by
    simp only [numsS] at h
    cases h1 : numS l with
    | err k' => rw [h1] at h; simp only [RR.bind] at h; injection h with h; rw [← h]; exact numA_le9 _ _ _ _ h1
    | ok v r =>
      rw [h1] at h
      simp only [RR.bind] at h
      cases h2 : numsS n r with
      | err k' => rw [h2] at h; simp only at h; injection h with h; rw [← h]; exact numsS_le9 h2
      | ok vs r2 => rw [h2] at h; simp at h
theorem cntR_le9 {l : List Nat} {k : Nat} (h : cntR l = .err k) : k ≤ 9 := by
  unfold cntR at h
  cases h1 : numS l with
  | err k' => rw [h1] at h; simp only [RR.bind] at h; injection h with h; rw [← h]; exact numA_le9 _ _ _ _ h1
  | ok v r =>
    rw [h1] at h
    simp only [RR.bind] at h
    split at h
    · injection h with h; omega
    · cases h
theorem rowsS_le9 {j : Nat} {l : List Nat} {k : Nat} (h : rowsS j l = .err k) : k ≤ 9 := by
  unfold rowsS at h
  cases h1 : cntR l with
  | err k' => rw [h1] at h; simp only [RR.bind] at h; injection h with h; rw [← h]; exact cntR_le9 h1
  | ok n r => rw [h1] at h; simp only [RR.bind] at h; exact numsS_le9 h
theorem pgsN_le9 : ∀ {n : Nat} {l : List Nat} {k : Nat}, pgsN n l = .err k → k ≤ 9
  | 0, l, k, h => by simp [pgsN] at h
  | n + 1, l, k, h => by
    simp only [pgsN] at h
    cases h1 : numS l with
    | err k' => rw [h1] at h; simp only [RR.bind] at h; injection h with h; rw [← h]; exact numA_le9 _ _ _ _ h1
    | ok v r =>
      rw [h1] at h
      simp only [RR.bind] at h
      cases h2 : rowsS 1 r with
      | err k' => rw [h2] at h; simp only at h; injection h with h; rw [← h]; exact rowsS_le9 h2
      | ok zs r2 =>
        rw [h2] at h
        simp only at h
        cases h3 : pgsN n r2 with
        | err k' => rw [h3] at h; simp only at h; injection h with h; rw [← h]; exact pgsN_le9 h3
        | ok ps r3 => rw [h3] at h; simp at h
theorem pgsS_le9 {l : List Nat} {k : Nat} (h : pgsS l = .err k) : k ≤ 9 := by
  unfold pgsS at h
  cases h1 : cntR l with
  | err k' => rw [h1] at h; simp only [RR.bind] at h; injection h with h; rw [← h]; exact cntR_le9 h1
  | ok n r => rw [h1] at h; simp only [RR.bind] at h; exact pgsN_le9 h
theorem stS_le9 {l : List Nat} {k : Nat} (h : stS l = .err k) : k ≤ 9 := by
  unfold stS at h
  cases h1 : rowsS 1 l with
  | err k' => rw [h1] at h; simp only [RR.bind] at h; injection h with h; rw [← h]; exact rowsS_le9 h1
  | ok a r1 =>
    rw [h1] at h; simp only [RR.bind] at h
    cases h2 : rowsS 7 r1 with
    | err k' => rw [h2] at h; simp only at h; injection h with h; rw [← h]; exact rowsS_le9 h2
    | ok b r2 =>
      rw [h2] at h; simp only at h
      cases h3 : rowsS 4 r2 with
      | err k' => rw [h3] at h; simp only at h; injection h with h; rw [← h]; exact rowsS_le9 h3
      | ok c r3 =>
        rw [h3] at h; simp only at h
        cases h4 : rowsS 2 r3 with
        | err k' => rw [h4] at h; simp only at h; injection h with h; rw [← h]; exact rowsS_le9 h4
        | ok d r4 => rw [h4] at h; simp at h
/-- Either an error, or what was read has these bytes, at least k of them. -/
def One (bs x : List Nat) (k : Nat) (m ke : Int) (P : Prop) : Prop := (0 < ke ∧ ke ≤ 100) ∨ (ke = 0 ∧ ∃ t, bs = x ++ t ∧ m = (x.length : Int) ∧ k ≤ x.length ∧ x.length ≤ bs.length ∧ P)
theorem rdS_le {α : Type} {f : List Nat → RR α} {bs : List Nat} {i : Int} {k : Nat} (h : rdS f bs i = .err k) (hf : ∀ l, f l = .err k → k ≤ 9) : k ≤ 9 := by
  unfold rdS at h
  split at h
  · injection h with h; omega
  · exact hf _ h
theorem int_one {bs : List Nat} {A : Option Addr} {n c : Nat} {B : Nat} {w : World} (h : BsIn B w bs A n c) (hB : B ≤ w.heap.size) :
    Calls Try.prog 9 #[.slice A n c, .int .i64 0] w fun e w' => ∃ z m ke : Int, e = .returned (.tuple #[.int .i64 z, .int .i64 m, .int .i64 ke]) ∧ One bs (bytZ z) 1 m ke (I64 z) ∧ Below w.heap.size w w' := by
  refine (Int_cod B bs A n c 0 w h hB).mono ?_
  intro e w' hr
  cases hs : rdS numS bs 0 with
  | err ke =>
    rw [hs] at hr
    obtain ⟨rfl, hb⟩ := hr
    have h1 := rdS_err hs (fun l h => numA_err _ _ _ _ h)
    exact ⟨0, 0, ke, rfl, .inl ⟨by omega, by have := rdS_le hs (fun l h => numA_le9 _ _ _ _ h); omega⟩, hb⟩
  | ok z t =>
    rw [hs] at hr
    obtain ⟨v, rfl, hv, hl, hb⟩ := hr
    rw [rdS_zero] at hs
    obtain ⟨he, hz⟩ := numS_back h.le hs
    have hlen : bs.length = (bytZ z).length + t.length := by rw [← List.length_append, ← he]
    exact ⟨z, _, 0, by rw [show v = .int .i64 z from hv], .inr ⟨rfl, t, he, by omega, bytZ_pos z, by omega, hz⟩, hb⟩
theorem event_one {bs : List Nat} {A : Option Addr} {n c : Nat} {B : Nat} {w : World} (h : BsIn B w bs A n c) (hB : B ≤ w.heap.size) :
    Calls Try.prog 23 #[.slice A n c, .int .i64 0] w fun e w' => ∃ a0 a1 a2 a3 a4 a5 a6 m ke : Int, e = .returned (.tuple #[.agg #[.int .i64 a0, .int .i64 a1, .int .i64 a2, .int .i64 a3, .int .i64 a4, .int .i64 a5, .int .i64 a6], .int .i64 m, .int .i64 ke]) ∧ One bs (bytL [a0, a1, a2, a3, a4, a5, a6]) 7 m ke (∀ z ∈ [a0, a1, a2, a3, a4, a5, a6], I64 z) ∧ Below w.heap.size w w' := by
  refine (Event_cod B bs A n c 0 w h hB).mono ?_
  intro e w' hr
  cases hs : rdS (numsS 7) bs 0 with
  | err ke =>
    rw [hs] at hr
    obtain ⟨rfl, hb⟩ := hr
    have h1 := rdS_err hs (fun l h => numsS_err' h)
    exact ⟨0, 0, 0, 0, 0, 0, 0, 0, ke, rfl, .inl ⟨by omega, by have := rdS_le hs (fun l h => numsS_le9 h); omega⟩, hb⟩
  | ok vs t =>
    rw [hs] at hr
    obtain ⟨v, rfl, hv, hl, hb⟩ := hr
    rw [rdS_zero] at hs
    obtain ⟨a0, a1, a2, a3, a4, a5, a6, rfl⟩ := len7r (numsS_len hs)
    obtain ⟨he, hz⟩ := numsS_back h.le hs
    have hp := bytL_pos [a0, a1, a2, a3, a4, a5, a6]
    simp only [List.length_cons, List.length_nil] at hp
    have hlen : bs.length = (bytL [a0, a1, a2, a3, a4, a5, a6]).length + t.length := by rw [← List.length_append, ← he]
    exact ⟨a0, a1, a2, a3, a4, a5, a6, _, 0, by rw [show v = _ from hv]; rfl, .inr ⟨rfl, t, he, by omega, by omega, by omega, hz⟩, hb⟩
/-- Pages that were read. -/
def PgGot (bs : List Nat) (w : World) (b0 : Nat) (A' : Option Addr) (L c' : Nat) (m ke : Int) : Prop := ∃ ps : List Pg, One bs (bytZ (L : Nat) ++ bytP ps) 1 m ke (PgOk ps ∧ L = ps.length ∧ L ≤ 1099511627776 ∧ L ≤ c' ∧ PgAt (fun b => b0 ≤ b) w ps A' L)
theorem pages_one {bs : List Nat} {A : Option Addr} {n c : Nat} {B b0 : Nat} {w : World} (h : BsIn B w bs A n c) (hB : B ≤ w.heap.size) (hb0 : b0 ≤ w.heap.size) :
    Calls Try.prog 24 #[.slice A n c, .int .i64 0] w fun e w' => ∃ (A' : Option Addr) (L c' : Nat) (m ke : Int), e = .returned (.tuple #[.slice A' L c', .int .i64 m, .int .i64 ke]) ∧ PgGot bs w' b0 A' L c' m ke ∧ Below w.heap.size w w' := by
  refine (Pages_cod B bs A n c 0 w h hB b0 hb0).mono ?_
  intro e w' hr
  cases hs : rdS pgsS bs 0 with
  | err ke =>
    rw [hs] at hr
    obtain ⟨rfl, hb⟩ := hr
    have h1 := rdS_err hs (fun l h => pgsS_err' h)
    exact ⟨none, 0, 0, 0, ke, rfl, ⟨[], .inl ⟨by omega, by have := rdS_le hs (fun l h => pgsS_le9 h); omega⟩⟩, hb⟩
  | ok ps t =>
    rw [hs] at hr
    obtain ⟨v, rfl, hv, hl, hb⟩ := hr
    rw [rdS_zero] at hs
    obtain ⟨he, hz⟩ := pgsS_back h.le (by rw [← h.len]; exact h.le40) hs
    obtain ⟨h1, h2⟩ := hv
    obtain ⟨A', c', rfl, hc', hp⟩ := h2.slice (by omega)
    have hlen : bs.length = (bytZ (ps.length : Nat) ++ bytP ps).length + t.length := by rw [← List.length_append, ← he]
    have hp1 := bytZ_pos (ps.length : Nat)
    have hp2 : (bytZ (ps.length : Nat) ++ bytP ps).length = (bytZ (ps.length : Nat)).length + (bytP ps).length := List.length_append
    exact ⟨A', ps.length, c', _, 0, rfl, ⟨ps, .inr ⟨rfl, t, he, by omega, by omega, by omega, hz, rfl, h1, hc', hp.still fun b hS _ => ⟨by rcases hS with hS | hS; exact hS.1; exact hS, rfl⟩⟩⟩, hb⟩
/-- A state that was read. -/
def StGot (bs : List Nat) (w : World) (B0 B1 B2 B3 : Option Addr) (m0 m1 m2 m3 : Nat) (m ke : Int) : Prop := ∃ z0 z1 z2 z3 : List Int, One bs (bytR m0 z0 ++ bytR m1 z1 ++ bytR m2 z2 ++ bytR m3 z3) 4 m ke (RwAt w 1 (z0.map (Value.int .i64)) B0 m0 ∧ RwAt w 7 (z1.map (Value.int .i64)) B1 m1 ∧ RwAt w 4 (z2.map (Value.int .i64)) B2 m2 ∧ RwAt w 2 (z3.map (Value.int .i64)) B3 m3 ∧ (∀ z ∈ z0, I64 z) ∧ (∀ z ∈ z1, I64 z) ∧ (∀ z ∈ z2, I64 z) ∧ (∀ z ∈ z3, I64 z) ∧ m0 ≤ 1099511627776 ∧ m1 ≤ 1099511627776 ∧ m2 ≤ 1099511627776 ∧ m3 ≤ 1099511627776)
theorem state_one {bs : List Nat} {A : Option Addr} {n c : Nat} {B : Nat} {w : World} (h : BsIn B w bs A n c) (hB : B ≤ w.heap.size) :
    Calls Try.prog 25 #[.slice A n c, .int .i64 0] w fun e w' => ∃ (B0 B1 B2 B3 : Option Addr) (m0 m1 m2 m3 k0 k1 k2 k3 : Nat), ∃ (m ke : Int), e = .returned (.tuple #[.agg #[.slice B0 m0 k0, .slice B1 m1 k1, .slice B2 m2 k2, .slice B3 m3 k3], .int .i64 m, .int .i64 ke]) ∧ StGot bs w' B0 B1 B2 B3 m0 m1 m2 m3 m ke ∧ Below w.heap.size w w' := by
  refine (State_cod B bs A n c 0 w h hB 0 (Nat.zero_le _)).mono ?_
  intro e w' hr
  cases hs : rdS stS bs 0 with
  | err ke =>
    rw [hs] at hr
    obtain ⟨rfl, hb⟩ := hr
    have h1 := rdS_err hs (fun l h => stS_err' h)
    exact ⟨none, none, none, none, 0, 0, 0, 0, 0, 0, 0, 0, 0, ke, rfl, ⟨[], [], [], [], .inl ⟨by omega, by have := rdS_le hs (fun l h => stS_le9 h); omega⟩⟩, hb⟩
  | ok s t =>
    rw [hs] at hr
    obtain ⟨v, rfl, hv, hl, hb⟩ := hr
    rw [rdS_zero] at hs
    obtain ⟨n0, n1, n2, n3, ⟨l0, l1, l2, l3⟩, he, i0, i1, i2, i3⟩ := stS_back h.le hs
    obtain ⟨x0, x1, x2, x3, rfl, y0, y1, y2, y3⟩ := hv
    obtain ⟨B0, m0, k0, rfl, p0, q0, o0⟩ := y0.slice
    obtain ⟨B1, m1, k1, rfl, p1, q1, o1⟩ := y1.slice
    obtain ⟨B2, m2, k2, rfl, p2, q2, o2⟩ := y2.slice
    obtain ⟨B3, m3, k3, rfl, p3, q3, o3⟩ := y3.slice
    have e0 : n0 = m0 := by omega
    have e1 : n1 = m1 := by omega
    have e2 : n2 = m2 := by omega
    have e3 : n3 = m3 := by omega
    subst e0 e1 e2 e3
    have hlen : bs.length = (bytR n0 s.1 ++ bytR n1 s.2.1 ++ bytR n2 s.2.2.1 ++ bytR n3 s.2.2.2).length + t.length := by rw [← List.length_append, ← he]
    have hp4 : 4 ≤ (bytR n0 s.1 ++ bytR n1 s.2.1 ++ bytR n2 s.2.2.1 ++ bytR n3 s.2.2.2).length := by
      have a0 := bytZ_pos (n0 : Nat)
      have a1 := bytZ_pos (n1 : Nat)
      have a2 := bytZ_pos (n2 : Nat)
      have a3 := bytZ_pos (n3 : Nat)
      simp only [bytR, List.length_append]
      omega
    exact ⟨B0, B1, B2, B3, n0, n1, n2, n3, k0, k1, k2, k3, _, 0, rfl, ⟨s.1, s.2.1, s.2.2.1, s.2.2.2, .inr ⟨rfl, t, he, by omega, hp4, by omega, RwAt.own o0, RwAt.own o1, RwAt.own o2, RwAt.own o3, i0, i1, i2, i3, q0, q1, q2, q3⟩⟩, hb⟩
end Go.Proofs.Ytadikcioacaphaa
