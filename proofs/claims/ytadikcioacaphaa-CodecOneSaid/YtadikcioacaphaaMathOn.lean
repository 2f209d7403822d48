/-
  What is read has just one form: its bytes are those that were read; which errors there are. Conditions: each byte is at most 255.
-/
import Derived.Test.YtadikcioacaphaaWalkPu
import Derived.Test.YtadikcioacaphaaWalkRq
namespace Go.Proofs.Ytadikcioacaphaa
open Go.RowKit

def Ok8 (l : List Nat) : Prop := ∀ b ∈ l, b ≤ 255
theorem Ok8.right {a b : List Nat} (h : Ok8 (a ++ b)) : Ok8 b := fun x hx => h x (List.mem_append_right _ hx)
theorem numS_back {l r : List Nat} {v : Int} (hb : Ok8 l) (h : numS l = .ok v r) : l = bytZ v ++ r ∧ I64 v := by
  obtain ⟨u, h1, h2, _, h4⟩ := numA_one l 0 0 v r (by decide) (by decide) hb h
  simp at h1 h4
  refine ⟨?_, ?_⟩
  · rw [h2]
    unfold bytZ
    rw [h1, encZ_decZ]
  · rw [h1]; exact decZ_in h4
theorem numsS_back : ∀ {n : Nat} {l r : List Nat} {vs : List Int}, Ok8 l → numsS n l = .ok vs r → l = bytL vs ++ r ∧ ∀ v ∈ vs, I64 v
  | 0, l, r, vs, _, h => by
    simp only [numsS] at h
    injection h with h1 h2
    subst h1 h2
    exact ⟨rfl, fun v h => by simp at h⟩
  | n + 1, l, r, vs, hb, h => by
    simp only [numsS] at h
    cases h1 : numS l with
    | err k => rw [h1] at h; simp [RR.bind] at h
    | ok v l1 =>
      rw [h1] at h
      simp only [RR.bind] at h
      obtain ⟨e1, i1⟩ := numS_back hb h1
      cases h2 : numsS n l1 with
      | err k => rw [h2] at h; simp at h
      | ok vs2 l2 =>
        rw [h2] at h
        simp only at h
        injection h with h3 h4
        subst h3 h4
        obtain ⟨e2, i2⟩ := numsS_back (by rw [e1] at hb; exact hb.right) h2
        refine ⟨by rw [e1, e2]; simp [bytL], fun x hx => ?_⟩
        rcases List.mem_cons.1 hx with rfl | hx
        · exact i1
        · exact i2 x hx
theorem cntR_back {l r : List Nat} {n : Nat} (hb : Ok8 l) (h : cntR l = .ok n r) : l = bytZ (n : Int) ++ r ∧ n ≤ r.length := by
  unfold cntR at h
  cases h1 : numS l with
  | err k => rw [h1] at h; simp [RR.bind] at h
  | ok v l1 =>
    rw [h1] at h
    simp only [RR.bind] at h
    split at h
    · cases h
    · injection h with h2 h3
      subst h3
      obtain ⟨e1, _⟩ := numS_back hb h1
      have : ((n : Nat) : Int) = v := by omega
      rw [this]
      exact ⟨e1, by omega⟩
theorem rowsS_back {k : Nat} {l r : List Nat} {zs : List Int} (hb : Ok8 l) (h : rowsS k l = .ok zs r) : ∃ n, zs.length = k * n ∧ l = bytR n zs ++ r ∧ (∀ z ∈ zs, I64 z) ∧ n ≤ l.length := by
  unfold rowsS at h
  cases h1 : cntR l with
  | err k => rw [h1] at h; simp [RR.bind] at h
  | ok n l1 =>
    rw [h1] at h
    simp only [RR.bind] at h
    obtain ⟨e1, hn⟩ := cntR_back hb h1
    obtain ⟨e2, i2⟩ := numsS_back (by rw [e1] at hb; exact hb.right) h
    refine ⟨n, numsS_len h, by rw [e1, e2]; simp [bytR], i2, ?_⟩
    rw [e1, List.length_append]; omega
theorem pgsN_back : ∀ {n : Nat} {l r : List Nat} {ps : List Pg}, Ok8 l → l.length ≤ 1099511627776 → pgsN n l = .ok ps r → ps.length = n ∧ l = bytP ps ++ r ∧ PgOk ps
  | 0, l, r, ps, _, _, h => by
    simp only [pgsN] at h
    injection h with h1 h2
    subst h1 h2
    exact ⟨rfl, rfl, fun p h => by simp at h⟩
  | n + 1, l, r, ps, hb, hl, h => by
    simp only [pgsN] at h
    cases h1 : numS l with
    | err k => rw [h1] at h; simp [RR.bind] at h
    | ok v l1 =>
      rw [h1] at h
      simp only [RR.bind] at h
      obtain ⟨e1, i1⟩ := numS_back hb h1
      have hb1 : Ok8 l1 := by rw [e1] at hb; exact hb.right
      cases h2 : rowsS 1 l1 with
      | err k => rw [h2] at h; simp at h
      | ok zs l2 =>
        rw [h2] at h
        simp only at h
        obtain ⟨m, hz, e2, i2, hm⟩ := rowsS_back hb1 h2
        have hb2 : Ok8 l2 := by rw [e2] at hb1; exact hb1.right
        have hl1 : l1.length ≤ l.length := by rw [e1, List.length_append]; omega
        have hl2 : l2.length ≤ l1.length := by rw [e2, List.length_append]; omega
        cases h3 : pgsN n l2 with
        | err k => rw [h3] at h; simp at h
        | ok qs l3 =>
          rw [h3] at h
          simp only at h
          injection h with h4 h5
          subst h4 h5
          obtain ⟨e3, e4, i3⟩ := pgsN_back hb2 (by omega) h3
          have hm' : m = zs.length := by omega
          refine ⟨by simp [e3], by rw [e1, e2, e4, hm']; simp [bytP], fun p hp => ?_⟩
          rcases List.mem_cons.1 hp with rfl | hp
          · exact ⟨i1, i2, by show zs.length ≤ _; omega⟩
          · exact i3 p hp
theorem pgsS_back {l r : List Nat} {ps : List Pg} (hb : Ok8 l) (hl : l.length ≤ 1099511627776) (h : pgsS l = .ok ps r) : l = bytZ ps.length ++ bytP ps ++ r ∧ PgOk ps := by
  unfold pgsS at h
  cases h1 : cntR l with
  | err k => rw [h1] at h; simp [RR.bind] at h
  | ok n l1 =>
    rw [h1] at h
    simp only [RR.bind] at h
    obtain ⟨e1, hn⟩ := cntR_back hb h1
    obtain ⟨e2, e3, i3⟩ := pgsN_back (by rw [e1] at hb; exact hb.right) (by rw [e1, List.length_append] at hl; omega) h
    refine ⟨?_, i3⟩
    rw [e1, e3, ← e2]
    simp
theorem bytZ_pos (v : Int) : 1 ≤ (bytZ v).length := (bytZ_len v).1
theorem bytL_pos : ∀ (vs : List Int), vs.length ≤ (bytL vs).length
  | [] => by simp [bytL]
  | v :: vs => by
    have := bytL_pos vs
    have := bytZ_pos v
    simp only [bytL, List.length_cons, List.length_append]
    omega
/-- Errors are 8 or 9. -/
theorem numA_err : ∀ (l : List Nat) (i u k : Nat), numA i u l = .err k → 0 < k
  | [], i, u, k, h => by simp [numA] at h; omega
  | c :: r, i, u, k, h => by
    unfold numA at h
    split at h
    · injection h with h; omega
    · split at h
      · cases h
      · exact numA_err r _ _ k h
theorem numsS_err' : ∀ {n : Nat} {l : List Nat} {k : Nat}, numsS n l = .err k → 0 < k
  | 0, l, k, h => by simp [numsS] at h
  | n + 1, l, k, h => by
    simp only [numsS] at h
    cases h1 : numS l with
    | err k' => rw [h1] at h; simp only [RR.bind] at h; injection h with h; rw [← h]; exact numA_err _ _ _ _ h1
    | ok v r =>
      rw [h1] at h
      simp only [RR.bind] at h
      cases h2 : numsS n r with
      | err k' => rw [h2] at h; simp only at h; injection h with h; rw [← h]; exact numsS_err' h2
      | ok vs r2 => rw [h2] at h; simp at h
theorem cntR_err' {l : List Nat} {k : Nat} (h : cntR l = .err k) : 0 < k := by
  unfold cntR at h
  cases h1 : numS l with
  | err k' => rw [h1] at h; simp only [RR.bind] at h; injection h with h; rw [← h]; exact numA_err _ _ _ _ h1
  | ok v r =>
    rw [h1] at h
    simp only [RR.bind] at h
    split at h
    · injection h with h; omega
    · cases h
theorem rowsS_err' {j : Nat} {l : List Nat} {k : Nat} (h : rowsS j l = .err k) : 0 < k := by
  unfold rowsS at h
  cases h1 : cntR l with
  | err k' => rw [h1] at h; simp only [RR.bind] at h; injection h with h; rw [← h]; exact cntR_err' h1
  | ok n r => rw [h1] at h; simp only [RR.bind] at h; exact numsS_err' h
theorem pgsN_err' : ∀ {n : Nat} {l : List Nat} {k : Nat}, pgsN n l = .err k → 0 < k
  | 0, l, k, h => by simp [pgsN] at h
  | n + 1, l, k, h => by
    simp only [pgsN] at h
    cases h1 : numS l with
    | err k' => rw [h1] at h; simp only [RR.bind] at h; injection h with h; rw [← h]; exact numA_err _ _ _ _ h1
    | ok v r =>
      rw [h1] at h
      simp only [RR.bind] at h
      cases h2 : rowsS 1 r with
      | err k' => rw [h2] at h; simp only at h; injection h with h; rw [← h]; exact rowsS_err' h2
      | ok zs r2 =>
        rw [h2] at h
        simp only at h
        cases h3 : pgsN n r2 with
        | err k' => rw [h3] at h; simp only at h; injection h with h; rw [← h]; exact pgsN_err' h3
        | ok ps r3 => rw [h3] at h; simp at h
theorem pgsS_err' {l : List Nat} {k : Nat} (h : pgsS l = .err k) : 0 < k := by
  unfold pgsS at h
  cases h1 : cntR l with
  | err k' => rw [h1] at h; simp only [RR.bind] at h; injection h with h; rw [← h]; exact cntR_err' h1
  | ok n r => rw [h1] at h; simp only [RR.bind] at h; exact pgsN_err' h
theorem stS_err' {l : List Nat} {k : Nat} (h : stS l = .err k) : 0 < k := by
  unfold stS at h
  cases h1 : rowsS 1 l with
  | err k' => rw [h1] at h; simp only [RR.bind] at h; injection h with h; rw [← h]; exact rowsS_err' h1
  | ok a r1 =>
    rw [h1] at h; simp only [RR.bind] at h
    cases h2 : rowsS 7 r1 with
    | err k' => rw [h2] at h; simp only at h; injection h with h; rw [← h]; exact rowsS_err' h2
    | ok b r2 =>
      rw [h2] at h; simp only at h
      cases h3 : rowsS 4 r2 with
      | err k' => rw [h3] at h; simp only at h; injection h with h; rw [← h]; exact rowsS_err' h3
      | ok c r3 =>
        rw [h3] at h; simp only at h
        cases h4 : rowsS 2 r3 with
        | err k' => rw [h4] at h; simp only at h; injection h with h; rw [← h]; exact rowsS_err' h4
        | ok d r4 => rw [h4] at h; simp at h
theorem stS_back {l r : List Nat} {s : S4} (hb : Ok8 l) (h : stS l = .ok s r) : ∃ n0 n1 n2 n3, (s.1.length = 1 * n0 ∧ s.2.1.length = 7 * n1 ∧ s.2.2.1.length = 4 * n2 ∧ s.2.2.2.length = 2 * n3) ∧ l = bytR n0 s.1 ++ bytR n1 s.2.1 ++ bytR n2 s.2.2.1 ++ bytR n3 s.2.2.2 ++ r ∧ (∀ z ∈ s.1, I64 z) ∧ (∀ z ∈ s.2.1, I64 z) ∧ (∀ z ∈ s.2.2.1, I64 z) ∧ ∀ z ∈ s.2.2.2, I64 z := by
  unfold stS at h
  cases h1 : rowsS 1 l with
  | err k' => rw [h1] at h; simp [RR.bind] at h
  | ok a r1 =>
    rw [h1] at h; simp only [RR.bind] at h
    obtain ⟨n0, l0, e0, i0, _⟩ := rowsS_back hb h1
    have hb1 : Ok8 r1 := by rw [e0] at hb; exact hb.right
    cases h2 : rowsS 7 r1 with
    | err k' => rw [h2] at h; simp at h
    | ok b r2 =>
      rw [h2] at h; simp only at h
      obtain ⟨n1, l1, e1, i1, _⟩ := rowsS_back hb1 h2
      have hb2 : Ok8 r2 := by rw [e1] at hb1; exact hb1.right
      cases h3 : rowsS 4 r2 with
      | err k' => rw [h3] at h; simp at h
      | ok c r3 =>
        rw [h3] at h; simp only at h
        obtain ⟨n2, l2, e2, i2, _⟩ := rowsS_back hb2 h3
        have hb3 : Ok8 r3 := by rw [e2] at hb2; exact hb2.right
        cases h4 : rowsS 2 r3 with
        | err k' => rw [h4] at h; simp at h
        | ok d r4 =>
          rw [h4] at h; simp only at h
          obtain ⟨n3, l3, e3, i3, _⟩ := rowsS_back hb3 h4
          injection h with h5 h6
          subst h5 h6
          exact ⟨n0, n1, n2, n3, ⟨l0, l1, l2, l3⟩, by rw [e0, e1, e2, e3]; simp, i0, i1, i2, i3⟩
theorem rdS_err {α : Type} {f : List Nat → RR α} {bs : List Nat} {i : Int} {k : Nat} (h : rdS f bs i = .err k) (hf : ∀ l, f l = .err k → 0 < k) : 0 < k := by
  unfold rdS at h
  split at h
  · injection h with h; omega
  · exact hf _ h
theorem rdS_zero {α : Type} {f : List Nat → RR α} {bs : List Nat} : rdS f bs 0 = f bs := by
  have := rdS_in (f := f) (bs := bs) (k := 0) (Nat.zero_le _)
  simpa using this
end Go.Proofs.Ytadikcioacaphaa
