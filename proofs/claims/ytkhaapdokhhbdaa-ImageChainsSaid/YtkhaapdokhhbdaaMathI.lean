/-
  Pages of lists of numbers: differences, what pages replace, and their composition, on plain lists. No conditions.
-/
import Derived.Test.YtkhaapdokhhbdaaRows
namespace Go.Proofs.Ytkhaapdokhhbdaa

/-- A page: its number and its cells. -/
abbrev Pg := Int × List Int
/-- How many pages n cells have. -/
def cntS (n : Nat) : Nat := (n + 3) / 4
/-- The cells of page k. -/
def pgS (zs : List Int) (k : Nat) : List Int := (zs.drop (4 * k)).take 4
theorem pgS_len (zs : List Int) (k : Nat) : (pgS zs k).length = min 4 (zs.length - 4 * k) := by simp [pgS]
theorem pgS_same (a b : List Int) (h : a.length = b.length) (k : Nat) : (pgS a k).length = (pgS b k).length := by rw [pgS_len, pgS_len, h]
theorem pgS_getD (zs : List Int) (k j : Nat) (h : j < 4) : (pgS zs k).getD j 0 = zs.getD (4 * k + j) 0 := by
  unfold pgS
  rw [List.getD_eq_getElem?_getD, List.getD_eq_getElem?_getD, List.getElem?_take_of_lt h, List.getElem?_drop]
theorem pgS_out (zs : List Int) (k : Nat) (h : cntS zs.length ≤ k) : pgS zs k = [] := by
  unfold pgS cntS at *
  rw [List.drop_eq_nil_of_le (by omega)]; rfl
/-- Lists whose pages agree agree. -/
theorem eq_of_pages (a b : List Int) (h : a.length = b.length) (hp : ∀ k, k < cntS a.length → pgS a k = pgS b k) : a = b := by
  apply List.ext_getElem? 
  intro i
  by_cases hi : i < a.length
  · have hk := hp (i / 4) (by unfold cntS; omega)
    have e : ∀ zs : List Int, zs[i]? = (pgS zs (i / 4))[i % 4]? := fun zs => by
      unfold pgS
      rw [List.getElem?_take_of_lt (by omega), List.getElem?_drop]
      congr 1; omega
    rw [e a, e b, hk]
  · rw [List.getElem?_eq_none (by omega), List.getElem?_eq_none (by omega)]

/-- The first n pages of b that a does not have. -/
def diffR (a b : List Int) : Nat → List Pg
  | 0 => []
  | n + 1 => diffR a b n ++ if a.length ≠ b.length ∨ pgS a n ≠ pgS b n then [((n : Int), pgS b n)] else []
def diffS (a b : List Int) : List Pg := diffR a b (cntS b.length)
theorem diffR_yes {a b : List Int} {n : Nat} (h : a.length ≠ b.length ∨ pgS a n ≠ pgS b n) : diffR a b (n + 1) = diffR a b n ++ [((n : Int), pgS b n)] := by
  rw [diffR, if_pos h]
theorem diffR_no {a b : List Int} {n : Nat} (h : ¬ (a.length ≠ b.length ∨ pgS a n ≠ pgS b n)) : diffR a b (n + 1) = diffR a b n := by
  rw [diffR, if_neg h, List.append_nil]
theorem diffR_len (a b : List Int) : ∀ n, (diffR a b n).length ≤ n
  | 0 => by simp [diffR]
  | n + 1 => by
    have := diffR_len a b n
    rw [diffR, List.length_append]
    split <;> simp <;> omega
theorem diffR_mem (a b : List Int) : ∀ n p, p ∈ diffR a b n ↔ ∃ k, k < n ∧ p = ((k : Int), pgS b k) ∧ (a.length ≠ b.length ∨ pgS a k ≠ pgS b k)
  | 0, p => by simp [diffR]
  | n + 1, p => by
    rw [diffR, List.mem_append, diffR_mem a b n p]
    constructor
    · rintro (⟨k, h1, h2, h3⟩ | h)
      · exact ⟨k, by omega, h2, h3⟩
      · split at h
        · rename_i hc
          rw [List.mem_singleton] at h
          exact ⟨n, by omega, h, hc⟩
        · simp at h
    · rintro ⟨k, h1, h2, h3⟩
      by_cases hk : k = n
      · subst hk
        right
        rw [if_pos h3, h2]; simp
      · exact .inl ⟨k, by omega, h2, h3⟩
/-- All numbers are below n, ascending. -/
theorem diffR_asc (a b : List Int) : ∀ n, ((diffR a b n).map Prod.fst).Pairwise (· < ·) ∧ ∀ p ∈ diffR a b n, 0 ≤ p.1 ∧ p.1 < n
  | 0 => by simp [diffR]
  | n + 1 => by
    obtain ⟨h1, h2⟩ := diffR_asc a b n
    rw [diffR]
    split
    · refine ⟨?_, ?_⟩
      · rw [List.map_append, List.pairwise_append]
        refine ⟨h1, by simp, fun x hx y hy => ?_⟩
        obtain ⟨p, hp, rfl⟩ := List.mem_map.1 hx
        simp only [List.map_cons, List.map_nil, List.mem_singleton] at hy
        subst hy
        exact (h2 p hp).2
      · intro p hp
        rcases List.mem_append.1 hp with hp | hp
        · have := h2 p hp; omega
        · rw [List.mem_singleton] at hp
          subst hp
          show 0 ≤ (n : Int) ∧ (n : Int) < _
          omega
    · rw [List.append_nil]
      exact ⟨h1, fun p hp => by have := h2 p hp; omega⟩

/-- The number of all cells. -/
def costS : List Pg → Nat
  | [] => 0
  | p :: r => p.2.length + costS r
theorem costS_app (a b : List Pg) : costS (a ++ b) = costS a + costS b := by
  induction a with
  | nil => simp [costS]
  | cons p r ih => simp only [List.cons_append, costS, ih]; omega
theorem diffR_cost (a b : List Int) : ∀ n, costS (diffR a b n) ≤ min (4 * n) b.length
  | 0 => by simp [diffR, costS]
  | n + 1 => by
    have h := diffR_cost a b n
    rw [diffR, costS_app]
    split
    · simp only [costS, pgS_len]; omega
    · simp only [costS]; omega
theorem diff_cost (a b : List Int) : costS (diffS a b) ≤ b.length := by
  have := diffR_cost a b (cntS b.length); unfold diffS; omega

/-- The list with page k replaced. -/
def putS (zs : List Int) (k : Nat) (cs : List Int) : List Int := zs.take (4 * k) ++ cs ++ zs.drop (4 * k + cs.length)
theorem putS_len {zs : List Int} {k : Nat} {cs : List Int} (h : cs.length = (pgS zs k).length) (hk : 4 * k ≤ zs.length) : (putS zs k cs).length = zs.length := by
  rw [pgS_len] at h
  simp [putS]; omega
/-- What pages make of a list: the list and 0, or nothing and an error's number. -/
def appS (zs : List Int) : List Pg → List Int × Int
  | [] => (zs, 0)
  | p :: r => if p.1 < 0 ∨ (cntS zs.length : Int) ≤ p.1 then ([], 3) else if p.2.length ≠ (pgS zs p.1.toNat).length then ([], 7) else appS (putS zs p.1.toNat p.2) r
/-- What the last page with a number holds. -/
def lastS : List Pg → Int → Option (List Int)
  | [], _ => none
  | p :: r, n => match lastS r n with | some c => some c | none => if p.1 = n then some p.2 else none
theorem lastS_app (x y : List Pg) (n : Int) : lastS (x ++ y) n = match lastS y n with | some c => some c | none => lastS x n := by
  induction x with
  | nil => simp only [List.nil_append, lastS]; cases lastS y n <;> rfl
  | cons p r ih =>
    simp only [List.cons_append, lastS, ih]
    cases lastS y n <;> rfl
theorem lastS_mem {l : List Pg} {n : Int} {c : List Int} (h : lastS l n = some c) : (n, c) ∈ l := by
  induction l with
  | nil => simp [lastS] at h
  | cons p r ih =>
    simp only [lastS] at h
    cases hr : lastS r n with
    | some d => rw [hr] at h; exact List.mem_cons_of_mem _ (ih (by rw [hr]; exact h))
    | none =>
      rw [hr] at h
      by_cases hp : p.1 = n
      · simp only [hp, if_true, Option.some.injEq] at h
        subst hp h
        exact List.mem_cons_self ..
      · simp [hp] at h
theorem lastS_none {l : List Pg} {n : Int} : lastS l n = none ↔ ∀ p ∈ l, p.1 ≠ n := by
  induction l with
  | nil => simp [lastS]
  | cons p r ih =>
    simp only [lastS, List.forall_mem_cons]
    cases hr : lastS r n with
    | some d =>
      simp only [hr, reduceCtorEq, false_iff, not_and] at ih ⊢
      intro _ h; exact absurd h ih
    | none =>
      rw [hr] at ih
      by_cases hp : p.1 = n
      · simp [hp]
      · simp only [hp, if_false, true_iff, ne_eq, not_false_eq_true, true_and]
        exact ih.1 rfl
/-- A list is the composition of another one: ascending, and each number's last page. -/
def IsComp (l z : List Pg) : Prop := (l.map Prod.fst).Pairwise (· < ·) ∧ ∀ n c, (n, c) ∈ l ↔ lastS z n = some c
theorem asc_lastS {l : List Pg} (h : (l.map Prod.fst).Pairwise (· < ·)) : ∀ n c, (n, c) ∈ l ↔ lastS l n = some c := by
  induction l with
  | nil => simp [lastS]
  | cons p r ih =>
    rw [List.map_cons, List.pairwise_cons] at h
    intro n c
    rw [List.mem_cons, ih h.2 n c]
    simp only [lastS]
    cases hr : lastS r n with
    | some d =>
      constructor
      · rintro (rfl | h1)
        · have := h.1 n (List.mem_map.2 ⟨_, lastS_mem hr, rfl⟩); omega
        · simpa using h1
      · intro h1; exact .inr (by simpa using h1)
    | none =>
      constructor
      · rintro (rfl | h1)
        · simp
        · simp at h1
      · intro h1
        by_cases hp : p.1 = n
        · simp only [hp, if_true, Option.some.injEq] at h1
          left; rw [← hp, ← h1]
        · simp [hp] at h1
theorem IsComp.last {l z : List Pg} (h : IsComp l z) (n : Int) : lastS l n = lastS z n := by
  cases hz : lastS z n with
  | some c => rw [← asc_lastS h.1]; exact (h.2 n c).2 hz
  | none =>
    cases hl : lastS l n with
    | none => rfl
    | some c => have := (h.2 n c).1 ((asc_lastS h.1 n c).2 hl); rw [hz] at this; cases this
/-- There is just one. -/
theorem asc_ext : ∀ (a b : List Pg), (a.map Prod.fst).Pairwise (· < ·) → (b.map Prod.fst).Pairwise (· < ·) → (∀ n c, (n, c) ∈ a ↔ (n, c) ∈ b) → a = b
  | [], [], _, _, _ => rfl
  | [], p :: r, _, _, h => by have := (h p.1 p.2).2 (List.mem_cons_self ..); simp at this
  | p :: r, [], _, _, h => by have := (h p.1 p.2).1 (List.mem_cons_self ..); simp at this
  | p :: r, q :: t, h1, h2, h => by
    rw [List.map_cons, List.pairwise_cons] at h1 h2
    have hp := (h p.1 p.2).1 (List.mem_cons_self ..)
    have hq := (h q.1 q.2).2 (List.mem_cons_self ..)
    have le1 : q.1 ≤ p.1 := by
      rcases List.mem_cons.1 hp with e | e
      · rw [← e]; exact Int.le_refl _
      · have := h2.1 p.1 (List.mem_map.2 ⟨_, e, rfl⟩); omega
    have le2 : p.1 ≤ q.1 := by
      rcases List.mem_cons.1 hq with e | e
      · rw [← e]; exact Int.le_refl _
      · have := h1.1 q.1 (List.mem_map.2 ⟨_, e, rfl⟩); omega
    have epq : p = q := by
      rcases List.mem_cons.1 hp with e | e
      · exact e
      · have := h2.1 p.1 (List.mem_map.2 ⟨_, e, rfl⟩); omega
    subst epq
    have ht : r = t := asc_ext r t h1.2 h2.2 fun n c => by
      have hh := h n c
      rw [List.mem_cons, List.mem_cons] at hh
      constructor
      · intro hr
        rcases hh.1 (.inr hr) with e | e
        · have := h1.1 n (List.mem_map.2 ⟨_, hr, rfl⟩); rw [← e] at this; simp at this
        · exact e
      · intro hr
        rcases hh.2 (.inr hr) with e | e
        · have := h2.1 n (List.mem_map.2 ⟨_, hr, rfl⟩); rw [← e] at this; simp at this
        · exact e
    rw [ht]
theorem IsComp.eq {a b z : List Pg} (h : IsComp a z) (h' : IsComp b z) : a = b :=
  asc_ext a b h.1 h'.1 fun n c => by rw [h.2 n c, h'.2 n c]
end Go.Proofs.Ytkhaapdokhhbdaa
