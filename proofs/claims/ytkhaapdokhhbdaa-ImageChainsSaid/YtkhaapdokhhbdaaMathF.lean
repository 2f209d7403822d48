/-
  How long a composition is, and how many pages fit a list. No conditions.
-/
import Derived.Test.YtkhaapdokhhbdaaMathC
namespace Go.Proofs.Ytkhaapdokhhbdaa

/-- Ascending numbers between two bounds. -/
theorem asc_len : ∀ (l : List Pg) (lo : Int) (n : Nat), (l.map Prod.fst).Pairwise (· < ·) → (∀ p ∈ l, lo ≤ p.1 ∧ p.1 < lo + n) → l.length ≤ n
  | [], _, _, _, _ => Nat.zero_le _
  | p :: r, lo, n, h, hb => by
    rw [List.map_cons, List.pairwise_cons] at h
    have hp := hb p (List.mem_cons_self ..)
    have ih := asc_len r (lo + 1) (n - 1) h.2 fun q hq => by
      have h1 := h.1 q.1 (List.mem_map.2 ⟨q, hq, rfl⟩)
      have h2 := hb q (List.mem_cons_of_mem _ hq)
      omega
    rw [List.length_cons]; omega
theorem fits_len {N : Nat} {l : List Pg} (h : Fits N l) : l.length ≤ cntS N :=
  asc_len l 0 (cntS N) h.1 fun p hp => by have := h.2 p hp; omega
theorem nodup_of_asc {l : List Pg} (h : (l.map Prod.fst).Pairwise (· < ·)) : l.Nodup := (List.pairwise_map.1 h).imp fun {a b} h e => by rw [e] at h; omega
theorem ex_comp_len : ∀ z : List Pg, ∃ l, IsComp l z ∧ l.length ≤ z.length
  | [] => ⟨[], ⟨by simp, by simp [lastS]⟩, Nat.le_refl _⟩
  | p :: r => by
    obtain ⟨l, hl, hlen⟩ := ex_comp_len r
    obtain ⟨L, hL⟩ := ex_comp (p :: r)
    refine ⟨L, hL, ?_⟩
    rw [List.length_cons]
    cases hr : lastS r p.1 with
    | some d =>
      have : IsComp L r := ⟨hL.1, fun n c => by
        rw [hL.2]
        simp only [lastS]
        cases hn : lastS r n with
        | some e => rfl
        | none =>
          by_cases hp : p.1 = n
          · rw [hp, hn] at hr; cases hr
          · simp [hp]⟩
      rw [this.eq hl]; omega
    | none =>
      have hm : ∀ q, q ∈ L ↔ q ∈ p :: l := fun q => by
        rw [show q = (q.1, q.2) from rfl, hL.2, List.mem_cons, hl.2]
        simp only [lastS]
        cases hn : lastS r q.1 with
        | some e =>
          constructor
          · exact .inr
          · rintro (h | h)
            · rw [← h] at hr; rw [hr] at hn; cases hn
            · exact h
        | none =>
          by_cases hp : p.1 = q.1
          · simp only [hp, if_true]
            constructor
            · intro h
              injection h with h
              exact .inl (by rw [← hp, ← h])
            · rintro (h | h)
              · rw [← h]
              · cases h
          · simp only [hp, if_false]
            constructor
            · intro h; cases h
            · rintro (h | h)
              · exact absurd (by rw [← h]) hp
              · cases h
      have hno : p ∉ l := fun h => by
        have := (hl.2 p.1 p.2).1 h
        rw [hr] at this; cases this
      have := ((List.perm_ext_iff_of_nodup (nodup_of_asc hL.1) (List.nodup_cons.2 ⟨hno, nodup_of_asc hl.1⟩)).2 hm).length_eq
      rw [List.length_cons] at this
      omega
theorem comp_len {L z : List Pg} (h : IsComp L z) : L.length ≤ z.length := by
  obtain ⟨l, hl, hlen⟩ := ex_comp_len z
  rw [h.eq hl]; exact hlen
end Go.Proofs.Ytkhaapdokhhbdaa
