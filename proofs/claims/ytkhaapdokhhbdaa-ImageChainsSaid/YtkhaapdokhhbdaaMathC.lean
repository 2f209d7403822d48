/-
  The composition of two lists of pages: that there is one, and how the document's answer finds it. No conditions.
-/
import Derived.Test.YtkhaapdokhhbdaaMathJ
namespace Go.Proofs.Ytkhaapdokhhbdaa

theorem ex_ins : ∀ (l : List Pg) (p : Pg), (l.map Prod.fst).Pairwise (· < ·) → (∀ q ∈ l, q.1 ≠ p.1) → ∃ l' : List Pg, (l'.map Prod.fst).Pairwise (· < ·) ∧ ∀ q, q ∈ l' ↔ q = p ∨ q ∈ l
  | [], p, _, _ => ⟨[p], by simp, by simp⟩
  | q :: r, p, h, hn => by
    have hq := hn q (List.mem_cons_self ..)
    have h' := h
    rw [List.map_cons, List.pairwise_cons] at h
    by_cases hlt : p.1 < q.1
    · refine ⟨p :: q :: r, ?_, fun x => by simp⟩
      rw [List.map_cons, List.pairwise_cons]
      refine ⟨fun x hx => ?_, h'⟩
      rw [List.map_cons, List.mem_cons] at hx
      rcases hx with rfl | hx
      · exact hlt
      · have := h.1 x hx; omega
    · obtain ⟨l', h1, h2⟩ := ex_ins r p h.2 fun x hx => hn x (List.mem_cons_of_mem _ hx)
      refine ⟨q :: l', ?_, fun x => ?_⟩
      · rw [List.map_cons, List.pairwise_cons]
        refine ⟨fun x hx => ?_, h1⟩
        obtain ⟨y, hy, rfl⟩ := List.mem_map.1 hx
        rcases (h2 y).1 hy with rfl | hy
        · omega
        · exact h.1 _ (List.mem_map.2 ⟨y, hy, rfl⟩)
      · rw [List.mem_cons, h2, List.mem_cons]
        constructor
        · rintro (h | h | h)
          · exact .inr (.inl h)
          · exact .inl h
          · exact .inr (.inr h)
        · rintro (h | h | h)
          · exact .inr (.inl h)
          · exact .inl h
          · exact .inr (.inr h)
/-- There is a composition. -/
theorem ex_comp : ∀ z : List Pg, ∃ l, IsComp l z
  | [] => ⟨[], by simp, by simp [lastS]⟩
  | p :: r => by
    obtain ⟨l, h1, h2⟩ := ex_comp r
    cases hr : lastS r p.1 with
    | some d =>
      refine ⟨l, h1, fun n c => ?_⟩
      rw [h2]
      simp only [lastS]
      cases hn : lastS r n with
      | some e => rfl
      | none =>
        by_cases hp : p.1 = n
        · rw [hp, hn] at hr; cases hr
        · simp [hp]
    | none =>
      have hno : ∀ q ∈ l, q.1 ≠ p.1 := fun q hq e => by
        have := (h2 q.1 q.2).1 hq
        rw [e, hr] at this; cases this
      obtain ⟨l', h3, h4⟩ := ex_ins l p h1 hno
      refine ⟨l', h3, fun n c => ?_⟩
      rw [h4, h2]
      simp only [lastS]
      cases hn : lastS r n with
      | some e =>
        constructor
        · rintro (h | h)
          · have : p.1 = n := by rw [← h]
            rw [this, hn] at hr; cases hr
          · exact h
        · exact .inr
      | none =>
        by_cases hp : p.1 = n
        · simp only [hp, if_true]
          constructor
          · rintro (h | h)
            · rw [← h]
            · cases h
          · intro h
            left
            injection h with h
            rw [← hp, ← h]
        · simp only [hp, if_false]
          constructor
          · rintro (h | h)
            · exact absurd (by rw [← h]) hp
            · exact h
          · exact .inr
/-- A page is inserted behind those that have no greater number. -/
theorem ins_asc {l : List Pg} {p : Pg} {k : Nat} (h : (l.map Prod.fst).Pairwise (· < ·)) (h1 : ∀ q ∈ l.drop k, p.1 < q.1) (h2 : ∀ q ∈ l.take k, q.1 < p.1) :
    ((l.take k ++ p :: l.drop k).map Prod.fst).Pairwise (· < ·) ∧ ∀ q, q ∈ (l.take k ++ p :: l.drop k) ↔ q = p ∨ q ∈ l := by
  have hl : l = l.take k ++ l.drop k := (List.take_append_drop k l).symm
  have hh := h
  rw [hl, List.map_append, List.pairwise_append] at hh
  obtain ⟨a1, a2, a3⟩ := hh
  constructor
  · rw [List.map_append, List.pairwise_append, List.map_cons, List.pairwise_cons]
    refine ⟨a1, ⟨fun x hx => ?_, a2⟩, fun x hx y hy => ?_⟩
    · obtain ⟨q, hq, rfl⟩ := List.mem_map.1 hx
      exact h1 q hq
    · rcases List.mem_cons.1 hy with rfl | hy
      · obtain ⟨q, hq, rfl⟩ := List.mem_map.1 hx
        exact h2 q hq
      · exact a3 x hx y hy
  · intro q
    rw [List.mem_append, List.mem_cons]
    constructor
    · rintro (h | h | h)
      · exact .inr (List.mem_of_mem_take h)
      · exact .inl h
      · exact .inr (List.mem_of_mem_drop h)
    · rintro (h | h)
      · exact .inr (.inl h)
      · rw [hl] at h
        rcases List.mem_append.1 h with h | h
        · exact .inl h
        · exact .inr (.inr h)
/-- What the loop of insert leaves says where the page belongs. -/
theorem ins_split {l : List Pg} {p : Pg} {k : Nat} (h : (l.map Prod.fst).Pairwise (· < ·)) (hk : k ≤ l.length) (hn : ∀ q ∈ l, q.1 ≠ p.1) (h2 : k = 0 ∨ ∃ q, l[k - 1]? = some q ∧ q.1 ≤ p.1) : ∀ q ∈ l.take k, q.1 < p.1 := by
  intro q hq
  rcases h2 with rfl | ⟨e, he, hle⟩
  · simp at hq
  · obtain ⟨i, hi, rfl⟩ := List.mem_iff_getElem.1 hq
    rw [List.length_take] at hi
    rw [List.getElem_take]
    have hkl : k - 1 < l.length := by omega
    rw [List.getElem?_eq_getElem hkl] at he
    injection he with he
    have hne := hn l[i] (List.getElem_mem ..)
    by_cases hik : i = k - 1
    · subst hik
      rw [he] at hne ⊢
      omega
    · have := List.pairwise_iff_getElem.1 h i (k - 1) (by rw [List.length_map]; omega) (by rw [List.length_map]; omega) (by omega)
      rw [List.getElem_map, List.getElem_map, he] at this
      omega
/-- No later page has the number of page i. -/
def IsLa (z : List Pg) (i : Nat) : Prop := ∀ p, z[i]? = some p → ∀ j q, i < j → z[j]? = some q → q.1 ≠ p.1
theorem lastS_iff : ∀ (z : List Pg) (n : Int) (c : List Int), lastS z n = some c ↔ ∃ i, z[i]? = some (n, c) ∧ IsLa z i
  | [], n, c => by simp [lastS]
  | p :: r, n, c => by
    simp only [lastS]
    constructor
    · intro h
      cases hr : lastS r n with
      | some d =>
        rw [hr] at h
        simp only [Option.some.injEq] at h
        subst h
        obtain ⟨i, h1, h2⟩ := (lastS_iff r n d).1 hr
        refine ⟨i + 1, by simpa using h1, fun q hq j s hj hs => ?_⟩
        match j, hj with
        | j + 1, hj => exact h2 q (by simpa using hq) j s (by omega) (by simpa using hs)
      | none =>
        rw [hr] at h
        by_cases hp : p.1 = n
        · simp only [hp, if_true, Option.some.injEq] at h
          refine ⟨0, by simp [← hp, ← h], fun q hq j s hj hs => ?_⟩
          simp only [List.getElem?_cons_zero, Option.some.injEq] at hq
          subst hq
          match j, hj with
          | j + 1, _ =>
            rw [hp]
            exact lastS_none.1 hr s (List.mem_of_getElem? (by simpa using hs))
        · simp [hp] at h
    · rintro ⟨i, h1, h2⟩
      match i with
      | 0 =>
        simp only [List.getElem?_cons_zero, Option.some.injEq] at h1
        subst h1
        have : lastS r n = none := lastS_none.2 fun q hq => by
          obtain ⟨j, hj⟩ := List.getElem?_of_mem hq
          exact h2 (n, c) rfl (j + 1) q (by omega) (by simpa using hj)
        rw [this]; simp
      | i + 1 =>
        have : lastS r n = some c := (lastS_iff r n c).2 ⟨i, by simpa using h1, fun q hq j s hj hs => h2 q (by simpa using hq) (j + 1) s (by omega) (by simpa using hs)⟩
        rw [this]
/-- What has been gathered of the first k pages: those that are the last with their number and are not skipped. -/
structure CmHead (z : List Pg) (Bs : Pg → Prop) (sk : Int → Prop) (k : Nat) (out : List Pg) : Prop where
  asc : (out.map Prod.fst).Pairwise (· < ·)
  mem : ∀ q, q ∈ out ↔ Bs q ∨ ∃ i, i < k ∧ z[i]? = some q ∧ IsLa z i ∧ ¬ sk q.1
theorem CmHead.no {z : List Pg} {Bs : Pg → Prop} {sk : Int → Prop} {k : Nat} {out : List Pg} {p : Pg} (h : CmHead z Bs sk k out) (hp : z[k]? = some p) (hn : ¬ (IsLa z k ∧ ¬ sk p.1)) : CmHead z Bs sk (k + 1) out := by
  refine ⟨h.asc, fun q => ?_⟩
  rw [h.mem]
  constructor
  · rintro (h | ⟨i, h1, h2⟩)
    · exact .inl h
    · exact .inr ⟨i, by omega, h2⟩
  · rintro (h | ⟨i, h1, h2, h3, h4⟩)
    · exact .inl h
    · by_cases hik : i = k
      · subst hik
        rw [hp] at h2
        injection h2 with h2
        subst h2
        exact absurd ⟨h3, h4⟩ hn
      · exact .inr ⟨i, by omega, h2, h3, h4⟩
theorem CmHead.fresh {z : List Pg} {Bs : Pg → Prop} {sk : Int → Prop} {k : Nat} {out : List Pg} {p : Pg} (h : CmHead z Bs sk k out) (hB : ∀ q, Bs q → sk q.1) (hp : z[k]? = some p) (hs : ¬ sk p.1) : ∀ q ∈ out, q.1 ≠ p.1 := by
  intro q hq e
  rcases (h.mem q).1 hq with h1 | ⟨i, h1, h2, h3, _⟩
  · exact hs (e ▸ hB q h1)
  · exact h3 q h2 k p h1 hp e.symm
theorem CmHead.yes {z : List Pg} {Bs : Pg → Prop} {sk : Int → Prop} {k j : Nat} {out : List Pg} {p : Pg} (h : CmHead z Bs sk k out) (hB : ∀ q, Bs q → sk q.1) (hp : z[k]? = some p) (hl : IsLa z k) (hs : ¬ sk p.1)
    (hj : j ≤ out.length) (h1 : ∀ q ∈ out.drop j, p.1 < q.1) (h2 : j = 0 ∨ ∃ q, out[j - 1]? = some q ∧ q.1 ≤ p.1) : CmHead z Bs sk (k + 1) (out.take j ++ p :: out.drop j) := by
  obtain ⟨a, b⟩ := ins_asc h.asc h1 (ins_split h.asc hj (h.fresh hB hp hs) h2)
  refine ⟨a, fun q => ?_⟩
  rw [b, h.mem]
  constructor
  · rintro (rfl | h | ⟨i, h1, h2⟩)
    · exact .inr ⟨k, by omega, hp, hl, hs⟩
    · exact .inl h
    · exact .inr ⟨i, by omega, h2⟩
  · rintro (h | ⟨i, h1, h2, h3, h4⟩)
    · exact .inr (.inl h)
    · by_cases hik : i = k
      · subst hik
        rw [hp] at h2
        injection h2 with h2
        exact .inl h2.symm
      · exact .inr (.inr ⟨i, by omega, h2, h3, h4⟩)
theorem CmHead.start (z : List Pg) : CmHead z (fun _ => False) (fun _ => False) 0 [] := ⟨by simp, fun q => by simp⟩
theorem CmHead.mid {x y : List Pg} {out : List Pg} (h : CmHead y (fun _ => False) (fun _ => False) y.length out) : CmHead x (fun q => lastS y q.1 = some q.2) (fun n => lastS y n ≠ none) 0 out := by
  refine ⟨h.asc, fun q => ?_⟩
  rw [h.mem, lastS_iff]
  constructor
  · rintro (h | ⟨i, _, h2, h3, _⟩)
    · exact h.elim
    · exact .inl ⟨i, h2, h3⟩
  · rintro (⟨i, h2, h3⟩ | ⟨i, h1, _⟩)
    · exact .inr ⟨i, (List.getElem?_eq_some_iff.1 h2).1, h2, h3, fun h => h⟩
    · omega
theorem CmHead.done {x y : List Pg} {out : List Pg} (h : CmHead x (fun q => lastS y q.1 = some q.2) (fun n => lastS y n ≠ none) x.length out) : IsComp out (x ++ y) := by
  refine ⟨h.asc, fun n c => ?_⟩
  rw [h.mem, lastS_app]
  cases hy : lastS y n with
  | some d =>
    constructor
    · rintro (h | ⟨i, _, _, _, h4⟩)
      · exact h
      · exact absurd (by simp) h4
    · intro h; exact .inl h
  | none =>
    simp only
    rw [lastS_iff]
    constructor
    · rintro (h | ⟨i, _, h2, h3, _⟩)
      · cases h
      · exact ⟨i, h2, h3⟩
    · rintro ⟨i, h2, h3⟩
      exact .inr ⟨i, (List.getElem?_eq_some_iff.1 h2).1, h2, h3, fun h => h rfl⟩
end Go.Proofs.Ytkhaapdokhhbdaa
