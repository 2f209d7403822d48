/-
  The difference of two lists that differ in one cell; what a difference makes of the first list; chains of differences. No conditions.
-/
import Derived.Test.YtkhaapdokhhbdaaMathI
namespace Go.Proofs.Ytkhaapdokhhbdaa

theorem pg_set (xs : List Int) (k : Nat) (v : Int) (i : Nat) (h : i ≠ k / 4) : pgS (xs.set k v) i = pgS xs i := by
  apply List.ext_getElem?
  intro j
  unfold pgS
  by_cases hj : j < 4
  · rw [List.getElem?_take_of_lt hj, List.getElem?_take_of_lt hj, List.getElem?_drop, List.getElem?_drop, List.getElem?_set_ne (by omega)]
  · rw [List.getElem?_eq_none (by simp; omega), List.getElem?_eq_none (by simp; omega)]
theorem pg_set_at (xs : List Int) (k : Nat) (v : Int) (h : k < xs.length) : (pgS (xs.set k v) (k / 4)).getD (k % 4) 0 = v := by
  rw [pgS_getD _ _ _ (by omega), show 4 * (k / 4) + k % 4 = k by omega, List.getD_eq_getElem?_getD, List.getElem?_set_self h]
  rfl
theorem diff_self (xs : List Int) : diffS xs xs = [] := by
  apply List.eq_nil_iff_forall_not_mem.2
  intro p hp
  obtain ⟨k, _, _, h | h⟩ := (diffR_mem xs xs _ p).1 hp <;> exact h rfl
theorem diff_one (xs : List Int) (k : Nat) (v : Int) (h : k < xs.length) (hv : xs.getD k 0 ≠ v) : diffS xs (xs.set k v) = [(((k / 4 : Nat) : Int), pgS (xs.set k v) (k / 4))] := by
  refine asc_ext _ _ (diffR_asc _ _ _).1 (by simp) fun n c => ?_
  rw [diffS, diffR_mem, List.mem_singleton]
  constructor
  · rintro ⟨i, _, e, hne | hne⟩
    · exact absurd (List.length_set ..).symm hne
    · by_cases hi : i = k / 4
      · rw [e, hi]
      · exact absurd (pg_set xs k v i hi).symm hne
  · intro e
    refine ⟨k / 4, by rw [List.length_set]; unfold cntS; omega, e, .inr fun he => hv ?_⟩
    have h1 := pg_set_at xs k v h
    rw [← he, pgS_getD _ _ _ (by omega), show 4 * (k / 4) + k % 4 = k by omega] at h1
    exact h1
/-- Pages that fit a list of N cells, ascending. -/
def Fits (N : Nat) (l : List Pg) : Prop := (l.map Prod.fst).Pairwise (· < ·) ∧ ∀ p ∈ l, 0 ≤ p.1 ∧ p.1 < (cntS N : Nat) ∧ p.2.length = min 4 (N - 4 * p.1.toNat)
theorem pgS_put {zs cs : List Int} {k : Nat} (h : cs.length = (pgS zs k).length) (hk : 4 * k ≤ zs.length) (i : Nat) : pgS (putS zs k cs) i = if i = k then cs else pgS zs i := by
  rw [pgS_len] at h
  apply List.ext_getElem?
  intro j
  unfold pgS putS
  by_cases hj : j < 4
  · rw [List.getElem?_take_of_lt hj, List.getElem?_drop]
    by_cases hi : i = k
    · subst hi
      rw [if_pos rfl]
      by_cases hjl : j < cs.length
      · rw [List.getElem?_append_left (by simp; omega), List.getElem?_append_right (by simp; omega)]
        rw [List.length_take, Nat.min_eq_left hk]; congr 1; omega
      · rw [List.getElem?_append_right (by simp; omega), List.getElem?_drop, List.getElem?_eq_none (by simp; omega), List.getElem?_eq_none (by omega)]
    · rw [if_neg hi, List.getElem?_take_of_lt hj, List.getElem?_drop]
      by_cases hlt : i < k
      · rw [List.getElem?_append_left (by simp; omega), List.getElem?_append_left (by simp; omega), List.getElem?_take_of_lt (by omega)]
      · rw [List.getElem?_append_right (by simp; omega), List.getElem?_drop]
        congr 1
        simp; omega
  · rw [List.getElem?_eq_none (by simp; omega)]
    split
    · rw [List.getElem?_eq_none (by omega)]
    · rw [List.getElem?_eq_none (by simp; omega)]
/-- What pages that fit make of a list: each page by its number. -/
theorem app_fits : ∀ (l : List Pg) (zs : List Int), Fits zs.length l → ∃ z, appS zs l = (z, 0) ∧ z.length = zs.length ∧ ∀ k, k < cntS zs.length → pgS z k = match lastS l k with | some c => c | none => pgS zs k
  | [], zs, _ => ⟨zs, rfl, rfl, fun k _ => by simp [lastS]⟩
  | p :: r, zs, h => by
    obtain ⟨h1, h2⟩ := h
    rw [List.map_cons, List.pairwise_cons] at h1
    obtain ⟨hp0, hp1, hp2⟩ := h2 p (List.mem_cons_self ..)
    obtain ⟨j, hj⟩ := Int.eq_ofNat_of_zero_le hp0
    obtain ⟨pn, pc⟩ := p
    simp only at hj hp0 hp1 hp2
    subst hj
    rw [Int.toNat_natCast] at hp2
    have hjk : 4 * j ≤ zs.length := by unfold cntS at hp1; omega
    have hl : pc.length = (pgS zs j).length := by rw [pgS_len, hp2]
    have hlen := putS_len hl hjk
    obtain ⟨z, hz1, hz2, hz3⟩ := app_fits r (putS zs j pc) ⟨h1.2, fun q hq => by rw [hlen]; exact h2 q (List.mem_cons_of_mem _ hq)⟩
    refine ⟨z, ?_, hz2.trans hlen, fun k hk => ?_⟩
    · rw [appS, if_neg (by show ¬ ((j : Int) < 0 ∨ (cntS zs.length : Int) ≤ j); omega), if_neg (by show ¬ (pc.length ≠ (pgS zs (Int.toNat (j : Int))).length); rw [Int.toNat_natCast]; simpa using hl)]
      show appS (putS zs (Int.toNat (j : Int)) pc) r = _
      rw [Int.toNat_natCast]
      exact hz1
    · rw [hz3 k (by rw [hlen]; exact hk)]
      simp only [lastS]
      cases hr : lastS r (k : Int) with
      | some c => rfl
      | none =>
        simp only
        rw [pgS_put hl hjk]
        by_cases hkj : k = j
        · subst hkj; simp
        · rw [if_neg hkj, if_neg (by omega)]
/-- The difference of two lists of one length fits, and its pages are what differs. -/
theorem diff_fits (a b : List Int) : Fits b.length (diffS a b) := by
  refine ⟨(diffR_asc a b _).1, fun p hp => ?_⟩
  obtain ⟨k, hk, rfl, _⟩ := (diffR_mem a b _ p).1 hp
  refine ⟨by simp, by simpa using hk, ?_⟩
  show (pgS b k).length = min 4 (b.length - 4 * (Int.toNat (k : Int)))
  rw [Int.toNat_natCast, pgS_len]
theorem diff_last (a b : List Int) (k : Nat) (hk : k < cntS b.length) : (match lastS (diffS a b) k with | some c => c | none => pgS a k) = pgS b k := by
  cases hl : lastS (diffS a b) k with
  | some c =>
    obtain ⟨i, _, e, _⟩ := (diffR_mem a b _ _).1 (lastS_mem hl)
    injection e with e1 e2
    have : k = i := by omega
    subst this
    exact e2
  | none =>
    by_cases he : pgS a k = pgS b k
    · exact he
    · exact absurd rfl (lastS_none.1 hl _ ((diffR_mem a b _ _).2 ⟨k, hk, rfl, .inr he⟩))
theorem diff_back (a b : List Int) (h : a.length = b.length) : appS a (diffS a b) = (b, 0) := by
  obtain ⟨z, h1, h2, h3⟩ := app_fits (diffS a b) a (by rw [h]; exact diff_fits a b)
  rw [h1]
  have : z = b := eq_of_pages z b (h2.trans h) fun k hk => by
    rw [h2] at hk
    rw [h3 k hk, diff_last a b k (by rw [← h]; exact hk)]
  rw [this]
/-- A chain: pages that lead from a to last, and a difference behind them. -/
def Chain (a last : List Int) (all : List Pg) : Prop := last.length = a.length ∧ Fits a.length all ∧ ∀ k, k < cntS a.length → pgS last k = match lastS all k with | some c => c | none => pgS a k
theorem Chain.start (a : List Int) : Chain a a [] := ⟨rfl, ⟨by simp, by simp⟩, fun k _ => by simp [lastS]⟩
theorem Chain.next {a last next : List Int} {all l : List Pg} (h : Chain a last all) (hl : next.length = last.length) (hc : IsComp l (all ++ diffS last next)) : Chain a next l := by
  obtain ⟨h1, h2, h3⟩ := h
  refine ⟨hl.trans h1, ⟨hc.1, fun p hp => ?_⟩, fun k hk => ?_⟩
  · have hm := lastS_mem ((hc.2 p.1 p.2).1 hp)
    rcases List.mem_append.1 hm with hm | hm
    · exact h2.2 p hm
    · have := (diff_fits last next).2 p hm
      rw [hl, h1] at this
      exact this
  · rw [hc.last, lastS_app, ← diff_last last next k (by rw [hl, h1]; exact hk)]
    cases lastS (diffS last next) (k : Int) with
    | some c => rfl
    | none => exact h3 k hk
theorem Chain.app {a last : List Int} {all : List Pg} (h : Chain a last all) : appS a all = (last, 0) := by
  obtain ⟨h1, h2, h3⟩ := h
  obtain ⟨z, e1, e2, e3⟩ := app_fits all a h2
  have : z = last := eq_of_pages z last (e2.trans h1.symm) fun k hk => by rw [e3 k (by rw [← e2]; exact hk), h3 k (by rw [← e2]; exact hk)]
  rw [e1, this]
theorem aw_diff : diffS [1, 2, 3, 4, 5] [1, 2, 3, 4, 6] = [(1, [6])] := by decide +kernel
end Go.Proofs.Ytkhaapdokhhbdaa
