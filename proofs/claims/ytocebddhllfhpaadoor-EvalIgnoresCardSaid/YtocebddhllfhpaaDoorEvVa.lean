/-
  The value of an expression, and what cell and element of package eval return. Condition: the list of cells has at most 2^63 - 1 cells.
-/
import Derived.Test.YtocebddhllfhpaaDoorEvAp
namespace Go.Proofs.YtocebddhllfhpaaDoor
open Go.RowKit

/-- What a process sees. -/
structure En where
  self : Int
  procs : Int
  src : Int
  value : Int
abbrev enV (v : En) : Value := .agg #[.int .i64 v.self, .int .i64 v.procs, .int .i64 v.src, .int .i64 v.value]

/-- The cell n, 0 if there is none. -/
def celS (zs : List Int) (n : Int) : Int := if n < 0 ∨ (zs.length : Int) ≤ n then 0 else zs.getD n.toNat 0
/-- The cell i of an array, 0 if there is none. -/
def elmS (zs : List Int) (slot size i : Int) : Int := if i < 0 ∨ size ≤ i then 0 else celS zs (wrap64 (slot + i))
mutual
/-- The value of an expression. -/
def valS (zs : List Int) (v : En) : Ex → Int
  | .mk op value _ slot size args =>
    if op = 1 then value else if op = 2 then celS zs slot else if op = 3 then elmS zs slot size (argS zs v args 0) else
    if op = 4 then v.self else if op = 5 then v.procs else if op = 6 then v.src else if op = 7 then v.value else apS op (argS zs v args 0) (argS zs v args 1)
def argS (zs : List Int) (v : En) : List Ex → Nat → Int
  | [], _ => 0
  | e :: _, 0 => valS zs v e
  | _ :: r, n + 1 => argS zs v r n
end
theorem argS_at (zs : List Int) (v : En) : ∀ (l : List Ex) (i : Nat) (e : Ex), l[i]? = some e → argS zs v l i = valS zs v e
  | [], _, _, h => by simp at h
  | x :: r, 0, e, h => by
    simp only [List.getElem?_cons_zero, Option.some.injEq] at h
    subst h
    simp only [argS]
  | x :: r, n + 1, e, h => by
    simp only [List.getElem?_cons_succ] at h
    simp only [argS]
    exact argS_at zs v r n e h
theorem argS_no (zs : List Int) (v : En) : ∀ (l : List Ex) (i : Nat), l.length ≤ i → argS zs v l i = 0
  | [], _, _ => by simp only [argS]
  | x :: r, 0, h => by simp at h
  | x :: r, n + 1, h => by
    simp only [argS]
    exact argS_no zs v r n (by simpa using h)

/-- A list of cells that a slice reads as. -/
def ZsAt (w : World) (zs : List Int) (A : Option Addr) (n : Nat) : Prop :=
  n = zs.length ∧ n ≤ 9223372036854775807 ∧ (0 < n → ∃ b o, A = some ⟨b, o, none⟩ ∧ ∀ i, i < n → w.cell? ⟨b, o + i, none⟩ = some (.int .i64 (zs.getD i 0)))
theorem ZsAt.below {w w' : World} {zs : List Int} {A : Option Addr} {n : Nat} (h : ZsAt w zs A n) (hb : Below w.heap.size w w') : ZsAt w' zs A n := by
  obtain ⟨h1, h2, h3⟩ := h
  refine ⟨h1, h2, fun h0 => ?_⟩
  obtain ⟨b, o, hA, hi⟩ := h3 h0
  exact ⟨b, o, hA, fun i hin => (hb.cell (p := ⟨b, _, none⟩) (World.block_lt_of_cell? w _ (hi i hin))).trans (hi i hin)⟩

set_option maxHeartbeats 400000 in
set_option maxRecDepth 100000 in
theorem cell_any (zs : List Int) (A : Option Addr) (n c : Nat) (k : Int) (w : World) (h : ZsAt w zs A n) : Calls Tryd.prog 19 #[.slice A n c, .int .i64 k] w fun e w' => e = .returned (.int .i64 (celS zs k)) ∧ w' = w := by
  obtain ⟨h1, h2, h3⟩ := h
  unfold celS
  rw [← h1]
  by_cases hk : k < 0
  · rw [if_pos (.inl hk)]
    go_enter Tryd.func19, Tryd.ntmps19
    go_wp2
    go_ret
    exact ⟨rfl, rfl⟩
  · by_cases hn : (n : Int) ≤ k
    · rw [if_pos (.inr hn)]
      go_enter Tryd.func19, Tryd.ntmps19
      go_wp2
      go_ret
      exact ⟨rfl, rfl⟩
    · rw [if_neg (by omega)]
      obtain ⟨j, rfl⟩ := Int.eq_ofNat_of_zero_le (show 0 ≤ k by omega)
      obtain ⟨b, o, rfl, hi⟩ := h3 (by omega)
      have c := hi j (by omega)
      have hj : (j : Int) < (n : Int) := by omega
      obtain ⟨z, hz⟩ : ∃ z, zs.getD j 0 = z := ⟨_, rfl⟩
      rw [hz] at c
      have HZ := Lib.hid hz
      clear hi h3 hk hn hz h1
      go_enter Tryd.func19, Tryd.ntmps19
      go_wp2
      go_ret
      exact ⟨ret_int (by rw [Int.toNat_natCast]; exact HZ.out.symm), rfl⟩

set_option maxHeartbeats 1000000 in
set_option maxRecDepth 100000 in
theorem element_any (zs : List Int) (A : Option Addr) (n c : Nat) (a0 a1 : Int) (s : ByteArray) (slot size : Int) (a5 : Value) (i : Int) (w : World) (h : ZsAt w zs A n) :
    Calls Tryd.prog 20 #[.agg #[.int .i64 a0, .int .i64 a1, .string s, .int .i64 slot, .int .i64 size, a5], .int .i64 i, .slice A n c] w fun e w' => e = .returned (.int .i64 (elmS zs slot size i)) ∧ Below w.heap.size w w' := by
  unfold elmS
  have hb := rp_one1 w (.cells #[.int .i64 a0, .int .i64 a1, .string s, .int .i64 slot, .int .i64 size, a5] 31)
  have HB := Lib.hid hb
  have HZ := Lib.hid (h.below hb)
  clear h hb
  by_cases hk : i < 0
  · rw [if_pos (.inl hk)]
    go_enter Tryd.func20, Tryd.ntmps20
    go_wp2
    go_ret
    exact ⟨rfl, HB.out⟩
  · by_cases hn : size ≤ i
    · rw [if_pos (.inr hn)]
      go_enter Tryd.func20, Tryd.ntmps20
      go_wp2
      go_ret
      exact ⟨rfl, HB.out⟩
    · rw [if_neg (by omega)]
      obtain ⟨R, hR⟩ : ∃ R, celS zs (wrap64 (slot + i)) = R := ⟨_, rfl⟩
      have HC := Lib.hid (cell_any zs A n c (wrap64 (slot + i)) _ HZ.out)
      rw [hR] at HC ⊢
      clear hR
      go_enter Tryd.func20, Tryd.ntmps20
      go_wp2_with fail
      refine HC.out.mono ?_
      rintro e w3 ⟨rfl, rfl⟩
      go_wp2
      go_ret
      exact ⟨rfl, HB.out⟩
end Go.Proofs.YtocebddhllfhpaaDoor
