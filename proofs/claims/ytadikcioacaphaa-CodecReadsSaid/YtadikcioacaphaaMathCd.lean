/-
  Numbers as bytes, on plain lists: what a number's bytes are, what bytes are as a number, and that the one is the other's way back. No conditions.
-/
import Derived.Test.YtadikcioacaphaaRows
namespace Go.Proofs.Ytadikcioacaphaa

/-- The number of 64 bits of a number. -/
def encZ (v : Int) : Nat := if 0 ≤ v then (2 * v).toNat else (-2 * v - 1).toNat
/-- And back. -/
def decZ (u : Nat) : Int := if u % 2 = 1 then -(u / 2 : Nat) - 1 else (u / 2 : Nat)
/-- The groups of seven bits of u, at most n of them. -/
def btsN : Nat → Nat → List Nat
  | 0, u => [u]
  | n + 1, u => if u < 128 then [u] else (u % 128 + 128) :: btsN n (u / 128)
/-- The bytes of a number. -/
def bytZ (v : Int) : List Nat := btsN 9 (encZ v)
/-- What is read: a value and the bytes that are left, or an error. -/
inductive RR (α : Type) where
  | ok (v : α) (rest : List Nat)
  | err (e : Nat)
/-- A number whose byte i is the next one, u is what was read of it. -/
def numA : Nat → Nat → List Nat → RR Int
  | _, _, [] => .err 8
  | i, u, c :: r => if (i = 9 ∧ 1 < c) ∨ (0 < i ∧ c = 0) then .err 9 else if c < 128 then .ok (decZ (u + c * 128 ^ i)) r else numA (i + 1) (u + (c - 128) * 128 ^ i) r
def numS (l : List Nat) : RR Int := numA 0 0 l
def RR.bind {α β : Type} (r : RR α) (f : α → List Nat → RR β) : RR β :=
  match r with
  | .ok v l => f v l
  | .err e => .err e
/-- n numbers. -/
def numsS : Nat → List Nat → RR (List Int)
  | 0, l => .ok [] l
  | n + 1, l => (numS l).bind fun v r => (numsS n r).bind fun vs r' => .ok (v :: vs) r'
/-- A number of elements. -/
def cntR (l : List Nat) : RR Nat := (numS l).bind fun v r => if v < 0 ∨ (r.length : Int) < v then .err 9 else .ok v.toNat r
/-- A number of elements of k numbers each, and these. -/
def rowsS (k : Nat) (l : List Nat) : RR (List Int) := (cntR l).bind fun n r => numsS (k * n) r
/-- n pages. -/
def pgsN : Nat → List Nat → RR (List (Int × List Int))
  | 0, l => .ok [] l
  | n + 1, l => (numS l).bind fun v r => (rowsS 1 r).bind fun zs r' => (pgsN n r').bind fun ps r'' => .ok ((v, zs) :: ps) r''
def pgsS (l : List Nat) : RR (List (Int × List Int)) := (cntR l).bind fun n r => pgsN n r
/-- The four lists of a state. -/
abbrev S4 := List Int × List Int × List Int × List Int
def stS (l : List Nat) : RR S4 :=
  (rowsS 1 l).bind fun a r => (rowsS 7 r).bind fun b r => (rowsS 4 r).bind fun c r => (rowsS 2 r).bind fun d r => .ok (a, b, c, d) r
/-- The bytes of numbers. -/
def bytL : List Int → List Nat
  | [] => []
  | v :: vs => bytZ v ++ bytL vs
/-- The bytes of a list of n elements, which have these numbers. -/
def bytR (n : Nat) (zs : List Int) : List Nat := bytZ n ++ bytL zs
def bytP : List (Int × List Int) → List Nat
  | [] => []
  | p :: ps => bytZ p.1 ++ bytR p.2.length p.2 ++ bytP ps
def I64 (v : Int) : Prop := -9223372036854775808 ≤ v ∧ v ≤ 9223372036854775807

theorem encZ_lt {v : Int} (h : I64 v) : encZ v < 18446744073709551616 := by unfold I64 at h; unfold encZ; split <;> omega
theorem decZ_encZ (v : Int) : decZ (encZ v) = v := by unfold decZ encZ; split <;> split <;> omega
theorem decZ_in {u : Nat} (h : u < 18446744073709551616) : I64 (decZ u) := by unfold I64 decZ; split <;> omega
theorem encZ_decZ (u : Nat) : encZ (decZ u) = u := by unfold decZ encZ; split <;> split <;> omega

theorem btsN_ne (n u : Nat) : btsN n u ≠ [] := by
  cases n with
  | zero => simp [btsN]
  | succ n => unfold btsN; split <;> simp
theorem btsN_len (n u : Nat) : 1 ≤ (btsN n u).length ∧ (btsN n u).length ≤ n + 1 := by
  induction n generalizing u with
  | zero => simp [btsN]
  | succ n ih => unfold btsN; split <;> simp; have := ih (u / 128); omega
theorem btsN_le (n u : Nat) (h : u < 128 ^ n * 128) : ∀ b ∈ btsN n u, b ≤ 255 := by
  induction n generalizing u with
  | zero => intro b hb; simp [btsN] at hb; subst hb; simp at h; omega
  | succ n ih =>
    intro b hb
    unfold btsN at hb
    split at hb
    · simp at hb; omega
    · rcases List.mem_cons.1 hb with hb | hb
      · omega
      · exact ih (u / 128) (by rw [Nat.pow_succ] at h; omega) b hb
theorem bytZ_len (v : Int) : 1 ≤ (bytZ v).length ∧ (bytZ v).length ≤ 10 := btsN_len 9 _
theorem bytZ_le {v : Int} (h : I64 v) : ∀ b ∈ bytZ v, b ≤ 255 := btsN_le 9 _ (Nat.lt_of_lt_of_le (encZ_lt h) (by decide))

/-- The bytes of the groups behind i others are read as the number. -/
theorem numA_bts (n : Nat) : ∀ (i a u : Nat) (r : List Nat), i + n = 9 → (0 < i → 0 < u) → u * 128 ^ i < 18446744073709551616 → numA i a (btsN n u ++ r) = .ok (decZ (a + u * 128 ^ i)) r := by
  induction n with
  | zero =>
    intro i a u r hi h0 hu
    have hi9 : i = 9 := by omega
    subst hi9
    have := h0 (by omega)
    have hu1 : u = 1 := by
      have : u * 9223372036854775808 < 18446744073709551616 := by simpa using hu
      omega
    subst hu1
    simp [btsN, numA]
  | succ n ih =>
    intro i a u r hi h0 hu
    unfold btsN
    have hi9 : i ≠ 9 := by omega
    by_cases h : u < 128
    · rw [if_pos h]
      simp only [List.singleton_append, numA]
      rw [if_neg (by omega), if_pos h]
    · rw [if_neg h]
      simp only [List.cons_append, numA]
      rw [if_neg (by omega), if_neg (by omega)]
      have hp : 128 ^ (i + 1) = 128 * 128 ^ i := by rw [Nat.pow_succ, Nat.mul_comm]
      have hx : u / 128 * 128 ^ (i + 1) + (u % 128 + 128 - 128) * 128 ^ i = u * 128 ^ i := by
        rw [hp, ← Nat.mul_assoc, ← Nat.add_mul, Nat.add_sub_cancel]
        congr 1; omega
      rw [ih (i + 1) _ (u / 128) r (by omega) (fun _ => by omega) (by omega), Nat.add_assoc, Nat.add_comm ((u % 128 + 128 - 128) * 128 ^ i), hx]
theorem numS_byt {v : Int} (h : I64 v) (r : List Nat) : numS (bytZ v ++ r) = .ok v r := by
  unfold numS bytZ
  rw [numA_bts 9 0 0 (encZ v) r rfl (fun h => absurd h (by decide)) (by simpa using encZ_lt h)]
  simp [decZ_encZ]
/-- A number's bytes that end too early. -/
theorem numA_cut (n : Nat) : ∀ (i a u k : Nat), i + n = 9 → (0 < i → 0 < u) → u * 128 ^ i < 18446744073709551616 → k < (btsN n u).length → numA i a ((btsN n u).take k) = .err 8 := by
  induction n with
  | zero =>
    intro i a u k hi h0 hu hk
    simp [btsN] at hk
    subst hk
    simp [numA]
  | succ n ih =>
    intro i a u k hi h0 hu hk
    cases k with
    | zero => simp [numA]
    | succ k =>
      have hi9 : i ≠ 9 := by omega
      unfold btsN at hk ⊢
      by_cases h : u < 128
      · rw [if_pos h] at hk; simp at hk
      · rw [if_neg h] at hk ⊢
        simp only [List.length_cons] at hk
        simp only [List.take_succ_cons, numA]
        rw [if_neg (by omega), if_neg (by omega)]
        have hp : 128 ^ (i + 1) = 128 * 128 ^ i := by rw [Nat.pow_succ, Nat.mul_comm]
        refine ih (i + 1) _ (u / 128) k (by omega) (fun _ => by omega) ?_ (by omega)
        have : u / 128 * 128 ^ (i + 1) ≤ u * 128 ^ i := by
          rw [hp, ← Nat.mul_assoc]
          exact Nat.mul_le_mul_right _ (by omega)
        omega
theorem numS_cut {v : Int} (h : I64 v) (k : Nat) (hk : k < (bytZ v).length) : numS ((bytZ v).take k) = .err 8 :=
  numA_cut 9 0 0 (encZ v) k rfl (fun h => absurd h (by decide)) (by simpa using encZ_lt h) hk
theorem p128_8 : (128 : Nat) ^ 8 = 72057594037927936 := by decide
theorem p128_9 : (128 : Nat) ^ 9 = 9223372036854775808 := by decide
theorem num8 (u i : Nat) (hi : i = 8) (h : u * 128 ^ (i + 1) < 18446744073709551616 - (if i + 1 = 9 then 9223372036854775807 else 0)) : u ≤ 1 := by
  subst hi
  rw [if_pos rfl, p128_9] at h
  omega
theorem num8' (u c i : Nat) (hi : i = 8) (h4 : u ≤ 1) (h1 : c ≤ 127) : (c + 128 * u) * 128 ^ i < 18446744073709551616 := by
  subst hi
  rw [p128_8]
  omega
/-- What is read as a number has just the bytes of it. -/
theorem numA_one : ∀ (l : List Nat) (i a : Nat) (v : Int) (r : List Nat), i ≤ 9 → a < 128 ^ i → (∀ b ∈ l, b ≤ 255) → numA i a l = .ok v r →
    ∃ u, v = decZ (a + u * 128 ^ i) ∧ l = btsN (9 - i) u ++ r ∧ (0 < i → 0 < u) ∧ u * 128 ^ i < 18446744073709551616 - (if i = 9 then 9223372036854775807 else 0) := by
  intro l
  induction l with
  | nil => intro i a v r _ _ _ h; simp [numA] at h
  | cons c l ih =>
    intro i a v r hi ha hb h
    have hc : c ≤ 255 := hb c (List.mem_cons_self ..)
    unfold numA at h
    split at h
    · cases h
    · rename_i hq
      split at h
      · rename_i hl
        injection h with h1 h2
        subst h2
        refine ⟨c, h1.symm, ?_, fun h0 => by omega, ?_⟩
        · cases hn : 9 - i with
          | zero => simp [btsN]
          | succ n => simp [btsN, hl]
        · by_cases h9 : i = 9
          · have hc1 : c ≤ 1 := by omega
            subst h9
            simp
            omega
          · rw [if_neg h9]
            have : 128 ^ i ≤ 128 ^ 8 := Nat.pow_le_pow_right (by decide) (by omega)
            have h2 := Nat.mul_le_mul (show c ≤ 127 by omega) this
            have : 127 * 128 ^ 8 < 18446744073709551616 := by decide
            omega
      · rename_i hl
        by_cases h9 : i = 9
        · omega
        · have hp : 128 ^ (i + 1) = 128 * 128 ^ i := by rw [Nat.pow_succ, Nat.mul_comm]
          have hbnd : a + (c - 128) * 128 ^ i < 128 ^ (i + 1) := by
            have := Nat.mul_le_mul_right (128 ^ i) (show c - 128 ≤ 127 by omega)
            have : 128 ^ (i + 1) = 127 * 128 ^ i + 128 ^ i := by rw [hp]; omega
            omega
          obtain ⟨u, e1, e2, e3, e4⟩ := ih (i + 1) _ v r (by omega) hbnd (fun b hb' => hb b (List.mem_cons_of_mem _ hb')) h
          have hu := e3 (by omega)
          refine ⟨c - 128 + 128 * u, ?_, ?_, fun _ => by omega, ?_⟩
          · rw [e1, Nat.add_mul, hp, Nat.add_assoc, ← Nat.mul_assoc, Nat.mul_comm u 128]
          · have hn : 9 - i = (9 - (i + 1)) + 1 := by omega
            rw [hn]
            unfold btsN
            rw [if_neg (by omega), show (c - 128 + 128 * u) % 128 + 128 = c by omega, show (c - 128 + 128 * u) / 128 = u by omega, e2]
            rfl
          · rw [if_neg h9]
            have h1 : (c - 128) * 128 ^ i ≤ 127 * 128 ^ i := Nat.mul_le_mul_right _ (by omega)
            have h2 : 127 * 128 ^ i + 128 ^ i = 128 ^ (i + 1) := by rw [hp]; omega
            have h3 : (c - 128 + 128 * u) * 128 ^ i = (c - 128) * 128 ^ i + u * 128 ^ (i + 1) := by rw [Nat.add_mul, hp, ← Nat.mul_assoc, Nat.mul_comm u 128]
            by_cases h8 : i = 8
            exact num8' u (c - 128) i h8 (num8 u i h8 e4) (by omega)
            · rw [if_neg (by omega)] at e4
              have h4 : (128 : Nat) ^ (i + 1) ∣ 128 ^ 9 := Nat.pow_dvd_pow _ (by omega)
              obtain ⟨d, hd⟩ := h4
              have hd2 : (18446744073709551616 : Nat) = 128 ^ (i + 1) * (2 * d) := by
                rw [← Nat.mul_assoc, Nat.mul_comm _ 2, Nat.mul_assoc, ← hd]
              have h5 : u < 2 * d := by
                rw [hd2, Nat.mul_comm u] at e4
                exact Nat.lt_of_mul_lt_mul_left (a := 128 ^ (i + 1)) (by simpa using e4)
              have h6 : (u + 1) * 128 ^ (i + 1) ≤ 18446744073709551616 := by
                rw [hd2, Nat.mul_comm (u + 1)]
                exact Nat.mul_le_mul_left _ h5
              rw [Nat.succ_mul] at h6
              have : 0 < 128 ^ i := Nat.pow_pos (by decide)
              omega
end Go.Proofs.Ytadikcioacaphaa
