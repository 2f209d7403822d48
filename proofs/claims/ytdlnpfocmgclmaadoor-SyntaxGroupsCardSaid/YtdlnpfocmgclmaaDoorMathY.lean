/-
  Plain mathematics of chapter 2, syntax: how three operands with any two signs are grouped, reckoned by the kernel. No conditions.
-/
import Derived.Test.YtdlnpfocmgclmaaDoorMathX
namespace Go.Proofs.YtdlnpfocmgclmaaDoor

mutual
/-- Are two expressions the same? -/
def Ex.eqB : Ex → Ex → Bool
  | .mk a b c d e l, .mk a' b' c' d' e' l' => decide (a = a') && decide (b = b') && decide (c = c') && decide (d = d') && decide (e = e') && Ex.eqBL l l'
def Ex.eqBL : List Ex → List Ex → Bool
  | [], [] => true
  | x :: r, y :: t => Ex.eqB x y && Ex.eqBL r t
  | _, _ => false
end
mutual
theorem Ex.eqB_eq : ∀ x y : Ex, x.eqB y = true → x = y
  | .mk a b c d e l, .mk a' b' c' d' e' l', h => by
    simp only [Ex.eqB, Bool.and_eq_true, decide_eq_true_eq] at h
    obtain ⟨⟨⟨⟨⟨h1, h2⟩, h3⟩, h4⟩, h5⟩, h6⟩ := h
    rw [h1, h2, h3, h4, h5, Ex.eqBL_eq l l' h6]
theorem Ex.eqBL_eq : ∀ x y : List Ex, Ex.eqBL x y = true → x = y
  | [], [], _ => rfl
  | x :: r, y :: t, h => by
    simp only [Ex.eqBL, Bool.and_eq_true] at h
    rw [Ex.eqB_eq x y h.1, Ex.eqBL_eq r t h.2]
  | [], _ :: _, h => by simp [Ex.eqBL] at h
  | _ :: _, [], h => by simp [Ex.eqBL] at h
end

/-- A program whose one statement stands in 'tick', has no lists of its own and a value of two operands. -/
def oneB : Pr → Option (Int × List UInt8 × Int × Int × Ex × Ex)
  | ⟨[], [], [], [.mk k n s z p v [] []], []⟩ => some (k, n, s, z, p, v)
  | _ => none
theorem oneB_eq {p : Pr} {k : Int} {n : List UInt8} {s z : Int} {pl v : Ex} (h : oneB p = some (k, n, s, z, pl, v)) : p = ⟨[], [], [], [.mk k n s z pl v [] []], []⟩ := by
  unfold oneB at h
  split at h
  · simp only [Option.some.injEq, Prod.mk.injEq] at h
    obtain ⟨rfl, rfl, rfl, rfl, rfl, rfl⟩ := h
    rfl
  · cases h
def twoB : Ex → Bool | .mk _ _ _ _ _ l => decide (l.length = 2)

def sgn : Nat → List UInt8
  | 0 => [124, 124] | 1 => [38, 38] | 2 => [61, 61] | 3 => [33, 61] | 4 => [60] | 5 => [60, 61] | 6 => [62] | 7 => [62, 61] | 8 => [43] | 9 => [45] | 10 => [42] | 11 => [47] | _ => [37]
def lvl : Nat → Nat
  | 0 => 0 | 1 => 1 | 2 => 2 | 3 => 2 | 4 => 2 | 5 => 2 | 6 => 2 | 7 => 2 | 8 => 3 | 9 => 3 | _ => 4
def flatT (i k : Nat) : List UInt8 := [111, 110, 32, 116, 105, 99, 107, 32, 123, 32, 111, 117, 116, 112, 117, 116, 32, 120, 32] ++ sgn i ++ [32, 121, 32] ++ sgn k ++ [32, 51, 59, 32, 125]
def leftT (i k : Nat) : List UInt8 := [111, 110, 32, 116, 105, 99, 107, 32, 123, 32, 111, 117, 116, 112, 117, 116, 32, 40, 120, 32] ++ sgn i ++ [32, 121, 41, 32] ++ sgn k ++ [32, 51, 59, 32, 125]
def rightT (i k : Nat) : List UInt8 := [111, 110, 32, 116, 105, 99, 107, 32, 123, 32, 111, 117, 116, 112, 117, 116, 32, 120, 32] ++ sgn i ++ [32, 40, 121, 32] ++ sgn k ++ [32, 51, 41, 59, 32, 125]
def grpT (i k : Nat) : List UInt8 := if lvl i < lvl k then rightT i k else leftT i k

def grpCheck (i k : Nat) : Bool :=
  goodT (flatT i k) && goodT (grpT i k) && decide ((parseS (flatT i k)).2.2 = 0) && decide ((parseS (grpT i k)).2.2 = 0) && decide ((parseS (flatT i k)).1.big ≤ 100000) &&
  match oneB (parseS (flatT i k)).1, oneB (parseS (grpT i k)).1 with
  | some (a, b, c, d, e, f), some (a', b', c', d', e', f') => decide (a = a') && decide (b = b') && decide (c = c') && decide (d = d') && e.eqB e' && f.eqB f' && twoB f
  | _, _ => false
theorem grp_all : ((List.range 13).all fun i => (List.range 13).all fun k => grpCheck i k) = true := by decide +kernel
theorem grp_at (i k : Nat) (hi : i < 13) (hk : k < 13) : grpCheck i k = true :=
  List.all_eq_true.1 (List.all_eq_true.1 grp_all i (List.mem_range.2 hi)) k (List.mem_range.2 hk)

/-- What the kernel has reckoned. -/
theorem grp_facts (i k : Nat) (hi : i < 13) (hk : k < 13) : goodT (flatT i k) = true ∧ goodT (grpT i k) = true ∧ ∃ (p : Pr) (n n' : Nat) (s : St) (q : List UInt8), parseS (flatT i k) = (p, n, 0) ∧ parseS (grpT i k) = (p, n', 0) ∧ p.big ≤ 100000 ∧ p.vars = [] ∧
    ∃ (a : Int) (c d : Int) (pl : Ex) (op vl : Int) (nm : List UInt8) (sl sz : Int) (args : List Ex), s = .mk a q c d pl (.mk op vl nm sl sz args) [] [] ∧ p.tick = [s] ∧ args.length = 2 := by
  have h := grp_at i k hi hk
  unfold grpCheck at h
  simp only [Bool.and_eq_true, decide_eq_true_eq] at h
  obtain ⟨⟨⟨⟨⟨h1, h2⟩, h3⟩, h4⟩, h5⟩, h6⟩ := h
  refine ⟨h1, h2, ?_⟩
  obtain ⟨⟨p, n, er⟩, hp⟩ : ∃ x, parseS (flatT i k) = x := ⟨_, rfl⟩
  obtain ⟨⟨p', n', er'⟩, hp'⟩ : ∃ x, parseS (grpT i k) = x := ⟨_, rfl⟩
  rw [hp, hp'] at h6
  rw [hp] at h3 h5
  rw [hp'] at h4
  simp only at h3 h4 h5 h6
  subst h3 h4
  split at h6
  · rename_i a b c d e f a' b' c' d' e' f' o1 o2
    simp only [Bool.and_eq_true, decide_eq_true_eq] at h6
    obtain ⟨⟨⟨⟨⟨⟨rfl, rfl⟩, rfl⟩, rfl⟩, e1⟩, e2⟩, e3⟩ := h6
    have := Ex.eqB_eq _ _ e1
    subst this
    have := Ex.eqB_eq _ _ e2
    subst this
    have q1 := oneB_eq o1
    have q2 := oneB_eq o2
    subst q1 q2
    obtain ⟨op, vl, nm, sl, sz, args⟩ := f
    exact ⟨_, n, n', _, b, hp, hp', h5, rfl, a, c, d, e, op, vl, nm, sl, sz, args, rfl, rfl, by simpa [twoB] using e3⟩
  · cases h6
end Go.Proofs.YtdlnpfocmgclmaaDoor
