/-
  Plain mathematics of chapter 2, syntax: some texts and their programs, reckoned by the kernel. No conditions.
-/
import Derived.Test.YtdlnpfocmgclmaaDoorMathB
import Derived.KernelRfl
namespace Go.Proofs.YtdlnpfocmgclmaaDoor

def headL : List UInt8 → Bool
  | [] => false
  | c :: _ => letterC c.toNat
def tokB (t : Tok) : Bool :=
  decide (t.text.length ≤ 4096) && decide (0 ≤ t.value) && decide (t.value < 9223372036854775808) &&
  ((decide (t.kind = 1) && headL t.text) || (decide (t.kind = 2) && t.text.isEmpty) || (decide (t.kind = 3) && (!t.text.isEmpty && !headL t.text)))
theorem tokOK_of {t : Tok} (h : tokB t = true) : TokOK t := by
  unfold tokB at h
  simp only [Bool.and_eq_true, Bool.or_eq_true, decide_eq_true_eq] at h
  obtain ⟨⟨⟨h1, h2⟩, h3⟩, h4⟩ := h
  refine ⟨h1, h2, h3, ?_⟩
  rcases h4 with (⟨a, b⟩ | ⟨a, b⟩) | ⟨a, b⟩
  · refine .inl ⟨a, ?_⟩
    cases ht : t.text with
    | nil => rw [ht] at b; cases b
    | cons c r => rw [ht] at b; exact ⟨c, r, rfl, b⟩
  · exact .inr (.inl ⟨a, by simpa using b⟩)
  · refine .inr (.inr ⟨a, ?_⟩)
    cases ht : t.text with
    | nil => rw [ht] at b; simp at b
    | cons c r => rw [ht] at b; exact ⟨c, r, rfl, by simpa [headL] using b⟩

def bigB : Res Pr → Bool
  | .ok p _ => decide (p.big ≤ 100000)
  | _ => true
/-- The tokens of a text are as they ought to be, and its program is not too large. -/
def goodT (l : List UInt8) : Bool := (scanS l).toks.all tokB && bigB (pProg (bigF (scanS l).toks) (scanS l).toks)
theorem goodT_ok {l : List UInt8} (h : goodT l = true) : ∀ t ∈ (scanS l).toks, TokOK t := fun t ht => by
  unfold goodT at h
  rw [Bool.and_eq_true] at h
  exact tokOK_of (List.all_eq_true.1 h.1 t ht)
theorem goodT_big {l : List UInt8} (h : goodT l = true) : ∀ p t, pProg (bigF (scanS l).toks) (scanS l).toks = .ok p t → p.big ≤ 100000 := fun p t e => by
  unfold goodT at h
  rw [Bool.and_eq_true, e] at h
  exact of_decide_eq_true h.2

/-- The example of the chapter. -/
def exT : List UInt8 := [111, 110, 32, 116, 105, 99, 107, 32, 123, 32, 120, 32, 61, 32, 45, 49, 32, 45, 32, 50, 59, 32, 125]
theorem exT_good : goodT exT = true := by decide +kernel
def exSt : St := .mk 1 [120] 0 0 ex0 (.mk 11 0 [] 0 0 [.mk 8 0 [] 0 0 [.mk 1 1 [] 0 0 []], .mk 1 2 [] 0 0 []]) [] []
theorem exT_parse : parseS exT = (⟨[], [], [], [exSt], []⟩, 0, 0) := by kernel_rfl

def rep (j : Nat) (x : List UInt8) : List UInt8 := (List.replicate j x).flatten
theorem rep_zero (x : List UInt8) : rep 0 x = [] := rfl
theorem rep_succ (j : Nat) (x : List UInt8) : rep (j + 1) x = x ++ rep j x := by simp [rep, List.replicate_succ]
theorem rep_snoc (j : Nat) (x : List UInt8) : rep (j + 1) x = rep j x ++ x := by simp [rep, List.replicate_succ']
def opn : Nat → List UInt8 | 0 => [40] | 1 => [45] | _ => [97, 91]
def cls : Nat → List UInt8 | 0 => [41] | 1 => [] | _ => [93]
def dep (c j : Nat) : Nat := if c = 0 then 2 else 2 + j
/-- The text of j levels of kind c. -/
def deepT (c j : Nat) : List UInt8 := [111, 110, 32, 105, 110, 112, 117, 116, 32, 123, 32, 120, 32, 61, 32] ++ rep j (opn c) ++ [49] ++ rep j (cls c) ++ [59, 32, 125]
def deepCheck (c j : Nat) : Bool := goodT (deepT c j) &&
  (if 16 < dep c j then decide ((parseS (deepT c j)).2.2 = 6) && decide ((parseS (deepT c j)).2.1 = 0) && (parseS (deepT c j)).1.input.isEmpty
   else decide ((parseS (deepT c j)).2.2 = 0) && decide ((parseS (deepT c j)).1.deep = dep c j) && decide ((parseS (deepT c j)).1.big ≤ 100000))
theorem deep_all : ((List.range 3).all fun c => (List.range 40).all fun j => deepCheck c j) = true := by decide +kernel
theorem deep_at (c j : Nat) (hc : c < 3) (hj : j < 40) : deepCheck c j = true :=
  List.all_eq_true.1 (List.all_eq_true.1 deep_all c (List.mem_range.2 hc)) j (List.mem_range.2 hj)
end Go.Proofs.YtdlnpfocmgclmaaDoor
