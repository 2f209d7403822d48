/-
  Plain mathematics of chapter 1, token: the tokens of a printed text, and of a text with other blanks and comments. No conditions.
-/
import Derived.Test.YtaenmaokieomgaaDoorMathU
namespace Go.Proofs.YtaenmaokieomgaaDoor
open Go

/-- What may stand between tokens begins with one of these bytes, or is nothing. -/
def sepHd : List UInt8 → Prop
  | [] => True
  | b :: _ => b = 9 ∨ b = 10 ∨ b = 13 ∨ b = 32 ∨ b = 35

theorem sign_sep (c b : Int) (hb : b = 9 ∨ b = 10 ∨ b = 13 ∨ b = 32 ∨ b = 35) (h : signSz c 0 = 1) : signSz c b = 1 := by
  unfold signSz at h ⊢
  (repeat' split at h) <;> (repeat' split) <;> omega

theorem ok_sep {x r0 r : List UInt8} {kind : Int} (h : okTail x r0 kind) (hr : sepHd r) : okTail x r kind := by
  have h0 := ok_nil h
  cases r with
  | nil => exact h0
  | cons b r =>
    have hb : (b.toNat : Int) = 9 ∨ (b.toNat : Int) = 10 ∨ (b.toNat : Int) = 13 ∨ (b.toNat : Int) = 32 ∨ (b.toNat : Int) = 35 := by
      rcases hr with rfl | rfl | rfl | rfl | rfl
      · exact .inl rfl
      · exact .inr (.inl rfl)
      · exact .inr (.inr (.inl rfl))
      · exact .inr (.inr (.inr (.inl rfl)))
      · exact .inr (.inr (.inr (.inr rfl)))
    refine ⟨fun _ => ?_, fun hk => ?_⟩
    · show wordC b.toNat = false
      unfold wordC letterC digitC
      simp
      omega
    · rcases h0.2 hk with h2 | ⟨c, e, h2⟩
      · exact .inl h2
      · exact .inr ⟨c, e, sign_sep _ _ hb h2⟩

/-- A token as a scan finds it. -/
def wfTok (t : Tok) : Prop := ∃ l f, t = tokAt f t.off ∧ firstS l = (0, f) ∧ l ≠ []

theorem wf_of_scan {l : List UInt8} {ts : List Tok} (h : scanL l 0 = ⟨ts, 0, 0⟩) : ∀ t ∈ ts, wfTok t := by
  intro t ht
  obtain ⟨i, hi⟩ := List.getElem?_of_mem ht
  obtain ⟨_, _, _, _, _, _, f, e, hf, hne⟩ := token_at h hi
  exact ⟨_, f, e, hf, hne⟩

def AgreeT (t u : Tok) : Prop := t.kind = u.kind ∧ t.text = u.text ∧ t.value = u.value
def AgreeL : List Tok → List Tok → Prop
  | [], [] => True
  | t :: r, u :: s => AgreeT t u ∧ AgreeL r s
  | _, _ => False

theorem agree_len : ∀ {a b : List Tok}, AgreeL a b → a.length = b.length
  | [], [], _ => rfl
  | _ :: _, _ :: _, h => by rw [List.length_cons, List.length_cons, agree_len h.2]
  | [], _ :: _, h => h.elim
  | _ :: _, [], h => h.elim
theorem agree_at : ∀ {a b : List Tok}, AgreeL a b → ∀ (i : Nat) (t u : Tok), a[i]? = some t → b[i]? = some u → AgreeT t u
  | _ :: _, _ :: _, h, 0, t, u, h1, h2 => by
    rw [List.getElem?_cons_zero] at h1 h2
    injection h1 with h1
    injection h2 with h2
    rw [← h1, ← h2]; exact h.1
  | _ :: _, _ :: _, h, i + 1, t, u, h1, h2 => by
    rw [List.getElem?_cons_succ] at h1 h2
    exact agree_at h.2 i t u h1 h2
  | [], _, _, i, t, u, h1, _ => by simp at h1
  | _ :: _, [], h, _, _, _, _, _ => h.elim

/-- The text of a token that a scan found, whatever separates it from what follows, is found again. -/
theorem scan_item {t : Tok} (h : wfTok t) (r : List UInt8) (hr : sepHd r) (k : Nat) :
    ∃ u, AgreeT t u ∧ scanL (itemT t.kind t.text t.value ++ r) k = consR u (scanL r (k + (itemT t.kind t.text t.value).length)) := by
  obtain ⟨l, f, e, hf, hne⟩ := h
  obtain ⟨q1, q2, q3, q4, q5, q6⟩ := first_local hf hne
  have hi : itemT t.kind t.text t.value = l.take f.size := by rw [e]; exact q1
  rw [hi, q3]
  refine ⟨tokAt f k, by rw [e]; exact ⟨rfl, rfl, rfl⟩, ?_⟩
  exact scan_token k q3 q4 (q5 r (ok_sep q2 hr)) q6

/-- The text of tokens, each one between what is given. -/
def joinT : List (Tok × List UInt8) → List UInt8
  | [] => []
  | (t, b) :: r => itemT t.kind t.text t.value ++ (b ++ joinT r)

/-- Blanks and comments that are ended: a scan passes them by. -/
def Passed (b : List UInt8) : Prop := (∀ r, sepHd (b ++ r) ∨ b = []) ∧ ∀ r k, scanL (b ++ r) k = scanL r (k + b.length)

theorem scan_join : ∀ (l : List (Tok × List UInt8)) (k : Nat), (∀ x ∈ l, wfTok x.1 ∧ Passed x.2) → (∀ x ∈ l.dropLast, x.2 ≠ []) →
    ∃ ts, AgreeL (l.map (·.1)) ts ∧ scanL (joinT l) k = ⟨ts, 0, 0⟩
  | [], k, _, _ => ⟨[], trivial, scanL_nil k⟩
  | (t, b) :: r, k, h, hl => by
    obtain ⟨hw, hp⟩ := h _ List.mem_cons_self
    have hsep : sepHd (b ++ joinT r) := by
      rcases hp.1 (joinT r) with h1 | h1
      · exact h1
      · cases r with
        | nil =>
          have h1' : b = [] := h1
          subst h1'
          exact trivial
        | cons y r =>
          have : (t, b).2 ≠ [] := hl (t, b) (by rw [List.dropLast_cons_cons]; exact List.mem_cons_self)
          exact absurd h1 this
    obtain ⟨u, hu, hs⟩ := scan_item hw (b ++ joinT r) hsep k
    obtain ⟨ts, ha, hts⟩ := scan_join r (k + (itemT t.kind t.text t.value).length + b.length) (fun x hx => h x (List.mem_cons_of_mem _ hx)) (fun x hx => by
      cases r with
      | nil => simp at hx
      | cons y r => exact hl x (by rw [List.dropLast_cons_cons]; exact List.mem_cons_of_mem _ hx))
    refine ⟨u :: ts, ⟨hu, ha⟩, ?_⟩
    show scanL (itemT t.kind t.text t.value ++ (b ++ joinT r)) k = _
    rw [hs, hp.2, hts]
    rfl
end Go.Proofs.YtaenmaokieomgaaDoor
