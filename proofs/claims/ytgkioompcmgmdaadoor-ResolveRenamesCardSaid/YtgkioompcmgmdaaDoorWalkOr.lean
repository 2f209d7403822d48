/-
  Regions that draw their order, with calls first and stores behind them: a load may be taken first where nobody writes its cell until the calls that wait for it have come up; behind the last of the calls the condition on the world is dropped. No conditions of its own.
-/
import Derived.Deep.RegionHeld3
namespace Go.Proofs.YtgkioompcmgmdaaDoor
open Go

section
variable {P : Program} {ops : Array Oper} {Q : Exit → Act → World → Prop} {md : Region.Mode} {S : World → Prop} {R : List Nat}

/-- All of R have come up. -/
def lstd (R : List Nat) (l : Array Bool) : Bool := R.all fun i => l.getD i false

/-- Whatever order is picked from here on; and S holds behind every operation till all of R have come up. -/
def wpAnyG (P : Program) (md : Region.Mode) (ops : Array Oper) (Q : Exit → Act → World → Prop) (S : World → Prop) (R : List Nat) : Nat → Array Bool → Act → World → Prop
  | 0, l, a, w => Region.ready md ops l = [] ∧ Q .normal a w
  | fuel + 1, l, a, w => if lstd R l = true then wpAny P md ops Q (fuel + 1) l a w else
      (Region.ready md ops l = [] → Q .normal a w) ∧
      ∀ i ∈ Region.ready md ops l, wpOp P ops Q i (fun a' w' => S w' ∧ wpAnyG P md ops Q S R fuel (l.setIfInBounds i true) a' w') a w

theorem wpAny_of_G : ∀ (fuel : Nat) (l : Array Bool) (a : Act) (w : World), wpAnyG P md ops Q S R fuel l a w → wpAny P md ops Q fuel l a w
  | 0, _, _, _, h => h
  | fuel + 1, l, a, w, h => by
    unfold wpAnyG at h
    split at h
    · exact h
    · exact ⟨h.1, fun i hi => wpOp_mono (fun a' w' h' => wpAny_of_G fuel _ a' w' h'.2) (h.2 i hi)⟩

theorem wpAnyG_rel {fuel : Nat} {l : Array Bool} {a : Act} {w : World} (h : lstd R l = true) (hw : wpAny P md ops Q fuel l a w) : wpAnyG P md ops Q S R fuel l a w := by
  cases fuel with
  | zero => exact hw
  | succ n => unfold wpAnyG; rw [if_pos h]; exact hw

theorem lstd_no {l : Array Bool} {c : Nat} (hc : c ∈ R) (h : l.getD c true = false) : lstd R l = false := by
  cases hl : lstd R l with
  | false => rfl
  | true =>
    have h1 := List.all_eq_true.1 hl c hc
    rcases Nat.lt_or_ge c l.size with h' | h'
    · simp [h'] at h h1; rw [h] at h1; cases h1
    · simp [Array.getElem?_eq_none h'] at h1
theorem lstd_set {l : Array Bool} {i : Nat} (hi : i ∉ R) : lstd R (l.setIfInBounds i true) = lstd R l := by
  unfold lstd
  rw [Bool.eq_iff_iff, List.all_eq_true, List.all_eq_true]
  constructor
  · intro h c hc
    have := h c hc
    rwa [getD_set_ne false (fun (e : i = c) => hi (by rw [e]; exact hc))] at this
  · intro h c hc
    rw [getD_set_ne false (fun (e : i = c) => hi (by rw [e]; exact hc))]
    exact h c hc

theorem not_on {i : Nat} {oj : Oper} {l : Array Bool} (hr : i ∈ Region.ready md ops l) (hall : ∀ e ∈ oj.after, Region.binds md e = true → l.getD e.on false = true) : ∀ e ∈ oj.after, Region.binds md e = true → e.on ≠ i := fun e he hb heq => by
  have h1 := hall e he hb
  have h0 := (mem_ready.1 hr).1
  rw [heq] at h1
  rcases Nat.lt_or_ge i l.size with h' | h'
  · simp [h'] at h0 h1; rw [h0] at h1; cases h1
  · simp [Array.getElem?_eq_none h'] at h1

/-- What a call of R waits for may be taken first, if it yields its value in every world that meets S. -/
theorem wpAnyG_first {i c : Nat} {oi oc : Oper} {v : Value} (hi : ops[i]? = some oi) (hsel : ∀ (j : Nat) (o : Oper) cs b, ops[j]? = some o → o.op ≠ .select cs b)
    (hQ : ∀ c a w, Q (.panic c) (a.put oi.dst v) w → Q (.panic c) a w) (hcR : c ∈ R) (hci : c ≠ i) (hoc : ops[c]? = some oc) (hed : ∃ e ∈ oc.after, Region.binds md e = true ∧ e.on = i) :
    ∀ (fuel : Nat) (l : Array Bool) (a : Act) (w : World), l.getD c true = false →
      (∀ j oj, ops[j]? = some oj → j ≠ i → l.getD j true = false → (∀ e ∈ oj.after, Region.binds md e = true → e.on ≠ i) → oi.apart ops oj = true) →
      i ∈ Region.ready md ops l → YieldsIf P ops S oi v a → S w →
      wpAnyG P md ops Q S R fuel (l.setIfInBounds i true) (a.put oi.dst v) w → wpAnyG P md ops Q S R (fuel + 1) l a w := by
  intro fuel
  induction fuel with
  | zero =>
    intro l a w hcl _ hr hy hS H
    unfold wpAnyG
    rw [if_neg (by rw [lstd_no hcR hcl]; simp)]
    refine ⟨fun h => (by rw [h] at hr; cases hr), fun j hj => ?_⟩
    by_cases hji : j = i
    · subst hji; exact hy.wpOp hi hS ⟨hS, H⟩
    · have := ready_mono hj hji
      rw [H.1] at this
      cases this
  | succ fuel ih =>
    intro l a w hcl hfree hr hy hS H
    have hcl2 : (l.setIfInBounds i true).getD c true = false := by rw [getD_set_ne true (Ne.symm hci)]; exact hcl
    have H2 := H
    unfold wpAnyG at H
    rw [if_neg (by rw [lstd_no hcR hcl2]; simp)] at H
    unfold wpAnyG
    rw [if_neg (by rw [lstd_no hcR hcl]; simp)]
    refine ⟨fun h => (by rw [h] at hr; cases hr), fun j hj => ?_⟩
    by_cases hji : j = i
    · subst hji; exact hy.wpOp hi hS ⟨hS, H2⟩
    · have h1 := H.2 j (ready_mono hj hji)
      obtain ⟨hjun, oj, hoj, hall⟩ := mem_ready.1 hj
      have hnot := not_on hr hall
      have hjc : c ≠ j := fun e => by
        subst e
        obtain rfl := Option.some.inj (hoc.symm.trans hoj)
        obtain ⟨e, he, hb, ho⟩ := hed
        exact hnot e he hb ho
      have h2 := wpOp_putIf hoj (hfree j oj hoj hji hjun hnot) (fun cs b => hsel i oi cs b hi) (fun cs b => hsel j oj cs b hoj) hQ hy h1
      have hfree' : ∀ k ok, ops[k]? = some ok → k ≠ i → (l.setIfInBounds j true).getD k true = false →
          (∀ e ∈ ok.after, Region.binds md e = true → e.on ≠ i) → oi.apart ops ok = true := fun k ok hk hki hun hno => by
        refine hfree k ok hk hki ?_ hno
        by_cases hjk : j = k
        · subst hjk; exact hjun
        · rw [getD_set_ne true hjk] at hun; exact hun
      refine wpOp_mono (fun a' w' h3 => ⟨h3.2.1, ih (l.setIfInBounds j true) a' w' (by rw [getD_set_ne true (Ne.symm hjc)]; exact hcl) hfree' (ready_mono hr (Ne.symm hji)) h3.1 h3.2.1 ?_⟩) h2
      rw [Array.setIfInBounds_comm _ _ hji]
      exact h3.2.2

/-- What is not of R may be taken first, if it yields its value in whatever world. -/
theorem wpAnyG_any {i : Nat} {oi : Oper} {v : Value} (hi : ops[i]? = some oi) (hsel : ∀ (j : Nat) (o : Oper) cs b, ops[j]? = some o → o.op ≠ .select cs b)
    (hQ : ∀ c a w, Q (.panic c) (a.put oi.dst v) w → Q (.panic c) a w) (hiR : i ∉ R) :
    ∀ (fuel : Nat) (l : Array Bool) (a : Act) (w : World),
      (∀ j oj, ops[j]? = some oj → j ≠ i → l.getD j true = false → (∀ e ∈ oj.after, Region.binds md e = true → e.on ≠ i) → oi.apart ops oj = true) →
      i ∈ Region.ready md ops l → Yields P ops oi v a → S w →
      wpAnyG P md ops Q S R fuel (l.setIfInBounds i true) (a.put oi.dst v) w → wpAnyG P md ops Q S R (fuel + 1) l a w := by
  intro fuel
  induction fuel with
  | zero =>
    intro l a w hfree hr hy hS H
    unfold wpAnyG
    split
    · exact wpAny_first hi hsel hQ 0 l a w hfree hr hy (wpAny_of_G _ _ _ _ H)
    · refine ⟨fun h => (by rw [h] at hr; cases hr), fun j hj => ?_⟩
      by_cases hji : j = i
      · subst hji; exact hy.wpOp hi ⟨hS, H⟩
      · have := ready_mono hj hji
        rw [H.1] at this
        cases this
  | succ fuel ih =>
    intro l a w hfree hr hy hS H
    unfold wpAnyG
    split
    · exact wpAny_first hi hsel hQ (fuel + 1) l a w hfree hr hy (wpAny_of_G _ _ _ _ H)
    · rename_i hno
      have H2 := H
      unfold wpAnyG at H
      rw [if_neg (by rw [lstd_set hiR]; exact hno)] at H
      refine ⟨fun h => (by rw [h] at hr; cases hr), fun j hj => ?_⟩
      by_cases hji : j = i
      · subst hji; exact hy.wpOp hi ⟨hS, H2⟩
      · have h1 := H.2 j (ready_mono hj hji)
        obtain ⟨hjun, oj, hoj, hall⟩ := mem_ready.1 hj
        have hnot := not_on hr hall
        have h2 := wpOp_put hoj (hfree j oj hoj hji hjun hnot) (fun cs b => hsel i oi cs b hi) (fun cs b => hsel j oj cs b hoj) hQ hy h1
        have hfree' : ∀ k ok, ops[k]? = some ok → k ≠ i → (l.setIfInBounds j true).getD k true = false →
            (∀ e ∈ ok.after, Region.binds md e = true → e.on ≠ i) → oi.apart ops ok = true := fun k ok hk hki hun hno => by
          refine hfree k ok hk hki ?_ hno
          by_cases hjk : j = k
          · subst hjk; exact hjun
          · rw [getD_set_ne true hjk] at hun; exact hun
        refine wpOp_mono (fun a' w' h3 => ⟨h3.2.1, ih (l.setIfInBounds j true) a' w' hfree' (ready_mono hr (Ne.symm hji)) h3.1 h3.2.1 ?_⟩) h2
        rw [Array.setIfInBounds_comm _ _ hji]
        exact h3.2.2

/-- Is number i waited for by number c? -/
def waits (md : Region.Mode) (ops : Array Oper) (c i : Nat) : Bool := match ops[c]? with
  | some oc => oc.after.any fun e => Region.binds md e && e.on == i
  | none => false
theorem waits_spec {c i : Nat} (h : waits md ops c i = true) : ∃ oc, ops[c]? = some oc ∧ ∃ e ∈ oc.after, Region.binds md e = true ∧ e.on = i := by
  unfold waits at h
  split at h
  · rename_i oc ho
    obtain ⟨e, he, hb⟩ := Array.any_eq_true'.1 h
    simp only [Bool.and_eq_true, beq_iff_eq] at hb
    exact ⟨oc, ho, e, he, hb⟩
  · cases h

/-- A load (or what yields in every world that meets S) is taken first. -/
theorem wpAnyG_take (c : Nat) {i : Nat} {oi : Oper} {v : Value} {fuel : Nat} {l : Array Bool} {a : Act} {w : World} (hi : ops[i]? = some oi)
    (hb : (Region.noSelect ops && (R.contains c && (c != i && (waits md ops c i && (!l.getD c true && (Region.free md ops l i && (Region.ready md ops l).contains i)))))) = true)
    (hQ : ∀ c a w, Q (.panic c) (a.put oi.dst v) w → Q (.panic c) a w) (hy : YieldsIf P ops S oi v a) (hS : S w)
    (h : wpAnyG P md ops Q S R fuel (l.setIfInBounds i true) (a.put oi.dst v) w) : wpAnyG P md ops Q S R (fuel + 1) l a w := by
  simp only [Bool.and_eq_true, Bool.not_eq_true', bne_iff_ne] at hb
  obtain ⟨h1, h2, h3, h4, h5, h6, h7⟩ := hb
  obtain ⟨oc, hoc, hed⟩ := waits_spec h4
  exact wpAnyG_first hi (Region.noSelect_spec h1) hQ (by simpa using h2) h3 hoc hed fuel l a w h5 (Region.free_spec hi h6) (by simpa using h7) hy hS h
/-- What yields in whatever world is taken first. -/
theorem wpAnyG_step {i : Nat} {oi : Oper} {v : Value} {fuel : Nat} {l : Array Bool} {a : Act} {w : World} (hi : ops[i]? = some oi)
    (hb : (Region.noSelect ops && (!R.contains i && (Region.free md ops l i && (Region.ready md ops l).contains i))) = true)
    (hQ : ∀ c a w, Q (.panic c) (a.put oi.dst v) w → Q (.panic c) a w) (hy : Yields P ops oi v a) (hS : S w)
    (h : wpAnyG P md ops Q S R fuel (l.setIfInBounds i true) (a.put oi.dst v) w) : wpAnyG P md ops Q S R (fuel + 1) l a w := by
  simp only [Bool.and_eq_true, Bool.not_eq_true'] at hb
  obtain ⟨h1, h2, h6, h7⟩ := hb
  exact wpAnyG_any hi (Region.noSelect_spec h1) hQ (by simpa using h2) fuel l a w (Region.free_spec hi h6) (by simpa using h7) hy hS h

/-- Number i alone may come up. -/
theorem wpAnyG_one {i : Nat} {o : Oper} {fuel : Nat} {l : Array Bool} {a : Act} {w : World} (hr : ((Region.ready md ops l == [i]) && !lstd R l) = true) (ho : ops[i]? = some o)
    (h : ∀ K : Act → World → Prop, Shut (∀ a' w', S w' → (S w' → wpAnyG P md ops Q S R fuel (l.setIfInBounds i true) a' w') → K a' w') → if Region.wanted o (yielded ops a.tmps) = true then Oper.wp P o a w K Q else K (a.put o.dst undef) w) :
    wpAnyG P md ops Q S R (fuel + 1) l a w := by
  simp only [Bool.and_eq_true, beq_iff_eq, Bool.not_eq_true'] at hr
  obtain ⟨h1, h2⟩ := hr
  unfold wpAnyG
  rw [if_neg (by rw [h2]; simp), h1]
  refine ⟨fun h => (by cases h), fun j hj => ?_⟩
  obtain rfl := List.mem_singleton.1 hj
  exact wpOp_step ho (fun K' hK => h K' (fun a w hS hW => hK a w ⟨hS, hW hS⟩))
/-- The same, behind the calls. -/
theorem wpAny_one {i : Nat} {o : Oper} {fuel : Nat} {l : Array Bool} {a : Act} {w : World} (hr : (Region.ready md ops l == [i]) = true) (ho : ops[i]? = some o)
    (h : ∀ K : Act → World → Prop, Shut (∀ a' w', wpAny P md ops Q fuel (l.setIfInBounds i true) a' w' → K a' w') → if Region.wanted o (yielded ops a.tmps) = true then Oper.wp P o a w K Q else K (a.put o.dst undef) w) :
    wpAny P md ops Q (fuel + 1) l a w := by
  rw [beq_iff_eq] at hr
  refine ⟨fun h => (by rw [hr] at h; cases h), fun j hj => ?_⟩
  rw [hr] at hj
  obtain rfl := List.mem_singleton.1 hj
  exact wpOp_step ho (fun K' hK => h K' (fun a w hW => hK a w hW))

/-- The beginning. -/
theorem wp_region_G (R : List Nat) (S : World → Prop) {id : Nat} {a : Act} {w : World} (hm : P.follows .mixedOrders = true) (h : wpAnyG P .any ops Q S R ops.size (Array.replicate ops.size false) a w.drew) : (Code.region id ops true).wp P Q a w :=
  wp_region_any hm (wpAny_of_G _ _ _ _ h)
end
end Go.Proofs.YtgkioompcmgmdaaDoor
