/-
  What Same and Equal of the document's answer return for lists of tokens that agree: true. Conditions: the lists agree, and have at most 100000 tokens.
-/
import Derived.Test.YtaenmaokieomgaaDoorWalkP
import Derived.Deep.QuietTactic
import Derived.BigQuiet
namespace Go.Proofs.YtaenmaokieomgaaDoor
open Go.RowKit

/-- The four cells of a token. -/
def TokAt (w : World) (b o : Nat) (t : Tok) : Prop :=
  w.cell? ⟨b, o, none⟩ = some (.int .i64 t.kind) ∧ w.cell? ⟨b, o + 1, none⟩ = some (.string (strB t.text)) ∧ w.cell? ⟨b, o + 2, none⟩ = some (.int .i64 t.value) ∧ w.cell? ⟨b, o + 3, none⟩ = some (.int .i64 t.off)

/-- A slice of tokens reads as a list. -/
def TokSlice (w : World) (v : Value) (ts : List Tok) : Prop :=
  ∃ A c, v = .slice A ts.length c ∧ ts.length ≤ c ∧ (ts ≠ [] → ∃ b o, A = some ⟨b, o, none⟩ ∧ ∀ (i : Nat) (t : Tok), ts[i]? = some t → TokAt w b (o + i * 4) t)

theorem flat_get : ∀ (ts : List Tok) (i : Nat) (t : Tok) (j : Nat), ts[i]? = some t → j < 4 → (ts.flatMap Tok.cells)[i * 4 + j]? = t.cells[j]?
  | [], i, t, j, h, _ => by simp at h
  | x :: r, 0, t, j, h, hj => by
    simp only [List.getElem?_cons_zero, Option.some.injEq] at h
    subst h
    rw [List.flatMap_cons, List.getElem?_append_left (by simp [Tok.cells]; omega)]
    congr 1; omega
  | x :: r, i + 1, t, j, h, hj => by
    rw [List.getElem?_cons_succ] at h
    rw [List.flatMap_cons, List.getElem?_append_right (by simp [Tok.cells]; omega), ← flat_get r i t j h hj]
    congr 1
    simp [Tok.cells]; omega

theorem tokSlice_of_own {w : World} {base : Nat} {v : Value} {ts : List Tok} (h : w.ownsRow base 38 4 v ts.length (ts.flatMap Tok.cells)) : TokSlice w v ts := by
  rcases h.2 with ⟨rfl, h0⟩ | ⟨g, cap, cur, rfl, hb, hg, hle, hcap, hsz, htk⟩
  · exact ⟨none, 0, by rw [h0], by omega, fun hne => absurd (List.length_eq_zero_iff.1 h0) hne⟩
  · refine ⟨_, cap, rfl, hle, fun _ => ⟨g, 0, rfl, fun i t hi => ?_⟩⟩
    have hc := h.cells (g := g) rfl
    have hadd : ∀ j, (⟨g, 0, none⟩ : Addr).add j = ⟨g, j, none⟩ := fun j => by unfold Addr.add; split <;> simp_all
    have e : ∀ j (hj : j < 4) u, t.cells[j]? = some u → w.cell? ⟨g, 0 + i * 4 + j, none⟩ = some u := fun j hj u hu => by
      have := hc (i * 4 + j) u (by rw [flat_get ts i t j hi hj]; exact hu)
      rw [hadd] at this
      rw [Nat.zero_add]; exact this
    exact ⟨e 0 (by omega) _ rfl, e 1 (by omega) _ rfl, e 2 (by omega) _ rfl, e 3 (by omega) _ rfl⟩

theorem TokSlice.below {w w' : World} {v : Value} {ts : List Tok} (h : TokSlice w v ts) (hb : Below w.heap.size w w') : TokSlice w' v ts := by
  obtain ⟨A, c, hv, hc, h1⟩ := h
  refine ⟨A, c, hv, hc, fun hne => ?_⟩
  obtain ⟨b, o, hA, h2⟩ := h1 hne
  refine ⟨b, o, hA, fun i t hi => ?_⟩
  obtain ⟨e0, e1, e2, e3⟩ := h2 i t hi
  have hlt : b < w.heap.size := World.block_lt_of_cell? w _ e0
  exact ⟨(hb.cell (p := ⟨b, _, none⟩) hlt).trans e0, (hb.cell (p := ⟨b, _, none⟩) hlt).trans e1, (hb.cell (p := ⟨b, _, none⟩) hlt).trans e2, (hb.cell (p := ⟨b, _, none⟩) hlt).trans e3⟩

/-- Two tokens agree but for their places. -/
def Agree (t u : Tok) : Prop := t.kind = u.kind ∧ t.text = u.text ∧ t.value = u.value

set_option maxHeartbeats 1000000 in
set_option maxRecDepth 100000 in
theorem rsame_some (b b' o o' n c c' : Nat) (w : World) (hn : n ≤ 100000) (ts us : List Tok) (ht : ts.length = n) (hu : us.length = n)
    (h1 : ∀ (i : Nat) (t : Tok), ts[i]? = some t → TokAt w b (o + i * 4) t) (h2 : ∀ (i : Nat) (t : Tok), us[i]? = some t → TokAt w b' (o' + i * 4) t) (ha : ∀ (i : Nat) (t u : Tok), ts[i]? = some t → us[i]? = some u → Agree t u) :
    Calls Tryd.prog 21 #[.slice (some ⟨b, o, none⟩) n c, .slice (some ⟨b', o', none⟩) n c'] w fun e w' => e = .returned (.bool true) ∧ ∃ m, w' = w.drewN m := by
  have H1 := Lib.hid h1
  have H2 := Lib.hid h2
  have HA := Lib.hid ha
  have HT := Lib.hid ht
  have HU := Lib.hid hu
  clear h1 h2 ha ht hu
  go_enter Tryd.func21, Tryd.ntmps21
  go_wp2
  go_loopg [5] n (fun g i wx => ∃ k : Nat, k + g = n ∧ i = .int .i64 k ∧ ∃ m, wx = w.drewN m)
  case atStart => exact ⟨0, by omega, rfl, 0, rfl⟩
  case round =>
    obtain ⟨k, hkg, rfl, m, rfl⟩ := hrel
    cases gk with
    | zero =>
      have hge : n ≤ k := by omega
      clear hkg
      go_wp2
      go_ret
      exact ⟨rfl, m, rfl⟩
    | succ g =>
      have hlt : k < n := by omega
      have HG := Lib.hid hkg
      clear hkg
      obtain ⟨t, hti⟩ : ∃ t, ts[k]? = some t := ⟨_, List.getElem?_eq_getElem (by have := HT.out; omega)⟩
      obtain ⟨u, hui⟩ : ∃ t, us[k]? = some t := ⟨_, List.getElem?_eq_getElem (by have := HU.out; omega)⟩
      obtain ⟨hc0, hc1, hc2, _⟩ := H1.out k t hti
      obtain ⟨hc0', hc1', hc2', _⟩ := H2.out k u hui
      obtain ⟨a1, a2, a3⟩ := HA.out k t u hti hui
      rw [← a1] at hc0'
      rw [← a2] at hc1'
      rw [← a3] at hc2'
      clear hti hui a1 a2 a3
      obtain ⟨kd, tx, vl, of⟩ := t
      generalize strB tx = tb at hc1 hc1'
      simp only at hc0 hc1 hc2 hc0' hc1' hc2'
      go_wp2
      go_quiet (fail)
      go_wp2
      go_roundg g
      case rel => exact ⟨k + 1, by have := HG.out; omega, by go_num, _, rfl⟩
      case measure => omega

set_option maxHeartbeats 400000 in
theorem rsame_none (A A' : Option Addr) (c c' : Nat) (w : World) :
    Calls Tryd.prog 21 #[.slice A 0 c, .slice A' 0 c'] w fun e w' => e = .returned (.bool true) ∧ w' = w := by
  go_enter Tryd.func21, Tryd.ntmps21
  go_wp2
  go_loopg [5] 0 (fun _ i wx => i = .int .i64 0 ∧ wx = w)
  case atStart => exact ⟨rfl, rfl⟩
  case round =>
    obtain ⟨rfl, rfl⟩ := hrel
    go_wp2
    go_ret
    exact ⟨rfl, rfl⟩

theorem rsame_any (v v' : Value) (ts us : List Tok) (w : World) (hn : ts.length ≤ 100000) (hl : ts.length = us.length) (h1 : TokSlice w v ts) (h2 : TokSlice w v' us) (ha : ∀ (i : Nat) (t u : Tok), ts[i]? = some t → us[i]? = some u → Agree t u) :
    Calls Tryd.prog 21 #[v, v'] w fun e w' => e = .returned (.bool true) ∧ ∃ m, w' = w.drewN m := by
  obtain ⟨A, c, rfl, _, h1⟩ := h1
  obtain ⟨A', c', rfl, _, h2⟩ := h2
  by_cases h0 : ts = []
  · have hu : us = [] := List.length_eq_zero_iff.1 (by rw [← hl, h0]; rfl)
    subst h0 hu
    exact (rsame_none A A' c c' w).mono fun e w' ⟨he, hw⟩ => ⟨he, 0, hw⟩
  · have hu : us ≠ [] := fun h => h0 (List.length_eq_zero_iff.1 (by rw [hl, h]; rfl))
    obtain ⟨b, o, rfl, k1⟩ := h1 h0
    obtain ⟨b', o', rfl, k2⟩ := h2 hu
    rw [← hl]
    exact rsame_some b b' o o' ts.length c c' w hn ts us rfl hl.symm k1 k2 ha

set_option maxHeartbeats 1000000 in
set_option maxRecDepth 100000 in
theorem requal_any (v v' : Value) (ts : List Tok) (w : World) (hn : ts.length ≤ 100000) (h1 : TokSlice w v ts) (h2 : TokSlice w v' ts) :
    Calls Tryd.prog 14 #[v, v'] w fun e w' => e = .returned (.bool true) ∧ ∃ m, w' = w.drewN m := by
  have HS := Lib.hid (rsame_any v v' ts ts w hn rfl h1 h2 (fun i t u h k => by rw [h] at k; cases k; exact ⟨rfl, rfl, rfl⟩))
  obtain ⟨A, c, rfl, _, h1⟩ := h1
  obtain ⟨A', c', rfl, _, h2⟩ := h2
  obtain ⟨n, hn'⟩ : ∃ n, ts.length = n := ⟨_, rfl⟩
  rw [hn'] at hn HS ⊢
  have HN := Lib.hid hn'
  have H1 := Lib.hid h1
  have H2 := Lib.hid h2
  clear hn' h1 h2
  go_enter Tryd.func14, Tryd.ntmps14
  go_wp2_with (go_at_call 21; refine HS.out.mono ?_; rintro e w' ⟨rfl, m0, rfl⟩)
  go_loopg [5] n (fun g i wx => ∃ k : Nat, k + g = n ∧ i = .int .i64 k ∧ ∃ m, wx = w.drewN m)
  case atStart => exact ⟨0, by omega, rfl, _, rfl⟩
  case round =>
    obtain ⟨k, hkg, rfl, m, rfl⟩ := hrel
    cases gk with
    | zero =>
      have hge : n ≤ k := by omega
      clear hkg
      go_wp2
      go_ret
      exact ⟨rfl, m, rfl⟩
    | succ g =>
      have hlt : k < n := by omega
      have HG := Lib.hid hkg
      clear hkg
      have hne : ts ≠ [] := fun h => by have := HN.out; rw [h] at this; simp at this; omega
      obtain ⟨b, o, hA, k1⟩ := H1.out hne
      obtain ⟨b', o', hA', k2⟩ := H2.out hne
      subst hA hA'
      obtain ⟨t, hti⟩ : ∃ t, ts[k]? = some t := ⟨_, List.getElem?_eq_getElem (by have := HN.out; omega)⟩
      obtain ⟨_, _, _, hc3⟩ := k1 k t hti
      obtain ⟨_, _, _, hc3'⟩ := k2 k t hti
      clear hti k1 k2
      obtain ⟨kd, tx, vl, of⟩ := t
      simp only at hc3 hc3'
      go_wp2
      go_quiet (fail)
      go_wp2
      go_roundg g
      case rel => exact ⟨k + 1, by have := HG.out; omega, by go_num, _, rfl⟩
      case measure => omega
end Go.Proofs.YtaenmaokieomgaaDoor
