/-
  What symbol of a parser of package syntax does. Conditions: the parser lies at block R.
-/
import Derived.Test.YtdlnpfocmgclmaaDoorWalkX
import Derived.Laws.Rows
import Derived.MapKept
import Derived.Lib.Builder
namespace Go.Proofs.YtdlnpfocmgclmaaDoor
open Go.RowKit

theorem symIn_drop (n : Int) (x : List UInt8) (k : Nat) (hk : k < symTab.length) : symIn (symTab.drop k) n x = if (symTab[k]).2.2 = n ∧ x = (symTab[k]).1 then (symTab[k]).2.1 else symIn (symTab.drop (k + 1)) n x := by
  rw [List.drop_eq_getElem_cons hk]; rfl

theorem sym_index : ∀ (k : Nat) (_ : k < 19) (w : World), (Instr.index 110 (.agg symArr) (.int .i64 k)).run Tryd.prog w = .ok (.agg #[.string (strB (symTab.getD k ([], 0, 0)).1), .int .i64 (symTab.getD k ([], 0, 0)).2.1, .int .i64 (symTab.getD k ([], 0, 0)).2.2]) w
  | 0, _, w => by kernel_rfl
  | 1, _, w => by kernel_rfl
  | 2, _, w => by kernel_rfl
  | 3, _, w => by kernel_rfl
  | 4, _, w => by kernel_rfl
  | 5, _, w => by kernel_rfl
  | 6, _, w => by kernel_rfl
  | 7, _, w => by kernel_rfl
  | 8, _, w => by kernel_rfl
  | 9, _, w => by kernel_rfl
  | 10, _, w => by kernel_rfl
  | 11, _, w => by kernel_rfl
  | 12, _, w => by kernel_rfl
  | 13, _, w => by kernel_rfl
  | 14, _, w => by kernel_rfl
  | 15, _, w => by kernel_rfl
  | 16, _, w => by kernel_rfl
  | 17, _, w => by kernel_rfl
  | 18, _, w => by kernel_rfl
  | k + 19, h, _ => absurd h (by omega)
theorem sym_ne : ∀ k, k < 19 → (symTab.getD k ([], 0, 0)).1 ≠ [] := by decide
theorem sym_step (n : Int) (x : List UInt8) (k : Nat) (hk : k < 19) (s : List UInt8) (op l : Int) (h : symTab.getD k ([], 0, 0) = (s, op, l)) : symIn (symTab.drop k) n x = if l = n ∧ x = s then op else symIn (symTab.drop (k + 1)) n x := by
  have hk' : k < symTab.length := hk
  rw [symIn_drop n x k hk']
  rw [List.getD_eq_getElem?_getD, List.getElem?_eq_getElem hk'] at h
  simp only [Option.getD_some] at h
  rw [h]
theorem sym_pos : ∀ k, k < 19 → (symTab.getD k ([], 0, 0)).2.1 ≠ 0 := by decide

theorem new_cell (w : World) (cs : Array Value) (T : TypeId) (j : Nat) (v : Value) (h : cs[j]? = some v) : (w.alloc (.cells cs T)).cell? ⟨w.heap.size, j, none⟩ = some v := by
  rw [Lib.cell_of_heap (Go.MapKept.heap_alloc w (.cells cs T)).1]; simpa using h
theorem new_free (w : World) (cs : Array Value) (T : TypeId) (j : Nat) : (w.alloc (.cells cs T)).frozen? ⟨w.heap.size, j, none⟩ = false :=
  Lib.frozen_of_heap (Go.MapKept.heap_alloc w (.cells cs T)).1 j

/-- What symbol returns: the operator, and the token is taken if there is one. -/
def SymPost (R : Nat) (toks : List Tok) (en : Nat) (n : Int) (ts : List Tok) (w : World) (e : Ending) (w' : World) : Prop :=
  (symS n ts = 0 ∧ e = .returned (.int .i64 0) ∧ Below w.heap.size w w') ∨ (symS n ts ≠ 0 ∧ e = .returned (.int .i64 (symS n ts)) ∧ PSt R toks en w' ts.tail ∧ Keep R w w')

set_option maxHeartbeats 1000000 in
set_option maxRecDepth 100000 in
theorem symbol_any (n : Int) (R en : Nat) (toks ts : List Tok) (w : World) (h : PSt R toks en w ts) :
    Calls Tryd.prog 65 #[.pointer (some ⟨R, 0, none⟩), .int .i64 n] w (SymPost R toks en n ts w) := by
  have H := Lib.hid h
  obtain ⟨T, fr, hg⟩ := h.sym
  have hR := h.lt
  have ho := h.out
  clear h
  go_enter Tryd.func65, Tryd.ntmps65
  go_wp2_with (refine wpList_load_row rfl 110 _ rfl 2 rfl T _ fr _ hg Tryd.underlying110 rfl (by kernel_rfl) ?_)
  go_loopg [8] 19 (fun g i wr => ∃ k : Nat, k + g = 19 ∧ i = .int .i64 k ∧ Below w.heap.size w wr ∧ symIn (symTab.drop k) n (txt ts) = symS n ts)
  case atStart => exact ⟨0, rfl, rfl, Below.refl _ _, rfl⟩
  case round =>
    obtain ⟨k, hkg, rfl, hb, hs⟩ := hrel
    have HB := Lib.hid hb
    have HS := Lib.hid hs
    clear hb hs
    cases gk with
    | zero =>
      have hge : 19 ≤ k := by omega
      have H0 : Hid (symS n ts = 0) := by
        have e : symTab.drop k = [] := List.drop_eq_nil_of_le (by exact hge)
        have := HS.out
        rw [e] at this; exact this.symm
      clear hkg
      go_wp2
      go_ret
      exact .inl ⟨H0.out, rfl, HB.out⟩
    | succ g =>
      have hlt : k < 19 := by omega
      have HG := Lib.hid hkg
      clear hkg
      have hi := sym_index k hlt
      have hne := sym_ne k hlt
      have hp := sym_pos k hlt
      obtain ⟨en', hen⟩ : ∃ x, symTab.getD k ([], 0, 0) = x := ⟨_, rfl⟩
      obtain ⟨s, op, l⟩ := en'
      have HST := Lib.hid (sym_step n (txt ts) k hlt s op l hen)
      rw [hen] at hi hne hp
      clear hen
      simp only at hi hne hp
      have HNE := Lib.hid hne
      have HP := Lib.hid hp
      clear hne hp
      by_cases h1 : l = n
      · by_cases h2 : txt ts = s
        · have hl : (l == n) = true := by simp [h1]
          have HY : Hid (txt ts = (strB s).data.toList) := h2.trans (str_data s).symm
          have HN : Hid (ts ≠ []) := fun h => HNE.out (by rw [← h2, h]; rfl)
          have HO : Hid (op = symS n ts) := by
            have := HST.out
            rw [if_pos ⟨h1, h2⟩] at this; exact this.symm.trans HS.out
          clear h1 h2
          have hwr : w.heap.size ≤ wr.heap.size := HB.out.size
          go_wp2_with (go_at_call 33; refine (accept_yes _ _ _ _ _ _ ((H.out.below HB.out).more _) HY.out HN.out).mono ?_; rintro e w1 ⟨rfl, h1, h2⟩; have H1 := Lib.hid h1; have H2 := Lib.hid h2; have c1 := h2.cell (new_cell wr _ _ 1 _ rfl) (by omega); clear h1 h2)
          go_ret
          exact .inr ⟨fun h => HP.out (HO.out.trans h), by rw [← HO.out]; rfl, H1.out, ((Keep.of_below HB.out).alloc _).trans H2.out⟩
        · have hl : (l == n) = true := by simp [h1]
          have HY : Hid (txt ts ≠ (strB s).data.toList) := by rw [str_data]; exact h2
          have HO : Hid (symIn (symTab.drop (k + 1)) n (txt ts) = symS n ts) := by
            have := HST.out
            rw [if_neg (fun h => h2 h.2)] at this; exact this.symm.trans HS.out
          clear h1 h2
          go_wp2_with (go_at_call 33; refine (accept_no _ _ _ _ _ _ ((H.out.below HB.out).more _) HY.out).mono ?_; rintro e w1 ⟨rfl, h2⟩; have H2 := Lib.hid h2; clear h2)
          go_roundg g
          case rel =>
            refine ⟨k + 1, by have := HG.out; omega, by go_num, ?_, HO.out⟩
            have h1 := HB.out.alloc HB.out.size (.cells #[.string (strB s), .int .i64 op, .int .i64 l] 109)
            exact h1.trans (H2.out.mono h1.size)
          case measure => omega
      · have hl : (l == n) = false := by simp [h1]
        have HO : Hid (symIn (symTab.drop (k + 1)) n (txt ts) = symS n ts) := by
          have := HST.out
          rw [if_neg (fun h => h1 h.1)] at this; exact this.symm.trans HS.out
        clear h1
        go_wp2
        go_roundg g
        case rel => exact ⟨k + 1, by have := HG.out; omega, by go_num, HB.out.alloc HB.out.size _, HO.out⟩
        case measure => omega
end Go.Proofs.YtdlnpfocmgclmaaDoor
