/-
  What symbolOf, operands, isNamed and isExpr of package syntax return. Conditions: the table of symbols holds what start-up laid; names have at most 4096 bytes; an expression has at most 100000 parts.
-/
import Derived.Test.YtgkioompcmgmdaaDoorWalkDp
import Derived.Test.YtgkioompcmgmdaaDoorWalkZy
namespace Go.Proofs.YtgkioompcmgmdaaDoor
open Go.RowKit

/-- The first symbol of an operator. -/
def soS : List (List UInt8 × Int × Int) → Int → Option (List UInt8 × Int × Int)
  | [], _ => none
  | x :: r, op => if x.2.1 = op then some x else soS r op
/-- How many operands an operator has. -/
def opN (op : Int) : Option Int :=
  if op = 1 ∨ op = 2 then some 0 else if op = 3 then some 1 else
  match soS symTab op with
  | none => none
  | some x => if x.2.2 = 6 then some 0 else if x.2.2 = 5 then some 1 else some 2
/-- Whether a name is as it ought to be. -/
def nmB (named : Bool) (nm : List UInt8) : Bool := if named then validS nm else decide (nm = [])
mutual
/-- Whether an expression is as parsing makes it. -/
def Ex.good : Ex → Bool
  | .mk op v nm sl sz args => decide (sl = 0) && decide (sz = 0) && nmB (decide (op = 2) || decide (op = 3)) nm && !(decide (v < 0) || decide (0 < v) && decide (op ≠ 1)) && decide (opN op = some (args.length : Int)) && Ex.goodL args
def Ex.goodL : List Ex → Bool
  | [] => true
  | e :: r => e.good && Ex.goodL r
end
mutual
/-- All names are short. -/
def Ex.short : Ex → Prop
  | .mk _ _ nm _ _ args => nm.length ≤ 4096 ∧ Ex.shortL args
def Ex.shortL : List Ex → Prop
  | [] => True
  | e :: r => e.short ∧ Ex.shortL r
end
theorem Ex.shortL_at : ∀ (l : List Ex) (k : Nat) (e : Ex), Ex.shortL l → l[k]? = some e → e.short
  | [], _, _, _, h => by simp at h
  | x :: r, 0, e, hs, h => by
    simp only [List.getElem?_cons_zero, Option.some.injEq] at h
    subst h
    simp only [Ex.shortL] at hs
    exact hs.1
  | x :: r, k + 1, e, hs, h => by
    simp only [List.getElem?_cons_succ] at h
    simp only [Ex.shortL] at hs
    exact Ex.shortL_at r k e hs.2 h
theorem goodL_drop : ∀ (l : List Ex) (k : Nat) (e : Ex), l[k]? = some e → Ex.goodL (l.drop k) = (e.good && Ex.goodL (l.drop (k + 1)))
  | [], _, _, h => by simp at h
  | x :: r, 0, e, h => by
    simp only [List.getElem?_cons_zero, Option.some.injEq] at h
    subst h
    simp [Ex.goodL]
  | x :: r, k + 1, e, h => by
    simp only [List.getElem?_cons_succ] at h
    simpa using goodL_drop r k e h

theorem soS_drop (op : Int) (k : Nat) (hk : k < 19) (s : List UInt8) (o l : Int) (h : symTab.getD k ([], 0, 0) = (s, o, l)) : soS (symTab.drop k) op = if o = op then some (s, o, l) else soS (symTab.drop (k + 1)) op := by
  have hk' : k < symTab.length := hk
  rw [List.getD_eq_getElem?_getD, List.getElem?_eq_getElem hk'] at h
  simp only [Option.getD_some] at h
  rw [List.drop_eq_getElem_cons hk', h]
  rfl

/-- What symbolOf returns. -/
def soV : Option (List UInt8 × Int × Int) → Value
  | none => .tuple #[.agg #[.string ⟨#[]⟩, .int .i64 0, .int .i64 0], .bool false]
  | some x => .tuple #[.agg #[.string (strB x.1), .int .i64 x.2.1, .int .i64 x.2.2], .bool true]

set_option maxHeartbeats 1000000 in
set_option maxRecDepth 100000 in
theorem symbolOf_any (op : Int) (w : World) (hs : SymAt w) : Calls Tryd.prog 68 #[.int .i64 op] w fun e w' => e = .returned (soV (soS symTab op)) ∧ Below w.heap.size w w' := by
  obtain ⟨T, fr, hg⟩ := hs
  obtain ⟨R, hR⟩ : ∃ R, soS symTab op = R := ⟨_, rfl⟩
  have HR := Lib.hid hR
  rw [hR]
  have hgl := lt_of_block hg
  have hg1 := (alloc_blk w (.cells #[.string ⟨#[]⟩, .int .i64 0, .int .i64 0] 112) hgl).trans hg
  clear hR
  go_enter Tryd.func68, Tryd.ntmps68
  go_wp2_with (refine wpList_load_row rfl 115 _ rfl 2 rfl T _ fr _ hg1 Tryd.underlying115 rfl (by kernel_rfl) ?_)
  go_loopg [7] 19 (fun g i wr => ∃ k : Nat, k + g = 19 ∧ i = .int .i64 k ∧ Hid (soS (symTab.drop k) op = R) ∧ Hid (wr.heap[w.heap.size]? = some (.cells #[.string ⟨#[]⟩, .int .i64 0, .int .i64 0] 112 (0, 0))) ∧ Hid (Below w.heap.size w wr))
  case atStart => exact ⟨0, rfl, rfl, HR.out, new_blk w _, (Below.refl _ _).alloc (Nat.le_refl _) _⟩
  case round =>
    obtain ⟨k, hkg, rfl, HS, HX, HB⟩ := hrel
    have c0 : wr.cell? ⟨w.heap.size, 0, none⟩ = some (.string ⟨#[]⟩) := by rw [Lib.cell_of_heap HX.out]; rfl
    have c1 : wr.cell? ⟨w.heap.size, 1, none⟩ = some (.int .i64 0) := by rw [Lib.cell_of_heap HX.out]; rfl
    have c2 : wr.cell? ⟨w.heap.size, 2, none⟩ = some (.int .i64 0) := by rw [Lib.cell_of_heap HX.out]; rfl
    have f0 : wr.frozen? ⟨w.heap.size, 0, none⟩ = false := Lib.frozen_of_heap HX.out 0
    have f1 : wr.frozen? ⟨w.heap.size, 1, none⟩ = false := Lib.frozen_of_heap HX.out 1
    have f2 : wr.frozen? ⟨w.heap.size, 2, none⟩ = false := Lib.frozen_of_heap HX.out 2
    have hz := lt_of_block HX.out
    cases gk with
    | zero =>
      have hge : 19 ≤ k := by omega
      have HQ : Hid (R = none) := by
        have e : symTab.drop k = [] := List.drop_eq_nil_of_le (by exact hge)
        have := HS.out
        rw [e] at this; exact this.symm
      clear hkg
      go_wp2_with fail
      refine bodyPost_ret (v := .tuple #[.agg #[.string ⟨#[]⟩, .int .i64 0, .int .i64 0], .bool false]) ?_ rfl ?_
      · simp [results, Tryd.results68, go_sem, World.cell?_setCell_same, World.cell?_setCell_other, c0, c1, c2]
      · rw [HQ.out]
        exact ⟨rfl, ((HB.out.setCell (p := ⟨w.heap.size, 0, none⟩) (Nat.le_refl _) _).setCell (p := ⟨w.heap.size, 1, none⟩) (Nat.le_refl _) _).setCell (p := ⟨w.heap.size, 2, none⟩) (Nat.le_refl _) _⟩
    | succ g =>
      have hlt : k < 19 := by omega
      have HG := Lib.hid hkg
      clear hkg
      have hi := sym_index k hlt
      obtain ⟨en', hen⟩ : ∃ x, symTab.getD k ([], 0, 0) = x := ⟨_, rfl⟩
      obtain ⟨s, o, l⟩ := en'
      have HST := Lib.hid (soS_drop op k hlt s o l hen)
      rw [hen] at hi
      clear hen
      simp only at hi
      by_cases h1 : o = op
      · have HQ : Hid (R = some (s, o, l)) := by have := HST.out; rw [if_pos h1] at this; exact HS.out.symm.trans this
        have hl : (o == op) = true := by simp [h1]
        clear h1
        go_wp2_with fail
        refine bodyPost_ret (v := .tuple #[.agg #[.string (strB s), .int .i64 o, .int .i64 l], .bool true]) ?_ rfl ?_
        · simp [results, Tryd.results68, go_sem, World.cell?_setCell_same, World.cell?_setCell_other, c0, c1, c2, hz]
        · rw [HQ.out]
          refine ⟨rfl, ?_⟩
          first
            | exact (((HB.out.setCell (p := ⟨w.heap.size, 0, none⟩) (Nat.le_refl _) _).setCell (p := ⟨w.heap.size, 1, none⟩) (Nat.le_refl _) _).setCell (p := ⟨w.heap.size, 2, none⟩) (Nat.le_refl _) _).alloc (by simp only [set_size]; exact HB.out.size) _
            | trace_state
      · have HQ : Hid (soS (symTab.drop (k + 1)) op = R) := by have := HST.out; rw [if_neg h1] at this; exact this.symm.trans HS.out
        have hl : (o == op) = false := by simp [h1]
        clear h1 c0 c1 c2 f0 f1 f2
        go_wp2_with fail
        go_roundg g
        case rel => exact ⟨k + 1, by have := HG.out; omega, by go_num, HQ, (alloc_blk wr _ hz).trans HX.out, HB.out.alloc HB.out.size _⟩
        case measure => omega

/-- What operands returns. -/
def opV : Option Int → Value
  | none => .tuple #[.int .i64 0, .bool false]
  | some n => .tuple #[.int .i64 n, .bool true]

set_option maxHeartbeats 1000000 in
set_option maxRecDepth 100000 in
theorem operands_any (op : Int) (w : World) (hs : SymAt w) : Calls Tryd.prog 66 #[.int .i64 op] w fun e w' => e = .returned (opV (opN op)) ∧ Below w.heap.size w w' := by
  have HC := Lib.hid (symbolOf_any op w hs)
  unfold opN
  by_cases h12 : op = 1 ∨ op = 2
  · rw [if_pos h12]
    rcases h12 with rfl | rfl
    all_goals
      go_enter Tryd.func66, Tryd.ntmps66
      go_wp2_with fail
      refine bodyPost_ret (v := .tuple #[.int .i64 0, .bool true]) (by simp [results, Tryd.results66, go_sem]) rfl ⟨rfl, Below.refl _ _⟩
  · rw [if_neg h12]
    have h1 : (op == 1) = false := by simp; omega
    have h2 : (op == 2) = false := by simp; omega
    by_cases h3 : op = 3
    · rw [if_pos h3]
      subst h3
      go_enter Tryd.func66, Tryd.ntmps66
      go_wp2_with fail
      refine bodyPost_ret (v := .tuple #[.int .i64 1, .bool true]) (by simp [results, Tryd.results66, go_sem]) rfl ⟨rfl, Below.refl _ _⟩
    · rw [if_neg h3]
      have h3' : (op == 3) = false := by simp; omega
      obtain ⟨R, hR⟩ : ∃ R, soS symTab op = R := ⟨_, rfl⟩
      rw [hR] at HC ⊢
      clear hR h12 h3
      cases R with
      | none =>
        simp only [soV] at HC
        go_enter Tryd.func66, Tryd.ntmps66
        go_wp2_with fail
        refine HC.out.mono ?_
        rintro e w1 ⟨rfl, hb⟩
        have HB := Lib.hid hb
        clear hb
        go_wp2_with fail
        refine bodyPost_ret (v := .tuple #[.int .i64 0, .bool false]) (by simp [results, Tryd.results66, go_sem]) rfl ⟨rfl, HB.out.alloc HB.out.size _⟩
      | some x =>
        obtain ⟨s, o, l⟩ := x
        simp only [soV] at HC
        simp only
        by_cases h6 : l = 6
        · rw [if_pos h6]
          subst h6
          go_enter Tryd.func66, Tryd.ntmps66
          go_wp2_with fail
          refine HC.out.mono ?_
          rintro e w1 ⟨rfl, hb⟩
          have HB := Lib.hid hb
          clear hb
          go_wp2_with fail
          refine bodyPost_ret (v := .tuple #[.int .i64 0, .bool true]) (by simp [results, Tryd.results66, go_sem]) rfl ⟨rfl, HB.out.alloc HB.out.size _⟩
        · rw [if_neg h6]
          have h6' : (l == 6) = false := by simp; omega
          by_cases h5 : l = 5
          · rw [if_pos h5]
            subst h5
            clear h6 h6'
            go_enter Tryd.func66, Tryd.ntmps66
            go_wp2_with fail
            refine HC.out.mono ?_
            rintro e w1 ⟨rfl, hb⟩
            have HB := Lib.hid hb
            clear hb
            go_wp2_with fail
            refine bodyPost_ret (v := .tuple #[.int .i64 1, .bool true]) (by simp [results, Tryd.results66, go_sem]) rfl ⟨rfl, HB.out.alloc HB.out.size _⟩
          · rw [if_neg h5]
            have h5' : (l == 5) = false := by simp; omega
            clear h6 h5
            go_enter Tryd.func66, Tryd.ntmps66
            go_wp2_with fail
            refine HC.out.mono ?_
            rintro e w1 ⟨rfl, hb⟩
            have HB := Lib.hid hb
            clear hb
            go_wp2_with fail
            refine bodyPost_ret (v := .tuple #[.int .i64 2, .bool true]) (by simp [results, Tryd.results66, go_sem]) rfl ⟨rfl, HB.out.alloc HB.out.size _⟩

set_option maxHeartbeats 1000000 in
set_option maxRecDepth 100000 in
theorem isNamed_any (nm : List UInt8) (b : Bool) (w : World) (hs : nm.length ≤ 4096) : Calls Tryd.prog 58 #[.string (strB nm), .bool b] w fun e w' => e = .returned (.bool (nmB b nm)) ∧ w' = w := by
  have hv := valid_any (strB nm)
  rw [str_data, str_size] at hv
  have HV := Lib.hid (fun w => hv w (by omega))
  clear hv
  cases b with
  | true =>
    go_enter Tryd.func58, Tryd.ntmps58
    go_wp2_with fail
    refine (HV.out _).mono ?_
    rintro e w1 ⟨rfl, rfl⟩
    go_wp2_with fail
    go_ret
    exact ⟨rfl, rfl⟩
  | false =>
    have HN : Hid ((strB nm).toList.isEmpty = nmB false nm) := by
      show _ = _
      rw [Lib.toList_data, str_data]
      cases nm <;> simp [nmB]
    go_enter Tryd.func58, Tryd.ntmps58
    go_wp2_with fail
    go_ret
    exact ⟨ret_bool HN.out, rfl⟩
end Go.Proofs.YtgkioompcmgmdaaDoor
