/-
  SameStmts of the document's answer returns true for two readings of one list of statements. Condition: the statements have at most 100000 parts.
-/
import Derived.Test.YtgkioompcmgmdaaDoorWalkSe
import Derived.StillTailTactics
import Derived.Deep.RegionHeld3
import Derived.Deep.DeepCutAuto
namespace Go.Proofs.YtgkioompcmgmdaaDoor
open Go.RowKit

theorem still_load_mid {P : Program} {ops : Array Oper} {rest : List Oper} {op : Oper} {a : Act} {w : World} {Q : Act → Prop} (hgd : op.guard = none) (ty : TypeId) (x : Operand) (ho : op.op = .load ty x)
    (b o : Nat) (hx : a.eval x = .pointer (some ⟨b, o, none⟩)) (cs : List Value) (d : TypeDesc) (hc : w.rangeAt b o cs) (hu : P.underlying ty = some d) (hd : d.isRow = true) (hi : (P.info? ty).map (·.size) = some cs.length)
    (h : wpStill P ops w Q rest (a.put op.dst (.agg cs.toArray))) : wpStill P ops w Q (op :: rest) a := by
  have hw : Region.wanted op (yielded ops a.tmps) = true := by simp [Region.wanted, hgd]
  refine wpStill_step fun K hK => ?_
  rw [if_pos hw]
  unfold Oper.still execOp
  simp only [ho, hx, Instr.loadAt, Instr.sureAddr, Sem.run_bind, Sem.run_pure, Result.andThen_ok, run_loadVar_mid w b o ty cs d hc hu hd hi]
  exact ⟨rfl, hK _ h⟩

theorem two_rows {S : Nat → Prop} {w x : World} {n1 n2 : Nat} {e : St} {cs ds : List Value} (hx : Below w.heap.size w x) (f1 : x.heap[n1]? = some stZ) (f2 : x.heap[n2]? = some stZ) (hne : n1 ≠ n2) (h1 : w.heap.size ≤ n1) (h2 : w.heap.size ≤ n2)
    (_ : StL S w e cs) (_ : StL S w e ds) :
    ((x.setRow n1 cs.toArray).setRow n2 ds.toArray).heap[n1]? = some (.cells cs.toArray 58 (0, 0)) ∧ ((x.setRow n1 cs.toArray).setRow n2 ds.toArray).heap[n2]? = some (.cells ds.toArray 58 (0, 0)) ∧
      Below w.heap.size w ((x.setRow n1 cs.toArray).setRow n2 ds.toArray) ∧ Below w.heap.size w (x.setRow n1 cs.toArray) ∧ (x.setRow n1 cs.toArray).heap[n2]? = some stZ := by
  have sb : ∀ (y : World) (n : Nat) (c : Array Value), Below w.heap.size w y → w.heap.size ≤ n → Below w.heap.size w (y.setRow n c) := fun y n c h hn =>
    ⟨h.os, h.tape, h.output, by have := h.size; simpa using this, fun k hk => (setRow_blk y n c (by omega)).trans (h.block k hk)⟩
  have f3 : (x.setRow n1 cs.toArray).heap[n2]? = some stZ := (setRow_blk x n1 _ (by omega)).trans f2
  exact ⟨(setRow_blk _ n2 _ hne).trans (setRow_same f1), setRow_same f3, sb _ _ _ (sb _ _ _ hx h1) h2, sb _ _ _ hx h1, f3⟩

set_option maxHeartbeats 8000000 in
set_option maxRecDepth 100000 in
theorem sameStmts_all : ∀ (n : Nat) (ls : List St), St.bigL ls ≤ n → n ≤ 100000 → ∀ (S : Nat → Prop) (w : World) (A A' : Option Addr) (l q l' q' : Nat), StSlice S w ls (.slice A l q) → StSlice S w ls (.slice A' l' q') →
    Calls Tryd.prog 14 #[.slice A l q, .slice A' l' q'] w fun e' w' => e' = .returned (.bool true) ∧ Below w.heap.size w w' := by
  intro n
  induction n using Nat.strongRecOn with
  | ind n ih =>
  intro ls h hn S w A A' l q l' q' hl hl'
  have IH : Hid (∀ (ls' : List St), St.bigL ls' < n → ∀ (S : Nat → Prop) (w : World) (A A' : Option Addr) (l q l' q' : Nat), StSlice S w ls' (.slice A l q) → StSlice S w ls' (.slice A' l' q') → Calls Tryd.prog 14 #[.slice A l q, .slice A' l' q'] w fun e' w' => e' = .returned (.bool true) ∧ Below w.heap.size w w') :=
    fun ls' h' => ih _ h' ls' (Nat.le_refl _) (by omega)
  clear ih
  obtain ⟨A1, c1, e1, hc, hr⟩ := hl
  simp only [Value.slice.injEq] at e1
  obtain ⟨rfl, rfl, rfl⟩ := e1
  obtain ⟨A2, c2, e2, hc', hr'⟩ := hl'
  simp only [Value.slice.injEq] at e2
  obtain ⟨rfl, rfl, rfl⟩ := e2
  have hlq : ls.length ≤ 100000 := by have := St.len_big ls; omega
  have HR := Lib.hid hr
  have HR' := Lib.hid hr'
  have HD := Lib.hid h
  have HN := Lib.hid hn
  obtain ⟨m, hm⟩ : ∃ x, ls.length = x := ⟨_, rfl⟩
  have HM := Lib.hid hm
  rw [hm] at hlq ⊢
  clear hr hr' hm h hc hc' hn
  go_enter Tryd.func14, Tryd.ntmps14
  go_wp2_with fail
  go_loopg [5] m (fun g i wr => ∃ k : Nat, k + g = m ∧ i = .int .i64 k ∧ Below w.heap.size w wr)
  case atStart => exact ⟨0, by omega, rfl, Below.refl _ _⟩
  case round =>
    obtain ⟨k, hkg, rfl, hb⟩ := hrel
    have HB := Lib.hid hb
    clear hb
    cases gk with
    | zero =>
      have hge : m ≤ k := by omega
      clear hkg
      go_wp2_with fail
      go_ret
      exact ⟨rfl, HB.out⟩
    | succ g =>
      have hlt : k < m := by omega
      have HG := Lib.hid hkg
      clear hkg
      obtain ⟨e1, he1⟩ : ∃ e1, ls[k]? = some e1 := ⟨_, List.getElem?_eq_getElem (by have := HM.out; omega)⟩
      have hbg := St.big_at ls k e1 he1
      have hne : ls ≠ [] := fun e => by have := HM.out; rw [e] at this; simp at this; omega
      obtain ⟨bb, o, rfl, hS, hrow⟩ := HR.out hne
      obtain ⟨cs, hcs, hex⟩ := StRow.get ls bb o k e1 hrow he1
      obtain ⟨bb', o', rfl, hS', hrow'⟩ := HR'.out hne
      obtain ⟨ds, hds, hex'⟩ := StRow.get ls bb' o' k e1 hrow' he1
      have hbb : bb < w.heap.size := by obtain ⟨v, r, rfl⟩ := hex.cons; exact hcs.lt
      have hbb' : bb' < w.heap.size := by obtain ⟨v, r, rfl⟩ := hex'.cons; exact hds.lt
      have HRG : Hid (wr.drew.rangeAt bb (o + k * 18) cs) := fun j v hv => (HB.out.cell (p := ⟨bb, o + k * 18 + j, none⟩) hbb).trans (hcs j v hv)
      have HRG' : Hid (wr.drew.rangeAt bb' (o' + k * 18) ds) := fun j v hv => (HB.out.cell (p := ⟨bb', o' + k * 18 + j, none⟩) hbb').trans (hds j v hv)
      have HX := Lib.hid hex
      have HX' := Lib.hid hex'
      have HBG := Lib.hid hbg
      have HBd := Lib.hid HB.out.drew
      have HI : Hid ((Tryd.prog.info? 58).map (·.size) = some cs.length) := by have := hex.info; show _ = _; rw [List.size_toArray] at this; exact this
      have HI' : Hid ((Tryd.prog.info? 58).map (·.size) = some ds.length) := by have := hex'.info; show _ = _; rw [List.size_toArray] at this; exact this
      have HCS : Hid (CellsAt w bb (o + k * 18) cs) := hcs
      have HDS : Hid (CellsAt w bb' (o' + k * 18) ds) := hds
      clear hcs hrow he1 hds hrow' hex hex' hne hbg
      go_upto_region 6 with fail
      go_cut [6, 7] (fun x y wx => ∃ n1 n2 : Nat, n1 ≠ n2 ∧ x = .pointer (some ⟨n1, 0, none⟩) ∧ y = .pointer (some ⟨n2, 0, none⟩) ∧ wx.heap[n1]? = some (.cells cs.toArray 58 (0, 0)) ∧ wx.heap[n2]? = some (.cells ds.toArray 58 (0, 0)) ∧ Below w.heap.size w wx)
      case first =>
        have hSS : ∀ w', Below w.heap.size w w' → (w'.rangeAt bb (o + k * 18) cs ∧ w'.rangeAt bb' (o' + k * 18) ds ∧ Below w.heap.size w w') := fun w' hb => ⟨CellsAt.of_block HCS.out (hb.block bb hbb), CellsAt.of_block HDS.out (hb.block bb' hbb'), hb⟩
        refine wp_region_held_drew (S := fun w' => w'.rangeAt bb (o + k * 18) cs ∧ w'.rangeAt bb' (o' + k * 18) ds ∧ Below w.heap.size w w') (by kernel_rfl) (hSS _ HBd.out) (fun hS => ?_)
        refine wpAnyH_take (i := 0) (v := ?_) rfl (by kernel_rfl) (by kernel_rfl) (by kernel_rfl) (fun _ _ _ h => h) (Or.inl ⟨by rfl, ?_⟩) hS ?_
        rotate_left
        · intro w6 h6; go_simp; try with_reducible rfl
        simp only [Act.put, List.setIfInBounds_toArray]
        refine wpAnyH_take (i := 1) (v := ?_) rfl (by kernel_rfl) (by kernel_rfl) (by kernel_rfl) (fun _ _ _ h => h) (Or.inl ⟨by rfl, ?_⟩) hS ?_
        rotate_left
        · intro w6 h6; go_simp; try with_reducible rfl
        simp only [Act.put]
        refine wpAnyH_take (i := 2) (v := ?_) rfl (by kernel_rfl) (by kernel_rfl) (by kernel_rfl) (fun _ _ _ h => h) (Or.inl ⟨by rfl, ?_⟩) hS ?_
        rotate_left
        · intro w6 h6; go_simp; try with_reducible rfl
        simp only [Act.put]
        refine wpAnyH_take (i := 3) rfl (by kernel_rfl) (by kernel_rfl) (by kernel_rfl) (fun _ _ _ h => h) (yieldsIf_load_mid (by rfl) 58 _ rfl bb (o + k * 18) rfl cs _ (fun w6 h6 => h6.1) Tryd.underlying58 rfl HI.out) hS ?_
        simp only [Act.put]
        refine wpAnyH_take (i := 4) (v := ?_) rfl (by kernel_rfl) (by kernel_rfl) (by kernel_rfl) (fun _ _ _ h => h) (Or.inl ⟨by rfl, ?_⟩) hS ?_
        rotate_left
        · intro w6 h6; go_simp; try with_reducible rfl
        simp only [Act.put]
        refine wpAnyH_take (i := 5) (v := ?_) rfl (by kernel_rfl) (by kernel_rfl) (by kernel_rfl) (fun _ _ _ h => h) (Or.inl ⟨by rfl, ?_⟩) hS ?_
        rotate_left
        · intro w6 h6; go_simp; try with_reducible rfl
        simp only [Act.put]
        refine wpAnyH_take (i := 6) (v := ?_) rfl (by kernel_rfl) (by kernel_rfl) (by kernel_rfl) (fun _ _ _ h => h) (Or.inl ⟨by rfl, ?_⟩) hS ?_
        rotate_left
        · intro w6 h6; go_simp; try with_reducible rfl
        simp only [Act.put]
        refine wpAnyH_take (i := 7) rfl (by kernel_rfl) (by kernel_rfl) (by kernel_rfl) (fun _ _ _ h => h) (yieldsIf_load_mid (by rfl) 58 _ rfl bb' (o' + k * 18) rfl ds _ (fun w6 h6 => h6.2.1) Tryd.underlying58 rfl HI'.out) hS ?_
        simp only [Act.put]
        obtain ⟨wd, hwd⟩ : ∃ x, wr.drew = x := ⟨_, rfl⟩
        have HSS := Lib.hid hSS
        rw [hwd] at HBd hS ⊢
        clear hwd hSS HRG HRG'
        have hsz := HBd.out.size
        have HB1 : Hid (Below w.heap.size w (wd.alloc stZ)) := HBd.out.alloc hsz _
        have HB2 : Hid (Below w.heap.size w ((wd.alloc stZ).alloc stZ)) := HB1.out.alloc HB1.out.size _
        have hs1 : (wd.alloc stZ).heap.size = wd.heap.size + 1 := by simp
        have F0 : Hid (((wd.alloc stZ).alloc stZ).heap[wd.heap.size]? = some stZ) := (alloc_blk (wd.alloc stZ) stZ (by omega)).trans (new_blk wd stZ)
        have F1 : Hid (((wd.alloc stZ).alloc stZ).heap[wd.heap.size + 1]? = some stZ) := by have := new_blk (wd.alloc stZ) stZ; rw [hs1] at this; exact this
        refine wpAnyH_ready (rs := [8, 9]) (by kernel_rfl) (by simp) ?_
        refine AllReadyH.cons rfl (fun K hK => ?_) (AllReadyH.cons rfl (fun K hK => ?_) AllReadyH.nil)
        · go_simp
          refine hK.out _ _ (HSS.out _ HB1.out) (fun hS => ?_)
          clear hK
          try simp only [Act.put]
          refine wpAnyH_ready (rs := [9]) (by kernel_rfl) (by simp) ?_
          refine AllReadyH.cons rfl (fun K hK => ?_) AllReadyH.nil
          try go_simp
          refine hK.out _ _ (HSS.out _ HB2.out) (fun hS => ?_)
          clear hK
          obtain ⟨z1, z2, z3, z4, z5⟩ := two_rows HB2.out F0.out F1.out (by omega) (by omega) (by omega) HX.out HX'.out
          refine wpAnyH_ready (rs := [10]) (by kernel_rfl) (by simp) ?_
          refine AllReadyH.cons rfl (fun K hK => ?_) AllReadyH.nil
          rw [if_pos (by rfl)]
          refine wp_store_row 58 _ _ rfl wd.heap.size _ rfl rfl _ _ F0.out HX.out.info HX.out.size18 HX.out.one ?_
          refine hK.out _ _ (HSS.out _ z4) (fun hS => ?_)
          clear hK
          try simp only [Act.put]
          refine wpAnyH_ready (rs := [11]) (by kernel_rfl) (by simp) ?_
          refine AllReadyH.cons rfl (fun K hK => ?_) AllReadyH.nil
          rw [if_pos (by rfl)]
          refine wp_store_row 58 _ _ rfl (wd.heap.size + 1) _ rfl rfl _ _ z5 HX'.out.info HX'.out.size18 HX'.out.one ?_
          refine hK.out _ _ (HSS.out _ z3) (fun hS => ?_)
          clear hK
          simp only [Act.put, List.getElem_toArray, List.getElem_cons_succ, List.getElem_cons_zero]
          refine wpAnyH_done (by kernel_rfl) ?_ _
          go_wp2_with fail
          go_meet
          case rel => exact ⟨_, _, by omega, rfl, rfl, z1, z2, z3⟩
        · go_simp
          refine hK.out _ _ (HSS.out _ HB1.out) (fun hS => ?_)
          clear hK
          try simp only [Act.put]
          refine wpAnyH_ready (rs := [8]) (by kernel_rfl) (by simp) ?_
          refine AllReadyH.cons rfl (fun K hK => ?_) AllReadyH.nil
          try go_simp
          refine hK.out _ _ (HSS.out _ HB2.out) (fun hS => ?_)
          clear hK
          obtain ⟨z1, z2, z3, z4, z5⟩ := two_rows HB2.out F1.out F0.out (by omega) (by omega) (by omega) HX.out HX'.out
          refine wpAnyH_ready (rs := [10]) (by kernel_rfl) (by simp) ?_
          refine AllReadyH.cons rfl (fun K hK => ?_) AllReadyH.nil
          rw [if_pos (by rfl)]
          refine wp_store_row 58 _ _ rfl (wd.heap.size + 1) _ rfl rfl _ _ F1.out HX.out.info HX.out.size18 HX.out.one ?_
          refine hK.out _ _ (HSS.out _ z4) (fun hS => ?_)
          clear hK
          try simp only [Act.put]
          refine wpAnyH_ready (rs := [11]) (by kernel_rfl) (by simp) ?_
          refine AllReadyH.cons rfl (fun K hK => ?_) AllReadyH.nil
          rw [if_pos (by rfl)]
          refine wp_store_row 58 _ _ rfl wd.heap.size _ rfl rfl _ _ z5 HX'.out.info HX'.out.size18 HX'.out.one ?_
          refine hK.out _ _ (HSS.out _ z3) (fun hS => ?_)
          clear hK
          simp only [Act.put, List.getElem_toArray, List.getElem_cons_succ, List.getElem_cons_zero]
          refine wpAnyH_done (by kernel_rfl) ?_ _
          go_wp2_with fail
          go_meet
          case rel => exact ⟨_, _, by omega, rfl, rfl, z1, z2, z3⟩
      case rest =>
        obtain ⟨n1, n2, hnn, rfl, rfl, h5, h5b, hbw⟩ := hcut
        have HBW := Lib.hid hbw
        clear hbw HRG HRG' HI HI' HBd HCS HDS
        obtain ⟨kind, name, slot, size, place, value, body, els⟩ := e1
        have hbg := HBG.out
        have hdd := HD.out
        have hex := HX.out
        have hex' := HX'.out
        simp only [St.big] at hbg
        simp only [StL] at hex hex'
        obtain ⟨cp, cv, B1, b1, E1, f1, rfl, hp, hv, h3, h4, h6, h7⟩ := hex
        obtain ⟨cp', cv', B2, b2, E2, f2, rfl, hp', hv', h3', h4', h6', h7'⟩ := hex'
        obtain ⟨p10, p11, p12, p13, p14, P11, P12, P13, rfl⟩ := hp.plain
        obtain ⟨v10, v11, v12, v13, v14, V11, V12, V13, rfl⟩ := hv.plain
        obtain ⟨p20, p21, p22, p23, p24, P21, P22, P23, rfl⟩ := hp'.plain
        obtain ⟨v20, v21, v22, v23, v24, V21, V22, V23, rfl⟩ := hv'.plain
        have HP := Lib.hid hp
        have HP' := Lib.hid hp'
        have HV := Lib.hid hv
        have HV' := Lib.hid hv'
        have HBO : Hid (StSlice S w body (.slice B1 body.length b1)) := ⟨B1, b1, rfl, h3, h6⟩
        have HBO' : Hid (StSlice S w body (.slice B2 body.length b2)) := ⟨B2, b2, rfl, h3', h6'⟩
        have HEL : Hid (StSlice S w els (.slice E1 els.length f1)) := ⟨E1, f1, rfl, h4, h7⟩
        have HEL' : Hid (StSlice S w els (.slice E2 els.length f2)) := ⟨E2, f2, rfl, h4', h7'⟩
        have hn' := HN.out
        have hpp := Ex.big_pos place
        have HST : Hid (∀ wx, Below w.heap.size w wx → Still S S w wx) := fun wx hb j hSj hlt => ⟨hSj, hb.block j hlt⟩
        clear hp hv hp' hv' h3 h3' h4 h4' h6 h6' h7 h7' HX HX'
        have HH5 := Lib.hid h5
        have HH5b := Lib.hid h5b
        clear h5 h5b
        have c1_0 : wc.cell? ⟨n1, 0, none⟩ = some (.int .i64 kind) := by rw [Lib.cell_of_heap HH5.out]; rfl
        have c1_1 : wc.cell? ⟨n1, 1, none⟩ = some (.string (strB name)) := by rw [Lib.cell_of_heap HH5.out]; rfl
        have c1_2 : wc.cell? ⟨n1, 2, none⟩ = some (.int .i64 slot) := by rw [Lib.cell_of_heap HH5.out]; rfl
        have c1_3 : wc.cell? ⟨n1, 3, none⟩ = some (.int .i64 size) := by rw [Lib.cell_of_heap HH5.out]; rfl
        have c1_4 : wc.cell? ⟨n1, 4, none⟩ = some (.int .i64 p10) := by rw [Lib.cell_of_heap HH5.out]; rfl
        have c1_5 : wc.cell? ⟨n1, 5, none⟩ = some (.int .i64 p11) := by rw [Lib.cell_of_heap HH5.out]; rfl
        have c1_6 : wc.cell? ⟨n1, 6, none⟩ = some (.string p12) := by rw [Lib.cell_of_heap HH5.out]; rfl
        have c1_7 : wc.cell? ⟨n1, 7, none⟩ = some (.int .i64 p13) := by rw [Lib.cell_of_heap HH5.out]; rfl
        have c1_8 : wc.cell? ⟨n1, 8, none⟩ = some (.int .i64 p14) := by rw [Lib.cell_of_heap HH5.out]; rfl
        have c1_9 : wc.cell? ⟨n1, 9, none⟩ = some (.slice P11 P12 P13) := by rw [Lib.cell_of_heap HH5.out]; rfl
        have c2_0 : wc.cell? ⟨n2, 0, none⟩ = some (.int .i64 kind) := by rw [Lib.cell_of_heap HH5b.out]; rfl
        have c2_1 : wc.cell? ⟨n2, 1, none⟩ = some (.string (strB name)) := by rw [Lib.cell_of_heap HH5b.out]; rfl
        have c2_2 : wc.cell? ⟨n2, 2, none⟩ = some (.int .i64 slot) := by rw [Lib.cell_of_heap HH5b.out]; rfl
        have c2_3 : wc.cell? ⟨n2, 3, none⟩ = some (.int .i64 size) := by rw [Lib.cell_of_heap HH5b.out]; rfl
        have c2_4 : wc.cell? ⟨n2, 4, none⟩ = some (.int .i64 p20) := by rw [Lib.cell_of_heap HH5b.out]; rfl
        have c2_5 : wc.cell? ⟨n2, 5, none⟩ = some (.int .i64 p21) := by rw [Lib.cell_of_heap HH5b.out]; rfl
        have c2_6 : wc.cell? ⟨n2, 6, none⟩ = some (.string p22) := by rw [Lib.cell_of_heap HH5b.out]; rfl
        have c2_7 : wc.cell? ⟨n2, 7, none⟩ = some (.int .i64 p23) := by rw [Lib.cell_of_heap HH5b.out]; rfl
        have c2_8 : wc.cell? ⟨n2, 8, none⟩ = some (.int .i64 p24) := by rw [Lib.cell_of_heap HH5b.out]; rfl
        have c2_9 : wc.cell? ⟨n2, 9, none⟩ = some (.slice P21 P22 P23) := by rw [Lib.cell_of_heap HH5b.out]; rfl
        go_wp2_with fail
        clear c1_0 c1_1 c1_2 c1_3 c1_4 c1_5 c1_6 c1_7 c1_8 c1_9 c2_0 c2_1 c2_2 c2_3 c2_4 c2_5 c2_6 c2_7 c2_8 c2_9
        refine (sameExpr_all place.big place (Nat.le_refl _) (by omega) S wc _ _ _ _ _ _ _ _ _ _ _ _ _ _ _ _ (ExL.still (HST.out _ HBW.out) place _ HP.out) (ExL.still (HST.out _ HBW.out) place _ HP'.out)).mono ?_
        rintro e' x0 ⟨rfl, hb⟩
        have HH5 := Lib.hid (below_blk hb HH5.out)
        have HH5b := Lib.hid (below_blk hb HH5b.out)
        have HBW := Lib.hid (HBW.out.trans (hb.mono HBW.out.size))
        clear hb
        have c1_10 : x0.cell? ⟨n1, 10, none⟩ = some (.int .i64 v10) := by rw [Lib.cell_of_heap HH5.out]; rfl
        have c1_11 : x0.cell? ⟨n1, 11, none⟩ = some (.int .i64 v11) := by rw [Lib.cell_of_heap HH5.out]; rfl
        have c1_12 : x0.cell? ⟨n1, 12, none⟩ = some (.string v12) := by rw [Lib.cell_of_heap HH5.out]; rfl
        have c1_13 : x0.cell? ⟨n1, 13, none⟩ = some (.int .i64 v13) := by rw [Lib.cell_of_heap HH5.out]; rfl
        have c1_14 : x0.cell? ⟨n1, 14, none⟩ = some (.int .i64 v14) := by rw [Lib.cell_of_heap HH5.out]; rfl
        have c1_15 : x0.cell? ⟨n1, 15, none⟩ = some (.slice V11 V12 V13) := by rw [Lib.cell_of_heap HH5.out]; rfl
        have c2_10 : x0.cell? ⟨n2, 10, none⟩ = some (.int .i64 v20) := by rw [Lib.cell_of_heap HH5b.out]; rfl
        have c2_11 : x0.cell? ⟨n2, 11, none⟩ = some (.int .i64 v21) := by rw [Lib.cell_of_heap HH5b.out]; rfl
        have c2_12 : x0.cell? ⟨n2, 12, none⟩ = some (.string v22) := by rw [Lib.cell_of_heap HH5b.out]; rfl
        have c2_13 : x0.cell? ⟨n2, 13, none⟩ = some (.int .i64 v23) := by rw [Lib.cell_of_heap HH5b.out]; rfl
        have c2_14 : x0.cell? ⟨n2, 14, none⟩ = some (.int .i64 v24) := by rw [Lib.cell_of_heap HH5b.out]; rfl
        have c2_15 : x0.cell? ⟨n2, 15, none⟩ = some (.slice V21 V22 V23) := by rw [Lib.cell_of_heap HH5b.out]; rfl
        go_wp2_with fail
        clear c1_10 c1_11 c1_12 c1_13 c1_14 c1_15 c2_10 c2_11 c2_12 c2_13 c2_14 c2_15
        refine (sameExpr_all value.big value (Nat.le_refl _) (by omega) S x0 _ _ _ _ _ _ _ _ _ _ _ _ _ _ _ _ (ExL.still (HST.out _ HBW.out) value _ HV.out) (ExL.still (HST.out _ HBW.out) value _ HV'.out)).mono ?_
        rintro e' x1 ⟨rfl, hb⟩
        have HH5 := Lib.hid (below_blk hb HH5.out)
        have HH5b := Lib.hid (below_blk hb HH5b.out)
        have HBW := Lib.hid (HBW.out.trans (hb.mono HBW.out.size))
        clear hb
        have c1_16 : x1.cell? ⟨n1, 16, none⟩ = some (.slice B1 body.length b1) := by rw [Lib.cell_of_heap HH5.out]; rfl
        have c2_16 : x1.cell? ⟨n2, 16, none⟩ = some (.slice B2 body.length b2) := by rw [Lib.cell_of_heap HH5b.out]; rfl
        go_wp2_with fail
        clear c1_16 c2_16
        refine (IH.out body (by omega) S x1 _ _ _ _ _ _ (StSlice.still HBO.out (HST.out _ HBW.out)) (StSlice.still HBO'.out (HST.out _ HBW.out))).mono ?_
        rintro e' x2 ⟨rfl, hb⟩
        have HH5 := Lib.hid (below_blk hb HH5.out)
        have HH5b := Lib.hid (below_blk hb HH5b.out)
        have HBW := Lib.hid (HBW.out.trans (hb.mono HBW.out.size))
        clear hb
        have c1_17 : x2.cell? ⟨n1, 17, none⟩ = some (.slice E1 els.length f1) := by rw [Lib.cell_of_heap HH5.out]; rfl
        have c2_17 : x2.cell? ⟨n2, 17, none⟩ = some (.slice E2 els.length f2) := by rw [Lib.cell_of_heap HH5b.out]; rfl
        go_wp2_with fail
        clear c1_17 c2_17
        refine (IH.out els (by omega) S x2 _ _ _ _ _ _ (StSlice.still HEL.out (HST.out _ HBW.out)) (StSlice.still HEL'.out (HST.out _ HBW.out))).mono ?_
        rintro e' x3 ⟨rfl, hb⟩
        have HH5 := Lib.hid (below_blk hb HH5.out)
        have HH5b := Lib.hid (below_blk hb HH5b.out)
        have HBW := Lib.hid (HBW.out.trans (hb.mono HBW.out.size))
        clear hb
        clear hbg hdd hpp
        go_wp2_with fail
        go_roundg g
        case rel => exact ⟨k + 1, by have := HG.out; omega, by go_num, HBW.out⟩
        case measure => omega
end Go.Proofs.YtgkioompcmgmdaaDoor
