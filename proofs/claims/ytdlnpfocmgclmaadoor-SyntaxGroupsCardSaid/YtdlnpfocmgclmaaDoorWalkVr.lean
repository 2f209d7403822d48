/-
  What variable and array of a parser of package syntax do. Conditions: the parser lies at block R.
-/
import Derived.Test.YtdlnpfocmgclmaaDoorWalkAs
namespace Go.Proofs.YtdlnpfocmgclmaaDoor
open Go.RowKit

/-- The block of a declaration that has not been written yet. -/
abbrev vrZ : Obj := .cells #[.string ⟨#[]⟩, .int .i64 0, .int .i64 0] 45

theorem infoVr : (Tryd.prog.info? 45).map (·.size) = some 3 := by kernel_rfl
theorem vr_one (s : ByteArray) (x y : Int) : ([.string s, .int .i64 x, .int .i64 y] : List Value).toArray.all (·.oneCell') = true := by simp [Value.oneCell']

/-- A declaration's blocks: the result that has not been written yet, and the declaration so far. -/
structure VB (R en n0 n1 : Nat) (toks : List Tok) (w0 w : World) (ts : List Tok) (cs : List Value) : Prop where
  p : PSt R toks en w ts
  k : Keep R w0 w
  h0 : w.heap[n0]? = some vrZ
  h1 : w.heap[n1]? = some (.cells cs.toArray 45 (0, 0))
  lt : n0 < n1
  hR : R < n0
  hn : n0 = w0.heap.size

section
variable {R en n0 n1 : Nat} {toks ts ts' : List Tok} {w0 w w' : World} {cs : List Value}
theorem VB.keep (h : VB R en n0 n1 toks w0 w ts cs) (hk : Keep R w w') (hp : PSt R toks en w' ts') : VB R en n0 n1 toks w0 w' ts' cs := by
  have := h.lt
  have := h.hR
  exact ⟨hp, h.k.trans hk, hk.blk h.h0 (by omega), hk.blk h.h1 (by omega), h.lt, h.hR, h.hn⟩
theorem VB.below (h : VB R en n0 n1 toks w0 w ts cs) (hb : Below w.heap.size w w') : VB R en n0 n1 toks w0 w' ts cs := h.keep (Keep.of_below hb) (h.p.below hb)
theorem VB.set (h : VB R en n0 n1 toks w0 w ts cs) (i : Nat) (v : Value) : VB R en n0 n1 toks w0 (w.setCell ⟨n1, i, none⟩ v) ts (cs.set i v) := by
  have h1 := h.lt
  have h2 := h.hR
  have h3 := h.hn
  refine ⟨h.p.setNew (by show R < n1; omega) v, h.k.setNew (by show _ ≤ n1; omega) v, (Below.heap_setCell w ⟨n1, i, none⟩ v n0 (by show n0 ≠ n1; omega)).trans h.h0, ?_, h.lt, h.hR, h.hn⟩
  have := blk_set h.h1 i v
  rw [List.setIfInBounds_toArray] at this
  exact this
theorem VB.lt1 (h : VB R en n0 n1 toks w0 w ts cs) : n1 < w.heap.size := lt_of_block h.h1
theorem VB.start (hR : R < w0.heap.size) (hk : Keep R (w0.alloc vrZ) w) (hp : PSt R toks en w ts) (c : Array Value) (hc : c = cs.toArray) : VB R en w0.heap.size w.heap.size toks w0 (w.alloc (.cells c 45)) ts cs := by
  have hz := hk.size
  rw [new_size] at hz
  subst hc
  exact ⟨hp.more _, ((Keep.refl R w0).alloc _ |>.trans hk).alloc _, (alloc_blk w _ (by omega)).trans (hk.blk (new_blk w0 vrZ) (by omega)), new_blk w _, by omega, hR, rfl⟩
theorem VB.fin (h : VB R en n0 n1 toks w0 w ts cs) (d : Vr) (hd : cs = vrCells d) : PP R toks en VVr (.ok d ts) w0 (.returned (.agg cs.toArray)) (w.setRow n0 cs.toArray) := by
  have h1 := h.hR
  have h2 := h.hn
  subst hd
  exact ⟨_, rfl, rfl, h.p.setRow h1 _, h.k.setRow (by omega) _⟩
end

set_option maxHeartbeats 4000000 in
set_option maxRecDepth 100000 in
theorem variable_any (R en : Nat) (toks ts : List Tok) (w : World) (r : Res Vr) (hr : pVar ts = r) (hne : r ≠ .out) (h : PSt R toks en w ts) :
    Calls Tryd.prog 34 #[.pointer (some ⟨R, 0, none⟩)] w (PP R toks en VVr r w) := by
  have hR := h.lt
  have H := Lib.hid h
  unfold pVar at hr
  cases h3 : nameS ts with
  | out => rw [h3] at hr; exact absurd hr.symm hne
  | fail t =>
    rw [h3] at hr
    have HQ : Hid (.fail t = r) := hr
    have HNM := Lib.hid h3
    clear hr h3 h hne
    go_enter Tryd.func34, Tryd.ntmps34
    go_wp2_with fail
    refine (name_any _ _ _ _ _ (H.out.more _)).mono ?_
    rw [HNM.out]
    rintro e w0 ⟨rfl, hk⟩
    go_wp2_with fail
    rw [← HQ.out]
    exact ⟨rfl, rfl, ((Keep.refl R w).alloc _).trans hk⟩
  | ok nm t0 =>
    rw [h3] at hr
    have HNM := Lib.hid h3
    simp only [Res.bind] at hr
    by_cases h4 : txt t0 = [61]
    · rw [if_pos h4] at hr
      have HA : Hid (txt t0 = (⟨#[61]⟩ : ByteArray).data.toList) := h4
      have HAN : Hid (t0 ≠ []) := fun e => by rw [e] at h4; simp [txt] at h4
      by_cases h5 : txt t0.tail = [45]
      · rw [if_pos h5] at hr
        have HM : Hid (txt t0.tail = (⟨#[45]⟩ : ByteArray).data.toList) := h5
        have HMN : Hid (t0.tail ≠ []) := fun e => by rw [e] at h5; simp [txt] at h5
        have HR := Lib.hid hr
        clear h hne h3 h4 h5 hr
        go_enter Tryd.func34, Tryd.ntmps34
        go_wp2_with fail
        refine (name_any _ _ _ _ _ (H.out.more _)).mono ?_
        rw [HNM.out]
        rintro e w0 ⟨v, rfl, hv, hp, hk⟩
        unfold VStr at hv
        subst hv
        have HS0 := Lib.hid (VB.start hR hk hp #[.string (strB nm), .int .i64 0, .int .i64 0] (cs := [.string (strB nm), .int .i64 0, .int .i64 0]) rfl)
        clear hp hk
        go_wp2_with fail
        refine (accept_yes _ _ _ _ _ _ HS0.out.p HA.out HAN.out).mono ?_
        rintro e w1 ⟨rfl, hp, hk⟩
        have HS1 := Lib.hid (HS0.out.keep hk hp)
        clear HS0 hp hk
        go_wp2_with fail
        refine (accept_yes _ _ _ _ _ _ HS1.out.p HM.out HMN.out).mono ?_
        rintro e w2 ⟨rfl, hp, hk⟩
        have HS2 := Lib.hid (HS1.out.keep hk hp)
        clear HS1 hp hk
        go_wp2_with fail
        have hvl := HS2.out.p.vlu
        by_cases hx : knd (((t0).tail).tail) = 2 ∧ 0 ≤ vlu (((t0).tail).tail)
        case neg =>
          have hx' : numS 0 (((t0).tail).tail) = .fail (((t0).tail).tail) := by unfold numS; rw [if_neg hx]
          have hr := HR.out
          simp only [hx'] at hr
          have HQ := Lib.hid hr
          have HX := Lib.hid hx
          clear hr hx hx' hvl
          refine (number_no 0 _ _ _ _ _ HS2.out.p HX.out).mono ?_
          rintro e w9 ⟨rfl, hk⟩
          go_wp2_with fail
          rw [← HQ.out]
          exact ⟨rfl, rfl, HS2.out.k.trans hk⟩
        have hx' : numS 0 (((t0).tail).tail) = .ok (vlu (((t0).tail).tail)) (((t0).tail).tail).tail := by unfold numS; rw [if_pos hx]
        have hr := HR.out
        simp only [hx'] at hr
        clear HR
        have HR := Lib.hid hr
        have HX := Lib.hid hx
        clear hr hx hx'
        refine (number_ok 0 _ _ _ _ _ HS2.out.p HX.out.1 HX.out.2).mono ?_
        obtain ⟨vl, hvl'⟩ : ∃ x, vlu (((t0).tail).tail) = x := ⟨_, rfl⟩
        rw [hvl'] at hvl HR ⊢
        clear hvl'
        rintro e w3 ⟨v, rfl, hv, hp, hk⟩
        unfold VInt at hv
        subst hv
        obtain ⟨hvl1, hvl2⟩ := hvl
        have HS3 := Lib.hid (HS2.out.keep hk hp)
        clear HS2 hp hk
        have hc : w3.cell? ⟨w0.heap.size, 2, none⟩ = some (.int .i64 0) := by rw [Lib.cell_of_heap HS3.out.h1]; rfl
        have hf : w3.frozen? ⟨w0.heap.size, 2, none⟩ = false := Lib.frozen_of_heap HS3.out.h1 2
        have hn9 := HS3.out.lt1
        have HS4 : Hid (VB R en w.heap.size (w0.heap.size) toks w (w3.setCell ⟨w0.heap.size, 2, none⟩ (.int .i64 (-vl))) ((((t0).tail).tail).tail) [.string (strB nm), .int .i64 (0), .int .i64 (-vl)]) := HS3.out.set 2 (.int .i64 (-vl))
        clear HS3
        go_wp2_with fail
        clear hc hf hn9 hvl1 hvl2
        rcases expect_cases [59] ((((t0).tail).tail).tail) with hx | hx
        · refine (expect_any ⟨#[59]⟩ (by simp) _ _ _ _ _ HS4.out.p).mono ?_
          rw [show expectS (⟨#[59]⟩ : ByteArray).data.toList ((((t0).tail).tail).tail) = .fail ((((t0).tail).tail).tail) from hx]
          rintro e w9 ⟨rfl, hk⟩
          have hr := HR.out
          simp only [hx] at hr
          have HQ := Lib.hid hr
          clear hr hx
          go_wp2_with fail
          rw [← HQ.out]
          exact ⟨rfl, rfl, HS4.out.k.trans hk⟩
        refine (expect_any ⟨#[59]⟩ (by simp) _ _ _ _ _ HS4.out.p).mono ?_
        rw [show expectS (⟨#[59]⟩ : ByteArray).data.toList ((((t0).tail).tail).tail) = .ok () ((((t0).tail).tail).tail).tail from hx]
        rintro e w5 ⟨v, rfl, hv, hp, hk⟩
        unfold VUnit at hv
        subst hv
        have hr := HR.out
        simp only [hx] at hr
        clear HR
        have HR := Lib.hid hr
        clear hr hx
        have HS5 := Lib.hid (HS4.out.keep hk hp)
        clear HS4 hp hk
        go_wp2_with (first | (refine wpList_load_row rfl 45 _ rfl (w0.heap.size) rfl 45 _ _ _ HS5.out.h1 Tryd.underlying45 rfl (by kernel_rfl) ?_) | (refine wpList_store_row rfl 45 _ _ rfl w.heap.size _ rfl rfl _ _ HS5.out.h0 infoVr rfl (vr_one _ _ _) ?_))
        rw [← HR.out]
        refine bodyPost_ret (results_cell_row rfl _ _ w.heap.size 45 _ _ _ rfl (setRow_same HS5.out.h0) Tryd.underlying45 rfl infoVr) rfl ?_
        exact HS5.out.fin ⟨nm, 0, -vl⟩ rfl
      · rw [if_neg h5] at hr
        have HM : Hid (txt t0.tail ≠ (⟨#[45]⟩ : ByteArray).data.toList) := h5
        have HR := Lib.hid hr
        clear h hne h3 h4 h5 hr
        go_enter Tryd.func34, Tryd.ntmps34
        go_wp2_with fail
        refine (name_any _ _ _ _ _ (H.out.more _)).mono ?_
        rw [HNM.out]
        rintro e w0 ⟨v, rfl, hv, hp, hk⟩
        unfold VStr at hv
        subst hv
        have HS0 := Lib.hid (VB.start hR hk hp #[.string (strB nm), .int .i64 0, .int .i64 0] (cs := [.string (strB nm), .int .i64 0, .int .i64 0]) rfl)
        clear hp hk
        go_wp2_with fail
        refine (accept_yes _ _ _ _ _ _ HS0.out.p HA.out HAN.out).mono ?_
        rintro e w1 ⟨rfl, hp, hk⟩
        have HS1 := Lib.hid (HS0.out.keep hk hp)
        clear HS0 hp hk
        go_wp2_with fail
        refine (accept_no _ _ _ _ _ _ HS1.out.p HM.out).mono ?_
        rintro e w2 ⟨rfl, hb⟩
        have HS2 := Lib.hid (HS1.out.below hb)
        clear hb HS1
        go_wp2_with fail
        have hvl := HS2.out.p.vlu
        by_cases hx : knd ((t0).tail) = 2 ∧ 0 ≤ vlu ((t0).tail)
        case neg =>
          have hx' : numS 0 ((t0).tail) = .fail ((t0).tail) := by unfold numS; rw [if_neg hx]
          have hr := HR.out
          simp only [hx'] at hr
          have HQ := Lib.hid hr
          have HX := Lib.hid hx
          clear hr hx hx' hvl
          refine (number_no 0 _ _ _ _ _ HS2.out.p HX.out).mono ?_
          rintro e w9 ⟨rfl, hk⟩
          go_wp2_with fail
          rw [← HQ.out]
          exact ⟨rfl, rfl, HS2.out.k.trans hk⟩
        have hx' : numS 0 ((t0).tail) = .ok (vlu ((t0).tail)) ((t0).tail).tail := by unfold numS; rw [if_pos hx]
        have hr := HR.out
        simp only [hx'] at hr
        clear HR
        have HR := Lib.hid hr
        have HX := Lib.hid hx
        clear hr hx hx'
        refine (number_ok 0 _ _ _ _ _ HS2.out.p HX.out.1 HX.out.2).mono ?_
        obtain ⟨vl, hvl'⟩ : ∃ x, vlu ((t0).tail) = x := ⟨_, rfl⟩
        rw [hvl'] at hvl HR ⊢
        clear hvl'
        rintro e w3 ⟨v, rfl, hv, hp, hk⟩
        unfold VInt at hv
        subst hv
        obtain ⟨hvl1, hvl2⟩ := hvl
        have HS3 := Lib.hid (HS2.out.keep hk hp)
        clear HS2 hp hk
        have hc : w3.cell? ⟨w0.heap.size, 2, none⟩ = some (.int .i64 0) := by rw [Lib.cell_of_heap HS3.out.h1]; rfl
        have hf : w3.frozen? ⟨w0.heap.size, 2, none⟩ = false := Lib.frozen_of_heap HS3.out.h1 2
        have hn9 := HS3.out.lt1
        have HS4 : Hid (VB R en w.heap.size (w0.heap.size) toks w (w3.setCell ⟨w0.heap.size, 2, none⟩ (.int .i64 (vl))) (((t0).tail).tail) [.string (strB nm), .int .i64 (0), .int .i64 (vl)]) := HS3.out.set 2 (.int .i64 (vl))
        clear HS3
        go_wp2_with fail
        clear hc hf hn9 hvl1 hvl2
        rcases expect_cases [59] (((t0).tail).tail) with hx | hx
        · refine (expect_any ⟨#[59]⟩ (by simp) _ _ _ _ _ HS4.out.p).mono ?_
          rw [show expectS (⟨#[59]⟩ : ByteArray).data.toList (((t0).tail).tail) = .fail (((t0).tail).tail) from hx]
          rintro e w9 ⟨rfl, hk⟩
          have hr := HR.out
          simp only [hx] at hr
          have HQ := Lib.hid hr
          clear hr hx
          go_wp2_with fail
          rw [← HQ.out]
          exact ⟨rfl, rfl, HS4.out.k.trans hk⟩
        refine (expect_any ⟨#[59]⟩ (by simp) _ _ _ _ _ HS4.out.p).mono ?_
        rw [show expectS (⟨#[59]⟩ : ByteArray).data.toList (((t0).tail).tail) = .ok () (((t0).tail).tail).tail from hx]
        rintro e w5 ⟨v, rfl, hv, hp, hk⟩
        unfold VUnit at hv
        subst hv
        have hr := HR.out
        simp only [hx] at hr
        clear HR
        have HR := Lib.hid hr
        clear hr hx
        have HS5 := Lib.hid (HS4.out.keep hk hp)
        clear HS4 hp hk
        go_wp2_with (first | (refine wpList_load_row rfl 45 _ rfl (w0.heap.size) rfl 45 _ _ _ HS5.out.h1 Tryd.underlying45 rfl (by kernel_rfl) ?_) | (refine wpList_store_row rfl 45 _ _ rfl w.heap.size _ rfl rfl _ _ HS5.out.h0 infoVr rfl (vr_one _ _ _) ?_))
        rw [← HR.out]
        refine bodyPost_ret (results_cell_row rfl _ _ w.heap.size 45 _ _ _ rfl (setRow_same HS5.out.h0) Tryd.underlying45 rfl infoVr) rfl ?_
        exact HS5.out.fin ⟨nm, 0, vl⟩ rfl
    · rw [if_neg h4] at hr
      have HA : Hid (txt t0 ≠ (⟨#[61]⟩ : ByteArray).data.toList) := h4
      have HR := Lib.hid hr
      clear h hne h3 h4 hr
      go_enter Tryd.func34, Tryd.ntmps34
      go_wp2_with fail
      refine (name_any _ _ _ _ _ (H.out.more _)).mono ?_
      rw [HNM.out]
      rintro e w0 ⟨v, rfl, hv, hp, hk⟩
      unfold VStr at hv
      subst hv
      have HS0 := Lib.hid (VB.start hR hk hp #[.string (strB nm), .int .i64 0, .int .i64 0] (cs := [.string (strB nm), .int .i64 0, .int .i64 0]) rfl)
      clear hp hk
      go_wp2_with fail
      refine (accept_no _ _ _ _ _ _ HS0.out.p HA.out).mono ?_
      rintro e w1 ⟨rfl, hb⟩
      have HS1 := Lib.hid (HS0.out.below hb)
      clear hb HS0
      go_wp2_with fail
      rcases expect_cases [59] (t0) with hx | hx
      · refine (expect_any ⟨#[59]⟩ (by simp) _ _ _ _ _ HS1.out.p).mono ?_
        rw [show expectS (⟨#[59]⟩ : ByteArray).data.toList (t0) = .fail (t0) from hx]
        rintro e w9 ⟨rfl, hk⟩
        have hr := HR.out
        simp only [hx] at hr
        have HQ := Lib.hid hr
        clear hr hx
        go_wp2_with fail
        rw [← HQ.out]
        exact ⟨rfl, rfl, HS1.out.k.trans hk⟩
      refine (expect_any ⟨#[59]⟩ (by simp) _ _ _ _ _ HS1.out.p).mono ?_
      rw [show expectS (⟨#[59]⟩ : ByteArray).data.toList (t0) = .ok () (t0).tail from hx]
      rintro e w2 ⟨v, rfl, hv, hp, hk⟩
      unfold VUnit at hv
      subst hv
      have hr := HR.out
      simp only [hx] at hr
      clear HR
      have HR := Lib.hid hr
      clear hr hx
      have HS2 := Lib.hid (HS1.out.keep hk hp)
      clear HS1 hp hk
      go_wp2_with (first | (refine wpList_load_row rfl 45 _ rfl (w0.heap.size) rfl 45 _ _ _ HS2.out.h1 Tryd.underlying45 rfl (by kernel_rfl) ?_) | (refine wpList_store_row rfl 45 _ _ rfl w.heap.size _ rfl rfl _ _ HS2.out.h0 infoVr rfl (vr_one _ _ _) ?_))
      rw [← HR.out]
      refine bodyPost_ret (results_cell_row rfl _ _ w.heap.size 45 _ _ _ rfl (setRow_same HS2.out.h0) Tryd.underlying45 rfl infoVr) rfl ?_
      exact HS2.out.fin ⟨nm, 0, 0⟩ rfl

set_option maxHeartbeats 4000000 in
set_option maxRecDepth 100000 in
theorem array_any (R en : Nat) (toks ts : List Tok) (w : World) (r : Res Vr) (hr : pArr ts = r) (hne : r ≠ .out) (h : PSt R toks en w ts) :
    Calls Tryd.prog 35 #[.pointer (some ⟨R, 0, none⟩)] w (PP R toks en VVr r w) := by
  have hR := h.lt
  have H := Lib.hid h
  unfold pArr at hr
  cases h3 : nameS ts with
  | out => rw [h3] at hr; exact absurd hr.symm hne
  | fail t =>
    rw [h3] at hr
    have HQ : Hid (.fail t = r) := hr
    have HNM := Lib.hid h3
    clear hr h3 h hne
    go_enter Tryd.func35, Tryd.ntmps35
    go_wp2_with fail
    refine (name_any _ _ _ _ _ (H.out.more _)).mono ?_
    rw [HNM.out]
    rintro e w0 ⟨rfl, hk⟩
    go_wp2_with fail
    rw [← HQ.out]
    exact ⟨rfl, rfl, ((Keep.refl R w).alloc _).trans hk⟩
  | ok nm t0 =>
    rw [h3] at hr
    have HNM := Lib.hid h3
    simp only [Res.bind] at hr
    have HR := Lib.hid hr
    clear h hne h3 hr
    go_enter Tryd.func35, Tryd.ntmps35
    go_wp2_with fail
    refine (name_any _ _ _ _ _ (H.out.more _)).mono ?_
    rw [HNM.out]
    rintro e w0 ⟨v, rfl, hv, hp, hk⟩
    unfold VStr at hv
    subst hv
    have HS0 := Lib.hid (VB.start hR hk hp #[.string (strB nm), .int .i64 0, .int .i64 0] (cs := [.string (strB nm), .int .i64 0, .int .i64 0]) rfl)
    clear hp hk
    go_wp2_with fail
    rcases expect_cases [91] (t0) with hx | hx
    · refine (expect_any ⟨#[91]⟩ (by simp) _ _ _ _ _ HS0.out.p).mono ?_
      rw [show expectS (⟨#[91]⟩ : ByteArray).data.toList (t0) = .fail (t0) from hx]
      rintro e w9 ⟨rfl, hk⟩
      have hr := HR.out
      simp only [hx] at hr
      have HQ := Lib.hid hr
      clear hr hx
      go_wp2_with fail
      rw [← HQ.out]
      exact ⟨rfl, rfl, HS0.out.k.trans hk⟩
    refine (expect_any ⟨#[91]⟩ (by simp) _ _ _ _ _ HS0.out.p).mono ?_
    rw [show expectS (⟨#[91]⟩ : ByteArray).data.toList (t0) = .ok () (t0).tail from hx]
    rintro e w1 ⟨v, rfl, hv, hp, hk⟩
    unfold VUnit at hv
    subst hv
    have hr := HR.out
    simp only [hx] at hr
    clear HR
    have HR := Lib.hid hr
    clear hr hx
    have HS1 := Lib.hid (HS0.out.keep hk hp)
    clear HS0 hp hk
    go_wp2_with fail
    have hvl := HS1.out.p.vlu
    by_cases hx : knd ((t0).tail) = 2 ∧ 1 ≤ vlu ((t0).tail)
    case neg =>
      have hx' : numS 1 ((t0).tail) = .fail ((t0).tail) := by unfold numS; rw [if_neg hx]
      have hr := HR.out
      simp only [hx'] at hr
      have HQ := Lib.hid hr
      have HX := Lib.hid hx
      clear hr hx hx' hvl
      refine (number_no 1 _ _ _ _ _ HS1.out.p HX.out).mono ?_
      rintro e w9 ⟨rfl, hk⟩
      go_wp2_with fail
      rw [← HQ.out]
      exact ⟨rfl, rfl, HS1.out.k.trans hk⟩
    have hx' : numS 1 ((t0).tail) = .ok (vlu ((t0).tail)) ((t0).tail).tail := by unfold numS; rw [if_pos hx]
    have hr := HR.out
    simp only [hx'] at hr
    clear HR
    have HR := Lib.hid hr
    have HX := Lib.hid hx
    clear hr hx hx'
    refine (number_ok 1 _ _ _ _ _ HS1.out.p HX.out.1 HX.out.2).mono ?_
    obtain ⟨vl, hvl'⟩ : ∃ x, vlu ((t0).tail) = x := ⟨_, rfl⟩
    rw [hvl'] at hvl HR ⊢
    clear hvl'
    rintro e w2 ⟨v, rfl, hv, hp, hk⟩
    unfold VInt at hv
    subst hv
    obtain ⟨hvl1, hvl2⟩ := hvl
    have HS2 := Lib.hid (HS1.out.keep hk hp)
    clear HS1 hp hk
    have hc : w2.cell? ⟨w0.heap.size, 1, none⟩ = some (.int .i64 0) := by rw [Lib.cell_of_heap HS2.out.h1]; rfl
    have hf : w2.frozen? ⟨w0.heap.size, 1, none⟩ = false := Lib.frozen_of_heap HS2.out.h1 1
    have hn9 := HS2.out.lt1
    have HS3 : Hid (VB R en w.heap.size (w0.heap.size) toks w (w2.setCell ⟨w0.heap.size, 1, none⟩ (.int .i64 (vl))) (((t0).tail).tail) [.string (strB nm), .int .i64 (vl), .int .i64 (0)]) := HS2.out.set 1 (.int .i64 (vl))
    clear HS2
    go_wp2_with fail
    clear hc hf hn9 hvl1 hvl2
    rcases expect_cases [93] (((t0).tail).tail) with hx | hx
    · refine (expect_any ⟨#[93]⟩ (by simp) _ _ _ _ _ HS3.out.p).mono ?_
      rw [show expectS (⟨#[93]⟩ : ByteArray).data.toList (((t0).tail).tail) = .fail (((t0).tail).tail) from hx]
      rintro e w9 ⟨rfl, hk⟩
      have hr := HR.out
      simp only [hx] at hr
      have HQ := Lib.hid hr
      clear hr hx
      go_wp2_with fail
      rw [← HQ.out]
      exact ⟨rfl, rfl, HS3.out.k.trans hk⟩
    refine (expect_any ⟨#[93]⟩ (by simp) _ _ _ _ _ HS3.out.p).mono ?_
    rw [show expectS (⟨#[93]⟩ : ByteArray).data.toList (((t0).tail).tail) = .ok () (((t0).tail).tail).tail from hx]
    rintro e w4 ⟨v, rfl, hv, hp, hk⟩
    unfold VUnit at hv
    subst hv
    have hr := HR.out
    simp only [hx] at hr
    clear HR
    have HR := Lib.hid hr
    clear hr hx
    have HS4 := Lib.hid (HS3.out.keep hk hp)
    clear HS3 hp hk
    go_wp2_with fail
    rcases expect_cases [59] ((((t0).tail).tail).tail) with hx | hx
    · refine (expect_any ⟨#[59]⟩ (by simp) _ _ _ _ _ HS4.out.p).mono ?_
      rw [show expectS (⟨#[59]⟩ : ByteArray).data.toList ((((t0).tail).tail).tail) = .fail ((((t0).tail).tail).tail) from hx]
      rintro e w9 ⟨rfl, hk⟩
      have hr := HR.out
      simp only [hx] at hr
      have HQ := Lib.hid hr
      clear hr hx
      go_wp2_with fail
      rw [← HQ.out]
      exact ⟨rfl, rfl, HS4.out.k.trans hk⟩
    refine (expect_any ⟨#[59]⟩ (by simp) _ _ _ _ _ HS4.out.p).mono ?_
    rw [show expectS (⟨#[59]⟩ : ByteArray).data.toList ((((t0).tail).tail).tail) = .ok () ((((t0).tail).tail).tail).tail from hx]
    rintro e w5 ⟨v, rfl, hv, hp, hk⟩
    unfold VUnit at hv
    subst hv
    have hr := HR.out
    simp only [hx] at hr
    clear HR
    have HR := Lib.hid hr
    clear hr hx
    have HS5 := Lib.hid (HS4.out.keep hk hp)
    clear HS4 hp hk
    go_wp2_with (first | (refine wpList_load_row rfl 45 _ rfl (w0.heap.size) rfl 45 _ _ _ HS5.out.h1 Tryd.underlying45 rfl (by kernel_rfl) ?_) | (refine wpList_store_row rfl 45 _ _ rfl w.heap.size _ rfl rfl _ _ HS5.out.h0 infoVr rfl (vr_one _ _ _) ?_))
    rw [← HR.out]
    refine bodyPost_ret (results_cell_row rfl _ _ w.heap.size 45 _ _ _ rfl (setRow_same HS5.out.h0) Tryd.underlying45 rfl infoVr) rfl ?_
    exact HS5.out.fin ⟨nm, vl, 0⟩ rfl
end Go.Proofs.YtdlnpfocmgclmaaDoor
