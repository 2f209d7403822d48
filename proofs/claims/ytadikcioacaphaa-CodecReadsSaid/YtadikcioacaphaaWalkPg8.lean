/-
  What page, pages and state of package codec read, or the first error (gens84.py writes this text). Conditions: at most 2^40 bytes.
-/
import Derived.Test.YtadikcioacaphaaWalkPm
namespace Go.Proofs.Ytadikcioacaphaa
open Go.RowKit

/-- One page. -/
def pageS (l : List Nat) : RR Pg := (numS l).bind fun v r => (rowsS 1 r).bind fun zs r' => .ok (v, zs) r'
theorem pgsN_succ (n : Nat) (l : List Nat) : pgsN (n + 1) l = (pageS l).bind fun p r => (pgsN n r).bind fun ps r' => .ok (p :: ps) r' := by
  simp only [pgsN, pageS]
  cases h1 : numS l with
  | err k => rfl
  | ok v r =>
    simp only [RR.bind]
    cases h2 : rowsS 1 r with
    | err k => rfl
    | ok zs r' => rfl
/-- A page whose cells lie in memory of the call's own. -/
def VPage (base : Nat) : World → Pg → Value → Prop := fun w p v => ∃ A L c, v = .agg #[.int .i64 p.1, .slice A L c] ∧ L ≤ 1099511627776 ∧ w.ownsRow base 3 1 (.slice A L c) L (p.2.map (Value.int .i64))
def VPages (base : Nat) : World → List Pg → Value → Prop := fun w ps v => ps.length ≤ 1099511627776 ∧ OwnPg base (Off (fun b => base ≤ b) v) w v ps
/-- A state whose lists lie in memory of the call's own. -/
def VState (base : Nat) : World → S4 → Value → Prop := fun w s v => ∃ a b c d, v = .agg #[a, b, c, d] ∧ VList 3 1 base w s.1 a ∧ VList 35 7 base w s.2.1 b ∧ VList 73 4 base w s.2.2.1 c ∧ VList 75 2 base w s.2.2.2 d
theorem VList.slice {T : TypeId} {k base : Nat} {w : World} {zs : List Int} {v : Value} (h : VList T k base w zs v) : ∃ A n c, v = .slice A n c ∧ zs.length = k * n ∧ n ≤ 1099511627776 ∧ w.ownsRow base T k (.slice A n c) n (zs.map (Value.int .i64)) := by
  obtain ⟨n, h1, h2, h3⟩ := h
  obtain ⟨A, c, rfl⟩ := own_slice h3
  exact ⟨A, n, c, rfl, h1, h2, h3⟩
theorem VList.base {T : TypeId} {k base b' : Nat} {w : World} {zs : List Int} {v : Value} (h : VList T k base w zs v) (hb : b' ≤ base) : VList T k b' w zs v := by
  obtain ⟨n, h1, h2, h3⟩ := h
  exact ⟨n, h1, h2, own_base h3 hb⟩
theorem VList.keep {T : TypeId} {k base R : Nat} {w w' : World} {zs : List Int} {v : Value} (h : VList T k base w zs v) (hk : Keep R w w') (hR : R < base) : VList T k base w' zs v := by
  obtain ⟨n, h1, h2, h3⟩ := h
  exact ⟨n, h1, h2, own_keep h3 hk hR⟩
theorem own_blk {w w' : World} {base : Nat} {e : TypeId} {size n : Nat} {v : Value} {xs : List Value} (h : w.ownsRow base e size v n xs) (hb : ∀ b, v.ownBlock = some b → w'.heap[b]? = w.heap[b]?) : w'.ownsRow base e size v n xs := by
  obtain ⟨h1, h2⟩ := h
  refine ⟨h1, ?_⟩
  rcases h2 with h2 | ⟨g, cap, cur, hv, hg, hh, r⟩
  · exact .inl h2
  · exact .inr ⟨g, cap, cur, hv, hg, (hb g (by rw [hv]; rfl)).trans hh, r⟩
theorem list_ok {R f : Nat} {T : TypeId} {bs rest r : List Nat} {k base : Nat} {zs : List Int} {w : World} {args : Array Value} (h : Calls Try.prog f args w (RP R bs (VList T k base) (rowsS k rest) w)) (hn : rowsS k rest = .ok zs r) :
    Calls Try.prog f args w fun e w' => (∃ A n c, e = .returned (.slice A n c) ∧ VList T k base w' zs (.slice A n c)) ∧ RdSt R w' bs r ∧ Keep R w w' := by
  rw [hn] at h
  refine h.mono ?_
  rintro e w' ⟨v, rfl, hv, h1, h2⟩
  obtain ⟨A, n, c, rfl, h3, h4, h5⟩ := hv.slice
  exact ⟨⟨A, n, c, rfl, n, h3, h4, h5⟩, h1, h2⟩
theorem list_err {R f : Nat} {T : TypeId} {bs rest : List Nat} {k base ke : Nat} {w : World} {args : Array Value} (h : Calls Try.prog f args w (RP R bs (VList T k base) (rowsS k rest) w)) (hn : rowsS k rest = .err ke) :
    Calls Try.prog f args w fun e w' => e = .panicked [thrown ke] ∧ Keep R w w' := by
  rw [hn] at h
  exact h
theorem row_one (w : World) (base : Nat) {zs : List Int} {A : Option Addr} {n c : Nat} (h : VList 3 1 base w zs (.slice A n c)) : zs.length = n ∧ n ≤ 1099511627776 ∧ w.ownsRow base 3 1 (.slice A n c) n (zs.map (Value.int .i64)) := by
  obtain ⟨m, h1, h2, h3⟩ := h
  obtain ⟨A', c', e⟩ := own_slice h3
  injection e with _ e2 _
  subst e2
  exact ⟨by omega, h2, h3⟩

set_option maxHeartbeats 4000000 in
set_option maxRecDepth 100000 in
theorem page_any (R : Nat) (bs rest : List Nat) (w : World) (h : RdSt R w bs rest) :
    Calls Try.prog 73 #[.pointer (some ⟨R, 0, none⟩)] w (RP R bs (VPage w.heap.size) (pageS rest) w) := by
  obtain ⟨nb, hnb⟩ : ∃ x, w.heap.size = x := ⟨_, rfl⟩
  obtain ⟨W, hW⟩ : ∃ x, (w.alloc (.cells #[.int .i64 0, .slice none 0 0] 70)) = x := ⟨_, rfl⟩
  have hb0 : Below w.heap.size w W := by rw [← hW]; exact rp_one1 _ _
  have HZ0 : Hid (W.heap[nb]? = some (.cells #[.int .i64 0, .slice none 0 0] 70 (0, 0))) := by show _ = _; rw [← hW, ← hnb]; exact new_blk _ _
  have HNR : Hid (nb ≠ R) := by have := h.lt; show _ ≠ _; omega
  have HB0 : Hid (R < nb) := by have := h.lt; show _ < _; omega
  have HNW : Hid (w.heap.size ≤ nb) := by show _ ≤ _; omega
  have HS0 := Lib.hid (h.below hb0)
  have HK0 := Lib.hid (Keep.of_below (R := R) hb0)
  clear h hb0
  go_enter Try.func73, Try.ntmps73
  go_upto_region 1 with fail
  try simp only [hW]
  clear hW hnb
  cases hn : numS rest with
  | err ke =>
    have HN := Lib.hid hn
    have HQ : Hid (∀ w', Keep R w w' → RP R bs (VPage w.heap.size) (pageS rest) w (.panicked [thrown ke]) w') := fun w' hk => by
      show RP _ _ _ _ _ _ _
      simp only [pageS, RR.bind, HN.out]
      exact ⟨rfl, hk⟩
    clear hn
    go_wp2_with fail
    refine (number_err HS0.out HN.out).mono ?_
    rintro e w1 ⟨rfl, hk⟩
    exact ⟨rfl, HQ.out _ (HK0.out.trans hk)⟩
  | ok a0 r1 =>
  have HN := Lib.hid hn
  clear hn
  go_wp2_with fail
  refine (number_ok HS0.out HN.out).mono ?_
  rintro e w1 ⟨rfl, hst, hk⟩
  have HS1 := Lib.hid hst
  have HK1 := Lib.hid (HK0.out.trans hk)
  have HZ1 := Lib.hid (hk.blk HZ0.out HNR.out)
  clear hst hk
  cases hn : rowsS 1 r1 with
  | err ke =>
    have HN2 := Lib.hid hn
    have HQ : Hid (∀ w', Keep R w w' → RP R bs (VPage w.heap.size) (pageS rest) w (.panicked [thrown ke]) w') := fun w' hk => by
      show RP _ _ _ _ _ _ _
      simp only [pageS, RR.bind, HN.out, HN2.out]
      exact ⟨rfl, hk⟩
    clear hn
    go_wp2_with fail
    refine (list_err (listI_any R bs _ _ HS1.out) HN2.out).mono ?_
    rintro e w2 ⟨rfl, hk⟩
    exact ⟨rfl, HQ.out _ (HK1.out.trans hk)⟩
  | ok zs r2 =>
  have HN2 := Lib.hid hn
  clear hn
  go_wp2_with fail
  refine (list_ok (listI_any R bs _ _ HS1.out) HN2.out).mono ?_
  rintro e w2 ⟨⟨A, n, c, rfl, hv⟩, hst, hk⟩
  obtain ⟨hzl, hn40, how⟩ := row_one _ _ hv
  have HS2 := Lib.hid hst
  have HK2 := Lib.hid (HK1.out.trans hk)
  have hz2 := hk.blk HZ1.out HNR.out
  have HOW := Lib.hid (own_base how HK1.out.size)
  have HN40 : Hid (n ≤ 1099511627776) := hn40
  have HON : Hid (∀ b, Value.ownBlock (.slice A n c) = some b → b ≠ nb) := fun b hb => by have := (how.lt b hb).1; have := lt_of_block HZ1.out; omega
  obtain ⟨d0, d1⟩ := box2' hz2
  have g0 := frz8 hz2 0
  have g1 := frz8 hz2 1
  have hzz : nb < w2.heap.size := lt_of_block hz2
  clear hst hk hv how hzl hn40 hz2
  have HQ : Hid (RP R bs (VPage w.heap.size) (pageS rest) w (.returned (.agg #[.int .i64 a0, .slice A n c])) ((w2.setCell ⟨nb, 0, none⟩ (.int .i64 a0)).setCell ⟨nb, 1, none⟩ (.slice A n c))) := by
    show RP _ _ _ _ _ _ _
    simp only [pageS, RR.bind, HN.out, HN2.out]
    have hblk : ∀ k, k ≠ nb → ((w2.setCell ⟨nb, 0, none⟩ (.int .i64 a0)).setCell ⟨nb, 1, none⟩ (.slice A n c)).heap[k]? = w2.heap[k]? := fun k hkn => by rw [Below.heap_setCell _ _ _ _ hkn, Below.heap_setCell _ _ _ _ hkn]
    refine ⟨_, rfl, ⟨A, n, c, rfl, HN40.out, own_blk HOW.out fun b hb => hblk b (HON.out b hb)⟩, HS2.out.still fun k hk => hblk k (by have := HB0.out; omega), (HK2.out.setNew (p := ⟨nb, 0, none⟩) HNW.out _).setNew (p := ⟨nb, 1, none⟩) HNW.out _⟩
  go_wp2_with fail
  refine bodyPost_ret (v := .agg #[.int .i64 a0, .slice A n c]) ?_ rfl ?_
  · simp [results, Try.results73, go_sem, World.cell?_setCell_same, World.cell?_setCell_other, d0, d1]
  · exact HQ.out
theorem VList.set {T : TypeId} {k nb base : Nat} {w w' : World} {zs : List Int} {v : Value} (h : VList T k (nb + 1) w zs v) (hb : ∀ k, k ≠ nb → w'.heap[k]? = w.heap[k]?) (hn : base ≤ nb) : VList T k base w' zs v := by
  obtain ⟨n, h1, h2, h3⟩ := h
  exact ⟨n, h1, h2, own_base (own_blk h3 fun b hb' => hb b (by have := (h3.lt b hb').1; omega)) (by omega)⟩

set_option maxHeartbeats 4000000 in
set_option maxRecDepth 100000 in
theorem state_any (R : Nat) (bs rest : List Nat) (w : World) (h : RdSt R w bs rest) :
    Calls Try.prog 50 #[.pointer (some ⟨R, 0, none⟩)] w (RP R bs (VState w.heap.size) (stS rest) w) := by
  obtain ⟨nb, hnb⟩ : ∃ x, w.heap.size = x := ⟨_, rfl⟩
  obtain ⟨W, hW⟩ : ∃ x, (w.alloc (.cells #[.slice none 0 0, .slice none 0 0, .slice none 0 0, .slice none 0 0] 43)) = x := ⟨_, rfl⟩
  have hb0 : Below w.heap.size w W := by rw [← hW]; exact rp_one1 _ _
  have HZ0 : Hid (W.heap[nb]? = some (.cells #[.slice none 0 0, .slice none 0 0, .slice none 0 0, .slice none 0 0] 43 (0, 0))) := by show _ = _; rw [← hW, ← hnb]; exact new_blk _ _
  have HNR : Hid (nb ≠ R) := by have := h.lt; show _ ≠ _; omega
  have HB0 : Hid (R < nb) := by have := h.lt; show _ < _; omega
  have HNW : Hid (w.heap.size ≤ nb) := by show _ ≤ _; omega
  have HS0 := Lib.hid (h.below hb0)
  have HK0 := Lib.hid (Keep.of_below (R := R) hb0)
  have HRW : Hid (R < w.heap.size) := h.lt
  clear h hb0
  go_enter Try.func50, Try.ntmps50
  go_upto_region 1 with fail
  try simp only [hW]
  clear hW hnb
  cases hn : rowsS 1 rest with
  | err ke =>
    have HN0 := Lib.hid hn
    have HQ : Hid (∀ w', Keep R w w' → RP R bs (VState w.heap.size) (stS rest) w (.panicked [thrown ke]) w') := fun w' hk => by
      show RP _ _ _ _ _ _ _
      simp only [stS, RR.bind, HN0.out]
      exact ⟨rfl, hk⟩
    clear hn
    go_wp2_with fail
    refine (list_err (listI_any R bs _ _ HS0.out) HN0.out).mono ?_
    rintro e w9 ⟨rfl, hk⟩
    exact ⟨rfl, HQ.out _ (HK0.out.trans hk)⟩
  | ok zs0 r0 =>
  have HN0 := Lib.hid hn
  clear hn
  go_wp2_with fail
  refine (list_ok (listI_any R bs _ _ HS0.out) HN0.out).mono ?_
  rintro e w1 ⟨⟨A0, n0, c0, rfl, hv⟩, hst, hk⟩
  have HS1 := Lib.hid hst
  have HK1 := Lib.hid (HK0.out.trans hk)
  have HZ1 := Lib.hid (hk.blk HZ0.out HNR.out)
  have HV0_1 := Lib.hid (hv.base (b' := nb + 1) (lt_of_block HZ0.out))
  clear hst hk hv
  cases hn : rowsS 7 r0 with
  | err ke =>
    have HN1 := Lib.hid hn
    have HQ : Hid (∀ w', Keep R w w' → RP R bs (VState w.heap.size) (stS rest) w (.panicked [thrown ke]) w') := fun w' hk => by
      show RP _ _ _ _ _ _ _
      simp only [stS, RR.bind, HN0.out, HN1.out]
      exact ⟨rfl, hk⟩
    clear hn
    go_wp2_with fail
    refine (list_err (listE_any R bs _ _ HS1.out) HN1.out).mono ?_
    rintro e w9 ⟨rfl, hk⟩
    exact ⟨rfl, HQ.out _ (HK1.out.trans hk)⟩
  | ok zs1 r1 =>
  have HN1 := Lib.hid hn
  clear hn
  go_wp2_with fail
  refine (list_ok (listE_any R bs _ _ HS1.out) HN1.out).mono ?_
  rintro e w2 ⟨⟨A1, n1, c1, rfl, hv⟩, hst, hk⟩
  have HS2 := Lib.hid hst
  have HK2 := Lib.hid (HK1.out.trans hk)
  have HZ2 := Lib.hid (hk.blk HZ1.out HNR.out)
  have HV0_2 := Lib.hid (HV0_1.out.keep hk (Nat.lt_succ_of_lt HB0.out))
  have HV1_2 := Lib.hid (hv.base (b' := nb + 1) (lt_of_block HZ1.out))
  clear hst hk hv
  cases hn : rowsS 4 r1 with
  | err ke =>
    have HN2 := Lib.hid hn
    have HQ : Hid (∀ w', Keep R w w' → RP R bs (VState w.heap.size) (stS rest) w (.panicked [thrown ke]) w') := fun w' hk => by
      show RP _ _ _ _ _ _ _
      simp only [stS, RR.bind, HN0.out, HN1.out, HN2.out]
      exact ⟨rfl, hk⟩
    clear hn
    go_wp2_with fail
    refine (list_err (listS_any R bs _ _ HS2.out) HN2.out).mono ?_
    rintro e w9 ⟨rfl, hk⟩
    exact ⟨rfl, HQ.out _ (HK2.out.trans hk)⟩
  | ok zs2 r2 =>
  have HN2 := Lib.hid hn
  clear hn
  go_wp2_with fail
  refine (list_ok (listS_any R bs _ _ HS2.out) HN2.out).mono ?_
  rintro e w3 ⟨⟨A2, n2, c2, rfl, hv⟩, hst, hk⟩
  have HS3 := Lib.hid hst
  have HK3 := Lib.hid (HK2.out.trans hk)
  have HZ3 := Lib.hid (hk.blk HZ2.out HNR.out)
  have HV0_3 := Lib.hid (HV0_2.out.keep hk (Nat.lt_succ_of_lt HB0.out))
  have HV1_3 := Lib.hid (HV1_2.out.keep hk (Nat.lt_succ_of_lt HB0.out))
  have HV2_3 := Lib.hid (hv.base (b' := nb + 1) (lt_of_block HZ2.out))
  clear hst hk hv
  cases hn : rowsS 2 r2 with
  | err ke =>
    have HN3 := Lib.hid hn
    have HQ : Hid (∀ w', Keep R w w' → RP R bs (VState w.heap.size) (stS rest) w (.panicked [thrown ke]) w') := fun w' hk => by
      show RP _ _ _ _ _ _ _
      simp only [stS, RR.bind, HN0.out, HN1.out, HN2.out, HN3.out]
      exact ⟨rfl, hk⟩
    clear hn
    go_wp2_with fail
    refine (list_err (listO_any R bs _ _ HS3.out) HN3.out).mono ?_
    rintro e w9 ⟨rfl, hk⟩
    exact ⟨rfl, HQ.out _ (HK3.out.trans hk)⟩
  | ok zs3 r3 =>
  have HN3 := Lib.hid hn
  clear hn
  go_wp2_with fail
  refine (list_ok (listO_any R bs _ _ HS3.out) HN3.out).mono ?_
  rintro e w4 ⟨⟨A3, n3, c3, rfl, hv⟩, hst, hk⟩
  have HS4 := Lib.hid hst
  have HK4 := Lib.hid (HK3.out.trans hk)
  have HZ4 := Lib.hid (hk.blk HZ3.out HNR.out)
  have HV0_4 := Lib.hid (HV0_3.out.keep hk (Nat.lt_succ_of_lt HB0.out))
  have HV1_4 := Lib.hid (HV1_3.out.keep hk (Nat.lt_succ_of_lt HB0.out))
  have HV2_4 := Lib.hid (HV2_3.out.keep hk (Nat.lt_succ_of_lt HB0.out))
  have HV3_4 := Lib.hid (hv.base (b' := nb + 1) (lt_of_block HZ3.out))
  clear hst hk hv
  obtain ⟨d0, d1, d2, d3⟩ := box4' HZ4.out
  have g0 := frz8 HZ4.out 0
  have g1 := frz8 HZ4.out 1
  have g2 := frz8 HZ4.out 2
  have g3 := frz8 HZ4.out 3
  have hzz : nb < w4.heap.size := lt_of_block HZ4.out
  have HQ : Hid (RP R bs (VState w.heap.size) (stS rest) w (.returned (.agg #[.slice A0 n0 c0, .slice A1 n1 c1, .slice A2 n2 c2, .slice A3 n3 c3])) ((((w4.setCell ⟨nb, 0, none⟩ (.slice A0 n0 c0)).setCell ⟨nb, 1, none⟩ (.slice A1 n1 c1)).setCell ⟨nb, 2, none⟩ (.slice A2 n2 c2)).setCell ⟨nb, 3, none⟩ (.slice A3 n3 c3))) := by
    show RP _ _ _ _ _ _ _
    simp only [stS, RR.bind, HN0.out, HN1.out, HN2.out, HN3.out]
    have hblk : ∀ k, k ≠ nb → ((((w4.setCell ⟨nb, 0, none⟩ (.slice A0 n0 c0)).setCell ⟨nb, 1, none⟩ (.slice A1 n1 c1)).setCell ⟨nb, 2, none⟩ (.slice A2 n2 c2)).setCell ⟨nb, 3, none⟩ (.slice A3 n3 c3)).heap[k]? = w4.heap[k]? := fun k hkn => by rw [Below.heap_setCell _ _ _ _ hkn, Below.heap_setCell _ _ _ _ hkn, Below.heap_setCell _ _ _ _ hkn, Below.heap_setCell _ _ _ _ hkn]
    refine ⟨_, rfl, ⟨_, _, _, _, rfl, ?_, ?_, ?_, ?_⟩, HS4.out.still fun k hk => hblk k (by have := HB0.out; omega), (((HK4.out.setNew (p := ⟨nb, 0, none⟩) HNW.out _).setNew (p := ⟨nb, 1, none⟩) HNW.out _).setNew (p := ⟨nb, 2, none⟩) HNW.out _).setNew (p := ⟨nb, 3, none⟩) HNW.out _⟩
    · exact HV0_4.out.set hblk HNW.out
    · exact HV1_4.out.set hblk HNW.out
    · exact HV2_4.out.set hblk HNW.out
    · exact HV3_4.out.set hblk HNW.out
  go_wp2_with fail
  refine bodyPost_ret (v := .agg #[.slice A0 n0 c0, .slice A1 n1 c1, .slice A2 n2 c2, .slice A3 n3 c3]) ?_ rfl ?_
  · simp [results, Try.results50, go_sem, World.cell?_setCell_same, World.cell?_setCell_other, d0, d1, d2, d3]
  · exact HQ.out
end Go.Proofs.Ytadikcioacaphaa
