/-
  What pages of package codec reads, or the first error (gens85.py writes this text). Conditions: at most 2^40 bytes.
-/
import Derived.Test.YtadikcioacaphaaWalkPg8
namespace Go.Proofs.Ytadikcioacaphaa
open Go.RowKit

/-- On the way of a list of pages: i are there, g are to be read. -/
structure LpSt (R : Nat) (bs rest : List Nat) (N : Nat) (w0 w : World) (v : Value) (ps : List Pg) (g : Nat) (t : List Nat) : Prop where
  st : RdSt R w bs t
  keep : Keep R w0 w
  lt : R < w0.heap.size
  own : OwnPg w0.heap.size (Off (fun b => w0.heap.size ≤ b) v) w v ps
  eq : pgsN N rest = (pgsN g t).bind fun qs r => .ok (ps ++ qs) r
theorem LpSt.fail {R N g ke : Nat} {bs rest t : List Nat} {w0 wr : World} {v : Value} {ps : List Pg} (h : LpSt R bs rest N w0 wr v ps (g + 1) t) (hv : pageS t = .err ke) : pgsN N rest = .err ke := by
  rw [h.eq, pgsN_succ, hv]
  rfl
theorem LpSt.post {R N : Nat} {bs rest r1 t : List Nat} {w0 wr : World} {v : Value} {ps : List Pg} (h : LpSt R bs r1 N w0 wr v ps 0 t) (hN : ps.length ≤ 1099511627776) (hc : pgsS rest = pgsN N r1) : RP R bs (VPages w0.heap.size) (pgsS rest) w0 (.returned v) wr := by
  have e := h.eq
  simp only [pgsN, RR.bind, List.append_nil] at e
  rw [hc, e]
  exact ⟨_, rfl, ⟨hN, h.own⟩, h.st, h.keep⟩
theorem LpSt.push {R N g : Nat} {bs rest t t' : List Nat} {w0 wr w1 w3 : World} {v v' : Value} {ps : List Pg} {p : Pg} {ss : List Sl} {A : Option Addr} {L c : Nat} (h : LpSt R bs rest N w0 wr v ps (g + 1) t) (hv : pageS t = .ok p t') (hst : RdSt R w1 bs t') (hk : Keep R wr w1) (o : Obj)
    (hro : wr.ownsRow w0.heap.size 70 2 v ps.length (pgC ps ss)) (hall : PgAll (Off (fun b => w0.heap.size ≤ b) v) wr ps ss)
    (hz : w1.ownsRow wr.heap.size 3 1 (.slice A L c) L (p.2.map (Value.int .i64))) (hL : L ≤ 1099511627776)
    (hr : w3.ownsRow w0.heap.size 70 2 v' (ps.length + 1) (pgC ps ss ++ [.int .i64 p.1, .slice A L c])) (hg : (w1.alloc o).grownBy w3 v.ownBlock) (hl : v'.ownBlock = v.ownBlock ∨ v'.ownBlock = some (w1.alloc o).heap.size) :
    LpSt R bs rest N w0 w3 v' (ps ++ [p]) g t' := by
  have hlt := h.lt
  have hb : ∀ b, v.ownBlock = some b → w0.heap.size ≤ b := fun b hb => (hro.lt b hb).1
  refine ⟨hst.still fun k hkR => ?_, ((h.keep.trans hk).alloc o).grown hg hb, h.lt, ?_, ?_⟩
  · have hs1 := hst.lt
    rw [hg.block k (by rw [new_size]; omega) (fun e => by have := hb k e.symm; omega), alloc_blk _ _ (by omega)]
  · exact OwnPg.push h.keep.size hlt hro hall hk hz (by omega) hr hg hl
  · rw [h.eq, pgsN_succ, hv]
    simp only [RR.bind]
    cases pgsN g t' with
    | err k => rfl
    | ok qs r => simp
theorem pgsS_ok {n : Nat} {l r : List Nat} (h : cntR l = .ok n r) : pgsS l = pgsN n r := by simp only [pgsS, RR.bind, h]
theorem pgsS_err {ke : Nat} {l : List Nat} (h : cntR l = .err ke) : pgsS l = .err ke := by simp only [pgsS, RR.bind, h]
theorem page_ok {R : Nat} {bs rest r : List Nat} {p : Pg} {w : World} (h : RdSt R w bs rest) (hn : pageS rest = .ok p r) :
    Calls Try.prog 73 #[.pointer (some ⟨R, 0, none⟩)] w fun e w' => (∃ A L c, e = .returned (.agg #[.int .i64 p.1, .slice A L c]) ∧ L ≤ 1099511627776 ∧ w'.ownsRow w.heap.size 3 1 (.slice A L c) L (p.2.map (Value.int .i64))) ∧ RdSt R w' bs r ∧ Keep R w w' := by
  have := page_any R bs rest w h
  rw [hn] at this
  refine this.mono ?_
  rintro e w' ⟨v, rfl, ⟨A, L, c, rfl, h1, h2⟩, h3, h4⟩
  exact ⟨⟨A, L, c, rfl, h1, h2⟩, h3, h4⟩
theorem page_err {R : Nat} {bs rest : List Nat} {ke : Nat} {w : World} (h : RdSt R w bs rest) (hn : pageS rest = .err ke) :
    Calls Try.prog 73 #[.pointer (some ⟨R, 0, none⟩)] w fun e w' => e = .panicked [thrown ke] ∧ Keep R w w' := by
  have := page_any R bs rest w h
  rw [hn] at this
  exact this

set_option maxHeartbeats 4000000 in
set_option maxRecDepth 100000 in
theorem listP_any (R : Nat) (bs rest : List Nat) (w : World) (h : RdSt R w bs rest) :
    Calls Try.prog 72 #[.pointer (some ⟨R, 0, none⟩), .func (.func 73) #[] #[]] w (RP R bs (VPages w.heap.size) (pgsS rest) w) := by
  obtain ⟨i0, hinf, hz0, hz1, hz2⟩ := info_parts infoPg
  have HI := Lib.hid hinf
  have HI0 := Lib.hid hz0
  have HI1 := Lib.hid hz1
  have HI2 := Lib.hid hz2
  have H := Lib.hid h
  have HR : Hid (R < w.heap.size) := h.lt
  clear hinf hz0 hz1 hz2 h
  cases hn : numS rest with
  | err ke =>
    have HN := Lib.hid hn
    have HQ : Hid (∀ w', Keep R w w' → RP R bs (VPages w.heap.size) (pgsS rest) w (.panicked [thrown ke]) w') := fun w' hk => by
      show RP _ _ _ _ _ _ _
      rw [pgsS_err (cntR_err HN.out)]
      exact ⟨rfl, hk⟩
    clear hn
    go_enter Try.func72, Try.ntmps72
    go_wp2_with fail
    refine (number_err H.out HN.out).mono ?_
    rintro e w1 ⟨rfl, hk⟩
    exact ⟨rfl, HQ.out _ hk⟩
  | ok z r1 =>
  have HN := Lib.hid hn
  clear hn
  go_enter Try.func72, Try.ntmps72
  go_wp2_with fail
  refine (number_ok H.out HN.out).mono ?_
  rintro e w1 ⟨rfl, hst, hk⟩
  have HS1 := Lib.hid hst
  have HK1 := Lib.hid hk
  obtain ⟨A, c, k, n, c0, c1, hkn, hn40, hrl, hRl, hnb⟩ := hst.at
  have HNB := Lib.hid hnb
  clear hst hk hnb
  by_cases hbad : z < 0 ∨ (r1.length : Int) < z
  · have HQ : Hid (∀ w', Keep R w w' → RP R bs (VPages w.heap.size) (pgsS rest) w (.panicked [thrown 9]) w') := fun w' hk => by
      show RP _ _ _ _ _ _ _
      rw [pgsS_err (cntR_no HN.out hbad)]
      exact ⟨rfl, hk⟩
    by_cases hz : z < 0
    · clear hbad hrl
      go_wp2_with fail
      go_quiet (fail)
      go_wp2_with fail
      exact ⟨rfl, HQ.out _ (HK1.out.drewN _)⟩
    · have hgt : (n : Int) - (k : Int) < z := by omega
      have hwr : IntKind.i64.wrap ((n : Int) - (k : Int)) = (n : Int) - (k : Int) := IntWalk.i64_in _ (by omega)
      clear hbad hrl
      go_wp2_with fail
      go_quiet (fail)
      go_wp2_with fail
      exact ⟨rfl, HQ.out _ (HK1.out.drewN _)⟩
  have hz0 : ¬ z < 0 := by omega
  obtain ⟨N, rfl⟩ : ∃ N : Nat, z = (N : Int) := ⟨z.toNat, by omega⟩
  have hgt : ¬ (n : Int) - (k : Int) < (N : Int) := by omega
  have HC : Hid (pgsS rest = pgsN N r1) := by have := cntR_ok HN.out (by omega) (by omega); rw [Int.toNat_natCast] at this; exact pgsS_ok this
  have hN40 : N ≤ 1099511627776 := by omega
  have hwr : IntKind.i64.wrap ((n : Int) - (k : Int)) = (n : Int) - (k : Int) := IntWalk.i64_in _ (by omega)
  clear hbad hrl HN
  go_wp2_with fail
  go_quiet (fail)
  have HS2 : Hid (LpSt R bs r1 N w (w1.drewN nq) (.slice none 0 0) [] N r1) := ⟨HS1.out.below (below_drewN (Below.refl _ _) _), HK1.out.drewN _, HR.out, OwnPg.made _ _ _, by cases pgsN N r1 <;> rfl⟩
  clear c0 c1 hwr
  go_wp2_with fail
  clear hkn hn40 hRl hgt hz0
  go_loopg [6, 28] N (fun g a b wr => ∃ (ps : List Pg) (t : List Nat), ps.length + g = N ∧ b = .int .i64 ps.length ∧ Hid (LpSt R bs r1 N w wr a ps g t))
  case atStart => exact ⟨[], r1, by simp, rfl, HS2⟩
  case round =>
    obtain ⟨ps, t, hig, rfl, HP⟩ := hrel
    obtain ⟨i, hi⟩ : ∃ i, ps.length = i := ⟨_, rfl⟩
    cases gk with
    | zero =>
      have hiN : i = N := by omega
      have HQ := Lib.hid (HP.out.post (by omega) HC.out)
      subst hiN
      rw [hi]
      have hnn : ¬ (i : Int) < (i : Int) := by omega
      clear hig hi
      go_wp2_with fail
      go_ret
      exact HQ.out
    | succ g =>
      have hlt : (i : Int) < (N : Int) := by omega
      obtain ⟨ss, hro, hall⟩ := HP.out.own
      obtain ⟨V, vc, rfl⟩ := own_slice hro
      have HG := Lib.hid hig
      have HRO := Lib.hid hro
      have HAL := Lib.hid hall
      have HI9 := Lib.hid hi
      rw [hi]
      clear hro hall hig hi
      cases hn : pageS t with
      | err ke =>
        have HN := Lib.hid hn
        have HQ : Hid (∀ w', Keep R wr w' → RP R bs (VPages w.heap.size) (pgsS rest) w (.panicked [thrown ke]) w') := fun w' hk => by
          show RP _ _ _ _ _ _ _
          rw [HC.out, HP.out.fail HN.out]
          exact ⟨rfl, HP.out.keep.trans hk⟩
        clear hn
        go_wp2_with fail
        refine (page_err HP.out.st HN.out).mono ?_
        rintro e w5 ⟨rfl, hk⟩
        exact ⟨rfl, HQ.out _ hk⟩
      | ok p t' =>
      obtain ⟨p1, p2⟩ := p
      have HN := Lib.hid hn
      clear hn
      go_wp2_with fail
      refine (page_ok HP.out.st HN.out).mono ?_
      rintro e w5 ⟨⟨A5, L5, c5, rfl, hL5, hz5⟩, hst, hk⟩
      have HST := Lib.hid hst
      have HK5 := Lib.hid hk
      have HZ5 := Lib.hid hz5
      have HL5 : Hid (L5 ≤ 1099511627776) := hL5
      have HSZ : Hid (w.heap.size ≤ w5.heap.size) := (HP.out.keep.trans hk).size
      have HOW5 := Lib.hid (own_bel (own_keep HRO.out hk HR.out) (rp_one1 w5 (.cells #[.int .i64 p1, .slice A5 L5 c5] 70)))
      rw [HI9.out] at HOW5
      have hi9 : i ≤ N := by omega
      clear hst hk hz5 hL5
      go_wp2_with (at_builtin; refine wpList_append_own_at _ rfl (.tmp 30) (.tmp 34) 38 rfl w.heap.size 70 i0 _ 2 32 Try.underlying38 HI.out HI0.out HI1.out HI2.out rfl (by decide) (.slice V i vc) i (pgC ps ss) (by simp [Act.eval]) HOW5.out ⟨w5.heap.size, 0, none⟩ 1 1 [.int .i64 p1, .slice A5 L5 c5] (by simp [Act.eval]) rfl page_cells (by simp [Value.oneCell']) (by unfold maxLen; omega) (by omega) (by have := HSZ.out; simp only [new_size]; omega) ?_; intro v9 w9 hown9 hgrow9 hnil9 hob9; have HO9 := Lib.hid hown9; have HG9 := Lib.hid hgrow9; have HB9 := Lib.hid hob9; clear hown9 hgrow9 hob9 hnil9)
      have HR9 : Hid (LpSt R bs r1 N w w9 v9 (ps ++ [(p1, p2)]) g t') := by
        have e := HI9.out
        subst e
        exact HP.out.push HN.out HST.out HK5.out _ HRO.out HAL.out HZ5.out HL5.out HO9.out HG9.out HB9.out
      go_roundg g
      case rel => exact ⟨ps ++ [(p1, p2)], t', by have := HG.out; simp; omega, by rw [List.length_append, HI9.out]; go_num, HR9⟩
      case measure => omega

set_option maxHeartbeats 400000 in
set_option maxRecDepth 100000 in
theorem pages_any (R : Nat) (bs rest : List Nat) (w : World) (h : RdSt R w bs rest) :
    Calls Try.prog 48 #[.pointer (some ⟨R, 0, none⟩)] w (RP R bs (VPages w.heap.size) (pgsS rest) w) := by
  have H := Lib.hid h
  clear h
  cases hn : pgsS rest with
  | err ke =>
    have HL := listP_any R bs rest w H.out
    rw [hn] at HL
    have HLL := Lib.hid HL
    clear HL hn
    go_enter Try.func48, Try.ntmps48
    go_wp2_with fail
    refine HLL.out.mono ?_
    rintro e w1 ⟨rfl, hk⟩
    exact ⟨rfl, rfl, hk⟩
  | ok ps r =>
    have HL := listP_any R bs rest w H.out
    rw [hn] at HL
    have HLL := Lib.hid HL
    clear HL hn
    go_enter Try.func48, Try.ntmps48
    go_wp2_with fail
    refine HLL.out.mono ?_
    rintro e w1 ⟨v, rfl, hv⟩
    have HV := Lib.hid hv
    clear hv
    go_wp2_with fail
    go_ret
    exact ⟨_, rfl, HV.out⟩
end Go.Proofs.Ytadikcioacaphaa
