/-
  What Pages of the document's answer for chapter 8 returns (gens99.py writes this text). Conditions: at most 2^40 bytes.
-/
import Derived.Test.YtadikcioacaphaaWalkQd8
namespace Go.Proofs.Ytadikcioacaphaa
open Go.RowKit

theorem page_chain {t : List Nat} {z : Int} {k : Nat} {zs : List Int} (hz : ∀ z' t', numS t = .ok z' t' → z = z') (hk : ∀ n' t', cntQ (stU (numS t)) = .ok n' t' → k = n') (hv : ∀ vs t', numsQ k (stU (cntQ (stU (numS t)))) = .ok vs t' → vs = zs) :
    stU (pageS t) = stU (numsQ k (stU (cntQ (stU (numS t))))) ∧ ∀ p t', pageS t = .ok p t' → p = (z, zs) := by
  unfold pageS
  cases h1 : numS t with
  | err e => exact ⟨rfl, fun p t' h => by simp [RR.bind] at h⟩
  | ok z' t1 =>
    have e1 := hz z' t1 h1
    subst e1
    rw [h1] at hk hv
    simp only [stU, cntQ] at hk hv
    simp only [RR.bind, rowsS, stU, cntQ]
    cases h2 : cntR t1 with
    | err e => exact ⟨rfl, fun p t' h => by simp at h⟩
    | ok n' t2 =>
      have e2 := hk n' t2 h2
      subst e2
      rw [h2] at hv
      simp only [numsQ] at hv
      simp only [numsQ, Nat.one_mul]
      cases h3 : numsS k t2 with
      | err e => exact ⟨rfl, fun p t' h => by simp at h⟩
      | ok vs t3 =>
        have e3 := hv vs t3 h3
        subst e3
        refine ⟨rfl, fun p t' h => ?_⟩
        simp only at h
        injection h with h _
        exact h.symm
/-- What is owned on the way. -/
def PqOwn (T : RR (List Pg)) (w0 w : World) (v : Value) (i g : Nat) : RR Unit → Prop
  | .ok _ t => ∃ ps : List Pg, ps.length = i ∧ OwnPg w0.heap.size (Off (fun b => w0.heap.size ≤ b) v) w v ps ∧ T = (pgsN g t).bind fun qs r => .ok (ps ++ qs) r
  | .err k => T = .err k
/-- On the way of pages. -/
structure PqSt (R : Nat) (bs : List Nat) (T : RR (List Pg)) (w0 w : World) (v : Value) (i g : Nat) (s' : RR Unit) : Prop where
  st : Qd R w bs s'
  keep : Keep R w0 w
  lt : R < w0.heap.size
  own : PqOwn T w0 w v i g s'
theorem PqSt.push {R i g L c k : Nat} {bs t : List Nat} {T : RR (List Pg)} {w0 wr w1 w3 : World} {v v' : Value} {z : Int} {zs : List Int} {u : Unit} {ps : List Pg} {ss : List Sl} {A : Option Addr} (h : PqSt R bs T w0 wr v i (g + 1) (.ok u t))
    (hz : ∀ z' t', numS t = .ok z' t' → z = z') (hk' : ∀ n' t', cntQ (stU (numS t)) = .ok n' t' → k = n') (hv : ∀ vs t', numsQ k (stU (cntQ (stU (numS t)))) = .ok vs t' → vs = zs)
    (hst : Qd R w1 bs (stU (numsQ k (stU (cntQ (stU (numS t))))))) (hk : Keep R wr w1) (o : Obj) (hl : ps.length = i)
    (hro : wr.ownsRow w0.heap.size 70 2 v ps.length (pgC ps ss)) (hall : PgAll (Off (fun b => w0.heap.size ≤ b) v) wr ps ss) (hT : T = (pgsN (g + 1) t).bind fun qs r => .ok (ps ++ qs) r)
    (hzr : w1.ownsRow wr.heap.size 3 1 (.slice A L c) L (zs.map (Value.int .i64))) (hL : L ≤ 1099511627776)
    (hr : w3.ownsRow w0.heap.size 70 2 v' (ps.length + 1) (pgC ps ss ++ [.int .i64 z, .slice A L c])) (hg : (w1.alloc o).grownBy w3 v.ownBlock) (hlo : v'.ownBlock = v.ownBlock ∨ v'.ownBlock = some (w1.alloc o).heap.size) :
    PqSt R bs T w0 w3 v' (i + 1) g (stU (pageS t)) := by
  obtain ⟨e1, e2⟩ := page_chain hz hk' hv
  have hlt := h.lt
  have hb : ∀ b, v.ownBlock = some b → w0.heap.size ≤ b := fun b hb => (hro.lt b hb).1
  have hst3 : Qd R w3 bs (stU (pageS t)) := by
    rw [e1]
    refine hst.still fun k hkR => ?_
    have hs1 := hst.lt
    rw [hg.block k (by rw [new_size]; omega) (fun e => by have := hb k e.symm; omega), alloc_blk _ _ (by omega)]
  refine ⟨hst3, ((h.keep.trans hk).alloc o).grown hg hb, hlt, ?_⟩
  clear hst3
  rw [hT, pgsN_succ]
  cases hp : pageS t with
  | err ke => rfl
  | ok p t' =>
    have e3 := e2 p t' hp
    subst e3
    simp only [stU, RR.bind]
    refine ⟨ps ++ [(z, zs)], by simp [hl], OwnPg.push h.keep.size hlt hro hall hk hzr (by omega) hr hg hlo, ?_⟩
    cases pgsN g t' with
    | err k => rfl
    | ok qs r => simp [RR.bind]
theorem rdS_pgs {bs : List Nat} {k : Int} : rdS pgsS bs k = (cntQ (begS bs k)).bind fun n r => pgsN n r := by
  unfold rdS begS
  split
  · rfl
  · rfl

set_option maxHeartbeats 8000000 in
set_option maxRecDepth 100000 in
theorem Pages_ref (B : Nat) (bs : List Nat) (A : Option Addr) (n c : Nat) (k : Int) (w : World) (h : BsIn B w bs A n c) (hB : B ≤ w.heap.size) (b0 : Nat) (hb9 : b0 ≤ w.heap.size) :
    Calls Try.prog 41 #[.slice A n c, .int .i64 k] w (RD (VPages b0) (.slice none 0 0) bs (rdS pgsS bs k) w) := by
  obtain ⟨i0, hinf, hz0, hz1, hz2⟩ := info_parts infoPg
  have HI := Lib.hid hinf
  have HI0 := Lib.hid hz0
  have HI1 := Lib.hid hz1
  have HI2 := Lib.hid hz2
  have H := Lib.hid (begin_q B bs A n c k w h hB)
  have HLN := Lib.hid h.len
  have hn40 := h.le40
  have HB9 : Hid (b0 ≤ w.heap.size) := hb9
  obtain ⟨T, hT⟩ : ∃ T, rdS pgsS bs k = T := ⟨_, rfl⟩
  have HT : Hid (T = (cntQ (begS bs k)).bind fun n r => pgsN n r) := by show _ = _; rw [← hT]; exact rdS_pgs
  rw [hT]
  clear hinf hz0 hz1 hz2 h hb9 hT
  go_enter Try.func41, Try.ntmps41
  go_wp2_with fail
  refine H.out.mono ?_
  rintro e w1 ⟨R, rfl, hR, hq, hb⟩
  have HR : Hid (w.heap.size ≤ R) := hR
  have HQ1 := Lib.hid hq
  have HB1 := Lib.hid hb
  clear hq hb hR
  go_wp2_with fail
  refine (count_q R bs _ _ HQ1.out).mono ?_
  rintro e w2 ⟨N, rfl, hN, hNv, hq, hk⟩
  have HB2 := Lib.hid (HB1.out.trans (hk.below (B := w.heap.size) HB1.out.size HR.out))
  have hN40 : N ≤ 1099511627776 := by have := HLN.out; omega
  have HP0 : Hid (PqSt R bs T w2 w2 (.slice none 0 0) 0 N (stU (cntQ (begS bs k)))) := by
    refine ⟨hq, Keep.refl _ _, hq.lt, ?_⟩
    rw [HT.out]
    cases hc : cntQ (begS bs k) with
    | err ke => rfl
    | ok n' t =>
      have e := hNv n' t hc
      subst e
      refine ⟨[], rfl, OwnPg.made _ _ _, ?_⟩
      simp only [RR.bind]
      cases pgsN N t <;> rfl
  clear hq hk hNv hN
  go_wp2_with fail
  go_loopg [8, 10] N (fun g a b wr => ∃ (i : Nat) (s' : RR Unit), i + g = N ∧ b = .int .i64 i ∧ Hid (PqSt R bs T w2 wr a i g s'))
  case atStart => exact ⟨0, _, by omega, rfl, HP0⟩
  case round =>
    obtain ⟨i, s', hig, rfl, HP⟩ := hrel
    cases s' with
    | err ke =>
      have hte : T = .err ke := HP.out.own
      have hd : QdEr R wr ke := HP.out.st
      have c2 := hd.c2
      have hp := hd.pos
      have hne : ((ke : Int) == 0) = false := by simp; omega
      have hne2 : ((ke : Int) != 0) = true := by simp; omega
      have hR1 : R < wr.heap.size := World.block_lt_of_cell? wr _ c2
      have HQ : Hid (∀ m, RD (VPages b0) (.slice none 0 0) bs T w (.returned (.tuple #[.slice none 0 0, .int .i64 0, .int .i64 ke])) (wr.drewN m)) := fun m => by
        rw [hte]
        exact ⟨rfl, below_drewN (HB2.out.trans (HP.out.keep.below (B := w.heap.size) HB2.out.size HR.out)) m⟩
      clear hte hd hp
      by_cases hlt : (i : Int) < (N : Int)
      all_goals
        clear hig
        go_wp2_with fail
        go_quiet (fail)
        go_wp2_with fail
        refine bodyPost_ret (v := .tuple #[.slice none 0 0, .int .i64 0, .int .i64 ke]) ?_ rfl ?_
        · simp [results, Try.results41, go_sem]
        · exact HQ.out _
    | ok u t =>
      have hd : QdOk R wr bs t := HP.out.st
      obtain ⟨ps, hl, ho, hq⟩ := HP.out.own
      cases gk with
      | zero =>
        have hiN : i = N := by omega
        subst hiN
        have hnn : ¬ (i : Int) < (i : Int) := by omega
        obtain ⟨A1, c1', k1, n1, c0, c1, hkn, hn41, hrl, hRl, hnb1, c2, f2, f1, hby⟩ := hd.at
        obtain ⟨V, vc, rfl⟩ := own_slice ho.choose_spec.1
        have hq' : T = .ok ps t := by rw [hq]; simp [pgsN, RR.bind]
        have hw29 : b0 ≤ w2.heap.size := Nat.le_trans HB9.out HB2.out.size
        have HQ : Hid (∀ m, RD (VPages b0) (.slice none 0 0) bs T w (.returned (.tuple #[.slice V ps.length vc, .int .i64 (k1 : Nat), .int .i64 0])) (wr.drewN m)) := fun m => by
          rw [hq']
          have hvp : VPages w2.heap.size wr ps (.slice V ps.length vc) := ⟨by omega, ho⟩
          exact ⟨_, by rw [show ((bs.length : Int) - t.length) = (k1 : Int) by omega], hvp.up (w' := wr.drewN m) (fun i hi => rfl) hw29, by omega, below_drewN (HB2.out.trans (HP.out.keep.below (B := w.heap.size) HB2.out.size HR.out)) m⟩
        rw [hl] at HQ
        clear hq hq' hd hby hnb1 hrl c0 ho hig hw29
        simp only [hl]
        clear hl
        go_wp2_with fail
        go_quiet (fail)
        go_wp2_with fail
        refine bodyPost_ret (v := .tuple #[.slice V i vc, .int .i64 k1, .int .i64 0]) ?_ rfl ?_
        · simp [results, Try.results41, go_sem]
        · exact HQ.out _
      | succ g =>
        have hlt : (i : Int) < (N : Int) := by omega
        have hi40 : i ≤ 1099511627776 := by omega
        have c2 := hd.c2
        have hR1 : R < wr.heap.size := hd.rd.lt
        obtain ⟨ss, hro, hall⟩ := ho
        obtain ⟨V, vc, rfl⟩ := own_slice hro
        have HL := Lib.hid hl
        have HRO := Lib.hid hro
        have HAL := Lib.hid hall
        have HTT := Lib.hid hq
        have HG := Lib.hid hig
        obtain ⟨pb, hpb⟩ : ∃ x, wr.heap.size = x := ⟨_, rfl⟩
        obtain ⟨w3, hw3⟩ : ∃ x, (wr.alloc (.cells #[.int .i64 0, .slice none 0 0] 70)) = x := ⟨_, rfl⟩
        have hb3 : Below wr.heap.size wr w3 := by rw [← hw3]; exact rp_one1 _ _
        have HX3 : Hid (w3.heap[pb]? = some (.cells #[.int .i64 0, .slice none 0 0] 70 (0, 0))) := by show _ = _; rw [← hw3, ← hpb]; exact new_blk _ _
        have HQ3 := Lib.hid (HP.out.st.below hb3)
        have HK3 := Lib.hid (Keep.of_below (R := R) hb3)
        have HPR : Hid (R < pb) := by show _ < _; omega
        have HPW : Hid (wr.heap.size ≤ pb) := Nat.le_of_eq hpb
        rw [hl]
        clear hd hro hall hq hig hl hb3
        go_upto_region 8 with fail
        try simp only [hw3, hpb]
        clear hw3 hpb
        go_wp2_with fail
        refine (int_q HQ3.out).mono ?_
        rintro e w4 ⟨z, rfl, hz, _, hq, hk⟩
        have HZ := Lib.hid hz
        have hX := hk.blk HX3.out (show pb ≠ R by have := HPR.out; omega)
        have cc : w4.cell? ⟨pb, 0, none⟩ = some (.int .i64 0) := by rw [Lib.cell_of_heap hX]; rfl
        have ff := frz8 hX 0
        have hzz : pb < w4.heap.size := lt_of_block hX
        have HXx := Lib.hid hX
        have HQx := Lib.hid hq
        have HK4 := Lib.hid (HK3.out.trans hk)
        clear hz hq hk hX
        go_upto_region 9 with fail
        obtain ⟨w5, hw⟩ : ∃ x, w4.setCell ⟨pb, 0, none⟩ (.int .i64 z) = x := ⟨_, rfl⟩
        have HQ5 : Hid (Qd R w5 bs (stU (numS t))) := by
          show Qd _ _ _ _
          rw [← hw]
          exact HQx.out.still fun k hk => Below.heap_setCell _ _ _ _ (by show k ≠ pb; have := HPR.out; omega)
        have HX5 : Hid (w5.heap[pb]? = some (.cells #[.int .i64 z, .slice none 0 0] 70 (0, 0))) := by show _ = _; rw [← hw]; exact blk_set HXx.out 0 _
        have HK5 : Hid (Keep R wr w5) := by show Keep _ _ _; rw [← hw]; exact HK4.out.setNew (p := ⟨pb, 0, none⟩) HPW.out _
        try simp only [hw]
        clear hw cc ff hzz HXx HQx
        go_wp2_with fail
        refine (count_q R bs _ _ HQ5.out).mono ?_
        rintro e w6 ⟨kk, rfl, hkk, hkv, hq, hk⟩
        have hkk40 : kk ≤ 1099511627776 := by have := HLN.out; omega
        have HKV := Lib.hid hkv
        have HQ6 := Lib.hid hq
        have HX6 := Lib.hid (hk.blk HX5.out (show pb ≠ R by have := HPR.out; omega))
        have HK6 := Lib.hid (HK5.out.trans hk)
        clear hkv hq hk hkk
        go_wp2_with fail
        refine (ints_q R kk bs _ _ HQ6.out hkk40).mono ?_
        rintro e w7 ⟨zs, A7, m7, c7, rfl, hzl, hm7, hown, hzv, hq, hk⟩
        have HZV := Lib.hid hzv
        have hX := hk.blk HX6.out (show pb ≠ R by have := HPR.out; omega)
        have cc : w7.cell? ⟨pb, 1, none⟩ = some (.slice none 0 0) := by rw [Lib.cell_of_heap hX]; rfl
        have ff := frz8 hX 1
        have hzz : pb < w7.heap.size := lt_of_block hX
        have HXx := Lib.hid hX
        have HQx := Lib.hid hq
        have HK7 := Lib.hid (HK6.out.trans hk)
        have hp6 := lt_of_block HX6.out
        have HOZ := Lib.hid hown
        have HM7 : Hid (m7 ≤ 1099511627776) := by show _ ≤ _; omega
        clear hzv hq hk hX hown hm7
        go_upto_region 11 with fail
        obtain ⟨w8, hw⟩ : ∃ x, w7.setCell ⟨pb, 1, none⟩ (.slice A7 m7 c7) = x := ⟨_, rfl⟩
        have h8 : ∀ i, i ≠ pb → w8.heap[i]? = w7.heap[i]? := fun i hin => by rw [← hw, Below.heap_setCell _ _ _ _ hin]
        have HQ8 := Lib.hid (HQx.out.still fun k hk => h8 k (by have := HPR.out; omega))
        have hX8 : w8.heap[pb]? = some (.cells #[.int .i64 z, .slice A7 m7 c7] 70 (0, 0)) := by rw [← hw]; exact blk_set HXx.out 1 _
        have HK8 : Hid (Keep R wr w8) := by show Keep _ _ _; rw [← hw]; exact HK7.out.setNew (p := ⟨pb, 1, none⟩) HPW.out _
        have HOZ8 := Lib.hid (own_base (own_blk HOZ.out fun b hb => h8 b (by have := (HOZ.out.lt b hb).1; omega)) HK6.out.size)
        try simp only [hw]
        clear hw h8 HXx HQx hzz cc ff hp6
        obtain ⟨d0, d1⟩ := box2' hX8
        have HRO8 := Lib.hid (own_bel (own_keep HRO.out HK8.out HP.out.lt) (rp_one1 w8 (.cells #[.int .i64 z, .slice A7 m7 c7] 70)))
        rw [HL.out] at HRO8
        have HSZ : Hid (w2.heap.size ≤ w8.heap.size) := (HP.out.keep.trans HK8.out).size
        have hpl8 : pb < w8.heap.size := lt_of_block hX8
        clear hX8
        go_wp2_with (at_builtin; refine wpList_append_own_at _ rfl (.tmp 39) (.tmp 41) 38 rfl w2.heap.size 70 i0 _ 2 32 Try.underlying38 HI.out HI0.out HI1.out HI2.out rfl (by decide) (.slice V i vc) i (pgC ps ss) (by simp [Act.eval]) HRO8.out ⟨w8.heap.size, 0, none⟩ 1 1 [.int .i64 z, .slice A7 m7 c7] (by simp [Act.eval]) rfl page_cells (by simp [Value.oneCell']) (by unfold maxLen; omega) (by omega) (by have := HSZ.out; simp only [new_size]; omega) ?_; intro v9 w9 hown9 hgrow9 hnil9 hob9; have HO9 := Lib.hid hown9; have HG9 := Lib.hid hgrow9; have HB99 := Lib.hid hob9; clear hown9 hgrow9 hob9 hnil9)
        have HR9 : Hid (PqSt R bs T w2 w9 v9 (i + 1) g (stU (pageS t))) := by
          have e := HL.out
          subst e
          exact HP.out.push HZ.out HKV.out HZV.out HQ8.out HK8.out _ rfl HRO.out HAL.out HTT.out HOZ8.out HM7.out HO9.out HG9.out HB99.out
        go_roundg g
        case rel => exact ⟨i + 1, _, by have := HG.out; omega, by go_num, HR9⟩
        case measure => omega
end Go.Proofs.Ytadikcioacaphaa
