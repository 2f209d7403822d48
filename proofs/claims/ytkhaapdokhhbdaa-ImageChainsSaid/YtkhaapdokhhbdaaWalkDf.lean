/-
  What Diff of package image returns: the pages of the second list that the first one does not have, as a list of its own. Conditions: at most 1000000 cells each.
-/
import Derived.Test.YtkhaapdokhhbdaaWalkPm
import Derived.Test.YtkhaapdokhhbdaaWalkEqI
namespace Go.Proofs.Ytkhaapdokhhbdaa
open Go.RowKit

/-- T, but not the block of v's own. -/
def Off (T : Nat → Prop) (v : Value) : Nat → Prop := fun b => T b ∧ v.ownBlock ≠ some b
theorem below_grow {B : Nat} {w w1 w3 : World} {row : Option Nat} (h : Below B w w1) (hg : w1.grownBy w3 row) (hB : B ≤ w1.heap.size) (hrow : ∀ k, row = some k → B ≤ k) : Below B w w3 :=
  ⟨hg.os.trans h.os, hg.tape.trans h.tape, hg.output.trans h.output, Nat.le_trans h.size hg.size, fun k hk => (hg.block k (by omega) (fun e => by have := hrow k e.symm; omega)).trans (h.block k hk)⟩
theorem own_zs {w : World} {base L c : Nat} {A : Option Addr} {zs : List Int} (h : w.ownsRow base 3 1 (.slice A L c) L (zs.map (Value.int .i64))) (hL : L ≤ 9223372036854775807) : L = zs.length ∧ L ≤ c ∧ ZsS (fun b => base ≤ b) w zs A := by
  have hz := ZsAt.own h hL
  obtain ⟨h1, h2, h3⟩ := hz
  subst h1
  refine ⟨rfl, ?_, h2, fun h0 => ?_⟩
  · rcases h.2 with ⟨e, h0⟩ | ⟨g, cap, cur, e, _, _, hle, _⟩
    · omega
    · injection e with _ _ e3
      omega
  · obtain ⟨b, o, hA, hi⟩ := h3 h0
    refine ⟨b, o, hA, ?_, hi⟩
    exact (h.lt b (by rw [hA]; rfl)).1
/-- Pages that are gathered. -/
structure DfHead (base : Nat) (w0 w : World) (ps : List Pg) (v : Value) : Prop where
  own : OwnPg base (Off (fun b => base ≤ b) v) w v ps
  below : Below base w0 w
  size : base ≤ w.heap.size
theorem DfHead.push {base : Nat} {w0 wr w1 w3 : World} {ps : List Pg} {v v' : Value} {ss : List Sl} {zs : List Int} {n : Int} {A' : Option Addr} {L c' : Nat} {o : Obj}
    (hb0 : Below base w0 wr) (hbase : base ≤ wr.heap.size) (hro : wr.ownsRow base 37 2 v ps.length (pgC ps ss)) (hall : PgAll (Off (fun b => base ≤ b) v) wr ps ss)
    (hb1 : Below wr.heap.size wr w1) (hz : w1.ownsRow wr.heap.size 3 1 (.slice A' L c') L (zs.map (Value.int .i64))) (hL : L ≤ 9223372036854775807)
    (hr : w3.ownsRow base 37 2 v' (ps.length + 1) (pgC ps ss ++ [.int .i64 n, .slice A' L c'])) (hg : (w1.alloc o).grownBy w3 v.ownBlock) (hl : v'.ownBlock = v.ownBlock ∨ v'.ownBlock = some (w1.alloc o).heap.size) :
    DfHead base w0 w3 (ps ++ [(n, zs)]) v' := by
  have hlt : ∀ b, v.ownBlock = some b → base ≤ b ∧ b < wr.heap.size := fun b hb => hro.lt b hb
  obtain ⟨hzl, hzc, hzs⟩ := own_zs hz hL
  have hb2 : Below wr.heap.size wr (w1.alloc o) := hb1.alloc hb1.size _
  have s1 := hb1.size
  have h2 : PgAll (Off (fun b => base ≤ b) v) (w1.alloc o) ps ss := hall.still fun b hS hb => ⟨hS, hb2.block b hb⟩
  have h3 : ZsS (Off (fun b => base ≤ b) v) (w1.alloc o) zs A' := hzs.still fun b (hb : wr.heap.size ≤ b) hlt' => ⟨⟨Nat.le_trans hbase hb, fun e => by have := (hlt b e).2; omega⟩, alloc_blk _ _ hlt'⟩
  refine ⟨⟨ss ++ [(A', c')], ?_, ?_⟩, ?_, Nat.le_trans hbase (Nat.le_trans (Nat.le_trans s1 (by rw [new_size]; omega)) hg.size)⟩
  · rw [List.length_append, pgC_snoc _ _ _ _ hall.len]
    rw [hzl] at hr
    exact hr
  · refine (PgAll.snoc (p := (n, zs)) (s := (A', c')) ⟨by show zs.length ≤ c'; omega, h3⟩ h2).still fun b hS hb => ⟨⟨hS.1, ?_⟩, hg.block b hb fun e => hS.2 e.symm⟩
    rcases hl with e | e
    · rw [e]; exact hS.2
    · rw [e]; intro e2; injection e2 with e2; omega
  · exact below_grow (hb0.trans (hb2.mono hbase)) hg (Nat.le_trans hbase (Nat.le_trans s1 (by rw [new_size]; omega))) fun k hk => (hlt k hk).1
theorem own_base {w : World} {b b' : Nat} {e : TypeId} {size n : Nat} {v : Value} {xs : List Value} (h : w.ownsRow b e size v n xs) (hb : b' ≤ b) : w.ownsRow b' e size v n xs := by
  obtain ⟨h1, h2⟩ := h
  refine ⟨h1, ?_⟩
  rcases h2 with h2 | ⟨g, cap, cur, hv, hg, r⟩
  · exact .inl h2
  · exact .inr ⟨g, cap, cur, hv, Nat.le_trans hb hg, r⟩
/-- What a call gives that returns pages of its own. -/
def PgPost (base : Nat) (w : World) (ps : List Pg) (e : Ending) (w' : World) : Prop := ∃ v, e = .returned v ∧ OwnPg base (Off (fun b => base ≤ b) v) w' v ps ∧ Below base w w'
theorem page_cells {w : World} {n : Int} {A : Option Addr} {L c : Nat} {T : TypeId} : ∀ j u, ([.int .i64 n, .slice A L c] : List Value)[j]? = some u → (w.alloc (.cells #[.int .i64 n, .slice A L c] T)).cell? ((⟨w.heap.size, 0, none⟩ : Addr).add j) = some u := fun j u hj => by
  rw [Addr.add_lit]; exact new_cells w [.int .i64 n, .slice A L c] T j u hj

set_option maxHeartbeats 1000000 in
set_option maxRecDepth 100000 in
theorem diff_any (xs ys : List Int) (A B : Option Addr) (n m c d : Nat) (w : World) (h1 : ZsAt w xs A n) (h2 : ZsAt w ys B m) (hc : n ≤ c) (hd : m ≤ d) (hn : n ≤ 1000000) (hm : m ≤ 1000000) :
    Calls Try.prog 12 #[.slice A n c, .slice B m d] w (PgPost w.heap.size w (diffS xs ys)) := by
  obtain ⟨i0, hi, hz0, hz1, hz2⟩ := info_parts infoPg
  have HI := Lib.hid hi
  have HI0 := Lib.hid hz0
  have HI1 := Lib.hid hz1
  have HI2 := Lib.hid hz2
  have HX := Lib.hid h1
  have HY := Lib.hid h2
  have hnl := Lib.hid h1.1
  have hml := Lib.hid h2.1
  have HS := Lib.hid (show diffS xs ys = diffR xs ys (cntS m) by rw [h2.1]; rfl)
  have hN6 : cntS m ≤ 1000000 := by unfold cntS; omega
  have HC : Hid (∀ W, Calls Try.prog 17 #[.slice B m d] W fun e w' => e = .returned (.int .i64 (cntS m : Nat)) ∧ w' = W) := fun W => count_any B m d W hm
  have HK : Hid (∀ k, k < cntS m → 4 * k < m) := fun k hk => by unfold cntS at hk; omega
  obtain ⟨N, hN⟩ : ∃ N, cntS m = N := ⟨_, rfl⟩
  rw [hN] at HC HS HK hN6
  clear hi hz0 hz1 hz2 h1 h2 hN
  go_enter Try.func12, Try.ntmps12
  go_wp2_with fail
  refine (HC.out _).mono ?_
  rintro e w' ⟨rfl, rfl⟩
  clear HC
  go_wp2_with fail
  go_loopg [5, 10] N (fun g l i wr => ∃ k : Nat, k + g = N ∧ i = .int .i64 k ∧ Hid (DfHead w'.heap.size w' wr (diffR xs ys k) l))
  case atStart => exact ⟨0, by omega, rfl, ⟨OwnPg.made _ _ _, Below.refl _ _, Nat.le_refl _⟩⟩
  case round =>
    obtain ⟨k, hkg, rfl, HD⟩ := hrel
    obtain ⟨ss, hro, hall⟩ := HD.out.own
    obtain ⟨V, vc, rfl⟩ := own_slice hro
    cases gk with
    | zero =>
      have hkn : k = N := by omega
      subst hkn
      have HQ : Hid (PgPost w'.heap.size w' (diffS xs ys) (.returned (.slice V (diffR xs ys k).length vc)) wr) := ⟨_, rfl, by rw [HS.out]; exact HD.out.own, HD.out.below⟩
      have hkk : ¬ (k : Int) < (k : Int) := by omega
      clear hkg hro hall HD HS
      go_wp2_with fail
      go_ret
      exact HQ.out
    | succ g =>
      have hlt : (k : Int) < (N : Int) := by omega
      have hm0 := HK.out k (by omega)
      have HM := Lib.hid hm0
      obtain ⟨b, o, rfl⟩ := HY.out.addr (by omega)
      have HB := Lib.hid HD.out.below
      have hpl : (diffR xs ys k).length ≤ 1000000 := Nat.le_trans (diffR_len xs ys k) (by omega)
      have HL := Lib.hid hpl
      have HRO0 := Lib.hid hro
      have HAL := Lib.hid hall
      have HBS := Lib.hid HD.out.size
      obtain ⟨pl, hpl2⟩ : ∃ x, (diffR xs ys k).length = x := ⟨_, rfl⟩
      have HPL := Lib.hid hpl2
      have HRO : Hid (∀ W, Below wr.heap.size wr W → W.ownsRow w'.heap.size 37 2 (.slice V pl vc) pl (pgC (diffR xs ys k) ss)) := fun W hb => by
        have := own_bel hro hb
        rw [hpl2] at this; exact this
      rw [hpl2]
      have hp6 : pl ≤ 1000000 := by rw [← hpl2]; exact hpl
      have HYP : Hid (∀ W, Below wr.heap.size wr W → ZsAt W (pgS ys k) (some ⟨b, o + 4 * k, none⟩) (min 4 (m - 4 * k))) := fun W hb => ((HY.out.below HB.out).below hb).page k
      obtain ⟨L, hL⟩ : ∃ L, min 4 (m - 4 * k) = L := ⟨_, rfl⟩
      have HCU : Hid (∀ W, Calls Try.prog 27 #[.slice (some ⟨b, o, none⟩) m d, .int .i64 k] W fun e w' => e = .returned (.slice (some ⟨b, o + 4 * k, none⟩) L L) ∧ w' = W) := fun W => by
        have := cut_any b o m d k W hm hd HM.out
        rw [hL] at this; exact this
      rw [hL] at HYP
      have hL4 : L ≤ 4 := by omega
      have HCL : Hid (∀ W, Below wr.heap.size wr W → Calls Try.prog 29 #[.slice (some ⟨b, o + 4 * k, none⟩) L L] W fun e w' => ∃ A' c', e = .returned (.slice A' L c') ∧ w'.ownsRow W.heap.size 3 1 (.slice A' L c') L ((pgS ys k).map (Value.int .i64)) ∧ Below W.heap.size W w') := fun W hb => clone_zs _ _ _ _ W (HYP.out W hb) (by omega)
      have HG := Lib.hid hkg
      clear hL hm0 hpl2 hro hall hkg hpl HD
      have PUSH : Hid (∀ (hdi : xs.length ≠ ys.length ∨ pgS xs k ≠ pgS ys k) (w1 w3 : World) (A' : Option Addr) (c' : Nat) (v' : Value), Below wr.heap.size wr w1 → w1.ownsRow wr.heap.size 3 1 (.slice A' L c') L ((pgS ys k).map (Value.int .i64)) → w3.ownsRow w'.heap.size 37 2 v' (pl + 1) (pgC (diffR xs ys k) ss ++ [.int .i64 k, .slice A' L c']) → (w1.alloc (.cells #[.int .i64 k, .slice A' L c'] 37)).grownBy w3 (Value.ownBlock (.slice V pl vc)) → (v'.ownBlock = Value.ownBlock (.slice V pl vc) ∨ v'.ownBlock = some (w1.alloc (.cells #[.int .i64 k, .slice A' L c'] 37)).heap.size) → DfHead w'.heap.size w' w3 (diffR xs ys (k + 1)) v') := fun hdi w1 w3 A' c' v' hb1 hz hr hg hl => by
        rw [diffR_yes hdi]
        have hp := HPL.out
        subst hp
        exact DfHead.push HB.out HBS.out HRO0.out HAL.out hb1 hz (by omega) hr hg hl
      by_cases hnm : n = m
      · subst hnm
        obtain ⟨b2, o2, rfl⟩ := HX.out.addr (by have := HM.out; omega)
        have HCA : Hid (∀ W, Calls Try.prog 27 #[.slice (some ⟨b2, o2, none⟩) n c, .int .i64 k] W fun e w' => e = .returned (.slice (some ⟨b2, o2 + 4 * k, none⟩) (min 4 (n - 4 * k)) (min 4 (n - 4 * k))) ∧ w' = W) := fun W => cut_any b2 o2 n c k W hm hc HM.out
        have HXP : Hid (∀ W, Below wr.heap.size wr W → ZsAt W (pgS xs k) (some ⟨b2, o2 + 4 * k, none⟩) (min 4 (n - 4 * k))) := fun W hb => ((HX.out.below HB.out).below hb).page k
        obtain ⟨L2, hL2⟩ : ∃ L2, min 4 (n - 4 * k) = L2 := ⟨_, rfl⟩
        rw [hL2] at HCA HXP
        clear hL2
        obtain ⟨q, hq⟩ : ∃ q, decide (pgS xs k = pgS ys k) = q := ⟨_, rfl⟩
        have HE : Hid (Calls Try.prog 28 #[.slice (some ⟨b2, o2 + 4 * k, none⟩) L2 L2, .slice (some ⟨b, o + 4 * k, none⟩) L L] wr fun e w' => e = .returned (.bool q) ∧ Below wr.heap.size wr w') := by
          have := equal_any (pgS xs k) (pgS ys k) _ _ L2 L L2 L wr (HXP.out wr (Below.refl _ _)) (HYP.out wr (Below.refl _ _))
          rw [hq] at this; exact this
        have hnn : ((n : Int) != (n : Int)) = false := by simp
        have HQ := Lib.hid hq
        clear hq HXP
        cases q with
        | true =>
          have hpe : pgS xs k = pgS ys k := of_decide_eq_true HQ.out
          have HNX : Hid (∀ W, Below wr.heap.size wr W → DfHead w'.heap.size w' W (diffR xs ys (k + 1)) (.slice V pl vc)) := fun W hb => by
            rw [diffR_no (by rintro (h | h); exact h (by rw [← hnl.out, ← hml.out]); exact h hpe)]
            have hp := HPL.out
            subst hp
            exact ⟨OwnPg.bel ⟨ss, HRO0.out, HAL.out⟩ hb, HB.out.trans (hb.mono HBS.out), Nat.le_trans HBS.out hb.size⟩
          clear hpe
          go_wp2_with fail
          refine (HCU.out _).mono ?_
          rintro e w1 ⟨rfl, rfl⟩
          go_wp2_with fail
          refine (HCA.out _).mono ?_
          rintro e w2 ⟨rfl, rfl⟩
          go_wp2_with fail
          refine (HE.out).mono ?_
          rintro e w3 ⟨rfl, hb3⟩
          have HB3 := Lib.hid hb3
          clear hb3
          go_wp2_with fail
          have HR := HNX.out _ HB3.out
          go_roundg g
          case rel => exact ⟨k + 1, by have := HG.out; omega, by go_num, HR⟩
          case measure => omega
        | false =>
          have hpe : pgS xs k ≠ pgS ys k := of_decide_eq_false HQ.out
          have HP2 := Lib.hid (PUSH.out (.inr hpe))
          clear hpe PUSH
          go_wp2_with fail
          refine (HCU.out _).mono ?_
          rintro e w1 ⟨rfl, rfl⟩
          go_wp2_with fail
          refine (HCA.out _).mono ?_
          rintro e w2 ⟨rfl, rfl⟩
          go_wp2_with fail
          refine (HE.out).mono ?_
          rintro e w3 ⟨rfl, hb3⟩
          have HB3 := Lib.hid hb3
          clear hb3
          go_wp2_with fail
          refine (HCL.out _ HB3.out).mono ?_
          rintro e w4 ⟨A', c', rfl, hz4, hb4⟩
          have HB4 := Lib.hid (HB3.out.trans (hb4.mono HB3.out.size))
          have HZ4 := Lib.hid (own_base hz4 HB3.out.size)
          clear hz4 hb4
          go_wp2_with (at_builtin; refine wpList_append_own_at _ rfl (.tmp 29) (.tmp 34) 29 rfl w'.heap.size 37 i0 _ 2 32 Try.underlying29 HI.out HI0.out HI1.out HI2.out rfl (by decide) (.slice V pl vc) pl (pgC (diffR xs ys k) ss) (by simp [Act.eval]) (HRO.out _ (HB4.out.alloc HB4.out.size _)) ⟨w4.heap.size, 0, none⟩ 1 1 [.int .i64 k, .slice A' L c'] (by simp [Act.eval]) rfl page_cells (by simp [Value.oneCell']) (by unfold maxLen; omega) (by omega) (by have := HB4.out.size; have := HBS.out; simp only [new_size]; omega) ?_; intro v9 w9 hown9 hgrow9 hnil9 hob9; have HOW := Lib.hid hown9; have HGR := Lib.hid hgrow9; have HOB := Lib.hid hob9; clear hown9 hgrow9 hob9 hnil9)
          have HR := Lib.hid (HP2.out _ _ A' c' v9 HB4.out HZ4.out HOW.out HGR.out HOB.out)
          go_roundg g
          case rel => exact ⟨k + 1, by have := HG.out; omega, by go_num, HR.out⟩
          case measure => omega
      · have hne : ((n : Int) != (m : Int)) = true := by rw [bne_iff_ne]; omega
        have HP2 := Lib.hid (PUSH.out (.inl (by rw [← hnl.out, ← hml.out]; exact hnm)))
        clear PUSH hnm
        go_wp2_with fail
        refine (HCU.out _).mono ?_
        rintro e w2 ⟨rfl, rfl⟩
        go_wp2_with fail
        refine (HCL.out _ (Below.refl _ _)).mono ?_
        rintro e w4 ⟨A', c', rfl, hz4, hb4⟩
        have HB4 := Lib.hid (hb4)
        have HZ4 := Lib.hid (own_base hz4 (Nat.le_refl _))
        clear hz4 hb4
        go_wp2_with (at_builtin; refine wpList_append_own_at _ rfl (.tmp 29) (.tmp 34) 29 rfl w'.heap.size 37 i0 _ 2 32 Try.underlying29 HI.out HI0.out HI1.out HI2.out rfl (by decide) (.slice V pl vc) pl (pgC (diffR xs ys k) ss) (by simp [Act.eval]) (HRO.out _ (HB4.out.alloc HB4.out.size _)) ⟨w4.heap.size, 0, none⟩ 1 1 [.int .i64 k, .slice A' L c'] (by simp [Act.eval]) rfl page_cells (by simp [Value.oneCell']) (by unfold maxLen; omega) (by omega) (by have := HB4.out.size; have := HBS.out; simp only [new_size]; omega) ?_; intro v9 w9 hown9 hgrow9 hnil9 hob9; have HOW := Lib.hid hown9; have HGR := Lib.hid hgrow9; have HOB := Lib.hid hob9; clear hown9 hgrow9 hob9 hnil9)
        have HR := Lib.hid (HP2.out _ _ A' c' v9 HB4.out HZ4.out HOW.out HGR.out HOB.out)
        go_roundg g
        case rel => exact ⟨k + 1, by have := HG.out; omega, by go_num, HR.out⟩
        case measure => omega
end Go.Proofs.Ytkhaapdokhhbdaa
