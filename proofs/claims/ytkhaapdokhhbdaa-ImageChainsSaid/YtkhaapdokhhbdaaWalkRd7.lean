/-
  What Diff of the document's answer returns: the pages of the second list that the first one does not have. Conditions: at most 1000000 cells each.
-/
import Derived.Test.YtkhaapdokhhbdaaWalkDf
namespace Go.Proofs.Ytkhaapdokhhbdaa
open Go.RowKit

theorem below_nil {w1 w3 : World} (hg : w1.grownBy w3 (Value.ownBlock (.slice none 0 0))) : Below w1.heap.size w1 w3 :=
  below_grow (Below.refl _ _) hg (Nat.le_refl _) fun k hk => by simp [Value.ownBlock] at hk
theorem zs_cells {w : World} {zs : List Int} {b o n : Nat} (h : ZsAt w zs (some ⟨b, o, none⟩) n) : ∀ j u, (zs.map (Value.int .i64))[j]? = some u → w.cell? ((⟨b, o, none⟩ : Addr).add j) = some u := fun j u hj => by
  have h0 : 0 < n := by
    have := (List.getElem?_eq_some_iff.1 hj).1
    rw [List.length_map] at this
    have := h.1; omega
  obtain ⟨b', o', e, hc⟩ := h.rw.2 h0
  injection e with e
  injection e with e1 e2 _
  subst e1 e2
  rw [Addr.add_lit]
  exact hc j u hj

set_option maxHeartbeats 1000000 in
set_option maxRecDepth 100000 in
theorem rdiff_any (xs ys : List Int) (A B : Option Addr) (n m c d : Nat) (w' : World) (h1 : ZsAt w' xs A n) (h2 : ZsAt w' ys B m) (hc : n ≤ c) (hd : m ≤ d) (hn : n ≤ 1000000) (hm : m ≤ 1000000) :
    Calls Try.prog 14 #[.slice A n c, .slice B m d] w' (PgPost w'.heap.size w' (diffS xs ys)) := by
  obtain ⟨i0, hi, hz0, hz1, hz2⟩ := info_parts infoPg
  have HI := Lib.hid hi
  have HI0 := Lib.hid hz0
  have HI1 := Lib.hid hz1
  have HI2 := Lib.hid hz2
  obtain ⟨j0, hj, hj0, hj1, hj2⟩ := info_parts info_ints
  have HJ := Lib.hid hj
  have HJ0 := Lib.hid hj0
  have HJ1 := Lib.hid hj1
  have HJ2 := Lib.hid hj2
  clear hj hj0 hj1 hj2
  have HX := Lib.hid h1
  have HY := Lib.hid h2
  have hnl := Lib.hid h1.1
  have hml := Lib.hid h2.1
  have HS := Lib.hid (show diffS xs ys = diffR xs ys (cntS m) by rw [h2.1]; rfl)
  have hN6 : cntS m ≤ 1000000 := by unfold cntS; omega
  have HC : Hid (∀ W, Calls Try.prog 18 #[.slice B m d] W fun e w' => e = .returned (.int .i64 (cntS m : Nat)) ∧ w' = W) := fun W => rcount_any B m d W hm
  have HK : Hid (∀ k, k < cntS m → 4 * k < m) := fun k hk => by unfold cntS at hk; omega
  obtain ⟨N, hN⟩ : ∃ N, cntS m = N := ⟨_, rfl⟩
  rw [hN] at HC HS HK hN6
  clear hi hz0 hz1 hz2 h1 h2 hN
  go_enter Try.func14, Try.ntmps14
  go_wp2_with fail
  go_loopg [5, 6] N (fun g l i wr => ∃ k : Nat, k + g = N ∧ i = .int .i64 k ∧ Hid (DfHead w'.heap.size w' wr (diffR xs ys k) l))
  case atStart => exact ⟨0, by omega, rfl, ⟨OwnPg.made _ _ _, Below.refl _ _, Nat.le_refl _⟩⟩
  case round =>
    obtain ⟨k, hkg, rfl, HD⟩ := hrel
    obtain ⟨ss, hro, hall⟩ := HD.out.own
    obtain ⟨V, vc, rfl⟩ := own_slice hro
    cases gk with
    | zero =>
      have hkn : k = N := by omega
      subst hkn
      have HQ : Hid (PgPost w'.heap.size w' (diffS xs ys) (.returned (.slice V (diffR xs ys k).length vc)) wr) := ⟨_, rfl, by rw [HS.out]; exact HD.out.own, HD.out.below⟩
      have hkk : ¬ (k : Int) < (k : Int) := by omega
      clear hkg hro hall HD HS
      go_wp2_with fail
      refine (HC.out _).mono ?_
      rintro e w1 ⟨rfl, rfl⟩
      go_wp2_with fail
      go_ret
      exact HQ.out
    | succ g =>
      have hlt : (k : Int) < (N : Int) := by omega
      have hm0 := HK.out k (by omega)
      have HM := Lib.hid hm0
      obtain ⟨b, o, rfl⟩ := HY.out.addr (by omega)
      have HB := Lib.hid HD.out.below
      have hpl : (diffR xs ys k).length ≤ 1000000 := Nat.le_trans (diffR_len xs ys k) (by omega)
      have HL := Lib.hid hpl
      have HRO0 := Lib.hid hro
      have HAL := Lib.hid hall
      have HBS := Lib.hid HD.out.size
      obtain ⟨pl, hpl2⟩ : ∃ x, (diffR xs ys k).length = x := ⟨_, rfl⟩
      have HPL := Lib.hid hpl2
      have HRO : Hid (∀ W, Below wr.heap.size wr W → W.ownsRow w'.heap.size 37 2 (.slice V pl vc) pl (pgC (diffR xs ys k) ss)) := fun W hb => by
        have := own_bel hro hb
        rw [hpl2] at this; exact this
      rw [hpl2]
      have hp6 : pl ≤ 1000000 := by rw [← hpl2]; exact hpl
      have HYP : Hid (∀ W, Below wr.heap.size wr W → ZsAt W (pgS ys k) (some ⟨b, o + 4 * k, none⟩) (min 4 (m - 4 * k))) := fun W hb => ((HY.out.below HB.out).below hb).page k
      obtain ⟨L, hL⟩ : ∃ L, min 4 (m - 4 * k) = L := ⟨_, rfl⟩
      have HCU : Hid (∀ W, Calls Try.prog 30 #[.slice (some ⟨b, o, none⟩) m d, .int .i64 k] W fun e w' => (∃ c', L ≤ c' ∧ e = .returned (.slice (some ⟨b, o + 4 * k, none⟩) L c')) ∧ w' = W) := fun W => by
        have := page_yes b o m d k W hm hd HM.out
        rw [hL] at this; exact this
      rw [hL] at HYP
      have HYC : Hid (((pgS ys k).map (Value.int .i64)).length = L * 1 ∧ ∀ W, Below wr.heap.size wr W → ∀ j u, ((pgS ys k).map (Value.int .i64))[j]? = some u → W.cell? ((⟨b, o + 4 * k, none⟩ : Addr).add j) = some u) := ⟨by rw [List.length_map, Nat.mul_one]; exact (HYP.out wr (Below.refl _ _)).1.symm, fun W hb => zs_cells (HYP.out W hb)⟩
      have hL4 : L ≤ 4 := by omega
      have HG := Lib.hid hkg
      clear hL hm0 hpl2 hro hall hkg hpl HD
      have PUSH : Hid (∀ (hdi : xs.length ≠ ys.length ∨ pgS xs k ≠ pgS ys k) (w1 w3 : World) (A' : Option Addr) (c' : Nat) (v' : Value), Below wr.heap.size wr w1 → w1.ownsRow wr.heap.size 3 1 (.slice A' L c') L ((pgS ys k).map (Value.int .i64)) → w3.ownsRow w'.heap.size 37 2 v' (pl + 1) (pgC (diffR xs ys k) ss ++ [.int .i64 k, .slice A' L c']) → (w1.alloc (.cells #[.int .i64 k, .slice A' L c'] 37)).grownBy w3 (Value.ownBlock (.slice V pl vc)) → (v'.ownBlock = Value.ownBlock (.slice V pl vc) ∨ v'.ownBlock = some (w1.alloc (.cells #[.int .i64 k, .slice A' L c'] 37)).heap.size) → DfHead w'.heap.size w' w3 (diffR xs ys (k + 1)) v') := fun hdi w1 w3 A' c' v' hb1 hz hr hg hl => by
        rw [diffR_yes hdi]
        have hp := HPL.out
        subst hp
        exact DfHead.push HB.out HBS.out HRO0.out HAL.out hb1 hz (by omega) hr hg hl
      obtain ⟨q, hq⟩ : ∃ q, decide (pgS xs k = pgS ys k) = q := ⟨_, rfl⟩
      have HQ := Lib.hid hq
      have HPX : Hid (∀ W, Below wr.heap.size wr W → Calls Try.prog 30 #[.slice A n c, .int .i64 k] W fun e w' => (∃ A2 L2 c2, e = .returned (.slice A2 L2 c2) ∧ ZsAt W (pgS xs k) A2 L2) ∧ w' = W) := fun W hb => by
        have hz := (HX.out.below HB.out).below hb
        by_cases hin : 4 * k < n
        · obtain ⟨b2, o2, rfl⟩ := HX.out.addr (by omega)
          refine (page_yes b2 o2 n c k W hn hc hin).mono ?_
          rintro e w2 ⟨⟨c2, _, rfl⟩, rfl⟩
          exact ⟨⟨_, _, _, rfl, hz.page k⟩, rfl⟩
        · refine (page_no A n c k W hn (.inr (by unfold cntS; omega))).mono ?_
          rintro e w2 ⟨rfl, rfl⟩
          refine ⟨⟨_, _, _, rfl, ?_⟩, rfl⟩
          rw [pgS_out xs k (by rw [← hnl.out]; unfold cntS; omega)]
          exact zs_nil _
      have HSA : Hid (∀ W A2 L2 c2 c3, Below wr.heap.size wr W → ZsAt W (pgS xs k) A2 L2 → Calls Try.prog 22 #[.slice A2 L2 c2, .slice (some ⟨b, o + 4 * k, none⟩) L c3] W fun e w' => e = .returned (.bool q) ∧ Below W.heap.size W w') := fun W A2 L2 c2 c3 hb hz => by
        have := sameInts_any (pgS xs k) (pgS ys k) _ _ L2 L c2 c3 W hz (HYP.out W hb)
        rw [hq] at this; exact this
      clear hq
      go_wp2_with fail
      refine (HC.out _).mono ?_
      rintro e w1 ⟨rfl, rfl⟩
      go_wp2_with fail
      refine (HPX.out _ (Below.refl _ _)).mono ?_
      rintro e w2 ⟨⟨A2, L2, c2, rfl, hz2⟩, rfl⟩
      have HZ2 := Lib.hid hz2
      clear hz2
      go_wp2_with fail
      refine (HCU.out _).mono ?_
      rintro e w3 ⟨⟨c3, hc3, rfl⟩, rfl⟩
      by_cases hnm : n = m
      · have hnn : ((n : Int) != (m : Int)) = false := by simp [hnm]
        have HNM := Lib.hid hnm
        clear hnm
        cases q with
        | true =>
          have hpe : pgS xs k = pgS ys k := of_decide_eq_true HQ.out
          have HNX : Hid (∀ W, Below w3.heap.size w3 W → DfHead w'.heap.size w' W (diffR xs ys (k + 1)) (.slice V pl vc)) := fun W hb => by
            rw [diffR_no (by rintro (h | h); exact h (by rw [← hnl.out, ← hml.out]; exact HNM.out); exact h hpe)]
            have hp := HPL.out
            subst hp
            exact ⟨OwnPg.bel ⟨ss, HRO0.out, HAL.out⟩ hb, HB.out.trans (hb.mono HBS.out), Nat.le_trans HBS.out hb.size⟩
          clear hpe
          go_wp2_with fail
          refine (HSA.out _ _ _ _ _ (Below.refl _ _) HZ2.out).mono ?_
          rintro e w4 ⟨rfl, hb3⟩
          have HB3 := Lib.hid hb3
          clear hb3
          go_wp2_with fail
          have HR := HNX.out _ HB3.out
          go_roundg g
          case rel => exact ⟨k + 1, by have := HG.out; omega, by go_num, HR⟩
          case measure => omega
        | false =>
          have hpe : pgS xs k ≠ pgS ys k := of_decide_eq_false HQ.out
          have HP2 := Lib.hid (PUSH.out (.inr hpe))
          clear hpe PUSH
          go_wp2_with fail
          refine (HSA.out _ _ _ _ _ (Below.refl _ _) HZ2.out).mono ?_
          rintro e w4 ⟨rfl, hb3⟩
          have HB3 := Lib.hid hb3
          clear hb3
          go_wp2_with (first
            | (at_builtin; refine wpList_append_own_at _ rfl _ (.tmp 34) 22 rfl w4.heap.size 3 j0 _ 1 8 Try.underlying22 HJ.out HJ0.out HJ1.out HJ2.out rfl (by decide) (.slice none 0 0) 0 [] (by simp [Act.eval]) (World.ownsRow_nil _ _ _ _) ⟨b, o + 4 * k, none⟩ L c3 ((pgS ys k).map (Value.int .i64)) (by simp [Act.eval]) (HYC.out.1) (HYC.out.2 _ HB3.out) (ints_one _) (by unfold maxLen; omega) (by omega) (Nat.le_refl _) ?_; intro v8 w8 hown8 hgrow8 hnil8 hob8; simp only [Nat.zero_add, List.nil_append] at hown8; obtain ⟨A', c', rfl⟩ := own_slice hown8; have HB8 := Lib.hid (below_nil hgrow8); have HB4 := Lib.hid (HB3.out.trans (HB8.out.mono HB3.out.size)); have HZ4 := Lib.hid (own_base hown8 HB3.out.size); clear hown8 hgrow8 hob8 hnil8)
            | (at_builtin; refine wpList_append_own_at _ rfl (.tmp 32) (.tmp 37) 29 rfl w'.heap.size 37 i0 _ 2 32 Try.underlying29 HI.out HI0.out HI1.out HI2.out rfl (by decide) (.slice V pl vc) pl (pgC (diffR xs ys k) ss) (by simp [Act.eval]) (HRO.out _ (HB4.out.alloc HB4.out.size _)) ⟨w8.heap.size, 0, none⟩ 1 1 [.int .i64 k, .slice A' L c'] (by simp [Act.eval]) rfl page_cells (by simp [Value.oneCell']) (by unfold maxLen; omega) (by omega) (by have := HB4.out.size; have := HBS.out; simp only [new_size]; omega) ?_; intro v9 w9 hown9 hgrow9 hnil9 hob9; have HOW := Lib.hid hown9; have HGR := Lib.hid hgrow9; have HOB := Lib.hid hob9; clear hown9 hgrow9 hob9 hnil9))
          have HR := Lib.hid (HP2.out _ _ A' c' v9 HB4.out HZ4.out HOW.out HGR.out HOB.out)
          go_roundg g
          case rel => exact ⟨k + 1, by have := HG.out; omega, by go_num, HR.out⟩
          case measure => omega
      · have hnn : ((n : Int) != (m : Int)) = true := by rw [bne_iff_ne]; omega
        have HP2 := Lib.hid (PUSH.out (.inl (by rw [← hnl.out, ← hml.out]; exact hnm)))
        clear hnm PUSH
        have HB3 := Lib.hid (Below.refl w3.heap.size w3)
        go_wp2_with (first
          | (at_builtin; refine wpList_append_own_at _ rfl _ (.tmp 34) 22 rfl w3.heap.size 3 j0 _ 1 8 Try.underlying22 HJ.out HJ0.out HJ1.out HJ2.out rfl (by decide) (.slice none 0 0) 0 [] (by simp [Act.eval]) (World.ownsRow_nil _ _ _ _) ⟨b, o + 4 * k, none⟩ L c3 ((pgS ys k).map (Value.int .i64)) (by simp [Act.eval]) (HYC.out.1) (HYC.out.2 _ HB3.out) (ints_one _) (by unfold maxLen; omega) (by omega) (Nat.le_refl _) ?_; intro v8 w8 hown8 hgrow8 hnil8 hob8; simp only [Nat.zero_add, List.nil_append] at hown8; obtain ⟨A', c', rfl⟩ := own_slice hown8; have HB8 := Lib.hid (below_nil hgrow8); have HB4 := Lib.hid (HB3.out.trans (HB8.out.mono HB3.out.size)); have HZ4 := Lib.hid (own_base hown8 HB3.out.size); clear hown8 hgrow8 hob8 hnil8)
          | (at_builtin; refine wpList_append_own_at _ rfl (.tmp 32) (.tmp 37) 29 rfl w'.heap.size 37 i0 _ 2 32 Try.underlying29 HI.out HI0.out HI1.out HI2.out rfl (by decide) (.slice V pl vc) pl (pgC (diffR xs ys k) ss) (by simp [Act.eval]) (HRO.out _ (HB4.out.alloc HB4.out.size _)) ⟨w8.heap.size, 0, none⟩ 1 1 [.int .i64 k, .slice A' L c'] (by simp [Act.eval]) rfl page_cells (by simp [Value.oneCell']) (by unfold maxLen; omega) (by omega) (by have := HB4.out.size; have := HBS.out; simp only [new_size]; omega) ?_; intro v9 w9 hown9 hgrow9 hnil9 hob9; have HOW := Lib.hid hown9; have HGR := Lib.hid hgrow9; have HOB := Lib.hid hob9; clear hown9 hgrow9 hob9 hnil9))
        have HR := Lib.hid (HP2.out _ _ A' c' v9 HB4.out HZ4.out HOW.out HGR.out HOB.out)
        go_roundg g
        case rel => exact ⟨k + 1, by have := HG.out; omega, by go_num, HR.out⟩
        case measure => omega
end Go.Proofs.Ytkhaapdokhhbdaa
