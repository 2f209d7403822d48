/-
  What Apply of the document's answer returns: the cells with the pages replaced, as a list of its own, or nothing and an error. Conditions: at most 1000000 cells.
-/
import Derived.Test.YtkhaapdokhhbdaaWalkAn
namespace Go.Proofs.Ytkhaapdokhhbdaa
open Go.RowKit

theorem cell_up {w W : World} (hb : Below w.heap.size w W) {b o : Nat} {v : Value} (h : w.cell? ⟨b, o, none⟩ = some v) : W.cell? ⟨b, o, none⟩ = some v :=
  (hb.cell (p := ⟨b, o, none⟩) (World.block_lt_of_cell? w _ h)).trans h
theorem put_step (zs pc : List Int) (j k : Nat) (hk : k < pc.length) (hj : 4 * j + pc.length ≤ zs.length) : (putS zs j (pc.take k)).set (j * 4 + k) (pc.getD k 0) = putS zs j (pc.take (k + 1)) := by
  have hl : (pc.take k).length = k := by simp; omega
  have hl2 : (pc.take (k + 1)).length = k + 1 := by simp; omega
  have hz : (zs.take (4 * j)).length = 4 * j := by simp; omega
  unfold putS
  rw [hl, hl2, List.append_assoc, List.append_assoc, List.set_append_right _ _ (by rw [hz]; omega), hz, List.set_append_right _ _ (by rw [hl]; omega), hl, show j * 4 + k - 4 * j - k = 0 by omega, List.drop_eq_getElem_cons (show 4 * j + k < zs.length by omega), List.set_cons_zero, List.take_add_one, List.getD_eq_getElem?_getD, List.getElem?_eq_getElem hk]
  have e : pc.take (k + 1) = pc.take k ++ [pc[k]] := by rw [List.take_add_one, List.getElem?_eq_getElem hk]; rfl
  simp only [Option.toList_some, Option.getD_some, Nat.add_assoc, List.append_assoc, List.singleton_append]
theorem put_none (zs : List Int) (j : Nat) : putS zs j [] = zs := by simp [putS]

set_option maxHeartbeats 4000000 in
set_option maxRecDepth 100000 in
theorem rapply_any {S : Nat → Prop} (xs : List Int) (ps : List Pg) (A B : Option Addr) (n m c d : Nat) (w : World) (h1 : ZsAt w xs A n) (h2 : PgAt S w ps B m) (hn : n ≤ 1000000) (hnc0 : n ≤ c) (hA : A = none → c = 0) :
    Calls Try.prog 21 #[.slice A n c, .slice B m d] w (ApPost w (appS xs ps)) := by
  obtain ⟨j0, hj, hj0, hj1, hj2⟩ := info_parts info_ints
  have HJ := Lib.hid hj
  have HJ0 := Lib.hid hj0
  have HJ1 := Lib.hid hj1
  have HJ2 := Lib.hid hj2
  have HX := Lib.hid h1
  have HY := Lib.hid h2
  have HA := Lib.hid hA
  have HXL := Lib.hid h1.1
  have hii : (m : Int) ≤ 9223372036854775807 := by have := h2.2.1; omega
  have HM := Lib.hid h2.1
  have HN6 : cntS n ≤ 1000000 := by unfold cntS; omega
  obtain ⟨N, hN⟩ : ∃ N, cntS n = N := ⟨_, rfl⟩
  have HNN := Lib.hid hN
  have HCN : Hid (∀ W, Calls Try.prog 18 #[.slice A n c] W fun e w' => e = .returned (.int .i64 (N : Nat)) ∧ w' = W) := fun W => by rw [← HNN.out]; exact rcount_any A n c W hn
  obtain ⟨R, hR⟩ : ∃ R, appS xs ps = R := ⟨_, rfl⟩
  rw [hR]
  have HR := Lib.hid hR
  clear hj hj0 hj1 hj2 h1 h2 hN hR hA
  go_enter Try.func21, Try.ntmps21
  go_wp2_with (at_builtin; refine wpList_append_rw rfl _ (.tmp 10) 22 rfl w.heap.size 3 j0 _ 1 8 Try.underlying22 HJ.out HJ0.out HJ1.out HJ2.out rfl (by decide) (.slice none 0 0) 0 [] (by simp [Act.eval]) (World.ownsRow_nil _ _ _ _) A n c (xs.map (Value.int .i64)) (by simp [Act.eval]) HX.out.rw HA.out (ints_one _) (by unfold maxLen; omega) (by omega) (Nat.le_refl _) ?_; intro v8 w8 hown8 hgrow8 hob8; simp only [Nat.zero_add, List.nil_append] at hown8; obtain ⟨G, gc, rfl⟩ := own_slice hown8; have HB8 := Lib.hid (below_nil hgrow8); have HO8 := Lib.hid hown8; clear hown8 hgrow8 hob8)
  go_loopg [7] m (fun g i wr => ∃ (k : Nat) (zs : List Int), k + g = m ∧ i = .int .i64 k ∧ Hid (zs.length = n ∧ appS zs (ps.drop k) = R) ∧ Hid (wr.ownsRow w.heap.size 3 1 (.slice G n gc) n (zs.map (Value.int .i64))) ∧ Hid (Below w.heap.size w wr))
  case atStart => exact ⟨0, xs, by omega, rfl, ⟨HXL.out.symm, by simpa using HR.out⟩, HO8.out, HB8.out⟩
  case round =>
    obtain ⟨k, zs, hkg, rfl, HS, HOW, HB⟩ := hrel
    cases gk with
    | zero =>
      have hkn : k = m := by omega
      subst hkn
      have hnl : ¬ (k : Int) < (k : Int) := by omega
      have HQ : Hid (ApPost w R (.returned (.tuple #[.slice G n gc, .int .i64 0])) wr) := by
        refine ApPost.of (zs := zs) ?_ (ZsAt.own HOW.out (by omega)) HB.out
        have := HS.out.2
        rw [List.drop_eq_nil_of_le (by have := HM.out; omega)] at this
        exact this
      clear hkg
      go_wp2_with fail
      go_ret2
      exact HQ.out
    | succ g =>
      have hlt : k < m := by omega
      have hlt' : (k : Int) < (m : Int) := by omega
      have hk0 : (0 : Int) ≤ (k : Int) := by omega
      have HG := Lib.hid hkg
      obtain ⟨b1, o1, p, A1, c1, rfl, hp, f1, f2, _, hz1⟩ := HY.out.get hlt
      obtain ⟨pn, pc⟩ := p
      simp only at f1 f2 hz1
      have HD := Lib.hid (drop_at hp)
      have HZ := Lib.hid hz1.at
      obtain ⟨l1, hl1⟩ : ∃ x, pc.length = x := ⟨_, rfl⟩
      rw [hl1] at f2 HZ
      have F1 := Lib.hid f1
      have F2 := Lib.hid f2
      have HL1 := Lib.hid hl1
      have HSR : Hid (appS zs ((pn, pc) :: ps.drop (k + 1)) = R) := by show _ = _; rw [← HD.out]; exact HS.out.2
      have HZL := Lib.hid HS.out.1
      have HCT : Hid (cntS zs.length = N) := by show _ = _; rw [HZL.out]; exact HNN.out
      have g1 := cell_up HB.out F1.out
      have g2 := cell_up HB.out F2.out
      clear hkg hp hz1 hl1 HD f1 f2
      by_cases hlo : pn < 0
      · have HQ : Hid (ApPost w R (.returned (.tuple #[.slice none 0 0, .int .i64 3])) wr) := ApPost.of (zs := []) (by rw [← HSR.out, appS_range (.inl hlo)]) (zs_nil wr) HB.out
        go_wp2_with fail
        go_ret2
        exact HQ.out
      · by_cases hhi : (N : Int) ≤ pn
        · have HQ : Hid (ApPost w R (.returned (.tuple #[.slice none 0 0, .int .i64 3])) wr) := ApPost.of (zs := []) (by rw [← HSR.out, appS_range (.inr (by rw [HCT.out]; exact hhi))]) (zs_nil wr) HB.out
          go_wp2_with fail
          refine (HCN.out _).mono ?_
          rintro e w3 ⟨rfl, rfl⟩
          go_wp2_with fail
          go_ret2
          exact HQ.out
        · obtain ⟨j, rfl⟩ := Int.eq_ofNat_of_zero_le (show 0 ≤ pn by omega)
          have hjN : j < N := by omega
          have hjn : 4 * j < n := by have := HNN.out; unfold cntS at this; omega
          obtain ⟨b2, o2, rfl⟩ := HX.out.addr (by omega)
          have HPG : Hid (∀ W, Calls Try.prog 30 #[.slice (some ⟨b2, o2, none⟩) n c, .int .i64 j] W fun e w' => e = .returned (.slice (some ⟨b2, o2 + 4 * j, none⟩) (min 4 (n - 4 * j)) (c - 4 * j)) ∧ w' = W) := fun W => page_is b2 o2 n c j W hn hnc0 hjn
          have HPL : Hid ((pgS zs j).length = min 4 (n - 4 * j)) := by show _ = _; rw [pgS_len, HZL.out]
          have hLn : 4 * j + min 4 (n - 4 * j) ≤ n := by omega
          obtain ⟨L, hL⟩ : ∃ L, min 4 (n - 4 * j) = L := ⟨_, rfl⟩
          rw [hL] at HPG HPL hLn
          have hL4 : L ≤ 4 := by omega
          have hlo' : ¬ ((j : Int) < 0) := hlo
          have HNR : Hid (¬ ((j : Int) < 0 ∨ (cntS zs.length : Int) ≤ j)) := fun h => by rw [HCT.out] at h; omega
          clear hL hjn
          by_cases hls : l1 = L
          · subst hls
            have hll : ((l1 : Int) != (l1 : Int)) = false := by simp
            have HNX : Hid ((putS zs j pc).length = n ∧ appS (putS zs j pc) (ps.drop (k + 1)) = R) := by
              refine ⟨?_, ?_⟩
              · rw [putS_len (by rw [HL1.out, HPL.out]) (by rw [HZL.out]; omega), HZL.out]
              · have := appS_put (p := ((j : Int), pc)) (r := ps.drop (k + 1)) HNR.out (by show pc.length = (pgS zs (Int.toNat (j : Int))).length; rw [HL1.out, Int.toNat_natCast, HPL.out])
                rw [← HSR.out, this, Int.toNat_natCast]
            go_wp2_with fail
            refine (HCN.out _).mono ?_
            rintro e w3 ⟨rfl, rfl⟩
            go_upto_region 8 with fail
            go_quiet ((go_at_call 30; exact Calls.quiet_of_same (HPG.out _)))
            obtain ⟨w4, hw4⟩ : ∃ w4, w3.drewN nq = w4 := ⟨_, rfl⟩
            have HB4 : Hid (Below w3.heap.size w3 w4) := hw4 ▸ below_drewN (Below.refl _ _) nq
            have HO4 := Lib.hid (own_bel HOW.out HB4.out)
            have HBB4 := Lib.hid (HB.out.trans (HB4.out.mono HB.out.size))
            simp only [hw4]
            clear hw4 g1 g2
            go_wp2_with fail
            go_loopg [9] l1 (fun g2 i2 w5 => ∃ kk : Nat, kk + g2 = l1 ∧ i2 = .int .i64 kk ∧ Hid (w5.ownsRow w.heap.size 3 1 (.slice G n gc) n ((putS zs j (pc.take kk)).map (Value.int .i64))) ∧ Hid (Below w.heap.size w w5))
            case atStart => exact ⟨0, by omega, rfl, by rw [List.take_zero, put_none]; exact HO4.out, HBB4.out⟩
            case round =>
              obtain ⟨kk, hkg2, rfl, HO5, HB5⟩ := hrel
              have g2' := cell_up HB5.out F2.out
              cases gk with
              | zero =>
                have hkl : kk = l1 := by omega
                subst hkl
                have hnl : ¬ (kk : Int) < (kk : Int) := by omega
                have HO6 : Hid (wr.ownsRow w.heap.size 3 1 (.slice G n gc) n ((putS zs j pc).map (Value.int .i64))) := by
                  have := HO5.out
                  rw [List.take_of_length_le (by rw [HL1.out]; exact Nat.le_refl _)] at this
                  exact this
                clear hkg2
                go_wp2_with fail
                go_roundg g
                case rel => exact ⟨k + 1, putS zs j pc, by have := HG.out; omega, by go_num, HNX.out, HO6.out, HB5.out⟩
                case measure => omega
              | succ g2 =>
                have hkl : kk < l1 := by omega
                have hkl' : (kk : Int) < (l1 : Int) := by omega
                have HG2 := Lib.hid hkg2
                obtain ⟨b5, o5, rfl⟩ := HZ.out.addr (by omega)
                have e1 := ZsAt.cell (HZ.out.below HB5.out) hkl
                have hin : j * 4 + kk < n := by omega
                obtain ⟨gg, rfl, hbg, hgc, hcell, hfz⟩ := own_cell HO5.out hin
                have HBG := Lib.hid hbg
                have HST := Lib.hid (own_set (k := j * 4 + kk) HO5.out (pc.getD kk 0))
                rw [put_step zs pc j kk (by rw [HL1.out]; exact hkl) (by rw [HL1.out, HZL.out]; exact hLn)] at HST
                obtain ⟨X, hX⟩ : ∃ X, pc.getD kk 0 = X := ⟨_, rfl⟩
                rw [hX] at e1 HST
                clear hX hkg2 hbg
                go_wp2_with fail
                go_roundg g2
                case rel => exact ⟨kk + 1, by have := HG2.out; omega, by go_num, HST.out, HB5.out.setCell HBG.out _⟩
                case measure => omega
          · have hll : ((l1 : Int) != (L : Int)) = true := by rw [bne_iff_ne]; omega
            have HQ : Hid (∀ W, Below wr.heap.size wr W → ApPost w R (.returned (.tuple #[.slice none 0 0, .int .i64 7])) W) := fun W hb => ApPost.of (zs := []) (by rw [← HSR.out, appS_shape HNR.out (by show pc.length ≠ (pgS zs (Int.toNat (j : Int))).length; rw [HL1.out, Int.toNat_natCast, HPL.out]; exact hls)]) (zs_nil W) (HB.out.trans (hb.mono HB.out.size))
            go_wp2_with fail
            refine (HCN.out _).mono ?_
            rintro e w3 ⟨rfl, rfl⟩
            go_upto_region 8 with fail
            go_quiet ((go_at_call 30; exact Calls.quiet_of_same (HPG.out _)))
            go_wp2_with fail
            go_ret2
            exact HQ.out _ (below_drewN (Below.refl _ _) _)
end Go.Proofs.Ytkhaapdokhhbdaa
