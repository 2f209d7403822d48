/-
  The walk of the law ImageDiffs. Conditions: its arguments are two lists of ints and a list of bytes.
-/
import Derived.Test.YtkhaapdokhhbdaaLawBk
import Derived.Test.YtkhaapdokhhbdaaWalkSq
import Derived.Test.YtkhaapdokhhbdaaWalkRd7
namespace Go.Proofs.Ytkhaapdokhhbdaa
open Go.RowKit

theorem pair_cells {w : World} {T : TypeId} {fr : Nat × Nat} {n : Nat} {u v : Value} (h : w.heap[n]? = some (.cells #[u, v] T fr)) : w.cell? ⟨n, 0, none⟩ = some u ∧ w.cell? ⟨n, 1, none⟩ = some v := ⟨by rw [Lib.cell_of_heap h]; rfl, by rw [Lib.cell_of_heap h]; rfl⟩

set_option maxHeartbeats 4000000 in
set_option maxRecDepth 100000 in
theorem imageDiffs_any (xs ys : List Int) (A B : Option Addr) (l m c d : Nat) (bv : Value) (w : World) (hz : ZsAt w xs A l) (hz2 : ZsAt w ys B m) (hlc : l ≤ c) (hmd : m ≤ d) (hA : A = none → c = 0) (hb : BytesIn w.heap.size w bv) :
    Calls Try.prog 3 #[.slice A l c, .slice B m d, bv] w fun e w' => e = .returned (.bool true) ∧ Below w.heap.size w w' := by
  have HZ := Lib.hid hz
  have HZ2 := Lib.hid hz2
  have HL := Lib.hid hz.1
  have HM := Lib.hid hz2.1
  have HBY := Lib.hid hb
  have HA := Lib.hid hA
  clear hz hz2 hb hA
  by_cases h200 : 200 < l
  · have h2 : (200 : Int) < (l : Int) := by omega
    clear h200
    go_enter Try.func3, Try.ntmps3
    go_wp2_with fail
    refine (awake7_any _).mono ?_
    rintro e w1 ⟨rfl, hb⟩
    have HB1 := Lib.hid hb
    clear hb
    go_wp2_with fail
    go_ret
    exact ⟨rfl, HB1.out⟩
  have h2 : ¬ (200 : Int) < (l : Int) := by omega
  have hl2 : l ≤ 200 := by omega
  clear h200
  by_cases h200 : 200 < m
  · have h2 : (200 : Int) < (m : Int) := by omega
    clear h200
    go_enter Try.func3, Try.ntmps3
    go_wp2_with fail
    refine (awake7_any _).mono ?_
    rintro e w1 ⟨rfl, hb⟩
    have HB1 := Lib.hid hb
    clear hb
    go_wp2_with fail
    go_ret
    exact ⟨rfl, HB1.out⟩
  have h3 : ¬ (200 : Int) < (m : Int) := by omega
  have hm2 : m ≤ 200 := by omega
  clear h200
  go_enter Try.func3, Try.ntmps3
  go_wp2_with fail
  refine (awake7_any _).mono ?_
  rintro e w1 ⟨rfl, hb⟩
  have HB1 := Lib.hid hb
  have HY1 := Lib.hid (HBY.out.below hb)
  clear hb
  go_wp2_with fail
  refine (new_any w.heap.size bv 40 _ HY1.out HB1.out.size (by decide)).mono ?_
  rintro e w2 ⟨cb, A2, n2, c2, rfl, hn2, hcs, hcb, hb⟩
  have HB2 := Lib.hid (HB1.out.trans (hb.mono HB1.out.size))
  have HC2 : Hid (CodesIn w.heap.size w2 cb) := ⟨A2, n2, c2, 0, hcs⟩
  have HCB := Lib.hid (Nat.le_trans HB1.out.size hcb)
  clear hcs hcb hb hn2
  go_wp2_with fail
  refine (change_any w.heap.size cb xs A l c _ HC2.out (HZ.out.below HB2.out) HA.out (by omega)).mono ?_
  rintro e w3 ⟨G, gc, zs, rfl, hyl, how, hcd, hk⟩
  have HB3 := Lib.hid (HB2.out.trans (hk.below HB2.out.size HCB.out))
  have HYZ := Lib.hid (ZsAt.own how (by omega))
  have hgc := (own_zs how (by omega)).2.1
  have HGC := Lib.hid hgc
  clear hyl how hcd hk hgc
  go_wp2_with fail
  obtain ⟨w4, hw4⟩ : ∃ w4, w3.alloc (.cells #[.slice B m d, .slice G l gc] 22) = w4 := ⟨_, rfl⟩
  have HX4 : Hid (w4.heap[w3.heap.size]? = some (.cells #[.slice B m d, .slice G l gc] 22 (0, 0))) := hw4 ▸ new_blk w3 _
  have hb4 : Below w3.heap.size w3 w4 := hw4 ▸ (Below.refl _ _).alloc (Nat.le_refl _) _
  have HB4 := Lib.hid (HB3.out.trans (hb4.mono HB3.out.size))
  have HYZ4 := Lib.hid (HYZ.out.below hb4)
  simp only [hw4]
  clear hw4 hb4
  obtain ⟨N3, hN3⟩ : ∃ x, w3.heap.size = x := ⟨_, rfl⟩
  rw [hN3] at HX4
  rw [hN3]
  clear hN3
  have ROUND : Hid (∀ (wr : World) (vs : List Int) (V : Option Addr) (n q : Nat), Below w4.heap.size w4 wr → ZsAt wr vs V n → n ≤ q → n ≤ 200 → True) := fun _ _ _ _ _ _ _ _ _ => trivial
  clear ROUND
  go_loopg [29] 2 (fun g i wr => ∃ k : Nat, k + g = 2 ∧ i = .int .i64 k ∧ Hid (Below w4.heap.size w4 wr))
  case atStart => exact ⟨0, by omega, rfl, Below.refl _ _⟩
  case round =>
    obtain ⟨k, hkg, rfl, HBW⟩ := hrel
    cases gk with
    | zero =>
      have hk2 : k = 2 := by omega
      subst hk2
      clear hkg
      go_wp2_with fail
      go_ret
      exact ⟨rfl, HB4.out.trans (HBW.out.mono HB4.out.size)⟩
    | succ g =>
      have hlt : k < 2 := by omega
      have HG := Lib.hid hkg
      obtain ⟨vs, V, n, q, hcell, hvz, hnq, hn2⟩ : ∃ (vs : List Int) (V : Option Addr) (n q : Nat), wr.cell? ⟨N3, k, none⟩ = some (.slice V n q) ∧ ZsAt wr vs V n ∧ n ≤ q ∧ n ≤ 200 := by
        obtain ⟨q0, q1⟩ := pair_cells (below_blk HBW.out HX4.out)
        match k, hlt with
        | 0, _ => exact ⟨ys, B, m, d, q0, (HZ2.out.below HB4.out).below HBW.out, hmd, hm2⟩
        | 1, _ => exact ⟨zs, G, l, gc, q1, HYZ4.out.below HBW.out, HGC.out, hl2⟩
      have HV := Lib.hid hvz
      have HNL := Lib.hid hvz.1
      have HBW2 := Lib.hid (HB4.out.trans (HBW.out.mono HB4.out.size))
      have hlt' : (k : Int) < 2 := by omega
      clear hkg hvz
      go_wp2_with fail
      refine (diff_any xs vs A V l n c q _ (HZ.out.below HBW2.out) HV.out hlc hnq (by omega) (by omega)).mono ?_
      intro e w5 hp
      have hdl : (diffS xs vs).length ≤ 1000 := Nat.le_trans (diffS_len xs vs) (by rw [← HNL.out]; unfold cntS; omega)
      obtain ⟨A5, c5, rfl, hc5, hp5, hb5⟩ := hp.get (by omega)
      have HB5 := Lib.hid (HBW2.out.trans (hb5.mono HBW2.out.size))
      have HBB5 := Lib.hid (HBW.out.trans (hb5.mono HBW.out.size))
      have HV5 := Lib.hid (HV.out.below hb5)
      have HP5 := Lib.hid hp5
      have HCO := Lib.hid (Nat.le_trans (diff_cost xs vs) (Nat.le_of_eq HNL.out.symm))
      obtain ⟨dn, hdn⟩ : ∃ x, (diffS xs vs).length = x := ⟨_, rfl⟩
      rw [hdn] at HP5 hc5 hdl
      rw [hdn]
      have HDN := Lib.hid hdn
      clear hp hp5 hb5 hdn
      go_wp2_with fail
      refine (rdiff_any xs vs A V l n c q _ (HZ.out.below HB5.out) HV5.out hlc hnq (by omega) (by omega)).mono ?_
      intro e w6 hp
      obtain ⟨A6, c6, rfl, hc6, hp6, hb6⟩ := hp.get (by rw [HDN.out]; omega)
      rw [HDN.out] at hp6 hc6 ⊢
      have HP6 := Lib.hid hp6
      have HP56 := Lib.hid (HP5.out.belowS hb6)
      have HBB6 := Lib.hid (HBB5.out.trans (hb6.mono HBB5.out.size))
      clear hp hp6 hb6
      have HSA : Hid (Calls Try.prog 13 #[.slice A5 dn c5, .slice A6 dn c6] w6 fun e w' => e = .returned (.bool true) ∧ Below w6.heap.size w6 w') := by
        have h := same7_any (diffS xs vs) (diffS xs vs) A5 A6 dn dn c5 c6 w6 HP56.out HP6.out
        rw [show decide (diffS xs vs = diffS xs vs) = true by simp] at h
        exact h
      go_wp2_with fail
      refine HSA.out.mono ?_
      rintro e w7 ⟨rfl, hb⟩
      have HP7 := Lib.hid (HP56.out.belowS hb)
      have HBB7 := Lib.hid (HBB6.out.trans (hb.mono HBB6.out.size))
      clear hb HSA
      obtain ⟨cs, hcs⟩ : ∃ x, costS (diffS xs vs) = x := ⟨_, rfl⟩
      have HCS := Lib.hid hcs
      have hcl : cs ≤ n := by rw [← hcs]; exact HCO.out
      clear hcs
      have HCA : Hid (∀ W, Below w7.heap.size w7 W → Calls Try.prog 15 #[.slice A5 dn c5] W fun e w' => e = .returned (.int .i64 (cs : Nat)) ∧ Below W.heap.size W w') := fun W hb => by
        have h := cost_any (diffS xs vs) A5 dn c5 W (HP7.out.belowS hb) (by rw [HCS.out]; omega)
        rw [HCS.out] at h
        exact h
      have HCR : Hid (∀ W, Below w7.heap.size w7 W → Calls Try.prog 16 #[.slice A5 dn c5] W fun e w' => e = .returned (.int .i64 (cs : Nat)) ∧ Below W.heap.size W w') := fun W hb => by
        have h := rcost_any (diffS xs vs) A5 dn c5 W (HP7.out.belowS hb) (by rw [HCS.out]; omega)
        rw [HCS.out] at h
        exact h
      go_wp2_with fail
      refine (HCA.out _ (Below.refl _ _)).mono ?_
      rintro e w8 ⟨rfl, hb8⟩
      have HB8 := Lib.hid hb8
      clear hb8
      go_wp2_with fail
      refine (HCR.out _ HB8.out).mono ?_
      rintro e w9 ⟨rfl, hb9⟩
      have HB9 := Lib.hid (HBB7.out.trans ((HB8.out.trans (hb9.mono HB8.out.size)).mono HBB7.out.size))
      clear hb9
      have hcc : ((cs : Int) != (cs : Int)) = false := by simp
      obtain ⟨CN, hCN⟩ : ∃ x, cntS n = x := ⟨_, rfl⟩
      have HK1 : Hid (∀ W, Calls Try.prog 17 #[.slice V n q] W fun e w' => e = .returned (.int .i64 (CN : Nat)) ∧ w' = W) := fun W => by rw [← hCN]; exact count_any V n q W (by omega)
      have HK2 : Hid (∀ W, Calls Try.prog 18 #[.slice V n q] W fun e w' => e = .returned (.int .i64 (CN : Nat)) ∧ w' = W) := fun W => by rw [← hCN]; exact rcount_any V n q W (by omega)
      have hcn : ((CN : Int) != (CN : Int)) = false := by simp
      clear hCN
      go_wp2_with fail
      refine (HK1.out _).mono ?_
      rintro e wa ⟨rfl, rfl⟩
      go_wp2_with fail
      refine (HK2.out _).mono ?_
      rintro e wb ⟨rfl, rfl⟩
      go_wp2_with fail
      go_roundg g
      case rel => exact ⟨k + 1, by have := HG.out; omega, by go_num, HB9.out⟩
      case measure => omega
end Go.Proofs.Ytkhaapdokhhbdaa
