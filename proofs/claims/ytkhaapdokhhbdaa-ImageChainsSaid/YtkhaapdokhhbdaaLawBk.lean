/-
  The walk of the law ImageBack. Conditions: its arguments are a list of ints and a list of bytes.
-/
import Derived.Test.YtkhaapdokhhbdaaWalkCh7
import Derived.Test.YtkhaapdokhhbdaaWalkAw7
import Derived.Test.YtkhaapdokhhbdaaWalkCo7
namespace Go.Proofs.Ytkhaapdokhhbdaa
open Go.RowKit

theorem PgPost.get {base : Nat} {w w' : World} {ps : List Pg} {e : Ending} (h : PgPost base w ps e w') (hm : ps.length ≤ 9223372036854775807) : ∃ A c, e = .returned (.slice A ps.length c) ∧ ps.length ≤ c ∧ PgAt (fun b => base ≤ b) w' ps A ps.length ∧ Below base w w' := by
  obtain ⟨v, rfl, ho, hb⟩ := h
  obtain ⟨A, c, rfl, hc, hp⟩ := ho.slice hm
  exact ⟨A, c, rfl, hc, hp.still fun b hS _ => ⟨by rcases hS with hS | hS; exact hS.1; exact hS, rfl⟩, hb⟩
theorem diffS_len (a b : List Int) : (diffS a b).length ≤ cntS b.length := diffR_len a b _
theorem ApPost.ok {w w' : World} {zs : List Int} {e : Ending} (h : ApPost w (zs, 0) e w') : ∃ A c, e = .returned (.tuple #[.slice A zs.length c, .int .i64 0]) ∧ ZsAt w' zs A zs.length ∧ Below w.heap.size w w' := h

set_option maxHeartbeats 4000000 in
set_option maxRecDepth 100000 in
theorem imageBack_any (xs : List Int) (A : Option Addr) (l c : Nat) (bv : Value) (w : World) (hz : ZsAt w xs A l) (hlc : l ≤ c) (hA : A = none → c = 0) (hb : BytesIn w.heap.size w bv) :
    Calls Try.prog 6 #[.slice A l c, bv] w fun e w' => e = .returned (.bool true) ∧ Below w.heap.size w w' := by
  have HZ := Lib.hid hz
  have HL := Lib.hid hz.1
  have HBY := Lib.hid hb
  have HA := Lib.hid hA
  clear hz hb hA
  by_cases h200 : 200 < l
  · have h2 : (200 : Int) < (l : Int) := by omega
    clear h200
    go_enter Try.func6, Try.ntmps6
    go_wp2_with fail
    refine (awake7_any _).mono ?_
    rintro e w1 ⟨rfl, hb⟩
    have HB1 := Lib.hid hb
    clear hb
    go_wp2_with fail
    go_ret
    exact ⟨rfl, HB1.out⟩
  have h2 : ¬ (200 : Int) < (l : Int) := by omega
  have hl2 : l ≤ 200 := by omega
  clear h200
  go_enter Try.func6, Try.ntmps6
  go_wp2_with fail
  refine (awake7_any _).mono ?_
  rintro e w1 ⟨rfl, hb⟩
  have HB1 := Lib.hid hb
  have HY1 := Lib.hid (HBY.out.below hb)
  clear hb
  go_wp2_with fail
  refine (new_any w.heap.size bv 40 _ HY1.out HB1.out.size (by decide)).mono ?_
  rintro e w2 ⟨cb, A2, n2, c2, rfl, hn2, hcs, hcb, hb⟩
  have HB2 := Lib.hid (HB1.out.trans (hb.mono HB1.out.size))
  have HC2 : Hid (CodesIn w.heap.size w2 cb) := ⟨A2, n2, c2, 0, hcs⟩
  have HCB := Lib.hid (Nat.le_trans HB1.out.size hcb)
  clear hcs hcb hb hn2
  go_wp2_with fail
  refine (change_any w.heap.size cb xs A l c _ HC2.out (HZ.out.below HB2.out) HA.out (by omega)).mono ?_
  rintro e w3 ⟨G, gc, ys, rfl, hyl, how, hcd, hk⟩
  have HB3 := Lib.hid (HB2.out.trans (hk.below HB2.out.size HCB.out))
  have HOW := Lib.hid how
  have HYL := Lib.hid hyl
  have HZ3 := Lib.hid (HZ.out.below HB3.out)
  have HYZ := Lib.hid (ZsAt.own how (by omega))
  have HGC := Lib.hid (own_zs how (by omega)).2.1
  clear hyl how hcd hk
  go_wp2_with fail
  refine (diff_any xs ys A G l l c gc _ HZ3.out HYZ.out hlc HGC.out (by omega) (by omega)).mono ?_
  intro e w4 hp
  have hdl : (diffS xs ys).length ≤ 1000 := Nat.le_trans (diffS_len xs ys) (by rw [HYL.out]; unfold cntS; omega)
  obtain ⟨A4, c4, rfl, hc4, hp4, hb4⟩ := hp.get (by omega)
  have HB4 := Lib.hid (HB3.out.trans (hb4.mono HB3.out.size))
  have HY4 := Lib.hid (HYZ.out.below hb4)
  have HP4 := Lib.hid hp4
  have HCO := Lib.hid (Nat.le_trans (diff_cost xs ys) (Nat.le_of_eq HYL.out))
  obtain ⟨dn, hdn⟩ : ∃ x, (diffS xs ys).length = x := ⟨_, rfl⟩
  rw [hdn] at HP4 hc4 hdl
  rw [hdn]
  clear hp hp4 hb4 hdn
  go_wp2_with fail
  refine (apply_any xs (diffS xs ys) A A4 l dn c c4 _ (HZ.out.below HB4.out) HP4.out (by omega)).mono ?_
  intro e w5 hp
  rw [diff_back xs ys (by rw [HYL.out, ← HL.out])] at hp
  obtain ⟨A5, c5, rfl, hz5, hb5⟩ := hp.ok
  rw [HYL.out] at hz5 ⊢
  have HB5 := Lib.hid (HB4.out.trans (hb5.mono HB4.out.size))
  have HY5 := Lib.hid (HY4.out.below hb5)
  have HP5 := Lib.hid (HP4.out.belowS hb5)
  have HZ5 := Lib.hid hz5
  clear hp hz5 hb5
  have HSI : Hid (Calls Try.prog 22 #[.slice G l gc, .slice A5 l c5] w5 fun e w' => e = .returned (.bool true) ∧ Below w5.heap.size w5 w') := by
    have h := sameInts_any ys ys G A5 l l gc c5 w5 HY5.out HZ5.out
    rw [show decide (ys = ys) = true by simp] at h
    exact h
  go_wp2_with fail
  refine HSI.out.mono ?_
  rintro e w6 ⟨rfl, hb⟩
  have HB6 := Lib.hid (HB5.out.trans (hb.mono HB5.out.size))
  have HY6 := Lib.hid (HY5.out.below hb)
  have HP6 := Lib.hid (HP5.out.belowS hb)
  clear hb HSI
  obtain ⟨cs, hcs⟩ : ∃ x, costS (diffS xs ys) = x := ⟨_, rfl⟩
  have HCS := Lib.hid hcs
  have hcl : cs ≤ l := by rw [← hcs]; exact HCO.out
  clear hcs
  have HCA : Hid (Calls Try.prog 15 #[.slice A4 dn c4] w6 fun e w' => e = .returned (.int .i64 (cs : Nat)) ∧ Below w6.heap.size w6 w') := by
    have h := cost_any (diffS xs ys) A4 dn c4 w6 HP6.out (by rw [HCS.out]; omega)
    rw [HCS.out] at h
    exact h
  go_wp2_with fail
  refine HCA.out.mono ?_
  rintro e w7 ⟨rfl, hb⟩
  have HB7 := Lib.hid (HB6.out.trans (hb.mono HB6.out.size))
  have HY7 := Lib.hid (HY6.out.below hb)
  clear hb HCA
  have hcl' : (cs : Int) ≤ (l : Int) := by omega
  have HDD : Hid (Calls Try.prog 12 #[.slice G l gc, .slice G l gc] w7 (PgPost w7.heap.size w7 [])) := by
    have h := diff_any ys ys G G l l gc gc w7 HY7.out HY7.out HGC.out HGC.out (by omega) (by omega)
    rw [diff_self] at h
    exact h
  go_wp2_with fail
  refine HDD.out.mono ?_
  intro e w8 hp
  obtain ⟨A8, c8, rfl, hb⟩ := hp.none
  have HB8 := Lib.hid (HB7.out.trans (hb.mono HB7.out.size))
  clear hp hb HDD
  go_wp2_with fail
  go_ret
  exact ⟨rfl, HB8.out⟩
end Go.Proofs.Ytkhaapdokhhbdaa
