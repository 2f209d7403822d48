/-
  What change of the laws gives: numbers of the same length in a list of its own. Conditions: at most 1000 numbers; the list of choices is one that the call was given.
-/
import Derived.Test.YtkhaapdokhhbdaaWalkAn
import Derived.Test.YtkhaapdokhhbdaaWalkNx
namespace Go.Proofs.Ytkhaapdokhhbdaa
open Go.RowKit

set_option maxHeartbeats 1000000 in
set_option maxRecDepth 100000 in
theorem change_any (B cb : Nat) (xs : List Int) (A : Option Addr) (n c : Nat) (w : World) (hcd : CodesIn B w cb) (hz : ZsAt w xs A n) (hA : A = none → c = 0) (hn : n ≤ 1000) :
    Calls Try.prog 10 #[.pointer (some ⟨cb, 0, none⟩), .slice A n c] w fun e w' => ∃ G gc ys, e = .returned (.slice G n gc) ∧ List.length ys = n ∧ w'.ownsRow w.heap.size 3 1 (.slice G n gc) n (ys.map (Value.int .i64)) ∧ CodesIn B w' cb ∧ Keep cb w w' := by
  obtain ⟨j0, hj, hj0, hj1, hj2⟩ := info_parts info_ints
  have HJ := Lib.hid hj
  have HJ0 := Lib.hid hj0
  have HJ1 := Lib.hid hj1
  have HJ2 := Lib.hid hj2
  have HC := Lib.hid hcd
  have HCB := Lib.hid hcd.lt
  have HZ := Lib.hid hz
  have HZL := Lib.hid hz.1
  have HA := Lib.hid hA
  clear hj hj0 hj1 hj2 hcd hz hA
  go_enter Try.func10, Try.ntmps10
  go_wp2_with (at_builtin; refine wpList_append_rw rfl _ (.tmp 7) 22 rfl w.heap.size 3 j0 _ 1 8 Try.underlying22 HJ.out HJ0.out HJ1.out HJ2.out rfl (by decide) (.slice none 0 0) 0 [] (by simp [Act.eval]) (World.ownsRow_nil _ _ _ _) A n c (xs.map (Value.int .i64)) (by simp [Act.eval]) HZ.out.rw HA.out (ints_one _) (by unfold maxLen; omega) (by omega) (Nat.le_refl _) ?_; intro v8 w8 hown8 hgrow8 hob8; simp only [Nat.zero_add, List.nil_append] at hown8; obtain ⟨G, gc, rfl⟩ := own_slice hown8; have HB8 := Lib.hid (below_nil hgrow8); have HO8 := Lib.hid hown8; clear hown8 hgrow8 hob8)
  have HC8 := Lib.hid (HC.out.below HB8.out)
  refine (next_keep B cb 4 _ HC8.out (by decide) (by decide)).mono ?_
  rintro e w2 ⟨j, hj4, rfl, hc, hk⟩
  have HC2 := Lib.hid hc
  have HK2 := Lib.hid ((Keep.of_below HB8.out).trans hk)
  have HO2 := Lib.hid (own_keep HO8.out hk HCB.out)
  have hj4' : (j : Int) < 4 := by omega
  clear hc hk
  go_wp2_with fail
  go_loopg [6] j (fun g nn wr => ∃ ys : List Int, nn = .int .i64 (g : Nat) ∧ g ≤ 4 ∧ Hid (ys.length = n ∧ wr.ownsRow w.heap.size 3 1 (.slice G n gc) n (ys.map (Value.int .i64))) ∧ Hid (CodesIn B wr cb) ∧ Hid (Keep cb w wr))
  case atStart => exact ⟨xs, rfl, by omega, ⟨HZL.out.symm, HO2.out⟩, HC2.out, HK2.out⟩
  case round =>
    obtain ⟨ys, rfl, hg4, HY, HCW, HKW⟩ := hrel
    cases gk with
    | zero =>
      go_wp2_with fail
      go_ret
      exact ⟨G, gc, ys, rfl, HY.out.1, HY.out.2, HCW.out, HKW.out⟩
    | succ g =>
      have h0 : (0 : Int) < ((g + 1 : Nat) : Int) := by omega
      have hg5 : ((g + 1 : Nat) : Int) ≤ 4 := by omega
      by_cases hn0 : n = 0
      · subst hn0
        go_wp2_with fail
        go_ret
        exact ⟨G, gc, ys, rfl, HY.out.1, HY.out.2, HCW.out, HKW.out⟩
      · have hp0 : (0 : Int) < (n : Int) := by omega
        have HN0 := Lib.hid hn0
        clear hn0
        go_wp2_with fail
        refine (next_keep B cb n _ HCW.out (by have := HN0.out; omega) (by omega)).mono ?_
        rintro e w3 ⟨i, hi, rfl, hc, hk⟩
        have HC3 := Lib.hid hc
        have HK3 := Lib.hid (HKW.out.trans hk)
        have HO3 := Lib.hid (own_keep HY.out.2 hk HCB.out)
        clear hc hk
        go_wp2_with fail
        refine (int_any B cb _ HC3.out).mono ?_
        rintro e w4 ⟨z, rfl, hzw, hc, hk⟩
        have HC4 := Lib.hid hc
        have HK4 := Lib.hid (HK3.out.trans hk)
        have HO4 := Lib.hid (own_keep HO3.out hk HCB.out)
        clear hc hk hzw
        obtain ⟨g0, rfl, hbg, hncap, hcell, hfz⟩ := own_cell HO4.out hi
        have HBG := Lib.hid hbg
        have HNX : Hid (CodesIn B (w4.setCell ⟨g0, i, none⟩ (.int .i64 z)) cb ∧ Keep cb w (w4.setCell ⟨g0, i, none⟩ (.int .i64 z)) ∧ (ys.set i z).length = n ∧ (w4.setCell ⟨g0, i, none⟩ (.int .i64 z)).ownsRow w.heap.size 3 1 (.slice (some ⟨g0, 0, none⟩) n gc) n ((ys.set i z).map (Value.int .i64))) :=
          ⟨HC4.out.up fun k hk => Below.heap_setCell _ _ _ _ (by show k ≠ g0; have := HCB.out; omega), HK4.out.setNew hbg _, by rw [List.length_set]; exact HY.out.1, own_set HO4.out z⟩
        clear hbg hncap
        go_wp2_with fail
        go_roundg g
        case rel => exact ⟨ys.set i z, by go_num, by omega, ⟨HNX.out.2.2.1, HNX.out.2.2.2⟩, HNX.out.1, HNX.out.2.1⟩
        case measure => omega
end Go.Proofs.Ytkhaapdokhhbdaa
