/-
  The walk of the law ImageComposes. Conditions: its arguments are two lists of pages, whose numbers are ints and whose cells take at most 2^47 bytes each, and a bool.
-/
import Derived.Test.YtkhaapdokhhbdaaLawAp
import Derived.Test.YtkhaapdokhhbdaaWalkRc7
import Derived.Test.YtkhaapdokhhbdaaMathF
namespace Go.Proofs.Ytkhaapdokhhbdaa
open Go.RowKit

theorem mdS_le (x : Int) : -9223372036854775808 ≤ mdS x 6 ∧ mdS x 6 ≤ 9223372036854775807 := by
  have hq := Int.natAbs_tmod x 6
  have hq2 : x.natAbs % (6 : Int).natAbs < 6 := Nat.mod_lt _ (by decide)
  unfold mdS
  have e : ((6 : Nat) : Int) = 6 := rfl
  rw [e]
  split <;> omega
theorem OwnPg.other {base B g k : Nat} {w : World} {v : Value} {ps : List Pg} (h : OwnPg base (fun b => b < B) w v ps) (hv : v.ownBlock ≠ some g) (hB : B ≤ g) (u : Value) : OwnPg base (fun b => b < B) (w.setCell ⟨g, k, none⟩ u) v ps := by
  obtain ⟨ss, hr, ha⟩ := h
  have hg : w.grownBy (w.setCell ⟨g, k, none⟩ u) (some g) := ⟨rfl, rfl, rfl, by simp [World.setCell], fun j _ hne => Below.heap_setCell _ _ _ _ fun e => hne (by rw [e])⟩
  exact ⟨ss, hr.kept hg (.inr hv), ha.still fun b hb _ => ⟨hb, Below.heap_setCell _ _ _ _ (by show b ≠ g; omega)⟩⟩
theorem OwnPg.block {base : Nat} {S : Nat → Prop} {w : World} {v : Value} {ps : List Pg} (h : OwnPg base S w v ps) : ∀ k, v.ownBlock = some k → base ≤ k ∧ k < w.heap.size := by
  obtain ⟨ss, hr, _⟩ := h
  exact fun k hk => hr.lt k hk
theorem Wee.set {qs : List Pg} {k : Nat} {n z : Int} {c : List Int} (h : Wee qs) (hq : qs[k]? = some (n, c)) (hz : -9223372036854775808 ≤ z ∧ z ≤ 9223372036854775807) : Wee (qs.set k (z, c)) := fun p hp => by
  rcases List.mem_or_eq_of_mem_set hp with hp | rfl
  · exact h p hp
  · exact ⟨hz, (h _ (List.mem_of_getElem? hq)).2⟩

set_option maxHeartbeats 4000000 in
set_option maxRecDepth 100000 in
theorem imageComposes_any (xs ys : List Pg) (A B : Option Addr) (n m c d : Nat) (small : Bool) (w : World) (hp : PgAt (fun _ => True) w xs A n) (hp2 : PgAt (fun _ => True) w ys B m) (hA : A = none → c = 0) (hB : B = none → d = 0) (hwx : Wee xs) (hwy : Wee ys) :
    Calls Try.prog 5 #[.slice A n c, .slice B m d, .bool small] w fun e w' => e = .returned (.bool true) ∧ Below w.heap.size w w' := by
  obtain ⟨i0, hi, hz0, hz1, hz2⟩ := info_parts infoPg
  have HI := Lib.hid hi
  have HI0 := Lib.hid hz0
  have HI1 := Lib.hid hz1
  have HI2 := Lib.hid hz2
  have HP := Lib.hid hp
  have HP2 := Lib.hid hp2
  have HN := Lib.hid hp.1
  have HM := Lib.hid hp2.1
  have HA := Lib.hid hA
  have HBN := Lib.hid hB
  have HWX := Lib.hid hwx
  have HWY := Lib.hid hwy
  clear hi hz0 hz1 hz2 hp hp2 hA hB hwx hwy
  by_cases h40 : 40 < n
  · have h2 : (40 : Int) < (n : Int) := by omega
    clear h40
    go_enter Try.func5, Try.ntmps5
    go_wp2_with fail
    refine (awake7_any _).mono ?_
    rintro e w1 ⟨rfl, hb⟩
    have HB1 := Lib.hid hb
    clear hb
    go_wp2_with fail
    go_ret
    exact ⟨rfl, HB1.out⟩
  have h2 : ¬ (40 : Int) < (n : Int) := by omega
  have hn2 : n ≤ 40 := by omega
  clear h40
  by_cases h40 : 40 < m
  · have h2 : (40 : Int) < (m : Int) := by omega
    clear h40
    go_enter Try.func5, Try.ntmps5
    go_wp2_with fail
    refine (awake7_any _).mono ?_
    rintro e w1 ⟨rfl, hb⟩
    have HB1 := Lib.hid hb
    clear hb
    go_wp2_with fail
    go_ret
    exact ⟨rfl, HB1.out⟩
  have h3 : ¬ (40 : Int) < (m : Int) := by omega
  have hm2 : m ≤ 40 := by omega
  clear h40
  go_enter Try.func5, Try.ntmps5
  go_wp2_with fail
  refine (awake7_any _).mono ?_
  rintro e w1 ⟨rfl, hb⟩
  have HB1 := Lib.hid hb
  obtain ⟨sx, hrw, hall⟩ := (HP.out.below hb).rw
  obtain ⟨sy, hrw2, hall2⟩ := (HP2.out.below hb).rw
  have HRW := Lib.hid hrw
  have HAL := Lib.hid hall
  have HRW2 := Lib.hid hrw2
  have HAL2 := Lib.hid hall2
  clear hb hrw hall hrw2 hall2
  go_wp2_with (first
    | (at_builtin; refine wpList_append_rw rfl _ (.tmp 21) 29 rfl w1.heap.size 37 i0 _ 2 32 Try.underlying29 HI.out HI0.out HI1.out HI2.out rfl (by decide) (.slice none 0 0) 0 [] (by simp [Act.eval]) (World.ownsRow_nil _ _ _ _) A n c (pgC xs sx) (by simp [Act.eval]) HRW.out HA.out (pgC_one _ _) (by unfold maxLen; omega) (by omega) (Nat.le_refl _) ?_; intro v8 w8 hown8 hgrow8 hob8; simp only [Nat.zero_add, List.nil_append] at hown8; obtain ⟨G, gc, rfl⟩ := own_slice hown8; have HB8 := Lib.hid (below_nil hgrow8); have HO8 := Lib.hid hown8; clear hown8 hgrow8 hob8)
    | (at_builtin; refine wpList_append_rw rfl _ (.tmp 23) 29 rfl w8.heap.size 37 i0 _ 2 32 Try.underlying29 HI.out HI0.out HI1.out HI2.out rfl (by decide) (.slice none 0 0) 0 [] (by simp [Act.eval]) (World.ownsRow_nil _ _ _ _) B m d (pgC ys sy) (by simp [Act.eval]) (HRW2.out.below (by decide) HB8.out) HBN.out (pgC_one _ _) (by unfold maxLen; omega) (by omega) (Nat.le_refl _) ?_; intro v9 w9 hown9 hgrow9 hob9; simp only [Nat.zero_add, List.nil_append] at hown9; obtain ⟨F, fc, rfl⟩ := own_slice hown9; have HB9 := Lib.hid (below_nil hgrow9); have HO9 := Lib.hid hown9; clear hown9 hgrow9 hob9))
  have HB89 : Hid (Below w1.heap.size w1 w9) := HB8.out.trans (HB9.out.mono HB8.out.size)
  have HLT : Hid (∀ k, Value.ownBlock (.slice G n gc) = some k → k < w8.heap.size) := fun k hk => (HO8.out.lt k hk).2
  have HOA : Hid (OwnPg w1.heap.size (fun b => b < w1.heap.size) w9 (.slice G n gc) xs ∧ xs.length = n ∧ Wee xs) := ⟨⟨sx, own_bel (by rw [← HN.out]; exact HO8.out) HB9.out, HAL.out.still fun b hb hl => ⟨hb, HB89.out.block b hl⟩⟩, HN.out.symm, HWX.out⟩
  have HOB : Hid (OwnPg w8.heap.size (fun b => b < w1.heap.size) w9 (.slice F m fc) ys ∧ ys.length = m ∧ Wee ys) := ⟨⟨sy, by rw [← HM.out]; exact HO9.out, HAL2.out.still fun b hb hl => ⟨hb, HB89.out.block b hl⟩⟩, HM.out.symm, HWY.out⟩
  have HS8 := Lib.hid HB8.out.size
  clear HO8 HO9 HRW HAL HRW2 HAL2
  go_loopg [27] n (fun g i wr => ∃ (k : Nat) (qs : List Pg), k + g = n ∧ i = .int .i64 k ∧ Hid (OwnPg w1.heap.size (fun b => b < w1.heap.size) wr (.slice G n gc) qs ∧ qs.length = n ∧ Wee qs) ∧ Hid (OwnPg w8.heap.size (fun b => b < w1.heap.size) wr (.slice F m fc) ys ∧ ys.length = m ∧ Wee ys) ∧ Hid (Below w1.heap.size w1 wr))
  case atStart => exact ⟨0, xs, by omega, rfl, HOA.out, HOB.out, HB89.out⟩
  case round =>
    obtain ⟨k, qs, hkg, rfl, HQ, HR, HBW⟩ := hrel
    cases gk with
    | zero =>
      have hkm : k = n := by omega
      subst hkm
      have hkk : ¬ (k : Int) < (k : Int) := by omega
      clear hkg HOA HOB HB89
      go_wp2_with fail
      go_loopg [44] m (fun g i wr => ∃ (j : Nat) (rs : List Pg), j + g = m ∧ i = .int .i64 j ∧ Hid (OwnPg w8.heap.size (fun b => b < w1.heap.size) wr (.slice F m fc) rs ∧ rs.length = m ∧ Wee rs) ∧ Hid (OwnPg w1.heap.size (fun b => b < w1.heap.size) wr (.slice G k gc) qs ∧ qs.length = k ∧ Wee qs) ∧ Hid (Below w1.heap.size w1 wr))
      case atStart => exact ⟨0, ys, by omega, rfl, HR.out, HQ.out, HBW.out⟩
      case round =>
        clear HQ HR HBW
        obtain ⟨j, rs, hjg, rfl, HR, HQ, HBW⟩ := hrel
        cases gk with
        | zero =>
          have hjm : j = m := by omega
          subst hjm
          have hjj : ¬ (j : Int) < (j : Int) := by omega
          have hPQ : PgAt (fun _ => True) wr qs G k := by
            obtain ⟨A', c', e, hcc, hpp⟩ := HQ.out.1.slice (by rw [HQ.out.2.1]; omega)
            injection e with e1 e2 e3
            subst e1 e3
            rw [HQ.out.2.1] at hpp
            exact hpp.weak
          have hPR : PgAt (fun _ => True) wr rs F j := by
            obtain ⟨A', c', e, hcc, hpp⟩ := HR.out.1.slice (by rw [HR.out.2.1]; omega)
            injection e with e1 e2 e3
            subst e1 e3
            rw [HR.out.2.1] at hpp
            exact hpp.weak
          have HPQ := Lib.hid hPQ
          have HPR := Lib.hid hPR
          have HWW : Hid (Wee (qs ++ rs)) := fun p hp => by
            rcases List.mem_append.1 hp with hp | hp
            · exact HQ.out.2.2 p hp
            · exact HR.out.2.2 p hp
          have HBA := Lib.hid (HB1.out.trans (HBW.out.mono HB1.out.size))
          obtain ⟨L, hL⟩ := ex_comp (qs ++ rs)
          have HLL := Lib.hid hL
          have hLlen : L.length ≤ 1000000 := by
            have := comp_len hL
            rw [List.length_append, HQ.out.2.1, HR.out.2.1] at this
            omega
          have HLE := Lib.hid hLlen
          clear hjg hPQ hPR hL hLlen
          go_wp2_with fail
          refine (compose_any qs rs L G F k j gc fc _ HPQ.out HPR.out (by omega) (by omega) HWW.out HLL.out).mono ?_
          intro e w5 hp5
          obtain ⟨A5, c5, rfl, hc5, hq5, hb5⟩ := hp5.get (by have := HLE.out; omega)
          have HQ5 := Lib.hid hq5
          have HB5 := Lib.hid hb5
          obtain ⟨ln, hln⟩ : ∃ x, L.length = x := ⟨_, rfl⟩
          rw [hln] at HQ5 hc5
          rw [hln]
          have HLN := Lib.hid hln
          clear hp5 hq5 hb5 hln
          go_wp2_with fail
          refine (rcompose_any qs rs G F k j gc fc _ (HPQ.out.below HB5.out) (HPR.out.below HB5.out) (by omega) (by omega)).mono ?_
          intro e w6 hp6
          obtain ⟨L2, A6, c6, rfl, hL2, hq6, hb6⟩ := hp6
          obtain rfl : L = L2 := HLL.out.eq hL2
          rw [HLN.out] at hq6 ⊢
          have HQ6 := Lib.hid hq6
          have HQ56 := Lib.hid (HQ5.out.belowS hb6)
          have HB6 := Lib.hid (HBA.out.trans ((HB5.out.trans (hb6.mono HB5.out.size)).mono HBA.out.size))
          clear hL2 hq6 hb6
          have HSA : Hid (Calls Try.prog 13 #[.slice A5 ln c5, .slice A6 ln c6] w6 fun e w' => e = .returned (.bool true) ∧ Below w6.heap.size w6 w') := by
            have h := same7_any L L A5 A6 ln ln c5 c6 w6 HQ56.out HQ6.out
            rw [show decide (L = L) = true by simp] at h
            exact h
          go_wp2_with fail
          refine HSA.out.mono ?_
          rintro e w7 ⟨rfl, hb⟩
          have HB7 := Lib.hid (HB6.out.trans (hb.mono HB6.out.size))
          clear hb
          go_wp2_with fail
          go_ret
          exact ⟨rfl, HB7.out⟩
        | succ g =>
          have hlt : j < m := by omega
          have hlt' : (j : Int) < (m : Int) := by omega
          have HG := Lib.hid hjg
          clear hjg
          cases small with
          | false =>
            go_wp2_with fail
            go_roundg g
            case rel => exact ⟨j + 1, rs, by have := HG.out; omega, by go_num, HR.out, HQ.out, HBW.out⟩
            case measure => omega
          | true =>
            obtain ⟨g0, pn, pc, rfl, hqm, hbg, hmc, hq, hcell, hfz, hset⟩ := HR.out.1.cell HS8.out (by rw [HR.out.2.1]; exact hlt)
            have HBG := Lib.hid hbg
            have HSET := Lib.hid hset
            have HE := Lib.hid hq
            obtain ⟨z, hz⟩ : ∃ z, mdS pn 6 = z := ⟨_, rfl⟩
            have HMD : Hid (∀ W, Calls Try.prog 19 #[.int .i64 pn, .int .i64 6] W fun e w' => e = .returned (.int .i64 z) ∧ w' = W) := fun W => by rw [← hz]; exact mod_is pn 6 W (by decide) (by decide)
            have HZ := Lib.hid (mdS_le pn)
            rw [hz] at HZ
            clear hz hbg hset hq hqm
            go_wp2_with fail
            refine (HMD.out _).mono ?_
            rintro e w3 ⟨rfl, rfl⟩
            go_wp2_with fail
            go_roundg g
            case rel => exact ⟨j + 1, rs.set j (z, pc), by have := HG.out; omega, by go_num, ⟨HSET.out z _ (Below.refl _ _), by rw [List.length_set]; exact HR.out.2.1, HR.out.2.2.set HE.out HZ.out⟩, ⟨HQ.out.1.other (fun e => by have := HLT.out _ e; have := HBG.out; omega) (Nat.le_trans HS8.out HBG.out) _, HQ.out.2⟩, HBW.out.setCell (Nat.le_trans HS8.out HBG.out) _⟩
            case measure => omega
    | succ g =>
      have hlt : k < n := by omega
      have hlt' : (k : Int) < (n : Int) := by omega
      have HG := Lib.hid hkg
      clear hkg
      cases small with
      | false =>
        go_wp2_with fail
        go_roundg g
        case rel => exact ⟨k + 1, qs, by have := HG.out; omega, by go_num, HQ.out, HR.out, HBW.out⟩
        case measure => omega
      | true =>
        obtain ⟨g0, pn, pc, rfl, hqm, hbg, hmc, hq, hcell, hfz, hset⟩ := HQ.out.1.cell (Nat.le_refl _) (by rw [HQ.out.2.1]; exact hlt)
        have HBG := Lib.hid hbg
        have HSET := Lib.hid hset
        have HE := Lib.hid hq
        obtain ⟨z, hz⟩ : ∃ z, mdS pn 6 = z := ⟨_, rfl⟩
        have HMD : Hid (∀ W, Calls Try.prog 19 #[.int .i64 pn, .int .i64 6] W fun e w' => e = .returned (.int .i64 z) ∧ w' = W) := fun W => by rw [← hz]; exact mod_is pn 6 W (by decide) (by decide)
        have HZ := Lib.hid (mdS_le pn)
        rw [hz] at HZ
        have HG0 : Hid (g0 < w8.heap.size) := HLT.out g0 rfl
        clear hz hbg hset hq hqm
        go_wp2_with fail
        refine (HMD.out _).mono ?_
        rintro e w3 ⟨rfl, rfl⟩
        go_wp2_with fail
        go_roundg g
        case rel => exact ⟨k + 1, qs.set k (z, pc), by have := HG.out; omega, by go_num, ⟨HSET.out z _ (Below.refl _ _), by rw [List.length_set]; exact HQ.out.2.1, HQ.out.2.2.set HE.out HZ.out⟩, ⟨HR.out.1.other (fun e => by have := (HR.out.1.block _ e).1; have := HG0.out; omega) HBG.out _, HR.out.2⟩, HBW.out.setCell HBG.out _⟩
        case measure => omega
end Go.Proofs.Ytkhaapdokhhbdaa
