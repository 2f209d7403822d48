/-
  The walk of the law ImageApplies. Conditions: its arguments are a list of ints and a list of pages.
-/
import Derived.Test.YtkhaapdokhhbdaaWalkRap
import Derived.Test.YtkhaapdokhhbdaaWalkSq
import Derived.Test.YtkhaapdokhhbdaaWalkAw7
import Derived.Test.YtkhaapdokhhbdaaLawDi
import Derived.RegionTactic
namespace Go.Proofs.Ytkhaapdokhhbdaa
open Go.RowKit

def mdS (x : Int) (n : Nat) : Int := if x.tmod n < 0 then x.tmod n + n else x.tmod n
set_option maxHeartbeats 400000 in
set_option maxRecDepth 100000 in
theorem mod_is (x : Int) (n : Nat) (w : World) (hn : 0 < n) (hn2 : n ≤ 100000) :
    Calls Try.prog 19 #[.int .i64 x, .int .i64 n] w fun e w' => e = .returned (.int .i64 (mdS x n)) ∧ w' = w := by
  have hq := Int.natAbs_tmod x n
  have hq2 : x.natAbs % (n : Int).natAbs < n := by rw [Int.natAbs_natCast]; exact Nat.mod_lt _ hn
  have hb1 : -(n : Int) < Int.tmod x n := by omega
  have hb2 : Int.tmod x n < n := by omega
  obtain ⟨R, hR⟩ : ∃ R, mdS x n = R := ⟨_, rfl⟩
  rw [hR]
  have HR := Lib.hid hR
  clear hq hq2 hR
  go_enter Try.func19, Try.ntmps19
  have hz : ((n : Int) == 0) = false := beq_eq_false_iff_ne.2 (by omega)
  go_wp2
  · have h0 : x.tmod n < 0 := by assumption
    go_ret
    exact ⟨ret_int (by rw [← HR.out, mdS, if_pos h0]), rfl⟩
  · have h0 : 0 ≤ x.tmod n := by assumption
    go_ret
    exact ⟨ret_int (by rw [← HR.out, mdS, if_neg (by omega)]), rfl⟩
theorem PgAt.rw {S : Nat → Prop} {w : World} {ps : List Pg} {A : Option Addr} {n : Nat} (h : PgAt S w ps A n) : ∃ ss, RwAt w 2 (pgC ps ss) A n ∧ PgAll (fun b => b < w.heap.size) w ps ss := by
  obtain ⟨h1, _, ss, h3, h4⟩ := h
  refine ⟨ss, ⟨by rw [pgC_len ps ss h3.len, h1], fun h0 => ?_⟩, h3.still fun b _ hb => ⟨hb, rfl⟩⟩
  obtain ⟨b, o, hA, _, hc⟩ := h4 h0
  exact ⟨b, o, hA, hc⟩
theorem pgC_set : ∀ (ps : List Pg) (ss : List Sl) (k : Nat) (z n : Int) (c : List Int), ps[k]? = some (n, c) → ss.length = ps.length → (pgC ps ss).set (k * 2) (.int .i64 z) = pgC (ps.set k (z, c)) ss
  | [], _, _, _, _, _, h, _ => by simp at h
  | _ :: _, [], _, _, _, _, _, h => by simp at h
  | p :: r, s :: t, 0, z, n, c, h, _ => by
    simp only [List.getElem?_cons_zero, Option.some.injEq] at h
    subst h
    rfl
  | p :: r, s :: t, k + 1, z, n, c, h, hl => by
    simp only [List.getElem?_cons_succ] at h
    simp only [List.length_cons] at hl
    have ih := pgC_set r t k z n c h (by omega)
    simp only [pgC, List.set_cons_succ]
    rw [show (k + 1) * 2 = k * 2 + 1 + 1 by omega, List.set_cons_succ, List.set_cons_succ, ih]
theorem PgAll.set {S : Nat → Prop} {w : World} : ∀ {ps : List Pg} {ss : List Sl} {k : Nat} {n z : Int} {c : List Int}, PgAll S w ps ss → ps[k]? = some (n, c) → PgAll S w (ps.set k (z, c)) ss
  | [], _, _, _, _, _, _, h => by simp at h
  | _ :: _, [], _, _, _, _, h, _ => h.elim
  | _ :: _, _ :: _, 0, _, _, _, h, hk => by
    simp only [List.getElem?_cons_zero, Option.some.injEq] at hk
    subst hk
    exact ⟨h.1, h.2⟩
  | _ :: _, _ :: _, k + 1, _, _, _, h, hk => by
    simp only [List.getElem?_cons_succ] at hk
    exact ⟨h.1, PgAll.set h.2 hk⟩
/-- A page of a list of the call's own, and what writing its number leaves. -/
theorem OwnPg.cell {base B : Nat} {w : World} {A : Option Addr} {n c k : Nat} {qs : List Pg} (h : OwnPg base (fun b => b < B) w (.slice A n c) qs) (hB : B ≤ base) (hk : k < qs.length) :
    ∃ g pn pc, A = some ⟨g, 0, none⟩ ∧ n = qs.length ∧ base ≤ g ∧ n ≤ c ∧ qs[k]? = some (pn, pc) ∧ w.cell? ⟨g, k * 2, none⟩ = some (.int .i64 pn) ∧ w.frozen? ⟨g, k * 2, none⟩ = false ∧
      ∀ (z : Int) (W : World), Below w.heap.size w W → OwnPg base (fun b => b < B) (W.setCell ⟨g, k * 2, none⟩ (.int .i64 z)) (.slice A n c) (qs.set k (z, pc)) := by
  obtain ⟨ss, ⟨h1, ⟨e, h0⟩ | ⟨g0, cap, cur, e, hbg, hblk, hnc, hcm, hcs, htk⟩⟩, hall⟩ := h
  · omega
  · injection e with e1 e2 e3
    subst e1 e3
    obtain ⟨⟨pn, pc⟩, hp⟩ : ∃ p, qs[k]? = some p := ⟨_, List.getElem?_eq_getElem hk⟩
    obtain ⟨s, hs, _⟩ := hall.get hp
    have hx := (pgC_at qs ss k _ s hp hs).1
    refine ⟨g0, pn, pc, rfl, e2, hbg, by omega, hp, ?_, Lib.frozen_of_heap hblk _, fun z W hW => ⟨ss, ⟨?_, .inr ⟨g0, c, _, by rw [e2, List.length_set], hbg, blk_set ((hW.block g0 (lt_of_block hblk)).trans hblk) _ _, by rw [List.length_set]; exact hnc, hcm, by simpa using hcs, ?_⟩⟩, ?_⟩⟩
    · rw [Nat.mul_comm 2 k] at hx
      have hlt : k * 2 < qs.length * 2 := by omega
      rw [← htk, List.getElem?_take_of_lt hlt] at hx
      rw [Lib.cell_of_heap hblk, ← Array.getElem?_toList]
      exact hx
    · rw [pgC_len _ _ (by rw [List.length_set]; exact hall.len)]
    · rw [Array.toList_setIfInBounds, List.length_set, List.take_set, htk, pgC_set qs ss k z pn pc hp hall.len]
    · exact (PgAll.set (hall.still fun b hb hlt => ⟨hb, (Below.heap_setCell _ _ _ _ (by show b ≠ g0; omega)).trans (hW.block b hlt)⟩) hp)

set_option maxHeartbeats 4000000 in
set_option maxRecDepth 100000 in
theorem imageApplies_any (xs : List Int) (ps : List Pg) (A B : Option Addr) (l m c d : Nat) (w : World) (hz : ZsAt w xs A l) (hp : PgAt (fun _ => True) w ps B m) (hlc : l ≤ c) (hmd : m ≤ d) (hA : A = none → c = 0) (hB : B = none → d = 0) :
    Calls Try.prog 4 #[.slice A l c, .slice B m d] w fun e w' => e = .returned (.bool true) ∧ Below w.heap.size w w' := by
  obtain ⟨i0, hi, hz0, hz1, hz2⟩ := info_parts infoPg
  have HI := Lib.hid hi
  have HI0 := Lib.hid hz0
  have HI1 := Lib.hid hz1
  have HI2 := Lib.hid hz2
  have HZ := Lib.hid hz
  have HP := Lib.hid hp
  have HL := Lib.hid hz.1
  have HM := Lib.hid hp.1
  have HA := Lib.hid hA
  have HBN := Lib.hid hB
  clear hi hz0 hz1 hz2 hz hp hA hB
  by_cases h200 : 200 < l
  · have h2 : (200 : Int) < (l : Int) := by omega
    clear h200
    go_enter Try.func4, Try.ntmps4
    go_wp2_with fail
    refine (awake7_any _).mono ?_
    rintro e w1 ⟨rfl, hb⟩
    have HB1 := Lib.hid hb
    clear hb
    go_wp2_with fail
    go_ret
    exact ⟨rfl, HB1.out⟩
  have h2 : ¬ (200 : Int) < (l : Int) := by omega
  have hl2 : l ≤ 200 := by omega
  clear h200
  by_cases h200 : 50 < m
  · have h2 : (50 : Int) < (m : Int) := by omega
    clear h200
    go_enter Try.func4, Try.ntmps4
    go_wp2_with fail
    refine (awake7_any _).mono ?_
    rintro e w1 ⟨rfl, hb⟩
    have HB1 := Lib.hid hb
    clear hb
    go_wp2_with fail
    go_ret
    exact ⟨rfl, HB1.out⟩
  have h3 : ¬ (50 : Int) < (m : Int) := by omega
  have hm2 : m ≤ 50 := by omega
  clear h200
  go_enter Try.func4, Try.ntmps4
  go_wp2_with fail
  refine (awake7_any _).mono ?_
  rintro e w1 ⟨rfl, hb⟩
  have HB1 := Lib.hid hb
  obtain ⟨ss, hrw, hall⟩ := (HP.out.below hb).rw
  have HRW := Lib.hid hrw
  have HAL := Lib.hid hall
  clear hb hrw hall
  go_wp2_with (at_builtin; refine wpList_append_rw rfl _ (.tmp 23) 29 rfl w1.heap.size 37 i0 _ 2 32 Try.underlying29 HI.out HI0.out HI1.out HI2.out rfl (by decide) (.slice none 0 0) 0 [] (by simp [Act.eval]) (World.ownsRow_nil _ _ _ _) B m d (pgC ps ss) (by simp [Act.eval]) HRW.out HBN.out (pgC_one _ _) (by unfold maxLen; omega) (by omega) (Nat.le_refl _) ?_; intro v8 w8 hown8 hgrow8 hob8; simp only [Nat.zero_add, List.nil_append] at hown8; obtain ⟨G, gc, rfl⟩ := own_slice hown8; have HB8 := Lib.hid (below_nil hgrow8); have HO8 := Lib.hid hown8; clear hown8 hgrow8 hob8)
  have HOP : Hid (OwnPg w1.heap.size (fun b => b < w1.heap.size) w8 (.slice G m gc) ps ∧ ps.length = m) := ⟨⟨ss, by rw [← HM.out]; exact HO8.out, HAL.out.still fun b hb hl => ⟨hb, HB8.out.block b hl⟩⟩, HM.out.symm⟩
  clear HO8 HRW HAL
  obtain ⟨N, hN⟩ : ∃ N, cntS l = N := ⟨_, rfl⟩
  have HCN : Hid (∀ W, Calls Try.prog 17 #[.slice A l c] W fun e w' => e = .returned (.int .i64 (N : Nat)) ∧ w' = W) := fun W => by rw [← hN]; exact count_any A l c W (by omega)
  have hN2 : N ≤ 1000 := by rw [← hN]; unfold cntS; omega
  clear hN
  go_loopg [27] m (fun g i wr => ∃ (k : Nat) (qs : List Pg), k + g = m ∧ i = .int .i64 k ∧ Hid (OwnPg w1.heap.size (fun b => b < w1.heap.size) wr (.slice G m gc) qs ∧ qs.length = m) ∧ Hid (Below w1.heap.size w1 wr))
  case atStart => exact ⟨0, ps, by omega, rfl, HOP.out, HB8.out⟩
  case round =>
    obtain ⟨k, qs, hkg, rfl, HQ, HBW⟩ := hrel
    cases gk with
    | zero =>
      have hkm : k = m := by omega
      subst hkm
      have hkk : ¬ (k : Int) < (k : Int) := by omega
      have hPQ : PgAt (fun _ => True) wr qs G k ∧ k ≤ gc := by
        obtain ⟨A', c', e, hcc, hpp⟩ := HQ.out.1.slice (by rw [HQ.out.2]; omega)
        injection e with e1 e2 e3
        subst e1 e3
        rw [HQ.out.2] at hpp hcc
        exact ⟨hpp.weak, hcc⟩
      have HPQ := Lib.hid hPQ.1
      have hkg2 := hPQ.2
      have HBA := Lib.hid (HB1.out.trans (HBW.out.mono HB1.out.size))
      clear hkg hPQ HQ
      go_wp2_with fail
      obtain ⟨w4, hw4⟩ : ∃ w4, wr.alloc (.cells #[.slice B k d, .slice G k gc] 29) = w4 := ⟨_, rfl⟩
      have HX4 : Hid (w4.heap[wr.heap.size]? = some (.cells #[.slice B k d, .slice G k gc] 29 (0, 0))) := hw4 ▸ new_blk wr _
      have hb4 : Below wr.heap.size wr w4 := hw4 ▸ (Below.refl _ _).alloc (Nat.le_refl _) _
      have HB4 := Lib.hid (HBA.out.trans (hb4.mono HBA.out.size))
      have HPQ4 := Lib.hid (HPQ.out.below hb4)
      simp only [hw4]
      clear hw4 hb4
      obtain ⟨N3, hN3⟩ : ∃ x, wr.heap.size = x := ⟨_, rfl⟩
      rw [hN3] at HX4
      rw [hN3]
      clear hN3
      go_loopg [55] 2 (fun g i w5 => ∃ j : Nat, j + g = 2 ∧ i = .int .i64 j ∧ Hid (Below w4.heap.size w4 w5))
      case atStart => exact ⟨0, by omega, rfl, Below.refl _ _⟩
      case round =>
        obtain ⟨j, hjg, rfl, HBX⟩ := hrel
        cases gk with
        | zero =>
          have hk2 : j = 2 := by omega
          subst hk2
          clear hjg
          go_wp2_with fail
          go_ret
          exact ⟨rfl, HB4.out.trans (HBX.out.mono HB4.out.size)⟩
        | succ g =>
          have hlt : j < 2 := by omega
          have HG := Lib.hid hjg
          obtain ⟨vs, V, q, hcell, hvp, hq⟩ : ∃ (vs : List Pg) (V : Option Addr) (q : Nat), wr.cell? ⟨N3, j, none⟩ = some (.slice V k q) ∧ PgAt (fun _ => True) wr vs V k ∧ k ≤ q := by
            obtain ⟨q0, q1⟩ := pair_cells (below_blk HBX.out HX4.out)
            match j, hlt with
            | 0, _ => exact ⟨ps, B, d, q0, (HP.out.below HB4.out).below HBX.out, hmd⟩
            | 1, _ => exact ⟨qs, G, gc, q1, HPQ4.out.below HBX.out, hkg2⟩
          have HV := Lib.hid hvp
          have HBX2 := Lib.hid (HB4.out.trans (HBX.out.mono HB4.out.size))
          have hlt' : (j : Int) < 2 := by omega
          obtain ⟨R, hR⟩ : ∃ R, appS xs vs = R := ⟨_, rfl⟩
          have HA1 := Lib.hid (apply_any xs vs A V l k c q wr (HZ.out.below HBX2.out) HV.out (by omega))
          have HA2 : Hid (∀ W, Below wr.heap.size wr W → Calls Try.prog 21 #[.slice A l c, .slice V k q] W (ApPost W R)) := fun W hb => by
            have h := rapply_any xs vs A V l k c q W ((HZ.out.below HBX2.out).below hb) (HV.out.below hb) (by omega) hlc HA.out
            rw [hR] at h
            exact h
          rw [hR] at HA1
          obtain ⟨rz, rx⟩ := R
          clear hjg hvp hR
          go_wp2_with fail
          refine HA1.out.mono ?_
          intro e w5 hp5
          obtain ⟨A5, c5, rfl, hz5, hb5⟩ := hp5
          have HB5 := Lib.hid hb5
          have HZ5 := Lib.hid hz5
          have HA2' := Lib.hid (HA2.out w5 hb5)
          obtain ⟨rl, hrl⟩ : ∃ x, rz.length = x := ⟨_, rfl⟩
          simp only at HZ5
          simp only
          rw [hrl] at HZ5
          rw [hrl]
          have HRL := Lib.hid hrl
          clear hb5 hz5 hrl
          go_wp2_with fail
          refine HA2'.out.mono ?_
          intro e w6 hp6
          obtain ⟨A6, c6, rfl, hz6, hb6⟩ := hp6
          simp only at hz6
          simp only
          rw [HRL.out] at hz6 ⊢
          have HZ6 := Lib.hid hz6
          have HZ56 := Lib.hid (HZ5.out.below hb6)
          have HB6 := Lib.hid (HBX.out.trans ((HB5.out.trans (hb6.mono HB5.out.size)).mono HBX.out.size))
          clear hb6 hz6
          have hxx : (rx != rx) = false := by simp
          have HSI : Hid (Calls Try.prog 22 #[.slice A5 rl c5, .slice A6 rl c6] w6 fun e w' => e = .returned (.bool true) ∧ Below w6.heap.size w6 w') := by
            have h := sameInts_any rz rz A5 A6 rl rl c5 c6 w6 HZ56.out HZ6.out
            rw [show decide (rz = rz) = true by simp] at h
            exact h
          go_wp2_with fail
          refine HSI.out.mono ?_
          rintro e w7 ⟨rfl, hb⟩
          have HB7 := Lib.hid (HB6.out.trans (hb.mono HB6.out.size))
          clear hb
          go_wp2_with fail
          go_roundg g
          case rel => exact ⟨j + 1, by have := HG.out; omega, by go_num, HB7.out⟩
          case measure => omega
    | succ g =>
      have hlt : k < m := by omega
      have hlt' : (k : Int) < (m : Int) := by omega
      have HG := Lib.hid hkg
      clear hkg
      by_cases hev : k % 2 = 0 ∧ 0 < N
      · obtain ⟨he1, he2⟩ := hev
        have hev' : ((k : Int) % 2 == 0) = true := by rw [beq_iff_eq]; omega
        have hN0 : (0 : Int) < (N : Int) := by omega
        obtain ⟨g0, pn, pc, rfl, hqm, hbg, hmc, hq, hcell, hfz, hset⟩ := HQ.out.1.cell (Nat.le_refl _) (by rw [HQ.out.2]; exact hlt)
        have HBG := Lib.hid hbg
        have HSET := Lib.hid hset
        have HMD : Hid (∀ W, Calls Try.prog 19 #[.int .i64 pn, .int .i64 N] W fun e w' => e = .returned (.int .i64 (mdS pn N)) ∧ w' = W) := fun W => mod_is pn N W he2 (by omega)
        obtain ⟨z, hz⟩ : ∃ z, mdS pn N = z := ⟨_, rfl⟩
        rw [hz] at HMD
        have HE := Lib.hid he1
        clear hz he1 he2 hbg hset hq hqm
        go_wp2_with fail
        refine (HCN.out _).mono ?_
        rintro e w3 ⟨rfl, rfl⟩
        go_upto_region 10 with fail
        go_region_with (first | (go_at_call 17; refine (HCN.out _).mono ?_; rintro e w' ⟨rfl, rfl⟩) | (go_at_call 19; refine (HMD.out _).mono ?_; rintro e w' ⟨rfl, rfl⟩))
        all_goals
          go_wp2_with fail
          go_roundg g
          case rel => exact ⟨k + 1, qs.set k (z, pc), by have := HG.out; omega, by go_num, ⟨by first | exact (HSET.out z _ (Below.refl _ _)).bel (below_drew1 _) | exact HSET.out z _ (below_drew1 _), by rw [List.length_set]; exact HQ.out.2⟩, by first | exact (HBW.out.setCell HBG.out _).drew | exact HBW.out.drew.setCell HBG.out _⟩
          case measure => omega
      · by_cases he1 : k % 2 = 0
        · have he2 : N = 0 := by omega
          have hev' : ((k : Int) % 2 == 0) = true := by rw [beq_iff_eq]; omega
          subst he2
          clear hev he1
          go_wp2_with fail
          refine (HCN.out _).mono ?_
          rintro e w3 ⟨rfl, rfl⟩
          go_wp2_with fail
          go_roundg g
          case rel => exact ⟨k + 1, qs, by have := HG.out; omega, by go_num, HQ.out, HBW.out⟩
          case measure => omega
        · have hev' : ((k : Int) % 2 == 0) = false := beq_eq_false_iff_ne.2 (by omega)
          clear hev he1
          go_wp2_with fail
          go_roundg g
          case rel => exact ⟨k + 1, qs, by have := HG.out; omega, by go_num, HQ.out, HBW.out⟩
          case measure => omega
end Go.Proofs.Ytkhaapdokhhbdaa
