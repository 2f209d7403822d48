/-
  The walk of the law CodecOne (gens97.py writes this text). Condition: its argument is a list of bytes.
-/
import Derived.Test.YtadikcioacaphaaMathOo
namespace Go.Proofs.Ytadikcioacaphaa
open Go.RowKit

theorem below_tr {w W w5 : World} (hb : Below W.heap.size W w5) (h : Below w.heap.size w W) : Below w.heap.size w w5 := h.trans (hb.mono h.size)

set_option maxHeartbeats 8000000 in
set_option maxRecDepth 100000 in
theorem codecOne_any (bs : List Nat) (A : Option Addr) (n c : Nat) (w : World) (hb : n ≤ 1099511627776 → BsIn w.heap.size w bs A n c) (hnc : n ≤ c) (hc : c ≤ 9223372036854775807) :
    Calls Try.prog 6 #[.slice A n c] w fun e w' => e = .returned (.bool true) ∧ Below w.heap.size w w' := by
  by_cases h400 : 400 < n
  · have h4 : (400 : Int) < (n : Int) := by omega
    have hn63 : n ≤ 9223372036854775807 := by omega
    clear h400 hb
    go_enter Try.func6, Try.ntmps6
    go_wp2_with fail
    refine (awake8_any _).mono ?_
    rintro e w1 ⟨rfl, hb⟩
    have HB1 := Lib.hid hb
    clear hb
    go_wp2_with fail
    go_ret
    exact ⟨rfl, HB1.out⟩
  have h := hb (by omega)
  have H := Lib.hid h
  have hn40 := h.le40
  have HN := Lib.hid h.len
  have HC : Hid (c ≤ 9223372036854775807) := hc
  have h4 : ¬ (400 : Int) < (n : Int) := by omega
  have hn4 : n ≤ 400 := by omega
  have HT : Hid (∀ (W : World) (x t : List Nat) (m : Nat), Below w.heap.size w W → bs = x ++ t → x.length = m → BOut W (.slice A m c) x) := fun W x t m hb he hm => by
    rw [← hm]
    exact ((H.out.below hb).take hb.size he HC.out)
  clear h hb h400
  go_enter Try.func6, Try.ntmps6
  go_wp2_with fail
  refine (awake8_any _).mono ?_
  rintro e w1 ⟨rfl, hb⟩
  have HB1 := Lib.hid hb
  clear hb
  go_wp2_with fail
  refine (int_one (H.out.below HB1.out) HB1.out.size).mono ?_
  rintro e w2 ⟨z, m, ke, rfl, hone, hb⟩
  have HB2 := Lib.hid (HB1.out.trans (hb.mono HB1.out.size))
  have HONE := Lib.hid hone
  clear hb hone
  go_upto_region 6 with fail
  go_cut [46] (fun q wx => q = .bool false ∧ Hid (Below w.heap.size w wx))
  case first =>
    rcases HONE.out with h | ⟨hk, t, he, hm, h1, hl, hzi⟩
    · have hq : (ke == 0) = false := by simp; omega
      clear h
      have HBQ : Hid (∀ m, Below w.heap.size w (w2.drewN m)) := fun m => below_drewN HB2.out m
      go_quiet (fail)
      go_wp2_with fail
      go_meet
      exact ⟨rfl, HBQ.out _⟩
    · subst hk
      obtain ⟨x, hx⟩ : ∃ x, (bytZ z).length = x := ⟨_, rfl⟩
      rw [hx] at hm h1 hl
      subst hm
      have HX := Lib.hid hx
      have hl4 : x ≤ 400 := by have := HN.out; omega
      have hxn : x ≤ n := by have := HN.out; omega
      have hxc : x ≤ c := by omega
      have hm1 : ¬ (x : Int) < 1 := by omega
      have hm2 : ¬ (n : Int) < (x : Int) := by omega
      have HO : Hid (∀ W, Below w.heap.size w W → BOut W (.slice A x c) (bytZ z)) := fun W hb => HT.out W _ _ x hb he HX.out
      have HZI : Hid (I64 z) := hzi
      clear h1 hl hzi he hx
      have HLN : Hid (([] ++ bytZ z).length ≤ 140737488355328) := by show _ ≤ _; rw [List.nil_append, HX.out]; omega
      have HL4 : Hid ((bytZ z).length ≤ 140737488355328) := by show _ ≤ _; rw [HX.out]; omega
      go_region_held3 (fun w' => Below w.heap.size w w') (first | assumption | exact HB2.out.drew) (first | (go_at_call 12; refine (putInt_cod [] (.slice none 0 0) z _ (BOut.nil _) HZI.out HLN.out).mono ?_; rintro e w5 ⟨v5, rfl, ho, hb⟩; have HO5 : Hid (BOut w5 v5 (bytZ z)) := ho; have hB5 : Below w.heap.size w w5 := below_tr hb (by first | assumption | exact HB2.out.drew); clear ho hb) | (go_at_call 11; refine (sameBytes_any (bytZ z) _ _ _ HO5.out (HO.out _ hB5) HL4.out).mono ?_; rintro e w6 ⟨rfl, hb⟩; have hB6 : Below w.heap.size w w6 := below_tr hb hB5; clear hb))
      all_goals
        go_wp2_with fail
        go_meet
        exact ⟨rfl, hB6⟩
  case rest =>
    obtain ⟨rfl, HB3⟩ := hcut
    clear HONE HB2 HB1
    go_wp2_with fail
    refine (event_one (H.out.below HB3.out) HB3.out.size).mono ?_
    rintro e w3 ⟨a0, a1, a2, a3, a4, a5, a6, m, ke, rfl, hone, hb⟩
    have hb3 : Below w.heap.size w w3 := below_tr hb HB3.out
    obtain ⟨xb, hxb⟩ : ∃ x, w3.heap.size = x := ⟨_, rfl⟩
    obtain ⟨w4, hw4⟩ : ∃ x, (w3.alloc (.cells #[.int .i64 a0, .int .i64 a1, .int .i64 a2, .int .i64 a3, .int .i64 a4, .int .i64 a5, .int .i64 a6] 35)) = x := ⟨_, rfl⟩
    have HB4 : Hid (Below w.heap.size w w4) := by show Below _ _ _; rw [← hw4]; exact hb3.trans ((rp_one1 w3 _).mono hb3.size)
    have HX4 : Hid (w4.heap[xb]? = some (.cells #[.int .i64 a0, .int .i64 a1, .int .i64 a2, .int .i64 a3, .int .i64 a4, .int .i64 a5, .int .i64 a6] 35 (0, 0))) := by show _ = _; rw [← hw4, ← hxb]; exact new_blk _ _
    have HONE := Lib.hid hone
    clear hb hb3 hone HB3
    go_upto_region 9 with fail
    try simp only [hw4, hxb]
    clear hw4 hxb
    go_cut [73] (fun q wx => q = .bool false ∧ Hid (Below w.heap.size w wx))
    case first =>
      rcases HONE.out with h | ⟨hk, t, he, hm, h1, hl, hzi⟩
      · have hq : (ke == 0) = false := by simp; omega
        clear h
        have HBQ : Hid (∀ m, Below w.heap.size w (w4.drewN m)) := fun m => below_drewN HB4.out m
        go_quiet (fail)
        go_wp2_with fail
        go_meet
        exact ⟨rfl, HBQ.out _⟩
      · subst hk
        obtain ⟨x, hx⟩ : ∃ x, (bytL [a0, a1, a2, a3, a4, a5, a6]).length = x := ⟨_, rfl⟩
        rw [hx] at hm h1 hl
        subst hm
        have HX := Lib.hid hx
        have hl4 : x ≤ 400 := by have := HN.out; omega
        have hxn : x ≤ n := by have := HN.out; omega
        have hxc : x ≤ c := by omega
        have hm1 : ¬ (x : Int) < 7 := by omega
        have hm2 : ¬ (n : Int) < (x : Int) := by omega
        have HO : Hid (∀ W, Below w.heap.size w W → BOut W (.slice A x c) (bytL [a0, a1, a2, a3, a4, a5, a6])) := fun W hb => HT.out W _ _ x hb he HX.out
        have HZI : Hid (∀ z ∈ [a0, a1, a2, a3, a4, a5, a6], I64 z) := hzi
        clear h1 hl hzi he hx
        have HLN : Hid (([] ++ bytL [a0, a1, a2, a3, a4, a5, a6]).length ≤ 140737488355328) := by show _ ≤ _; rw [List.nil_append, HX.out]; omega
        have HK : Hid (∀ W', Below w4.heap.size w4 W' → Below w4.heap.size w4 W' ∧ W'.cell? ⟨xb, 0, none⟩ = some (.int .i64 a0) ∧ W'.cell? ⟨xb, 1, none⟩ = some (.int .i64 a1) ∧ W'.cell? ⟨xb, 2, none⟩ = some (.int .i64 a2) ∧ W'.cell? ⟨xb, 3, none⟩ = some (.int .i64 a3) ∧ W'.cell? ⟨xb, 4, none⟩ = some (.int .i64 a4) ∧ W'.cell? ⟨xb, 5, none⟩ = some (.int .i64 a5) ∧ W'.cell? ⟨xb, 6, none⟩ = some (.int .i64 a6)) := fun W' hb => ⟨hb, box7' (below_blk hb HX4.out)⟩
        have HL4 : Hid ((bytL [a0, a1, a2, a3, a4, a5, a6]).length ≤ 140737488355328) := by show _ ≤ _; rw [HX.out]; omega
        go_region_held3 (fun W' => Below w4.heap.size w4 W' ∧ W'.cell? ⟨xb, 0, none⟩ = some (.int .i64 a0) ∧ W'.cell? ⟨xb, 1, none⟩ = some (.int .i64 a1) ∧ W'.cell? ⟨xb, 2, none⟩ = some (.int .i64 a2) ∧ W'.cell? ⟨xb, 3, none⟩ = some (.int .i64 a3) ∧ W'.cell? ⟨xb, 4, none⟩ = some (.int .i64 a4) ∧ W'.cell? ⟨xb, 5, none⟩ = some (.int .i64 a5) ∧ W'.cell? ⟨xb, 6, none⟩ = some (.int .i64 a6)) (exact HK.out _ (by first | assumption | exact below_drew1 _)) (first | (go_at_call 14; refine (pPutEvent_cod [] (.slice none 0 0) a0 a1 a2 a3 a4 a5 a6 _ (BOut.nil _) HZI.out HLN.out).mono ?_; rintro e w5 ⟨v5, rfl, ho, hb⟩; have HO5 : Hid (BOut w5 v5 (bytL [a0, a1, a2, a3, a4, a5, a6])) := ho; have hB5 : Below w4.heap.size w4 w5 := below_tr hb (by first | assumption | exact below_drew1 _); clear ho hb) | (go_at_call 11; refine (sameBytes_any (bytL [a0, a1, a2, a3, a4, a5, a6]) _ _ _ HO5.out (HO.out _ (HB4.out.trans (hB5.mono HB4.out.size))) HL4.out).mono ?_; rintro e w6 ⟨rfl, hb⟩; have hB6 : Below w4.heap.size w4 w6 := below_tr hb hB5; clear hb))
        all_goals
          go_wp2_with fail
          go_meet
          exact ⟨rfl, HB4.out.trans (hB6.mono HB4.out.size)⟩
    case rest =>
      obtain ⟨rfl, HB5⟩ := hcut
      clear HONE HB4 HX4
      go_wp2_with fail
      refine (pages_one (b0 := 0) (H.out.below HB5.out) HB5.out.size (Nat.zero_le _)).mono ?_
      rintro e w3 ⟨A', L, c', m, ke, rfl, ⟨ps, hone⟩, hb⟩
      have HB3 : Hid (Below w.heap.size w w3) := below_tr hb HB5.out
      have HONE := Lib.hid hone
      clear hb hone HB5
      go_upto_region 12 with fail
      go_cut [100] (fun q wx => q = .bool false ∧ Hid (Below w.heap.size w wx))
      case first =>
        rcases HONE.out with h | ⟨hk, t, he, hm, h1, hl, hpi, hpl, hpn, hpc, hpg⟩
        · have hq : (ke == 0) = false := by simp; omega
          clear h
          have HBQ : Hid (∀ m, Below w.heap.size w (w3.drewN m)) := fun m => below_drewN HB3.out m
          go_quiet (fail)
          go_wp2_with fail
          go_meet
          exact ⟨rfl, HBQ.out _⟩
        · subst hk
          obtain ⟨x, hx⟩ : ∃ x, (bytZ (L : Nat) ++ bytP ps).length = x := ⟨_, rfl⟩
          rw [hx] at hm h1 hl
          subst hm
          have HX := Lib.hid hx
          have hl4 : x ≤ 400 := by have := HN.out; omega
          have hxn : x ≤ n := by have := HN.out; omega
          have hxc : x ≤ c := by omega
          have hm1 : ¬ (x : Int) < 1 := by omega
          have hm2 : ¬ (n : Int) < (x : Int) := by omega
          have HO : Hid (∀ W, Below w.heap.size w W → BOut W (.slice A x c) (bytZ (L : Nat) ++ bytP ps)) := fun W hb => HT.out W _ _ x hb he HX.out
          have HPI : Hid (PgOk ps) := hpi
          have HPG : Hid (∀ W, Below w3.heap.size w3 W → PgAt (fun b => b < W.heap.size) W ps A' L) := fun W hb => (hpg.belowS hb).still fun b _ hlt => ⟨hlt, rfl⟩
          clear h1 hl he hx hpi hpl hpg
          have HLN : Hid (([] ++ bytZ (L : Nat) ++ bytP ps).length ≤ 140737488355328) := by show _ ≤ _; rw [List.nil_append, HX.out]; omega
          have HL4 : Hid ((bytZ (L : Nat) ++ bytP ps).length ≤ 140737488355328) := by show _ ≤ _; rw [HX.out]; omega
          go_region_held3 (fun W' => Below w3.heap.size w3 W') (first | assumption | exact below_drew1 _) (first | (go_at_call 18; refine (pPutPages_cod [] (.slice none 0 0) ps A' L c' _ (BOut.nil _) (HPG.out _ (by first | assumption | exact below_drew1 _)) HPI.out hpn HLN.out).mono ?_; rintro e w5 ⟨v5, rfl, ho, hb⟩; have HO5 : Hid (BOut w5 v5 (bytZ (L : Nat) ++ bytP ps)) := ho; have hB5 : Below w3.heap.size w3 w5 := below_tr hb (by first | assumption | exact below_drew1 _); clear ho hb) | (go_at_call 11; refine (sameBytes_any (bytZ (L : Nat) ++ bytP ps) _ _ _ HO5.out (HO.out _ (HB3.out.trans (hB5.mono HB3.out.size))) HL4.out).mono ?_; rintro e w6 ⟨rfl, hb⟩; have hB6 : Below w3.heap.size w3 w6 := below_tr hb hB5; clear hb))
          all_goals
            go_wp2_with fail
            go_meet
            exact ⟨rfl, HB3.out.trans (hB6.mono HB3.out.size)⟩
      case rest =>
        obtain ⟨rfl, HB6⟩ := hcut
        clear HONE HB3
        go_wp2_with fail
        refine (state_one (H.out.below HB6.out) HB6.out.size).mono ?_
        rintro e w3 ⟨B0, B1, B2, B3, m0, m1, m2, m3, k0, k1, k2, k3, m, ke, rfl, ⟨z0, z1, z2, z3, hone⟩, hb⟩
        have hb3 : Below w.heap.size w w3 := below_tr hb HB6.out
        obtain ⟨xb, hxb⟩ : ∃ x, w3.heap.size = x := ⟨_, rfl⟩
        obtain ⟨w4, hw4⟩ : ∃ x, (w3.alloc (.cells #[.slice B0 m0 k0, .slice B1 m1 k1, .slice B2 m2 k2, .slice B3 m3 k3] 43)) = x := ⟨_, rfl⟩
        have hb4 : Below w3.heap.size w3 w4 := by rw [← hw4]; exact rp_one1 w3 _
        have HB4 : Hid (Below w.heap.size w w4) := hb3.trans (hb4.mono hb3.size)
        have HX4 : Hid (w4.heap[xb]? = some (.cells #[.slice B0 m0 k0, .slice B1 m1 k1, .slice B2 m2 k2, .slice B3 m3 k3] 43 (0, 0))) := by show _ = _; rw [← hw4, ← hxb]; exact new_blk _ _
        have HONE := Lib.hid hone
        have HB34 := Lib.hid hb4
        clear hb hb3 hone hb4
        go_upto_region 15 with fail
        try simp only [hw4, hxb]
        clear hw4 hxb
        rcases HONE.out with h | ⟨hk, t, he, hm, h1, hl, r0, r1, r2, r3, i0, i1, i2, i3, q0, q1, q2, q3⟩
        · have hq : (ke != 0) = true := by simp; omega
          clear h
          have HBQ : Hid (∀ m, Below w.heap.size w (w4.drewN m)) := fun m => below_drewN HB4.out m
          go_quiet (fail)
          go_wp2_with fail
          go_ret
          exact ⟨rfl, HBQ.out _⟩
        · subst hk
          obtain ⟨x, hx⟩ : ∃ x, (bytR m0 z0 ++ bytR m1 z1 ++ bytR m2 z2 ++ bytR m3 z3).length = x := ⟨_, rfl⟩
          rw [hx] at hm h1 hl
          subst hm
          have HX := Lib.hid hx
          have hl4 : x ≤ 400 := by have := HN.out; omega
          have hxn : x ≤ n := by have := HN.out; omega
          have hxc : x ≤ c := by omega
          have hm1 : ¬ (x : Int) < 4 := by omega
          have hm2 : ¬ (n : Int) < (x : Int) := by omega
          have HO : Hid (∀ W, Below w.heap.size w W → BOut W (.slice A x c) (bytR m0 z0 ++ bytR m1 z1 ++ bytR m2 z2 ++ bytR m3 z3)) := fun W hb => HT.out W _ _ x hb he HX.out
          have hm3 : (4 : Int) ≤ (x : Int) := by omega
          have hm5 : (x : Int) ≤ (n : Int) := by omega
          have HR0 := Lib.hid (r0.below (by decide) HB34.out)
          have HR1 := Lib.hid (r1.below (by decide) HB34.out)
          have HR2 := Lib.hid (r2.below (by decide) HB34.out)
          have HR3 := Lib.hid (r3.below (by decide) HB34.out)
          have HI0 := Lib.hid i0
          have HI1 := Lib.hid i1
          have HI2 := Lib.hid i2
          have HI3 := Lib.hid i3
          clear h1 hl he hx r0 r1 r2 r3 i0 i1 i2 i3
          have HLN : Hid (([] ++ bytR m0 z0 ++ bytR m1 z1 ++ bytR m2 z2 ++ bytR m3 z3).length ≤ 140737488355328) := by show _ ≤ _; rw [List.nil_append, HX.out]; omega
          have HK : Hid (∀ W', Below w4.heap.size w4 W' → Below w4.heap.size w4 W' ∧ W'.cell? ⟨xb, 0, none⟩ = some (.slice B0 m0 k0) ∧ W'.cell? ⟨xb, 1, none⟩ = some (.slice B1 m1 k1) ∧ W'.cell? ⟨xb, 2, none⟩ = some (.slice B2 m2 k2) ∧ W'.cell? ⟨xb, 3, none⟩ = some (.slice B3 m3 k3)) := fun W' hb => ⟨hb, box4' (below_blk hb HX4.out)⟩
          have HL4 : Hid ((bytR m0 z0 ++ bytR m1 z1 ++ bytR m2 z2 ++ bytR m3 z3).length ≤ 140737488355328) := by show _ ≤ _; rw [HX.out]; omega
          go_region_held3 (fun W' => Below w4.heap.size w4 W' ∧ W'.cell? ⟨xb, 0, none⟩ = some (.slice B0 m0 k0) ∧ W'.cell? ⟨xb, 1, none⟩ = some (.slice B1 m1 k1) ∧ W'.cell? ⟨xb, 2, none⟩ = some (.slice B2 m2 k2) ∧ W'.cell? ⟨xb, 3, none⟩ = some (.slice B3 m3 k3)) (exact HK.out _ (by first | assumption | exact below_drew1 _)) (first | (go_at_call 20; refine (pPutState_cod [] (.slice none 0 0) z0 B0 m0 k0 z1 B1 m1 k1 z2 B2 m2 k2 z3 B3 m3 k3 _ (BOut.nil _) (HR0.out.below (by decide) (by first | assumption | exact below_drew1 _)) HI0.out q0 (HR1.out.below (by decide) (by first | assumption | exact below_drew1 _)) HI1.out q1 (HR2.out.below (by decide) (by first | assumption | exact below_drew1 _)) HI2.out q2 (HR3.out.below (by decide) (by first | assumption | exact below_drew1 _)) HI3.out q3 HLN.out).mono ?_; rintro e w5 ⟨v5, rfl, ho, hb⟩; have HO5 : Hid (BOut w5 v5 (bytR m0 z0 ++ bytR m1 z1 ++ bytR m2 z2 ++ bytR m3 z3)) := ho; have hB5 : Below w4.heap.size w4 w5 := below_tr hb (by first | assumption | exact below_drew1 _); clear ho hb) | (go_at_call 11; refine (sameBytes_any (bytR m0 z0 ++ bytR m1 z1 ++ bytR m2 z2 ++ bytR m3 z3) _ _ _ HO5.out (HO.out _ (HB4.out.trans (hB5.mono HB4.out.size))) HL4.out).mono ?_; rintro e w6 ⟨rfl, hb⟩; have hB6 : Below w4.heap.size w4 w6 := below_tr hb hB5; clear hb))
          all_goals
            go_wp2_with fail
            go_ret
            exact ⟨rfl, HB4.out.trans (hB6.mono HB4.out.size)⟩
end Go.Proofs.Ytadikcioacaphaa
