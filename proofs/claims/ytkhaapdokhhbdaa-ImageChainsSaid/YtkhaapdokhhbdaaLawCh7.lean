/-
  The walk of the law ImageChains. Conditions: its arguments are a list of ints and a list of bytes.
-/
import Derived.Test.YtkhaapdokhhbdaaLawBk
import Derived.Test.YtkhaapdokhhbdaaWalkCm7
import Derived.Test.YtkhaapdokhhbdaaMathF
namespace Go.Proofs.Ytkhaapdokhhbdaa
open Go.RowKit

/-- A round of the chain: the list that it has come to, and the composition of the differences. -/
structure ChSt (B cb : Nat) (w0 w : World) (xs zs : List Int) (all : List Pg) (V : Option Addr) (l q : Nat) (P : Option Addr) (pn pc : Nat) : Prop where
  ch : Chain xs zs all
  zl : zs.length = l
  fz : ZsS (fun b => b ≠ cb) w zs V
  fq : l ≤ q
  vn : V = none → q = 0
  pg : PgAt (fun b => b ≠ cb) w all P pn
  fp : pn ≤ pc
  codes : CodesIn B w cb
  keep : Keep cb w0 w
theorem ZsS.keep {cb : Nat} {w W : World} {zs : List Int} {A : Option Addr} (h : ZsS (fun b => b ≠ cb) w zs A) (hk : Keep cb w W) : ZsS (fun b => b ≠ cb) W zs A := h.still fun b hb hl => ⟨hb, hk.block b hl hb⟩
theorem PgAt.keep {cb : Nat} {w W : World} {ps : List Pg} {A : Option Addr} {n : Nat} (h : PgAt (fun b => b ≠ cb) w ps A n) (hk : Keep cb w W) : PgAt (fun b => b ≠ cb) W ps A n := h.still fun b hb hl => ⟨hb, hk.block b hl hb⟩
theorem fits_wee {N : Nat} {l : List Pg} (h : Fits N l) (hN : N ≤ 1000) : Wee l := fun p hp => by
  have := h.2 p hp
  have hc : cntS N ≤ 1000 := by unfold cntS; omega
  omega
theorem asc_at {l : List Pg} (h : (l.map Prod.fst).Pairwise (· < ·)) {k : Nat} {p q : Pg} (hp : l[k]? = some p) (hq : l[k + 1]? = some q) : p.1 < q.1 := by
  obtain ⟨h1, e1⟩ := List.getElem?_eq_some_iff.1 hp
  obtain ⟨h2, e2⟩ := List.getElem?_eq_some_iff.1 hq
  have := List.pairwise_iff_getElem.1 h k (k + 1) (by rw [List.length_map]; exact h1) (by rw [List.length_map]; exact h2) (by omega)
  rw [List.getElem_map, List.getElem_map, e1, e2] at this
  exact this

set_option maxHeartbeats 2000000 in
set_option maxRecDepth 100000 in
theorem imageChains_any (xs : List Int) (A : Option Addr) (l c : Nat) (bv : Value) (w : World) (hz : ZsAt w xs A l) (hlc : l ≤ c) (hA : A = none → c = 0) (hb : BytesIn w.heap.size w bv) :
    Calls Try.prog 7 #[.slice A l c, bv] w fun e w' => e = .returned (.bool true) ∧ Below w.heap.size w w' := by
  have HZ := Lib.hid hz
  have HL := Lib.hid hz.1
  have HBY := Lib.hid hb
  have HA := Lib.hid hA
  clear hz hb hA
  by_cases h200 : 200 < l
  · have h2 : (200 : Int) < (l : Int) := by omega
    clear h200
    go_enter Try.func7, Try.ntmps7
    go_wp2_with fail
    refine (awake7_any _).mono ?_
    rintro e w1 ⟨rfl, hb⟩
    have HB1 := Lib.hid hb
    clear hb
    go_wp2_with fail
    go_ret
    exact ⟨rfl, HB1.out⟩
  have h2 : ¬ (200 : Int) < (l : Int) := by omega
  have hl2 : l ≤ 200 := by omega
  clear h200
  go_enter Try.func7, Try.ntmps7
  go_wp2_with fail
  refine (awake7_any _).mono ?_
  rintro e w1 ⟨rfl, hb⟩
  have HB1 := Lib.hid hb
  have HY1 := Lib.hid (HBY.out.below hb)
  clear hb
  go_wp2_with fail
  refine (new_any w.heap.size bv 60 _ HY1.out HB1.out.size (by decide)).mono ?_
  rintro e w2 ⟨cb, A2, n2, c2, rfl, hn2, hcs, hcb, hb⟩
  have HB2 := Lib.hid (HB1.out.trans (hb.mono HB1.out.size))
  have HC2 : Hid (CodesIn w.heap.size w2 cb) := ⟨A2, n2, c2, 0, hcs⟩
  have HCB := Lib.hid (Nat.le_trans HB1.out.size hcb)
  have HST : Hid (ChSt w.heap.size cb w2 w2 xs xs [] A l c none 0 0) := by
    refine ⟨Chain.start xs, HL.out.symm, ?_, hlc, HA.out, ⟨rfl, by decide, [], trivial, fun h => absurd h (by decide)⟩, Nat.le_refl _, HC2.out, Keep.refl _ _⟩
    have hs := HZ.out.s
    exact hs.still fun b hb' hlt => ⟨by have := HCB.out; omega, HB2.out.block b hlt⟩
  clear hcs hcb hb hn2
  go_wp2_with fail
  go_loopg [6, 7, 8] 4 (fun g v u i wr => ∃ (k : Nat) (zs : List Int) (all : List Pg) (V : Option Addr) (q : Nat) (P : Option Addr) (pn pc : Nat), k + g = 4 ∧ i = .int .i64 k ∧ v = .slice V l q ∧ u = .slice P pn pc ∧ Hid (ChSt w.heap.size cb w2 wr xs zs all V l q P pn pc))
  case atStart => exact ⟨0, xs, [], A, c, none, 0, 0, by omega, rfl, rfl, rfl, HST.out⟩
  case round =>
    obtain ⟨k, zs, all, V, q, P, pn, pc, hkg, rfl, rfl, rfl, HS⟩ := hrel
    have HBW : Hid (Below w.heap.size w wr) := HB2.out.trans (HS.out.keep.below HB2.out.size HCB.out)
    have hpn : pn ≤ 100 := by
      have := fits_len HS.out.ch.2.1
      rw [← HS.out.pg.1] at this
      rw [← HL.out] at this
      unfold cntS at this
      omega
    have hlq := HS.out.fq
    have hpc := HS.out.fp
    have HZV : Hid (ZsAt wr zs V l) := by
      have h := HS.out.fz.at
      rw [HS.out.zl] at h
      exact h
    cases gk with
    | zero =>
      have hk4 : k = 4 := by omega
      subst hk4
      have HAP := Lib.hid (apply_any xs all A P l pn c pc wr (HZ.out.below HBW.out) HS.out.pg (by omega))
      rw [HS.out.ch.app] at HAP
      have HPG := Lib.hid HS.out.pg
      have HASC := Lib.hid HS.out.ch.2.1.1
      have HZL := Lib.hid HS.out.zl
      have HPN := Lib.hid HS.out.pg.1
      clear hkg
      go_wp2_with fail
      refine HAP.out.mono ?_
      intro e w5 hp5
      obtain ⟨A5, c5, rfl, hz5, hb5⟩ := hp5.ok
      rw [HZL.out] at hz5 ⊢
      have HZ5 := Lib.hid hz5
      have HB5 := Lib.hid hb5
      have HBA := Lib.hid (HBW.out.trans (hb5.mono HBW.out.size))
      have HZV5 := Lib.hid (HZV.out.below hb5)
      have HPG5 := Lib.hid (HPG.out.belowS hb5)
      obtain ⟨M, hM1, hM2, hM3⟩ : ∃ M : Nat, pn ≤ M ∧ 1 ≤ M ∧ (1 < M → M = pn) := by
        by_cases h : pn = 0
        · exact ⟨1, by omega, Nat.le_refl _, by omega⟩
        · exact ⟨pn, Nat.le_refl _, by omega, fun _ => rfl⟩
      have HM3 := Lib.hid hM3
      clear hp5 hz5 hb5 HAP hM3
      go_wp2_with fail
      go_loopg [12] (M - 1) (fun g i wr => ∃ j : Nat, j + g = M ∧ 1 ≤ j ∧ i = .int .i64 j ∧ Hid (Below w5.heap.size w5 wr))
      case atStart => exact ⟨1, by omega, Nat.le_refl _, rfl, Below.refl _ _⟩
      case round =>
        obtain ⟨j, hjg, hj1, rfl, HBX⟩ := hrel
        cases gk with
        | zero =>
          have hjM : j = M := by omega
          subst hjM
          have hnl : ¬ (j : Int) < (pn : Int) := by omega
          have HSI : Hid (Calls Try.prog 22 #[.slice A5 l c5, .slice V l q] wr fun e w' => e = .returned (.bool true) ∧ Below wr.heap.size wr w') := by
            have h := sameInts_any zs zs A5 V l l c5 q wr (HZ5.out.below HBX.out) (HZV5.out.below HBX.out)
            rw [show decide (zs = zs) = true by simp] at h
            exact h
          clear hjg
          go_wp2_with fail
          refine HSI.out.mono ?_
          rintro e w7 ⟨rfl, hb⟩
          have HB7 := Lib.hid (HBA.out.trans ((HBX.out.trans (hb.mono HBX.out.size)).mono HBA.out.size))
          clear hb
          go_wp2_with fail
          go_ret
          exact ⟨rfl, HB7.out⟩
        | succ g =>
          have hM : M = pn := HM3.out (by omega)
          have hlt : j < pn := by omega
          have hlt' : (j : Int) < (pn : Int) := by omega
          have HG := Lib.hid hjg
          obtain ⟨i, rfl⟩ : ∃ i, j = i + 1 := ⟨j - 1, by omega⟩
          have hsub : ((i + 1 : Nat) : Int) - 1 = (i : Int) := by omega
          have hi0 : (0 : Int) ≤ (i : Int) := by omega
          have hi1 : (i : Int) < (pn : Int) := by omega
          have hip : (0 : Int) ≤ ((i + 1 : Nat) : Int) := by omega
          obtain ⟨b1, o1, p, A1, c1, rfl, hp, f1, _, _, _⟩ := (HPG5.out.belowS HBX.out).get hlt
          obtain ⟨b2, o2, p2, A2, c2, he, hp2, g1, _, _, _⟩ := (HPG5.out.belowS HBX.out).get (i := i) (by omega)
          injection he with he
          injection he with he1 he2 _
          subst he1 he2
          obtain ⟨an, ac⟩ := p
          obtain ⟨bn, bc⟩ := p2
          simp only at f1 g1
          have hlt2 : bn < an := asc_at HASC.out hp2 hp
          have hnle : ¬ an ≤ bn := by omega
          clear hjg hp hp2 hM hlt2
          go_upto_region 18 with fail
          go_quiet (fail)
          go_wp2_with fail
          go_roundg g
          case rel => exact ⟨i + 1 + 1, by have := HG.out; omega, by omega, by go_num, below_drewN HBX.out _⟩
          case measure => omega
    | succ g =>
      have hlt : k < 4 := by omega
      have hlt' : (k : Int) < 4 := by omega
      have HG := Lib.hid hkg
      have HVN := Lib.hid HS.out.vn
      have HCO := Lib.hid HS.out.codes
      clear hkg
      go_wp2_with fail
      refine (change_any w.heap.size cb zs V l q _ HCO.out HZV.out HVN.out (by omega)).mono ?_
      rintro e w4 ⟨G, gc, ys, rfl, hyl, how, hcd, hk⟩
      have hcbw : cb < wr.heap.size := HCO.out.lt
      have HK4 := Lib.hid hk
      have HKK4 := Lib.hid (HS.out.keep.trans hk)
      have HCD4 := Lib.hid hcd
      have HYL := Lib.hid hyl
      have HZ4 : Hid (ZsAt w4 zs V l) := by
        have h := (HS.out.fz.keep hk).at
        rw [HS.out.zl] at h
        exact h
      have HYZ := Lib.hid (ZsAt.own how (by omega))
      have hyo := own_zs how (by omega)
      have HGC := Lib.hid hyo.2.1
      have HYS : Hid (ZsS (fun b => b ≠ cb) w4 ys G) := hyo.2.2.still fun b (hb : wr.heap.size ≤ b) _ => ⟨by omega, rfl⟩
      have HPG4 := Lib.hid (HS.out.pg.keep hk)
      have HGN : Hid (G = none → gc = 0) := by
        rcases how.2 with ⟨e, _⟩ | ⟨g, cap, cur, e, _⟩
        · injection e with _ _ e3
          exact fun _ => e3
        · injection e with e1 _ _
          rw [e1]
          exact fun e => by cases e
      have HCBW := Lib.hid hcbw
      clear hyl how hcd hk hyo hcbw
      go_wp2_with fail
      refine (diff_any zs ys V G l l q gc _ HZ4.out HYZ.out hlq HGC.out (by omega) (by omega)).mono ?_
      intro e w5 hp5
      have hdl : (diffS zs ys).length ≤ 1000 := Nat.le_trans (diffS_len zs ys) (by rw [HYL.out]; unfold cntS; omega)
      obtain ⟨A5, c5, rfl, hc5, hq5, hb5⟩ := hp5.get (by omega)
      have HB5 := Lib.hid hb5
      have HDQ := Lib.hid hq5
      have HPG5 := Lib.hid (HPG4.out.belowS hb5)
      obtain ⟨L, hL⟩ := ex_comp (all ++ diffS zs ys)
      have HLL := Lib.hid hL
      have HFA := Lib.hid HS.out.ch.2.1
      have HWE : Hid (Wee (all ++ diffS zs ys)) := fun p hp => by
        rcases List.mem_append.1 hp with hp | hp
        · exact fits_wee HFA.out (by rw [← HL.out]; omega) p hp
        · exact fits_wee (diff_fits zs ys) (by rw [HYL.out]; omega) p hp
      have HCH : Hid (Chain xs ys L) := HS.out.ch.next (by rw [HYL.out, HS.out.zl]) hL
      have hLl : L.length ≤ 1000000 := by
        have := fits_len HCH.out.2.1
        rw [← HL.out] at this
        unfold cntS at this
        omega
      have HLE := Lib.hid hLl
      obtain ⟨dn, hdn⟩ : ∃ x, (diffS zs ys).length = x := ⟨_, rfl⟩
      rw [hdn] at HDQ hc5 hdl
      rw [hdn]
      clear hp5 hq5 hb5 hL hdn hLl
      go_wp2_with fail
      refine (compose_any all (diffS zs ys) L P A5 pn dn pc c5 _ HPG5.out HDQ.out (by omega) (by omega) HWE.out HLL.out).mono ?_
      intro e w6 hp6
      obtain ⟨A6, c6, rfl, hc6, hq6, hb6⟩ := hp6.get (by have := HLE.out; omega)
      have hc46 : w4.heap.size ≤ w5.heap.size := HB5.out.size
      have HNX : Hid (ChSt w.heap.size cb w2 w6 xs ys L G l gc A6 L.length c6) := by
        have hbb := HB5.out.trans (hb6.mono HB5.out.size)
        have hk6 : Keep cb w4 w6 := Keep.of_below hbb
        have hw4 : cb < w4.heap.size := HCD4.out.lt
        exact ⟨HCH.out, HYL.out, HYS.out.keep hk6, HGC.out, HGN.out, hq6.still fun b (hb : w5.heap.size ≤ b) _ => ⟨by omega, rfl⟩, hc6, HCD4.out.below hbb, HKK4.out.trans hk6⟩
      obtain ⟨ln, hln⟩ : ∃ x, L.length = x := ⟨_, rfl⟩
      rw [hln] at HNX
      rw [hln]
      clear hp6 hq6 hb6 hln hc6 hc46
      go_wp2_with fail
      go_roundg g
      case rel => exact ⟨k + 1, ys, L, G, gc, A6, ln, c6, by have := HG.out; omega, by go_num, rfl, rfl, HNX.out⟩
      case measure => omega
end Go.Proofs.Ytkhaapdokhhbdaa
