/-
  The walk of the law TokenCuts. Condition: as for Scan.
-/
import Derived.Test.YtaenmaokieomgaaDoorLawBack
import Derived.Test.YtaenmaokieomgaaDoorWalkMod
import Derived.Deep.RegionWith
namespace Go.Proofs.YtaenmaokieomgaaDoor
open Go.RowKit

/-- The first i tokens of a slice of tokens. -/
theorem tokSlice_take {w : World} {b o n c : Nat} {ts : List Tok} (hn : ts.length = n) (h : ∀ (i : Nat) (t : Tok), ts[i]? = some t → TokAt w b (o + i * 4) t) {k : Nat} (hk : k ≤ n) (hc : n ≤ c) :
    TokSlice w (.slice (some ⟨b, o, none⟩) k c) (ts.take k) := by
  have e : (ts.take k).length = k := by rw [List.length_take]; omega
  refine ⟨_, c, by rw [e], by omega, fun _ => ⟨b, o, rfl, fun i t hi => ?_⟩⟩
  rw [List.getElem?_take] at hi
  split at hi
  · exact h i t hi
  · cases hi

theorem take_toList (s : ByteArray) (k : Nat) : (s.extract 0 k).data.toList = s.data.toList.take k := by
  rw [strB_take]
  rfl

set_option maxHeartbeats 4000000 in
set_option maxRecDepth 100000 in
theorem tokenCuts_ok (s : ByteArray) (x : Int) (w : World) (hL : LW w) (ts : List Tok) (hR : scanS s.data.toList = ⟨ts, 0, 0⟩) (hS : scanL s.data.toList 0 = ⟨ts, 0, 0⟩) (hsz : s.size ≤ 4096) :
    Calls Tryd.prog 9 #[.string s, .int .i64 x] w fun e w' => e = .returned (.bool true) ∧ Below w.heap.size w w' := by
  have hn : ts.length ≤ 4096 := by have := (scanS_len s.data.toList).1; rw [hR] at this; exact this
  have HR := Lib.hid hR
  have HS := Lib.hid hS
  have HL := Lib.hid hL
  clear hR hS hL
  obtain ⟨n, hnn⟩ : ∃ n, ts.length = n := ⟨_, rfl⟩
  have HN := Lib.hid hnn
  go_enter Tryd.func9, Tryd.ntmps9
  go_wp2_with (go_at_call 11; refine (awake_any _ HL.out).mono ?_; rintro e w1 ⟨rfl, hb⟩; have HB1 := Lib.hid hb; have HL1 := Lib.hid (HL.out.below hb HL.out.big); clear hb)
  go_wp2_with fail
  refine (scan_at s _ HL1.out _ HR.out).mono ?_
  rintro e w2 ⟨v, rfl, hs, hb⟩
  have HB2 := Lib.hid (HB1.out.trans (hb.mono HB1.out.size))
  have HL2 := Lib.hid (HL1.out.below hb HL1.out.big)
  obtain ⟨A, c, rfl, hcap, hcells⟩ := hs
  have HC := Lib.hid hcells
  clear hb hcells
  simp only [hnn] at hn hcap ⊢
  clear hnn
  by_cases hn0 : n = 0
  · subst hn0
    go_wp2
    go_ret
    exact ⟨rfl, HB2.out⟩
  have q0 : ((n : Int) == 0) = false := beq_eq_false_iff_ne.2 (by omega)
  have q0' : (n == 0) = false := beq_eq_false_iff_ne.2 (by omega)
  have hne : ts ≠ [] := fun h => by have := HN.out; rw [h] at this; simp at this; omega
  obtain ⟨b, o, rfl, hcs⟩ := HC.out hne
  go_wp2_with fail
  refine (mod_any x n _ (by omega) (by omega)).mono ?_
  rintro e w3 ⟨k, hk, rfl, rfl⟩
  obtain ⟨t, ht⟩ : ∃ t, ts[k]? = some t := ⟨_, List.getElem?_eq_getElem (by have := HN.out; omega)⟩
  have hblt : b < w3.heap.size := World.block_lt_of_cell? w3 _ (hcs k t ht).1
  obtain ⟨g1, g2, g3, g4, g5, g6, _⟩ := token_at HS.out ht
  have hval := scan_value HS.out ht
  have hsl : s.data.toList.length = s.size := by simp
  rw [hsl] at g2
  obtain ⟨y, hy⟩ : ∃ y, strB (itemT t.kind t.text t.value) = y := ⟨_, rfl⟩
  have hys : y.size = (itemT t.kind t.text t.value).length := by
    rw [← hy]; show (itemT t.kind t.text t.value).toArray.size = _; simp
  rw [← hys] at g1 g2 g5
  have HPR := Lib.hid (fun (W : World) (hLW : LW W) (hb : Below w3.heap.size w3 W) c' (hc : 1 ≤ c') => print_tok (c' := c') hLW (fun (i : Nat) (t : Tok) hi => by
    obtain ⟨e0, e1, e2, e3⟩ := hcs i t hi
    exact ⟨(hb.cell (p := ⟨b, _, none⟩) hblt).trans e0, (hb.cell (p := ⟨b, _, none⟩) hblt).trans e1, (hb.cell (p := ⟨b, _, none⟩) hblt).trans e2, (hb.cell (p := ⟨b, _, none⟩) hblt).trans e3⟩ : ∀ (i : Nat) (t : Tok), ts[i]? = some t → TokAt W b (o + i * 4) t) ht hc hval (by omega) hy)
  have HC3 := Lib.hid (hcs k t ht).2.2.2
  have HQ1 := Lib.hid (show scanS (s.extract 0 t.off).data.toList = ⟨ts.take k, 0, 0⟩ by
    rw [take_toList, scanS, if_neg (by rw [List.length_take]; omega), g4])
  have HQ2 := Lib.hid (show scanS (s.extract 0 (t.off + y.size)).data.toList = ⟨ts.take (k + 1), 0, 0⟩ by
    rw [take_toList, scanS, if_neg (by rw [List.length_take]; omega), g5])
  have HE1 := Lib.hid (fun (v v' : Value) (w : World) (h1 : TokSlice w v (ts.take k)) (h2 : TokSlice w v' (ts.take k)) => requal_any v v' (ts.take k) w (by rw [List.length_take]; omega) h1 h2)
  have HE2 := Lib.hid (fun (v v' : Value) (w : World) (h1 : TokSlice w v (ts.take (k + 1))) (h2 : TokSlice w v' (ts.take (k + 1))) => requal_any v v' (ts.take (k + 1)) w (by rw [List.length_take]; omega) h1 h2)
  have HT1 := Lib.hid (tokSlice_take HN.out hcs (show k ≤ n by omega) hcap)
  have HT2 := Lib.hid (tokSlice_take HN.out hcs (show k + 1 ≤ n by omega) hcap)
  clear g3 g4 g5 g6 hys hy hsl hval hcs hne HS HR
  obtain ⟨tk, tt, tv, tof⟩ := t
  simp only at *
  clear ht
  have q2 : decide ((s.size : Int) < (tof : Int)) = false := decide_eq_false (by omega)
  have q2' : decide (s.size < tof) = false := decide_eq_false (by omega)
  have c3 := HC3.out
  go_wp2_with fail
  refine (scan_at (s.extract 0 tof) _ HL2.out _ HQ1.out).mono ?_
  rintro e w4 ⟨v1, rfl, hs1, hb⟩
  have HB4 := Lib.hid (HB2.out.trans (hb.mono HB2.out.size))
  have HL4 := Lib.hid (HL2.out.below hb HL2.out.big)
  have HX4 := Lib.hid hb
  have HV1 := Lib.hid hs1
  have c4 := (hb.cell (p := ⟨b, _, none⟩) hblt).trans HC3.out
  clear c3 hb hs1
  have HXd := Lib.hid (show Below w3.heap.size w3 w4.drew from below_drewN HX4.out 1)
  have HP4 := Lib.hid (HPR.out w4.drew (HL2.out.below HXd.out HL2.out.big) HXd.out (c - k) (by omega))
  go_upto_region 10 with fail
  have hwr1 : IntKind.i64.wrap ((k : Int) + 1) = (k : Int) + 1 := by rw [IntKind.wrap_i64]; omega
  have hwr2 : IntKind.i64.wrap ((tof : Int) + (y.size : Int)) = (tof : Int) + (y.size : Int) := by rw [IntKind.wrap_i64]; omega
  go_region_with (go_at_call 19; refine HP4.out.mono ?_; rintro e wp ⟨rfl, hb⟩; have c5 := (hb.cell (p := ⟨b, _, none⟩) (Nat.lt_of_lt_of_le hblt HXd.out.size)).trans ((HXd.out.cell (p := ⟨b, _, none⟩) hblt).trans HC3.out); have HB5 := Lib.hid hb; clear hb)
  all_goals
    have HB6 := Lib.hid (HB4.out.trans ((below_drewN (Below.refl w.heap.size w4) 1).trans (HB5.out.mono HB4.out.size)))
    have HY5 := Lib.hid (HXd.out.trans (HB5.out.mono HXd.out.size))
    have HL5 := Lib.hid (HL2.out.below HY5.out HL2.out.big)
    have HV5 := Lib.hid (HV1.out.below ((below_drewN (Below.refl w4.heap.size w4) 1).trans HB5.out))
    have q5 : decide ((tof : Int) + (y.size : Int) ≤ (s.size : Int)) = true := decide_eq_true (by omega)
    have q6 : min ((tof : Int) + (y.size : Int)) (s.size : Int) = (tof : Int) + (y.size : Int) := by omega
    go_wp2_with fail
    refine (scan_at (s.extract 0 (tof + y.size)) _ HL5.out _ HQ2.out).mono ?_
    rintro e w6 ⟨v2, rfl, hs2, hb⟩
    have HB7 := Lib.hid (HB6.out.trans (hb.mono HB6.out.size))
    have HW6 := Lib.hid (HY5.out.trans (hb.mono HY5.out.size))
    have HV6 := Lib.hid (HV5.out.below hb)
    have HV2 := Lib.hid hs2
    have HT16 := Lib.hid (HT1.out.below HW6.out)
    have HT26 := Lib.hid (HT2.out.below HW6.out)
    clear hb hs2
    go_wp2_with fail
    refine (HE1.out v1 _ _ HV6.out HT16.out).mono ?_
    rintro e w7 ⟨rfl, m1, rfl⟩
    have HV2' := Lib.hid (HV2.out.below (below_drewN (Below.refl w6.heap.size w6) m1))
    have HT27 := Lib.hid (HT26.out.below (below_drewN (Below.refl w6.heap.size w6) m1))
    go_wp2_with fail
    refine (HE2.out v2 _ _ HV2'.out HT27.out).mono ?_
    rintro e w8 ⟨rfl, m2, rfl⟩
    go_wp2
    go_ret
    exact ⟨rfl, below_drewN HB7.out _⟩

set_option maxHeartbeats 1000000 in
set_option maxRecDepth 100000 in
theorem tokenCuts_err (s : ByteArray) (x : Int) (w : World) (hL : LW w) (off : Nat) (er : Int) (hR : scanS s.data.toList = ⟨[], off, er⟩) (he : er ≠ 0) :
    Calls Tryd.prog 9 #[.string s, .int .i64 x] w fun e w' => e = .returned (.bool true) ∧ Below w.heap.size w w' := by
  have HR := Lib.hid hR
  have HL := Lib.hid hL
  have hne : (er != 0) = true := by simpa using he
  clear hR hL he
  go_enter Tryd.func9, Tryd.ntmps9
  go_wp2_with (go_at_call 11; refine (awake_any _ HL.out).mono ?_; rintro e w1 ⟨rfl, hb⟩; have HB1 := Lib.hid hb; have HL1 := Lib.hid (HL.out.below hb HL.out.big); clear hb)
  go_wp2_with fail
  refine (scan_at s _ HL1.out _ HR.out).mono ?_
  rintro e w2 ⟨v, rfl, hs2, hb⟩
  obtain ⟨A, c, rfl, _, _⟩ := hs2
  have HB2 := Lib.hid (HB1.out.trans (hb.mono HB1.out.size))
  clear hb
  go_wp2
  go_ret
  exact ⟨rfl, HB2.out⟩

theorem tokenCuts_any (s : ByteArray) (x : Int) (w : World) (_hs : s.size ≤ 140737488351232) (_h1 : -9223372036854775808 ≤ x) (_h2 : x ≤ 9223372036854775807) (hL : LW w) :
    Calls Tryd.prog 9 #[.string s, .int .i64 x] w fun e w' => e = .returned (.bool true) ∧ Below w.heap.size w w' := by
  have hsl : s.data.toList.length = s.size := by simp
  rcases scanS_cases s.data.toList with ⟨ts, h1, h2, h3⟩ | ⟨off, er, h1, h2, _⟩
  · exact tokenCuts_ok s x w hL ts h1 h2 (by omega)
  · exact tokenCuts_err s x w hL off er h1 h2
end Go.Proofs.YtaenmaokieomgaaDoor
