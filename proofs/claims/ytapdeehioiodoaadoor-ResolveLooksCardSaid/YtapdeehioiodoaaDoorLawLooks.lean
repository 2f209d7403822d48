/-
  The walk of the law ResolveLooks. No conditions beyond that its first argument reads as a list of declarations.
-/
import Derived.Test.YtapdeehioiodoaaDoorWalkA3
import Derived.Test.YtapdeehioiodoaaDoorWalkMod
namespace Go.Proofs.YtapdeehioiodoaaDoor
open Go.RowKit

set_option maxHeartbeats 4000000 in
set_option maxRecDepth 100000 in
theorem resolveLooks_any (l : List Vr) (nm : List UInt8) (x : Int) (S : Nat → Prop) (w : World) (A : Option Addr) (n c : Nat) (hl : VrSlice S w l (.slice A n c)) :
    Calls Tryd.prog 4 #[.slice A n c, .string (strB nm), .int .i64 x] w fun e w' => e = .returned (.bool true) ∧ Below w.heap.size w w' := by
  have HL := Lib.hid hl
  have hnl : n = l.length := by obtain ⟨_, _, e, _⟩ := hl; injection e
  have HN := Lib.hid hnl
  clear hl hnl
  by_cases h30 : 30 < n
  · have h30' : (30 : Int) < (n : Int) := by omega
    clear h30
    go_enter Tryd.func4, Tryd.ntmps4
    go_wp2_with fail
    refine (awake3_any _).mono ?_
    rintro e w1 ⟨rfl, hb⟩
    have HB1 := Lib.hid hb
    clear hb
    go_wp2_with fail
    go_ret
    exact ⟨rfl, HB1.out⟩
  · have h30' : (n : Int) ≤ 30 := by omega
    have HLK : Hid (∀ (W : World) (m : List UInt8), Below w.heap.size w W → Calls Tryd.prog 16 #[.slice A n c, .string (strB m)] W fun e w' => e = .returned (lkV (lookS m l 0)) ∧ Below W.heap.size W w') :=
      fun W m hb => lookup_any S l m A n c W (HL.out.still fun k h1 h2 => ⟨h1, hb.block k h2⟩) (by rw [← HN.out]; omega)
    have HLR : Hid (∀ (W : World) (m : List UInt8), Below w.heap.size w W → Calls Tryd.prog 17 #[.slice A n c, .string (strB m)] W fun e w' => e = .returned (lkV (lookS m l 0)) ∧ Below W.heap.size W w') :=
      fun W m hb => lookup3_any S l m A n c W (HL.out.still fun k h1 h2 => ⟨h1, hb.block k h2⟩) (by rw [← HN.out]; omega)
    by_cases hc : 0 < n ∧ Int.tmod x 2 = 0
    · obtain ⟨hn0, hx⟩ := hc
      have hn0' : (0 : Int) < (n : Int) := by omega
      have HM := Lib.hid (fun W => mod_any x n W hn0 (by omega))
      clear h30
      go_enter Tryd.func4, Tryd.ntmps4
      go_wp2_with fail
      refine (awake3_any _).mono ?_
      rintro e w1 ⟨rfl, hb⟩
      have HB1 := Lib.hid hb
      clear hb
      go_wp2_with fail
      refine (HM.out _).mono ?_
      rintro e w2 ⟨k, hk, rfl, rfl⟩
      obtain ⟨v, hv⟩ : ∃ v, l[k]? = some v := ⟨_, List.getElem?_eq_getElem (by have := HN.out; omega)⟩
      obtain ⟨-, -, b, o, rfl, -, hbb, d0, _, _⟩ := HL.out.get hv
      replace d0 := (HB1.out.cell (p := ⟨b, _, none⟩) hbb).trans d0
      obtain ⟨vn, vs, vi⟩ := v
      simp only at d0
      have hkn : (k : Int) < (n : Int) := by omega
      clear hv HM hx
      go_wp2_with fail
      obtain ⟨⟨r1, r2, r3⟩, hr⟩ : ∃ r, lookS vn l 0 = r := ⟨_, rfl⟩
      have HA := Lib.hid (HLK.out w2 vn HB1.out)
      rw [hr] at HA
      refine HA.out.mono ?_
      rintro e w3 ⟨rfl, hb⟩
      have HB3 := Lib.hid (HB1.out.trans (hb.mono HB1.out.size))
      clear hb HA d0
      go_wp2_with fail
      have HA := Lib.hid (HLR.out w3 vn HB3.out)
      rw [hr] at HA
      refine HA.out.mono ?_
      rintro e w4 ⟨rfl, hb⟩
      have HB4 := Lib.hid (HB3.out.trans (hb.mono HB3.out.size))
      clear hb HA
      go_wp2_with fail
      go_ret
      exact ⟨rfl, HB4.out⟩
    · by_cases hn0 : n = 0
      · subst hn0
        clear hc h30 h30'
        go_enter Tryd.func4, Tryd.ntmps4
        go_wp2_with fail
        refine (awake3_any _).mono ?_
        rintro e w1 ⟨rfl, hb⟩
        have HB1 := Lib.hid hb
        clear hb
        go_wp2_with fail
        obtain ⟨⟨r1, r2, r3⟩, hr⟩ : ∃ r, lookS nm l 0 = r := ⟨_, rfl⟩
        have HA := Lib.hid (HLK.out w1 nm HB1.out)
        rw [hr] at HA
        refine HA.out.mono ?_
        rintro e w3 ⟨rfl, hb⟩
        have HB3 := Lib.hid (HB1.out.trans (hb.mono HB1.out.size))
        clear hb HA
        go_wp2_with fail
        have HA := Lib.hid (HLR.out w3 nm HB3.out)
        rw [hr] at HA
        refine HA.out.mono ?_
        rintro e w4 ⟨rfl, hb⟩
        have HB4 := Lib.hid (HB3.out.trans (hb.mono HB3.out.size))
        clear hb HA
        go_wp2_with fail
        go_ret
        exact ⟨rfl, HB4.out⟩
      · have hx : ¬ Int.tmod x 2 = 0 := fun h => hc ⟨by omega, h⟩
        have hn0' : (0 : Int) < (n : Int) := by omega
        clear hc h30
        go_enter Tryd.func4, Tryd.ntmps4
        go_wp2_with fail
        refine (awake3_any _).mono ?_
        rintro e w1 ⟨rfl, hb⟩
        have HB1 := Lib.hid hb
        clear hb
        go_wp2_with fail
        obtain ⟨⟨r1, r2, r3⟩, hr⟩ : ∃ r, lookS nm l 0 = r := ⟨_, rfl⟩
        have HA := Lib.hid (HLK.out w1 nm HB1.out)
        rw [hr] at HA
        refine HA.out.mono ?_
        rintro e w3 ⟨rfl, hb⟩
        have HB3 := Lib.hid (HB1.out.trans (hb.mono HB1.out.size))
        clear hb HA
        go_wp2_with fail
        have HA := Lib.hid (HLR.out w3 nm HB3.out)
        rw [hr] at HA
        refine HA.out.mono ?_
        rintro e w4 ⟨rfl, hb⟩
        have HB4 := Lib.hid (HB3.out.trans (hb.mono HB3.out.size))
        clear hb HA
        go_wp2_with fail
        go_ret
        exact ⟨rfl, HB4.out⟩
end Go.Proofs.YtapdeehioiodoaaDoor
