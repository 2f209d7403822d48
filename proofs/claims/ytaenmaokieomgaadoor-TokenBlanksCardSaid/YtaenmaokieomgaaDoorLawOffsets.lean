/-
  The walk of the law TokenOffsets. Condition: as for Scan.
-/
import Derived.Test.YtaenmaokieomgaaDoorWalkPrint
import Derived.Test.YtaenmaokieomgaaDoorMathU
import Derived.Test.YtaenmaokieomgaaDoorLawScans
import Derived.WalkSpells
namespace Go.Proofs.YtaenmaokieomgaaDoor
open Go.RowKit

def ptOf (t : Tok) : PT := ⟨t.kind, strB t.text, t.value, t.off⟩
theorem item_pt (t : Tok) : itemS (ptOf t) = itemT t.kind t.text t.value := by
  unfold itemS itemT ptOf
  simp [strB]
theorem print_one (t : Tok) : printT 0 [ptOf t] = itemT t.kind t.text t.value := by
  show sepS 0 ++ (itemS (ptOf t) ++ []) = _
  rw [List.append_nil, item_pt]
  rfl

/-- A part of a slice of tokens, as Print takes it. -/
theorem pslice_one {w : World} {b o c' : Nat} {ts : List Tok} (h : ∀ (i : Nat) (t : Tok), ts[i]? = some t → TokAt w b (o + i * 4) t) {i : Nat} {t : Tok} (ht : ts[i]? = some t) (hc : 1 ≤ c') :
    PSlice w.heap.size w (.slice (some ⟨b, o + i * 4, none⟩) 1 c') [ptOf t] := by
  obtain ⟨e0, e1, e2, e3⟩ := h i t ht
  refine ⟨_, c', rfl, hc, fun _ => ⟨b, o + i * 4, rfl, World.block_lt_of_cell? w _ e0, fun j p hp => ?_⟩⟩
  cases j with
  | zero =>
    rw [List.getElem?_cons_zero] at hp
    injection hp with hp
    subst hp
    exact ⟨by simpa [ptOf] using e0, by simpa [ptOf] using e1, by simpa [ptOf] using e2, by simpa [ptOf] using e3⟩
  | succ j => simp at hp

theorem print_tok {w : World} {b o c' : Nat} {ts : List Tok} (hL : LW w) (h : ∀ (i : Nat) (t : Tok), ts[i]? = some t → TokAt w b (o + i * 4) t) {i : Nat} {t : Tok} (ht : ts[i]? = some t) (hc : 1 ≤ c')
    (hv : t.value ≤ 9223372036854775807) (hl : (itemT t.kind t.text t.value).length ≤ 4096) {x : ByteArray} (hx : strB (itemT t.kind t.text t.value) = x) :
    Calls Tryd.prog 19 #[.slice (some ⟨b, o + i * 4, none⟩) 1 c'] w fun e w' => e = .returned (.string x) ∧ Below w.heap.size w w' := by
  have hp := print_any _ [ptOf t] w hL (pslice_one h ht hc) (by simp) (by rw [print_one]; omega) (fun p hp => by simp only [List.mem_singleton] at hp; subst hp; exact hv)
  rwa [print_one, hx] at hp

theorem scan_value {l : List UInt8} {ts : List Tok} (h : scanL l 0 = ⟨ts, 0, 0⟩) {i : Nat} {t : Tok} (ht : ts[i]? = some t) : t.value ≤ 9223372036854775807 := by
  obtain ⟨_, _, _, _, _, _, f, e, hf, _⟩ := token_at h ht
  rw [e]
  exact (firstS_value hf).2

set_option maxHeartbeats 2000000 in
set_option maxRecDepth 100000 in
theorem tokenOffsets_ok (s : ByteArray) (w : World) (hL : LW w) (ts : List Tok) (hR : scanS s.data.toList = ⟨ts, 0, 0⟩) (hS : scanL s.data.toList 0 = ⟨ts, 0, 0⟩) (hsz : s.size ≤ 4096) :
    Calls Tryd.prog 8 #[.string s] w fun e w' => e = .returned (.bool true) ∧ Below w.heap.size w w' := by
  have HR := Lib.hid hR
  have HS := Lib.hid hS
  have hn : ts.length ≤ 100000 := by have := scan_len hR; exact this
  have HL := Lib.hid hL
  clear hR hS hL
  go_enter Tryd.func8, Tryd.ntmps8
  go_wp2_with (go_at_call 11; refine (awake_any _ HL.out).mono ?_; rintro e w1 ⟨rfl, hb⟩; have HB1 := Lib.hid hb; have HL1 := Lib.hid (HL.out.below hb HL.out.big); clear hb)
  go_wp2_with fail
  refine (scan_at s _ HL1.out _ HR.out).mono ?_
  rintro e w2 ⟨v, rfl, hs, hb⟩
  have HT := Lib.hid hs
  have HB2 := Lib.hid (HB1.out.trans (hb.mono HB1.out.size))
  have HL2 := Lib.hid (HL1.out.below hb HL1.out.big)
  obtain ⟨A, c, rfl, hcap, hcells⟩ := hs
  have HC := Lib.hid hcells
  clear hb hcells
  obtain ⟨n, hnn⟩ : ∃ n, ts.length = n := ⟨_, rfl⟩
  have HN := Lib.hid hnn
  simp only [hnn] at hn hcap ⊢
  clear hnn
  go_wp2_with fail
  go_loopg [6, 34] n (fun g fv iv wx => ∃ (k fr : Nat), k + g = n ∧ iv = .int .i64 k ∧ fv = .int .i64 fr ∧ fr ≤ s.size ∧ (∀ t, ts[k]? = some t → fr ≤ t.off) ∧ Below w2.heap.size w2 wx)
  case atStart => exact ⟨0, 0, by omega, rfl, rfl, Nat.zero_le _, fun _ _ => Nat.zero_le _, Below.refl _ _⟩
  case round =>
    obtain ⟨k, fr, hkg, rfl, rfl, hfr, hord, hBx⟩ := hrel
    have HG := Lib.hid hkg
    have HO := Lib.hid hord
    have HX := Lib.hid hBx
    clear hkg hord hBx
    cases gk with
    | zero =>
      have hge : n ≤ k := by have := HG.out; omega
      have hge2 : ¬ k < n := by omega
      go_wp2
      go_ret
      exact ⟨rfl, HB2.out.trans (HX.out.mono HB2.out.size)⟩
    | succ g =>
      have hlt : k < n := by have := HG.out; omega
      have hne : ts ≠ [] := fun h => by have := HN.out; rw [h] at this; simp at this; omega
      obtain ⟨b, o, rfl, hcs⟩ := HC.out hne
      obtain ⟨t, ht⟩ : ∃ t, ts[k]? = some t := ⟨_, List.getElem?_eq_getElem (by have := HN.out; omega)⟩
      have hblt : b < w2.heap.size := World.block_lt_of_cell? w2 _ (hcs k t ht).1
      have hcx : ∀ (i : Nat) (t : Tok), ts[i]? = some t → TokAt wr b (o + i * 4) t := fun i t hi => by
        obtain ⟨e0, e1, e2, e3⟩ := hcs i t hi
        exact ⟨(HX.out.cell (p := ⟨b, _, none⟩) hblt).trans e0, (HX.out.cell (p := ⟨b, _, none⟩) hblt).trans e1, (HX.out.cell (p := ⟨b, _, none⟩) hblt).trans e2, (HX.out.cell (p := ⟨b, _, none⟩) hblt).trans e3⟩
      have hbr : b < wr.heap.size := World.block_lt_of_cell? wr _ (hcx k t ht).1
      obtain ⟨g1, g2, g3, _, _, g6, _⟩ := token_at HS.out ht
      have hval := scan_value HS.out ht
      have hsl : s.data.toList.length = s.size := by simp
      rw [hsl] at g2
      obtain ⟨x, hx⟩ : ∃ x, strB (itemT t.kind t.text t.value) = x := ⟨_, rfl⟩
      have hxs : x.size = (itemT t.kind t.text t.value).length := by
        rw [← hx]; show (itemT t.kind t.text t.value).toArray.size = _; simp
      rw [← hxs] at g1 g2 g3 g6
      have hext : s.extract t.off (t.off + x.size) = x := by
        rw [strB_drop, show t.off + x.size - t.off = x.size by omega, g3, hx]
      have HPR := Lib.hid (fun c' (hc : 1 ≤ c') => print_tok (c' := c') (HL2.out.below HX.out HL2.out.big) hcx ht hc hval (by omega) hx)
      have HC3 := Lib.hid (hcx k t ht).2.2.2
      have hfo : fr ≤ t.off := HO.out t ht
      have HG6 := Lib.hid g6
      clear hcx hcs hval hsl hx hxs g3 g6 hne HO
      obtain ⟨tk, tt, tv, tof⟩ := t
      simp only at *
      have HTT := Lib.hid ht
      clear ht
      go_wp2_with fail
      refine (HPR.out _ (by omega)).mono ?_
      rintro e wp ⟨rfl, hb⟩
      have c3 := (hb.cell (p := ⟨b, _, none⟩) hbr).trans HC3.out
      have HB3 := Lib.hid hb
      clear hb
      have q1 : decide (tof < fr) = false := decide_eq_false (by omega)
      have q1' : decide ((tof : Int) < (fr : Int)) = false := decide_eq_false (by omega)
      have q2 : decide ((s.size : Int) < (tof : Int) + (x.size : Int)) = false := decide_eq_false (by omega)
      have q2' : decide (s.size < tof + x.size) = false := decide_eq_false (by omega)
      have q3 : ((x.size : Int) == 0) = false := beq_eq_false_iff_ne.2 (by omega)
      have q3' : (x.size == 0) = false := beq_eq_false_iff_ne.2 (by omega)
      go_wp2_with fail
      go_quiet (fail)
      go_wp2
      go_roundg g
      case rel => exact ⟨k + 1, tof + x.size, by have := HG.out; omega, by go_num, by rw [Int.natCast_add], by omega, fun t' ht' => HG6.out t' ht', below_drewN (HX.out.trans (HB3.out.mono HX.out.size)) _⟩
      case measure => omega

set_option maxHeartbeats 1000000 in
set_option maxRecDepth 100000 in
theorem tokenOffsets_err (s : ByteArray) (w : World) (hL : LW w) (off : Nat) (er : Int) (hR : scanS s.data.toList = ⟨[], off, er⟩) (he : er ≠ 0) (ho : off ≤ s.size) :
    Calls Tryd.prog 8 #[.string s] w fun e w' => e = .returned (.bool true) ∧ Below w.heap.size w w' := by
  have HR := Lib.hid hR
  have HL := Lib.hid hL
  have hne : (er != 0) = true := by simpa using he
  have q1 : decide ((off : Int) ≤ (s.size : Int)) = true := decide_eq_true (by omega)
  have q2 : decide ((0 : Int) ≤ (off : Int)) = true := decide_eq_true (by omega)
  clear hR hL he
  go_enter Tryd.func8, Tryd.ntmps8
  go_wp2_with (go_at_call 11; refine (awake_any _ HL.out).mono ?_; rintro e w1 ⟨rfl, hb⟩; have HB1 := Lib.hid hb; have HL1 := Lib.hid (HL.out.below hb HL.out.big); clear hb)
  go_wp2_with fail
  refine (scan_at s _ HL1.out _ HR.out).mono ?_
  rintro e w2 ⟨v, rfl, hs2, hb⟩
  obtain ⟨A, c, rfl, _, _⟩ := hs2
  have HB2 := Lib.hid (HB1.out.trans (hb.mono HB1.out.size))
  clear hb
  go_wp2
  go_ret
  exact ⟨rfl, HB2.out⟩

theorem tokenOffsets_any (s : ByteArray) (w : World) (_hs : s.size ≤ 140737488351232) (hL : LW w) : Calls Tryd.prog 8 #[.string s] w fun e w' => e = .returned (.bool true) ∧ Below w.heap.size w w' := by
  have hsl : s.data.toList.length = s.size := by simp
  rcases scanS_cases s.data.toList with ⟨ts, h1, h2, h3⟩ | ⟨off, er, h1, h2, h3⟩
  · exact tokenOffsets_ok s w hL ts h1 h2 (by omega)
  · exact tokenOffsets_err s w hL off er h1 h2 (by omega)
end Go.Proofs.YtaenmaokieomgaaDoor
