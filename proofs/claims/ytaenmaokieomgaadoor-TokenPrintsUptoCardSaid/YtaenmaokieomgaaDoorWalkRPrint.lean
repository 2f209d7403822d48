/-
  What Print of the document's answer returns: the text of the tokens. Condition: the text has at most 2^46 bytes.
-/
import Derived.Test.YtaenmaokieomgaaDoorWalkPrint
namespace Go.Proofs.YtaenmaokieomgaaDoor
open Go.RowKit

theorem strB_size (l : List UInt8) : (strB l).size = l.length := by
  show l.toArray.size = l.length
  simp
theorem strB_data (s : ByteArray) : strB s.data.toList = s := by
  apply ByteArray.ext
  simp [strB]

theorem text_item {kd vl of : Int} {tx : ByteArray} (h : kd = 1 ∨ kd = 3) : tx = strB (itemS ⟨kd, tx, vl, of⟩) := by rw [← item_text h]; exact (strB_data tx).symm

theorem num_item {vl of : Int} {tx : ByteArray} : strB (Lib.decDigits vl.toNat) = strB (itemS ⟨2, tx, vl, of⟩) := by
  rw [← item_num]; simp [strB]
theorem rprint_sum0 {acc sep it : List UInt8} {ab tx : ByteArray} (ha : strB acc = ab) (hs : sep = []) (hi : tx = strB it) : ab ++ tx = strB (acc ++ (sep ++ it)) := by
  rw [← ha, hs, hi, strB_append]; rfl
theorem rprint_sum1 {acc sep it : List UInt8} {ab tx : ByteArray} (ha : strB acc = ab) (hs : sep = [32]) (hi : tx = strB it) : ab ++ { data := #[32] } ++ tx = strB (acc ++ (sep ++ it)) := by
  rw [← ha, hs, hi, show ({ data := #[32] } : ByteArray) = strB [32] from rfl, strB_append, strB_append, List.append_assoc]
theorem rprint_sum0n {acc sep it : List UInt8} {ab : ByteArray} (ha : strB acc = ab) (hs : sep = []) (hi : [] = it) : ab = strB (acc ++ (sep ++ it)) := by
  rw [← ha, hs, ← hi, List.append_nil, List.append_nil]
theorem rprint_sum1n {acc sep it : List UInt8} {ab : ByteArray} (ha : strB acc = ab) (hs : sep = [32]) (hi : [] = it) : ab ++ { data := #[32] } = strB (acc ++ (sep ++ it)) := by
  rw [← ha, hs, ← hi, List.append_nil, show ({ data := #[32] } : ByteArray) = strB [32] from rfl, strB_append]

set_option maxHeartbeats 1000000 in
set_option maxRecDepth 100000 in
theorem rprint_some (pb po n c : Nat) (ps : List PT) (w : World) (hpb : pb < w.heap.size) (hlen : ps.length = n) (hn : n ≤ 100000) (hP : ∀ (i : Nat) (p : PT), ps[i]? = some p → PAt w pb (po + i * 4) p) (hbd : (printT 0 ps).length ≤ 70368744177664) (hv : ∀ p ∈ ps, p.value ≤ 9223372036854775807) :
    Calls Tryd.prog 20 #[.slice (some ⟨pb, po, none⟩) n c] w fun e w' => e = .returned (.string (strB (printT 0 ps))) ∧ Below w.heap.size w w' := by
  have HP := Lib.hid hP
  have HN := Lib.hid hlen
  obtain ⟨F, hF⟩ : ∃ F, printT 0 ps = F := ⟨_, rfl⟩
  rw [hF] at hbd ⊢
  have HF := Lib.hid hF
  have HVA := Lib.hid hv
  clear hP hlen hF hv
  go_enter Tryd.func20, Tryd.ntmps20
  go_wp2
  go_loopg [3, 4] n (fun g sv i wx => ∃ (k : Nat) (acc : List UInt8), k + g = n ∧ i = .int .i64 k ∧ sv = .string (strB acc) ∧ acc ++ printT k (ps.drop k) = F ∧ Below w.heap.size w wx)
  case atStart => exact ⟨0, [], by omega, rfl, rfl, HF.out, Below.refl _ _⟩
  case round =>
    obtain ⟨k, acc, hkg, rfl, rfl, hacc, hB⟩ := hrel
    have HG := Lib.hid hkg
    have HA := Lib.hid hacc
    have HB := Lib.hid hB
    clear hkg hacc hB
    cases gk with
    | zero =>
      have hge : n ≤ k := by have := HG.out; omega
      have hge2 : ¬ k < n := by omega
      clear HG
      go_wp2
      go_ret
      have h := HA.out
      rw [List.drop_eq_nil_of_le (by have := HN.out; omega), printT, List.append_nil] at h
      exact ⟨by rw [h]; rfl, HB.out⟩
    | succ g =>
      have hlt : k < n := by have := HG.out; omega
      obtain ⟨p, hp⟩ : ∃ p, ps[k]? = some p := ⟨_, List.getElem?_eq_getElem (by have := HN.out; omega)⟩
      obtain ⟨kd, tx, vl, of⟩ := p
      obtain ⟨a0, a1, a2, a3⟩ := HP.out k _ hp
      simp only at a0 a1 a2 a3
      have c0 := (HB.out.cell (p := ⟨pb, _, none⟩) hpb).trans a0
      have c1 := (HB.out.cell (p := ⟨pb, _, none⟩) hpb).trans a1
      have c2 := (HB.out.cell (p := ⟨pb, _, none⟩) hpb).trans a2
      clear a0 a1 a2 a3
      have HPK := Lib.hid hp
      have HV : Hid (vl ≤ 9223372036854775807) := HVA.out _ (List.mem_of_getElem? hp)
      clear hp
      have HST := Lib.hid (print_step HA.out HPK.out)
      have hlen : acc.length + (sepS k).length + (itemS ⟨kd, tx, vl, of⟩).length ≤ 70368744177664 := by
        have h := congrArg List.length HST.out
        simp only [List.length_append] at h
        omega
      clear HA HP HPK
      obtain ⟨ab, hab⟩ : ∃ ab, strB acc = ab := ⟨_, rfl⟩
      rw [hab]
      have hs0 : ab.size + (sepS k).length + (itemS ⟨kd, tx, vl, of⟩).length ≤ 70368744177664 := by rw [← hab, strB_size]; exact hlen
      have HAB := Lib.hid hab
      clear hab hlen
      by_cases hk0 : k = 0
      · have HSEP : Hid (sepS k = []) := (by rw [hk0]; rfl : sepS k = [])
        have hk0a : decide (0 < (k : Int)) = false := decide_eq_false (by omega)
        have hk0b : decide (0 < k) = false := decide_eq_false (by omega)
        clear hk0
        have hsz : ab.size ≤ 70368744177664 := by omega
        by_cases hkd1 : kd = 1
        · subst hkd1
          have hit := text_item (kd := 1) (tx := tx) (vl := vl) (of := of) (by decide)
          have htx : tx.size ≤ 70368744177664 := by
            have h2 := congrArg ByteArray.size hit
            rw [strB_size] at h2
            omega
          have HSUM := Lib.hid (rprint_sum0 HAB.out HSEP.out hit)
          have HBF := HB
          clear hit hs0
          go_wp2
          go_roundg g
          case rel => exact ⟨k + 1, acc ++ (sepS k ++ itemS ⟨1, tx, vl, of⟩), by have := HG.out; omega, by go_num, by rw [← HSUM.out], HST.out, HBF.out⟩
          case measure => omega
        by_cases hkd3 : kd = 3
        · subst hkd3
          have hit := text_item (kd := 3) (tx := tx) (vl := vl) (of := of) (by decide)
          have htx : tx.size ≤ 70368744177664 := by
            have h2 := congrArg ByteArray.size hit
            rw [strB_size] at h2
            omega
          have HSUM := Lib.hid (rprint_sum0 HAB.out HSEP.out hit)
          have HBF := HB
          clear hit hs0
          go_wp2
          go_roundg g
          case rel => exact ⟨k + 1, acc ++ (sepS k ++ itemS ⟨3, tx, vl, of⟩), by have := HG.out; omega, by go_num, by rw [← HSUM.out], HST.out, HBF.out⟩
          case measure => omega
        by_cases hkd2 : kd = 2
        · subst hkd2
          clear hkd1 hkd3
          obtain ⟨m, hm⟩ : ∃ m, strB (Lib.decDigits vl.toNat) = m := ⟨_, rfl⟩
          have HDEC := Lib.hid (fun W => decimal_any vl HV.out W)
          have hit := num_item (tx := tx) (vl := vl) (of := of)
          rw [hm] at HDEC hit
          have htx : m.size ≤ 70368744177664 := by
            have h2 := congrArg ByteArray.size hit
            rw [strB_size] at h2
            omega
          have HSUM := Lib.hid (rprint_sum0 HAB.out HSEP.out hit)
          clear hit hs0 hm
          go_wp2_with (go_at_call 25; refine (HDEC.out _).mono ?_; rintro e w2 ⟨rfl, hb2⟩; have HBF := Lib.hid (HB.out.trans (hb2.mono HB.out.size)); clear hb2)
          go_roundg g
          case rel => exact ⟨k + 1, acc ++ (sepS k ++ itemS ⟨2, tx, vl, of⟩), by have := HG.out; omega, by go_num, by rw [← HSUM.out], HST.out, HBF.out⟩
          case measure => omega
        have hk1 : (kd == 1) = false := beq_eq_false_iff_ne.2 hkd1
        have hk3 : (kd == 3) = false := beq_eq_false_iff_ne.2 hkd3
        have hk2 : (kd == 2) = false := beq_eq_false_iff_ne.2 hkd2
        have HSUM := Lib.hid (rprint_sum0n HAB.out HSEP.out (item_none (tx := tx) (vl := vl) (of := of) hkd1 hkd3 hkd2))
        have HBF := HB
        clear hkd1 hkd3 hkd2 hs0
        go_wp2
        go_roundg g
        case rel => exact ⟨k + 1, acc ++ (sepS k ++ itemS ⟨kd, tx, vl, of⟩), by have := HG.out; omega, by go_num, by rw [← HSUM.out], HST.out, HBF.out⟩
        case measure => omega
      · have hkp : 0 < k := by omega
        have HSEP : Hid (sepS k = [32]) := (if_pos hkp : sepS k = [32])
        clear hk0
        have hsz : ab.size ≤ 70368744177664 := by omega
        by_cases hkd1 : kd = 1
        · subst hkd1
          have hit := text_item (kd := 1) (tx := tx) (vl := vl) (of := of) (by decide)
          have htx : tx.size ≤ 70368744177664 := by
            have h2 := congrArg ByteArray.size hit
            rw [strB_size] at h2
            omega
          have HSUM := Lib.hid (rprint_sum1 HAB.out HSEP.out hit)
          have HBF := HB
          clear hit hs0
          go_wp2
          go_roundg g
          case rel => exact ⟨k + 1, acc ++ (sepS k ++ itemS ⟨1, tx, vl, of⟩), by have := HG.out; omega, by go_num, by rw [← HSUM.out], HST.out, HBF.out⟩
          case measure => omega
        by_cases hkd3 : kd = 3
        · subst hkd3
          have hit := text_item (kd := 3) (tx := tx) (vl := vl) (of := of) (by decide)
          have htx : tx.size ≤ 70368744177664 := by
            have h2 := congrArg ByteArray.size hit
            rw [strB_size] at h2
            omega
          have HSUM := Lib.hid (rprint_sum1 HAB.out HSEP.out hit)
          have HBF := HB
          clear hit hs0
          go_wp2
          go_roundg g
          case rel => exact ⟨k + 1, acc ++ (sepS k ++ itemS ⟨3, tx, vl, of⟩), by have := HG.out; omega, by go_num, by rw [← HSUM.out], HST.out, HBF.out⟩
          case measure => omega
        by_cases hkd2 : kd = 2
        · subst hkd2
          clear hkd1 hkd3
          obtain ⟨m, hm⟩ : ∃ m, strB (Lib.decDigits vl.toNat) = m := ⟨_, rfl⟩
          have HDEC := Lib.hid (fun W => decimal_any vl HV.out W)
          have hit := num_item (tx := tx) (vl := vl) (of := of)
          rw [hm] at HDEC hit
          have htx : m.size ≤ 70368744177664 := by
            have h2 := congrArg ByteArray.size hit
            rw [strB_size] at h2
            omega
          have HSUM := Lib.hid (rprint_sum1 HAB.out HSEP.out hit)
          clear hit hs0 hm
          go_wp2_with (go_at_call 25; refine (HDEC.out _).mono ?_; rintro e w2 ⟨rfl, hb2⟩; have HBF := Lib.hid (HB.out.trans (hb2.mono HB.out.size)); clear hb2)
          go_roundg g
          case rel => exact ⟨k + 1, acc ++ (sepS k ++ itemS ⟨2, tx, vl, of⟩), by have := HG.out; omega, by go_num, by rw [← HSUM.out], HST.out, HBF.out⟩
          case measure => omega
        have hk1 : (kd == 1) = false := beq_eq_false_iff_ne.2 hkd1
        have hk3 : (kd == 3) = false := beq_eq_false_iff_ne.2 hkd3
        have hk2 : (kd == 2) = false := beq_eq_false_iff_ne.2 hkd2
        have HSUM := Lib.hid (rprint_sum1n HAB.out HSEP.out (item_none (tx := tx) (vl := vl) (of := of) hkd1 hkd3 hkd2))
        have HBF := HB
        clear hkd1 hkd3 hkd2 hs0
        go_wp2
        go_roundg g
        case rel => exact ⟨k + 1, acc ++ (sepS k ++ itemS ⟨kd, tx, vl, of⟩), by have := HG.out; omega, by go_num, by rw [← HSUM.out], HST.out, HBF.out⟩
        case measure => omega


set_option maxHeartbeats 400000 in
theorem rprint_none (A : Option Addr) (c : Nat) (w : World) : Calls Tryd.prog 20 #[.slice A 0 c] w fun e w' => e = .returned (.string (strB [])) ∧ w = w' := by
  go_enter Tryd.func20, Tryd.ntmps20
  go_wp2
  go_loopg [3, 4] 0 (fun _ sv i wx => i = .int .i64 0 ∧ sv = .string (strB []) ∧ wx = w)
  case atStart => exact ⟨rfl, rfl, rfl⟩
  case round =>
    obtain ⟨rfl, rfl, rfl⟩ := hrel
    go_wp2
    go_ret
    exact ⟨rfl, rfl⟩

theorem rprint_any (v : Value) (ps : List PT) (w : World) (hP : PSlice w.heap.size w v ps) (hn : ps.length ≤ 100000) (hbd : (printT 0 ps).length ≤ 70368744177664) (hv : ∀ p ∈ ps, p.value ≤ 9223372036854775807) :
    Calls Tryd.prog 20 #[v] w fun e w' => e = .returned (.string (strB (printT 0 ps))) ∧ Below w.heap.size w w' := by
  obtain ⟨A, c, rfl, _, h⟩ := hP
  by_cases h0 : ps = []
  · subst h0
    refine (rprint_none A c w).mono ?_
    rintro e w' ⟨rfl, rfl⟩
    exact ⟨rfl, Below.refl _ _⟩
  · obtain ⟨b, o, rfl, hb, h1⟩ := h h0
    exact rprint_some b o ps.length c ps w hb rfl hn h1 hbd hv

end Go.Proofs.YtaenmaokieomgaaDoor
