/-
  What Print of package token and Print of the document's answer return: the text of the tokens. Condition: the text has at most 2^46 bytes; as for Scan besides.
-/
import Derived.Test.YtaenmaokieomgaaDoorWalkBuf
import Derived.Test.YtaenmaokieomgaaDoorLawNumbers
import Derived.Lib.AppendIntMem
namespace Go.Proofs.YtaenmaokieomgaaDoor
open Go.RowKit

/-- A token as a caller may give it. -/
structure PT where
  kind : Int
  text : ByteArray
  value : Int
  off : Int

def PAt (w : World) (b o : Nat) (p : PT) : Prop :=
  w.cell? ⟨b, o, none⟩ = some (.int .i64 p.kind) ∧ w.cell? ⟨b, o + 1, none⟩ = some (.string p.text) ∧ w.cell? ⟨b, o + 2, none⟩ = some (.int .i64 p.value) ∧ w.cell? ⟨b, o + 3, none⟩ = some (.int .i64 p.off)

/-- A slice of such tokens reads as a list, and lies below the block B. -/
def PSlice (B : Nat) (w : World) (v : Value) (ps : List PT) : Prop :=
  ∃ A c, v = .slice A ps.length c ∧ ps.length ≤ c ∧ (ps ≠ [] → ∃ b o, A = some ⟨b, o, none⟩ ∧ b < B ∧ ∀ (i : Nat) (p : PT), ps[i]? = some p → PAt w b (o + i * 4) p)

/-- The text of one token. -/
def itemS (p : PT) : List UInt8 := if p.kind = 1 ∨ p.kind = 3 then p.text.data.toList else if p.kind = 2 then Lib.decDigits p.value.toNat else []
def sepS (k : Nat) : List UInt8 := if 0 < k then [32] else []
/-- The text of tokens, the first of which is number k. -/
def printT : Nat → List PT → List UInt8
  | _, [] => []
  | k, p :: r => sepS k ++ (itemS p ++ printT (k + 1) r)

theorem pt_drop {ps : List PT} {k : Nat} {p : PT} (h : ps[k]? = some p) : ps.drop k = p :: ps.drop (k + 1) := by
  obtain ⟨hlt, rfl⟩ := List.getElem?_eq_some_iff.1 h
  exact List.drop_eq_getElem_cons hlt

theorem builder_keep {T e : TypeId} {B b : Nat} {bs : List Value} {w w' : World} (h : Lib.IsBuilder T e B b bs w) (hb : Below w.heap.size w w') : Lib.IsBuilder T e B b bs w' := by
  have hk : ∀ p, Lib.BuilderAt T e B b p bs w → Lib.BuilderAt T e B b p bs w' := fun p h => by
    have hlt := h.lt
    obtain ⟨hB, v, hh, ho, hne⟩ := h
    exact ⟨hB, v, (hb.block b hlt).trans hh, own_below ho hb, hne⟩
  rcases h with h | h
  · exact .inl (hk _ h)
  · exact .inr (hk _ h)

theorem builder_new (w : World) : Lib.IsBuilder 50 5 w.heap.size w.heap.size (Lib.byteCells []) (w.alloc (.cells #[.pointer none, .slice none 0 0] 50)) :=
  .inl ⟨Nat.le_refl _, .slice none 0 0, heap_alloc_new w _, World.ownsRow_nil _ _ _ _, by simp [Value.ownBlock]⟩

theorem print_step {acc F : List UInt8} {ps : List PT} {k : Nat} {p : PT} (h : acc ++ printT k (ps.drop k) = F) (hp : ps[k]? = some p) : (acc ++ (sepS k ++ itemS p)) ++ printT (k + 1) (ps.drop (k + 1)) = F := by
  rw [pt_drop hp, printT] at h
  rw [List.append_assoc, List.append_assoc]
  exact h
theorem item_text {kd vl of : Int} {tx : ByteArray} (h : kd = 1 ∨ kd = 3) : tx.data.toList = itemS ⟨kd, tx, vl, of⟩ := by unfold itemS; rw [if_pos h]
theorem item_num {vl of : Int} {tx : ByteArray} : (strB (Lib.decDigits vl.toNat)).data.toList = itemS ⟨2, tx, vl, of⟩ := by
  unfold itemS
  rw [if_neg (by simp), if_pos rfl]
  simp [strB]
theorem item_none {kd vl of : Int} {tx : ByteArray} (h1 : ¬ kd = 1) (h3 : ¬ kd = 3) (h2 : ¬ kd = 2) : [] = itemS ⟨kd, tx, vl, of⟩ := by
  unfold itemS
  rw [if_neg (by rintro (h | h); exact h1 h; exact h3 h), if_neg h2]
theorem print_len {acc : List UInt8} {k : Nat} {p : PT} {bs : List Value} {s : ByteArray} (h : acc.length + (sepS k).length + (itemS p).length ≤ 70368744177664) (hs : bs = Lib.byteCells (acc ++ sepS k)) (hi : s.data.toList = itemS p) : bs.length + s.size ≤ 140737488355328 := by
  have hz : s.data.toList.length = s.size := by simp
  rw [hs, Lib.byteCells_length, List.length_append, ← hz, hi]
  omega
theorem print_len1 {acc : List UInt8} {k : Nat} {p : PT} {bs : List Value} (h : acc.length + (sepS k).length + (itemS p).length ≤ 70368744177664) (hs : bs ++ [Value.int .u8 32] = Lib.byteCells (acc ++ sepS k)) : bs.length + 1 ≤ 140737488355328 := by
  have h2 := congrArg List.length hs
  rw [List.length_append, Lib.byteCells_length, List.length_append] at h2
  simp only [List.length_cons, List.length_nil] at h2
  omega
theorem print_cells {T e : TypeId} {B b : Nat} {acc : List UInt8} {k : Nat} {p : PT} {bs : List Value} {s : ByteArray} {w : World} (hs : bs = Lib.byteCells (acc ++ sepS k)) (hi : s.data.toList = itemS p) (h : Lib.BuilderAt T e B b (.pointer (some ⟨b, 0, none⟩)) (bs ++ Lib.strCells s) w) : Lib.IsBuilder T e B b (Lib.byteCells (acc ++ (sepS k ++ itemS p))) w := by
  rw [hs, Lib.strCells_eq, hi, ← Lib.byteCells_append, List.append_assoc] at h
  exact .inr h
theorem print_cells0 {T e : TypeId} {B b : Nat} {acc : List UInt8} {k : Nat} {p : PT} {bs : List Value} {w : World} (hs : bs = Lib.byteCells (acc ++ sepS k)) (hi : [] = itemS p) (h : Lib.IsBuilder T e B b bs w) : Lib.IsBuilder T e B b (Lib.byteCells (acc ++ (sepS k ++ itemS p))) w := by
  rw [← hi, List.append_nil, ← hs]
  exact h
theorem itoa_any (m : Nat) (hm : m ≤ 9223372036854775807) (w : World) (hL : LW w) : Calls Tryd.prog 36 #[.int .i64 m] w fun e w' => e = .returned (.string (strB (Lib.decDigits m))) ∧ Below w.heap.size w w' := by
  refine (Tryd.strconv_Itoa m (by omega) (by omega) w hL.tab).mono ?_
  rintro e w' ⟨rfl, k, os, rfl⟩
  refine ⟨?_, Lib.below_grow _ w (Nat.le_refl _) k os⟩
  have : Lib.itoa m = Lib.decDigits m := by unfold Lib.itoa; rw [if_neg (by omega)]; rfl
  rw [this]; rfl

set_option maxHeartbeats 1000000 in
set_option maxRecDepth 100000 in
theorem print_some (pb po n c : Nat) (ps : List PT) (w : World) (hL : LW w) (hpb : pb < w.heap.size) (hlen : ps.length = n) (hn : n ≤ 100000) (hP : ∀ (i : Nat) (p : PT), ps[i]? = some p → PAt w pb (po + i * 4) p) (hbd : (printT 0 ps).length ≤ 70368744177664) (hv : ∀ p ∈ ps, p.value ≤ 9223372036854775807) :
    Calls Tryd.prog 19 #[.slice (some ⟨pb, po, none⟩) n c] w fun e w' => e = .returned (.string (strB (printT 0 ps))) ∧ Below w.heap.size w w' := by
  have HL := Lib.hid hL
  have HP := Lib.hid hP
  have HN := Lib.hid hlen
  obtain ⟨F, hF⟩ : ∃ F, printT 0 ps = F := ⟨_, rfl⟩
  rw [hF] at hbd ⊢
  have HF := Lib.hid hF
  have HNEW := Lib.hid (builder_new w)
  have HVA := Lib.hid hv
  clear hL hP hlen hF hv
  go_enter Tryd.func19, Tryd.ntmps19
  go_wp2
  go_loopg [8] n (fun g i wx => ∃ (k : Nat) (acc : List UInt8), k + g = n ∧ i = .int .i64 k ∧ acc ++ printT k (ps.drop k) = F ∧ Lib.IsBuilder 50 5 w.heap.size w.heap.size (Lib.byteCells acc) wx ∧ Below w.heap.size w wx)
  case atStart => exact ⟨0, [], by omega, rfl, HF.out, HNEW.out, (Below.refl _ _).alloc (Nat.le_refl _) _⟩
  case round =>
    obtain ⟨k, acc, hkg, rfl, hacc, hbu, hB⟩ := hrel
    have HG := Lib.hid hkg
    have HA := Lib.hid hacc
    have HBU := Lib.hid hbu
    have HB := Lib.hid hB
    clear hkg hacc hbu hB
    cases gk with
    | zero =>
      have hge : n ≤ k := by have := HG.out; omega
      go_wp2_with (go_at_call 37; refine (Tryd.Builder_String_any _ _ acc _ HBU.out HB.out.size).mono ?_; rintro e w' ⟨rfl, hb⟩; have HB2 := Lib.hid hb; clear hb)
      go_ret
      have h := HA.out
      rw [List.drop_eq_nil_of_le (by have := HN.out; omega), printT, List.append_nil] at h
      exact ⟨by rw [h]; rfl, HB.out.trans HB2.out⟩
    | succ g =>
      have hlt : k < n := by have := HG.out; omega
      obtain ⟨p, hp⟩ : ∃ p, ps[k]? = some p := ⟨_, List.getElem?_eq_getElem (by have := HN.out; omega)⟩
      obtain ⟨kd, tx, vl, of⟩ := p
      obtain ⟨a0, a1, a2, a3⟩ := HP.out k _ hp
      simp only at a0 a1 a2 a3
      have c0 := (HB.out.cell (p := ⟨pb, _, none⟩) hpb).trans a0
      have c1 := (HB.out.cell (p := ⟨pb, _, none⟩) hpb).trans a1
      have c2 := (HB.out.cell (p := ⟨pb, _, none⟩) hpb).trans a2
      have c3 := (HB.out.cell (p := ⟨pb, _, none⟩) hpb).trans a3
      clear a0 a1 a2 a3
      have HPK := Lib.hid hp
      have HV : Hid (vl.toNat ≤ 9223372036854775807) := by
        have h := HVA.out _ (List.mem_of_getElem? hp)
        exact (show vl.toNat ≤ 9223372036854775807 by simp only at h; omega)
      clear hp
      have hbw := HBU.out
      have hne : wr.heap.size ≠ w.heap.size := by
        rcases hbw with h | h <;> (have := h.lt; omega)
      have HNEB := Lib.hid hne
      clear hbw hne
      have HBA := Lib.hid (builder_keep HBU.out ((Below.refl wr.heap.size wr).alloc (Nat.le_refl _) (.cells #[.int .i64 kd, .string tx, .int .i64 vl, .int .i64 of] 38)))
      have HBB0 := Lib.hid (HB.out.alloc HB.out.size (.cells #[.int .i64 kd, .string tx, .int .i64 vl, .int .i64 of] 38))
      have HST := Lib.hid (print_step HA.out HPK.out)
      have HLEN : Hid (acc.length + (sepS k).length + (itemS ⟨kd, tx, vl, of⟩).length ≤ 70368744177664) := by
        have h := congrArg List.length HST.out
        simp only [List.length_append] at h
        exact (show acc.length + (sepS k).length + (itemS ⟨kd, tx, vl, of⟩).length ≤ 70368744177664 by omega)
      clear HA HP HPK
      by_cases hk0 : k = 0
      · have HSEP : Hid (Lib.byteCells acc = Lib.byteCells (acc ++ sepS k)) := by rw [hk0]; show _ = _; unfold sepS; rw [if_neg (Nat.lt_irrefl 0), List.append_nil]
        have hk0a : decide (0 < (k : Int)) = false := decide_eq_false (by omega)
        have hk0b : decide (0 < k) = false := decide_eq_false (by omega)
        have HLA := Lib.hid (HL.out.below HBB0.out HL.out.big)
        clear hk0
        go_upto_region 7 with fail
        by_cases hkd : kd = 1
        · subst hkd
          have HIT := Lib.hid (item_text (kd := 1) (tx := tx) (vl := vl) (of := of) (by decide))
          go_wp2_with fail
          refine (writeString_any w.heap.size w.heap.size _ tx _ HBA.out (print_len HLEN.out HSEP.out HIT.out) HBB0.out.size).mono ?_
          rintro e w2 ⟨rfl, hbu2, hb2, _⟩
          have HBF := Lib.hid (print_cells HSEP.out HIT.out hbu2)
          have HBB := Lib.hid (HBB0.out.trans hb2)
          clear hbu2 hb2
          go_wp2
          go_roundg g
          case rel => exact ⟨k + 1, acc ++ (sepS k ++ itemS ⟨1, tx, vl, of⟩), by have := HG.out; omega, by go_num, HST.out, HBF.out, HBB.out⟩
          case measure => omega
        by_cases hkd3 : kd = 3
        · subst hkd3
          have HIT := Lib.hid (item_text (kd := 3) (tx := tx) (vl := vl) (of := of) (by decide))
          go_wp2_with fail
          refine (writeString_any w.heap.size w.heap.size _ tx _ HBA.out (print_len HLEN.out HSEP.out HIT.out) HBB0.out.size).mono ?_
          rintro e w2 ⟨rfl, hbu2, hb2, _⟩
          have HBF := Lib.hid (print_cells HSEP.out HIT.out hbu2)
          have HBB := Lib.hid (HBB0.out.trans hb2)
          clear hbu2 hb2
          go_wp2
          go_roundg g
          case rel => exact ⟨k + 1, acc ++ (sepS k ++ itemS ⟨3, tx, vl, of⟩), by have := HG.out; omega, by go_num, HST.out, HBF.out, HBB.out⟩
          case measure => omega
        by_cases hkd2 : kd = 2
        · subst hkd2
          clear hkd hkd3
          obtain ⟨m, hm⟩ : ∃ m, vl.toNat = m := ⟨_, rfl⟩
          have hit := item_num (tx := tx) (vl := vl) (of := of)
          rw [hm] at hit
          have HIT := Lib.hid hit
          have hmax : max vl 0 = (m : Int) := by omega
          have hvb := HV.out
          rw [hm] at hvb
          have HVB := Lib.hid hvb
          clear hm hit hvb HV
          go_wp2_with (first | (go_at_call 36; refine (itoa_any m HVB.out _ HLA.out).mono ?_; rintro e w2 ⟨rfl, hb2⟩; have HBU2 := Lib.hid (builder_keep HBA.out hb2); have HBB2 := Lib.hid (HBB0.out.trans (hb2.mono HBB0.out.size)); clear hb2) | (go_at_call 35; refine (writeString_any w.heap.size w.heap.size _ _ _ HBU2.out (print_len HLEN.out HSEP.out HIT.out) HBB2.out.size).mono ?_; rintro e w3 ⟨rfl, hbu3, hb3, _⟩; have HBF := Lib.hid (print_cells HSEP.out HIT.out hbu3); have HBB := Lib.hid (HBB2.out.trans hb3); clear hbu3 hb3))
          go_roundg g
          case rel => exact ⟨k + 1, acc ++ (sepS k ++ itemS ⟨2, tx, vl, of⟩), by have := HG.out; omega, by go_num, HST.out, HBF.out, HBB.out⟩
          case measure => omega
        have hk1 : (kd == 1) = false := beq_eq_false_iff_ne.2 hkd
        have hk3 : (kd == 3) = false := beq_eq_false_iff_ne.2 hkd3
        have hk2 : (kd == 2) = false := beq_eq_false_iff_ne.2 hkd2
        have HIT := Lib.hid (item_none (tx := tx) (vl := vl) (of := of) hkd hkd3 hkd2)
        have HBF := Lib.hid (print_cells0 HSEP.out HIT.out HBA.out)
        have HBB := HBB0
        clear hkd hkd3 hkd2
        go_wp2
        go_roundg g
        case rel => exact ⟨k + 1, acc ++ (sepS k ++ itemS ⟨kd, tx, vl, of⟩), by have := HG.out; omega, by go_num, HST.out, HBF.out, HBB.out⟩
        case measure => omega
      · have HSEP : Hid (Lib.byteCells acc ++ [Value.int .u8 32] = Lib.byteCells (acc ++ sepS k)) := by show _ = _; unfold sepS; rw [if_pos (by omega), Lib.byteCells_append]; rfl
        have hkp : 0 < k := by omega
        clear hk0
        go_wp2_with fail
        refine (writeByte_any w.heap.size w.heap.size _ 32 _ HBA.out (print_len1 HLEN.out HSEP.out) HBB0.out.size).mono ?_
        rintro e w1 ⟨rfl, hbu1, hb1, hk1⟩
        have hblk := hk1 wr.heap.size _ (heap_alloc_new wr _) (fun h => HNEB.out (Option.some.inj h)) (fun c fz h => by injection h with _ h2 _; cases h2)
        have d0 : w1.cell? ⟨wr.heap.size, 0, none⟩ = some (.int .i64 kd) := by rw [Lib.cell_of_heap hblk]; rfl
        have d1 : w1.cell? ⟨wr.heap.size, 1, none⟩ = some (.string tx) := by rw [Lib.cell_of_heap hblk]; rfl
        have d2 : w1.cell? ⟨wr.heap.size, 2, none⟩ = some (.int .i64 vl) := by rw [Lib.cell_of_heap hblk]; rfl
        have HBU1 : Hid (Lib.IsBuilder 50 5 w.heap.size w.heap.size (Lib.byteCells acc ++ [Value.int .u8 32]) w1) := .inr hbu1
        have HBB1 := Lib.hid (HBB0.out.trans hb1)
        have HLx := Lib.hid (HL.out.below HBB1.out HL.out.big)
        clear hbu1 hb1 hk1 hblk hkp
        by_cases hkd : kd = 1
        · subst hkd
          have HIT := Lib.hid (item_text (kd := 1) (tx := tx) (vl := vl) (of := of) (by decide))
          go_wp2_with fail
          refine (writeString_any w.heap.size w.heap.size _ tx _ HBU1.out (print_len HLEN.out HSEP.out HIT.out) HBB1.out.size).mono ?_
          rintro e w2 ⟨rfl, hbu2, hb2, _⟩
          have HBF := Lib.hid (print_cells HSEP.out HIT.out hbu2)
          have HBB := Lib.hid (HBB1.out.trans hb2)
          clear hbu2 hb2
          go_wp2
          go_roundg g
          case rel => exact ⟨k + 1, acc ++ (sepS k ++ itemS ⟨1, tx, vl, of⟩), by have := HG.out; omega, by go_num, HST.out, HBF.out, HBB.out⟩
          case measure => omega
        by_cases hkd3 : kd = 3
        · subst hkd3
          have HIT := Lib.hid (item_text (kd := 3) (tx := tx) (vl := vl) (of := of) (by decide))
          go_wp2_with fail
          refine (writeString_any w.heap.size w.heap.size _ tx _ HBU1.out (print_len HLEN.out HSEP.out HIT.out) HBB1.out.size).mono ?_
          rintro e w2 ⟨rfl, hbu2, hb2, _⟩
          have HBF := Lib.hid (print_cells HSEP.out HIT.out hbu2)
          have HBB := Lib.hid (HBB1.out.trans hb2)
          clear hbu2 hb2
          go_wp2
          go_roundg g
          case rel => exact ⟨k + 1, acc ++ (sepS k ++ itemS ⟨3, tx, vl, of⟩), by have := HG.out; omega, by go_num, HST.out, HBF.out, HBB.out⟩
          case measure => omega
        by_cases hkd2 : kd = 2
        · subst hkd2
          clear hkd hkd3
          obtain ⟨m, hm⟩ : ∃ m, vl.toNat = m := ⟨_, rfl⟩
          have hit := item_num (tx := tx) (vl := vl) (of := of)
          rw [hm] at hit
          have HIT := Lib.hid hit
          have hmax : max vl 0 = (m : Int) := by omega
          have hvb := HV.out
          rw [hm] at hvb
          have HVB := Lib.hid hvb
          clear hm hit hvb HV
          go_wp2_with (first | (go_at_call 36; refine (itoa_any m HVB.out _ HLx.out).mono ?_; rintro e w2 ⟨rfl, hb2⟩; have HBU2 := Lib.hid (builder_keep HBU1.out hb2); have HBB2 := Lib.hid (HBB1.out.trans (hb2.mono HBB1.out.size)); clear hb2) | (go_at_call 35; refine (writeString_any w.heap.size w.heap.size _ _ _ HBU2.out (print_len HLEN.out HSEP.out HIT.out) HBB2.out.size).mono ?_; rintro e w3 ⟨rfl, hbu3, hb3, _⟩; have HBF := Lib.hid (print_cells HSEP.out HIT.out hbu3); have HBB := Lib.hid (HBB2.out.trans hb3); clear hbu3 hb3))
          go_roundg g
          case rel => exact ⟨k + 1, acc ++ (sepS k ++ itemS ⟨2, tx, vl, of⟩), by have := HG.out; omega, by go_num, HST.out, HBF.out, HBB.out⟩
          case measure => omega
        have hk1 : (kd == 1) = false := beq_eq_false_iff_ne.2 hkd
        have hk3 : (kd == 3) = false := beq_eq_false_iff_ne.2 hkd3
        have hk2 : (kd == 2) = false := beq_eq_false_iff_ne.2 hkd2
        have HIT := Lib.hid (item_none (tx := tx) (vl := vl) (of := of) hkd hkd3 hkd2)
        have HBF := Lib.hid (print_cells0 HSEP.out HIT.out HBU1.out)
        have HBB := HBB1
        clear hkd hkd3 hkd2
        go_wp2
        go_roundg g
        case rel => exact ⟨k + 1, acc ++ (sepS k ++ itemS ⟨kd, tx, vl, of⟩), by have := HG.out; omega, by go_num, HST.out, HBF.out, HBB.out⟩
        case measure => omega

set_option maxHeartbeats 1000000 in
set_option maxRecDepth 100000 in
theorem print_none (A : Option Addr) (c : Nat) (w : World) : Calls Tryd.prog 19 #[.slice A 0 c] w fun e w' => e = .returned (.string (strB [])) ∧ Below w.heap.size w w' := by
  have HNEW := Lib.hid (builder_new w)
  go_enter Tryd.func19, Tryd.ntmps19
  go_wp2
  go_loopg [8] 0 (fun _ i wx => i = .int .i64 0 ∧ wx = w.alloc (.cells #[.pointer none, .slice none 0 0] 50))
  case atStart => exact ⟨rfl, rfl⟩
  case round =>
    obtain ⟨rfl, rfl⟩ := hrel
    go_wp2_with (go_at_call 37; refine (Tryd.Builder_String_any _ _ [] _ HNEW.out (by simp)).mono ?_; rintro e w' ⟨rfl, hb⟩; have HB2 := Lib.hid hb; clear hb)
    go_ret
    exact ⟨rfl, ((Below.refl _ _).alloc (Nat.le_refl _) _).trans HB2.out⟩

theorem print_any (v : Value) (ps : List PT) (w : World) (hL : LW w) (hP : PSlice w.heap.size w v ps) (hn : ps.length ≤ 100000) (hbd : (printT 0 ps).length ≤ 70368744177664) (hv : ∀ p ∈ ps, p.value ≤ 9223372036854775807) :
    Calls Tryd.prog 19 #[v] w fun e w' => e = .returned (.string (strB (printT 0 ps))) ∧ Below w.heap.size w w' := by
  obtain ⟨A, c, rfl, _, h⟩ := hP
  by_cases h0 : ps = []
  · subst h0
    exact print_none A c w
  · obtain ⟨b, o, rfl, hb, h1⟩ := h h0
    exact print_some b o ps.length c ps w hL hb rfl hn h1 hbd hv

end Go.Proofs.YtaenmaokieomgaaDoor
