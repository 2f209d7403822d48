/-
  Texts of a walk, laid together by a program of the prover's own (merge.py). No conditions beyond those that each text names.
-/
import Derived.Test.YtgblgkkbggdopaaDoorZae
import Derived.Test.YtgblgkkbggdopaaDoorZai
import Derived.Test.YtgblgkkbggdopaaDoorZab
/-
  What names and declared of the document's answer return: whether all names are declared. Conditions: at most 100000 parts and declarations.
-/
namespace Go.Proofs.YtgblgkkbggdopaaDoor
open Go.RowKit

mutual
/-- Whether all names of an expression are declared. -/
def Ex.dcl (d : List UInt8 → Bool) : Ex → Bool
  | .mk op _ nm _ _ args => (!(decide (op = 2) || decide (op = 3)) || d nm) && Ex.dclL d args
def Ex.dclL (d : List UInt8 → Bool) : List Ex → Bool
  | [] => true
  | e :: r => e.dcl d && Ex.dclL d r
end
mutual
/-- Whether all names of a statement are declared. -/
def St.dcl (d : List UInt8 → Bool) : St → Bool
  | .mk kind nm _ _ p v b e => (!(decide (kind = 1) || decide (kind = 2)) || d nm) && (p.dcl d && (v.dcl d && (St.dclL d b && St.dclL d e)))
def St.dclL (d : List UInt8 → Bool) : List St → Bool
  | [] => true
  | s :: r => s.dcl d && St.dclL d r
end
/-- Whether a name is declared. -/
def dclB (l : List Vr) (nm : List UInt8) : Bool := (lookS nm l 0).2.2
theorem dclL_drop (d : List UInt8 → Bool) : ∀ (l : List Ex) (k : Nat) (e : Ex), l[k]? = some e → Ex.dclL d (l.drop k) = (e.dcl d && Ex.dclL d (l.drop (k + 1)))
  | [], _, _, h => by simp at h
  | x :: r, 0, e, h => by
    simp only [List.getElem?_cons_zero, Option.some.injEq] at h
    subst h
    simp [Ex.dclL]
  | x :: r, k + 1, e, h => by
    simp only [List.getElem?_cons_succ] at h
    simpa using dclL_drop d r k e h
theorem sdclL_drop (d : List UInt8 → Bool) : ∀ (l : List St) (k : Nat) (e : St), l[k]? = some e → St.dclL d (l.drop k) = (e.dcl d && St.dclL d (l.drop (k + 1)))
  | [], _, _, h => by simp at h
  | x :: r, 0, e, h => by
    simp only [List.getElem?_cons_zero, Option.some.injEq] at h
    subst h
    simp [St.dclL]
  | x :: r, k + 1, e, h => by
    simp only [List.getElem?_cons_succ] at h
    simpa using sdclL_drop d r k e h

set_option maxHeartbeats 8000000 in
set_option maxRecDepth 100000 in
theorem names_all (vl : List Vr) (hvn : vl.length ≤ 100000) : ∀ (n : Nat) (e : Ex), e.big ≤ n → n ≤ 100000 → ∀ (S : Nat → Prop) (w : World) (B : Option Addr) (vn vc : Nat) (a b : Int) (s : ByteArray) (c d : Int) (A : Option Addr) (l q : Nat), VrSlice S w vl (.slice B vn vc) → ExL S w e [.int .i64 a, .int .i64 b, .string s, .int .i64 c, .int .i64 d, .slice A l q] →
    Calls Tryd.prog 64 #[.slice B vn vc, .agg #[.int .i64 a, .int .i64 b, .string s, .int .i64 c, .int .i64 d, .slice A l q]] w fun e' w' => e' = .returned (.bool (e.dcl (dclB vl))) ∧ Below w.heap.size w w'
  | 0, .mk _ _ _ _ _ _, h, _ => by simp only [Ex.big] at h; omega
  | n + 1, .mk op value name slot size args, h, hn => by
    intro S w B vn vc a b s c d A l q hv hl
    have ih := names_all vl hvn n
    simp only [Ex.big] at h
    have hlq : args.length ≤ 100000 := by have := Ex.len_big args; omega
    simp only [ExL] at hl
    obtain ⟨A', c', e1, hc, hr⟩ := hl
    simp only [exCells, List.cons.injEq, Value.slice.injEq, and_true] at e1
    obtain ⟨e1, e2, e3, e4, e5, rfl, rfl, rfl⟩ := e1
    injection e1 with _ e1
    injection e2 with _ e2
    injection e3 with e3
    injection e4 with _ e4
    injection e5 with _ e5
    subst e1 e2 e3 e4 e5
    have IH := Lib.hid ih
    have HR := Lib.hid hr
    have HD := Lib.hid h
    have HVS := Lib.hid hv
    obtain ⟨m, hm⟩ : ∃ x, args.length = x := ⟨_, rfl⟩
    have HM := Lib.hid hm
    rw [hm] at hlq ⊢
    obtain ⟨R, hR⟩ : ∃ x, Ex.dcl (dclB vl) (.mk a b name c d args) = x := ⟨_, rfl⟩
    rw [hR]
    simp only [Ex.dcl, dclB] at hR
    obtain ⟨W, hW⟩ : ∃ x, w.alloc (.cells #[.int .i64 a, .int .i64 b, .string (strB name), .int .i64 c, .int .i64 d, .slice A m q] 92) = x := ⟨_, rfl⟩
    have HBW : Hid (Below w.heap.size w W) := by rw [← hW]; exact (Below.refl _ _).alloc (Nat.le_refl _) _
    have hx : W.heap[w.heap.size]? = some (.cells #[.int .i64 a, .int .i64 b, .string (strB name), .int .i64 c, .int .i64 d, .slice A m q] 92 (0, 0)) := by rw [← hW]; exact new_blk w _
    have HXW := Lib.hid hx
    obtain ⟨x0, x1, x2, x3, x4, x5, _⟩ := box6 hx
    have hlk := lookup3_any S vl name B vn vc W (hv.still fun k h1 h2 => ⟨h1, HBW.out.block k h2⟩) hvn
    obtain ⟨L, hL⟩ : ∃ x, lookS name vl 0 = x := ⟨_, rfl⟩
    obtain ⟨L1, L2, L3⟩ := L
    rw [hL] at hlk hR
    simp only [lkV] at hlk hR
    have HLK := Lib.hid hlk
    have HRR := Lib.hid hR
    have h3 : (a = 2) ∨ ((a == 2) = false ∧ a = 3) ∨ ((a == 2) = false ∧ (a == 3) = false) := by
      by_cases h2 : a = 2
      · exact .inl h2
      · by_cases h3 : a = 3
        · exact .inr (.inl ⟨by simpa using h2, h3⟩)
        · exact .inr (.inr ⟨by simpa using h2, by simpa using h3⟩)
    have HNR : Hid (a = 2 ∨ a = 3 → L3 = false → false = R) := fun h1 h2 => by rw [← HRR.out, h2]; rcases h1 with rfl | rfl <;> simp
    have HGR : Hid ((a ≠ 2 ∧ a ≠ 3) ∨ L3 = true → Ex.dclL (dclB vl) args = R) := fun h1 => by
      rw [← HRR.out]
      rcases h1 with ⟨h1, h2⟩ | h1
      · simp [h1, h2]
      · simp [h1]
    clear ih hr h hm hc hR hL hlk hx hv
    go_enter Tryd.func64, Tryd.ntmps64
    go_wp2_with fail
    refine HLK.out.mono ?_
    rintro e w1 ⟨rfl, hb⟩
    have HB1 := Lib.hid (HBW.out.trans (hb.mono HBW.out.size))
    have hx1 := below_blk hb HXW.out
    clear hb x0 x1 x2 x3 x4 x5 hW
    obtain ⟨x0, x1, x2, x3, x4, x5, _⟩ := box6 hx1
    have HC1 := Lib.hid x5
    clear hx1
    have hcs : ((a = 2 ∨ a = 3) ∧ L3 = false) ∨ ((a ≠ 2 ∧ a ≠ 3) ∨ L3 = true) := by
      cases L3 with
      | true => exact .inr (.inr rfl)
      | false =>
        by_cases h : a = 2 ∨ a = 3
        · exact .inl ⟨h, rfl⟩
        · exact .inr (.inl ⟨fun h1 => h (.inl h1), fun h1 => h (.inr h1)⟩)
    rcases hcs with ⟨ha, rfl⟩ | hg
    · rcases h3 with rfl | ⟨ha2, rfl⟩ | ⟨ha2, ha3⟩
      · go_wp2_with fail
        go_ret
        exact ⟨ret_bool (HNR.out (by omega) (by simp)), HB1.out⟩
      · go_wp2_with fail
        go_ret
        exact ⟨ret_bool (HNR.out (by omega) (by simp)), HB1.out⟩
      · exfalso; simp at ha2 ha3; omega
    · have HGL := Lib.hid (HGR.out hg)
      have hL3 : a = 2 ∨ a = 3 → L3 = true := fun h => by rcases hg with h1 | h1 <;> first | exact h1 | (exfalso; omega)
      rcases h3 with rfl | ⟨ha2, rfl⟩ | ⟨ha2, ha3⟩
      case' inr.inl =>
        have hl3 := hL3 (.inl rfl)
        subst hl3
      case' inr.inr.inl =>
        have hl3 := hL3 (.inr rfl)
        subst hl3
      all_goals
        clear hg hL3
        go_wp2_with fail
        clear x0 x1 x2 x3 x4 x5
        go_loopg [8] m (fun g i wr => ∃ k : Nat, k + g = m ∧ i = .int .i64 k ∧ Hid (Ex.dclL (dclB vl) (args.drop k) = R) ∧ Hid (Below w.heap.size w wr) ∧ Hid (wr.cell? ⟨w.heap.size, 5, none⟩ = some (.slice A m q)))
        case atStart => exact ⟨0, by omega, rfl, by rw [List.drop_zero]; exact HGL, HB1, HC1⟩
        case round =>
          obtain ⟨k, hkg, rfl, HT, HB, HC⟩ := hrel
          have x5 := HC.out
          cases gk with
          | zero =>
            have hge : m ≤ k := by omega
            have HRT : Hid (true = R) := by
              have h := HT.out
              rw [List.drop_eq_nil_of_le (by have := HM.out; omega)] at h
              exact h
            clear hkg
            go_wp2_with fail
            go_ret
            exact ⟨ret_bool HRT.out, HB.out⟩
          | succ g =>
            have hlt : k < m := by omega
            have HG := Lib.hid hkg
            have hd0 := HD.out
            clear hkg
            obtain ⟨e1, he1⟩ : ∃ e1, args[k]? = some e1 := ⟨_, List.getElem?_eq_getElem (by have := HM.out; omega)⟩
            have HE1 := Lib.hid he1
            have hbg := Ex.big_at args k e1 he1
            obtain ⟨bb, o, rfl, hS, hrow⟩ := HR.out (fun e => by have := HM.out; rw [e] at this; simp at this; omega)
            obtain ⟨cs, hcs, hex⟩ := ExRow.get args bb o k e1 hrow he1
            obtain ⟨a1, b1, s1, c1, d1, A1, l1, q1, rfl⟩ := hex.plain
            have hbb : bb < w.heap.size := hcs.lt
            have hw : ∀ j u, w.cell? ⟨bb, j, none⟩ = some u → wr.cell? ⟨bb, j, none⟩ = some u := fun j u hu => (HB.out.cell (p := ⟨bb, j, none⟩) hbb).trans hu
            have y0 := hw _ _ (hcs 0 _ rfl)
            have y1 := hw _ _ (hcs 1 _ rfl)
            have y2 := hw _ _ (hcs 2 _ rfl)
            have y3 := hw _ _ (hcs 3 _ rfl)
            have y4 := hw _ _ (hcs 4 _ rfl)
            have y5 := hw _ _ (hcs 5 _ rfl)
            rw [Nat.add_zero] at y0
            have HEX := Lib.hid hex
            clear hw hcs hrow he1 hex hS
            have HDR := Lib.hid (dclL_drop (dclB vl) args k e1 HE1.out)
            obtain ⟨rb, hrb⟩ : ∃ x, e1.dcl (dclB vl) = x := ⟨_, rfl⟩
            have hex2 := IH.out e1 (by omega) (by omega) S wr B vn vc a1 b1 s1 c1 d1 A1 l1 q1 (HVS.out.still fun k h1 h2 => ⟨h1, HB.out.block k h2⟩) (ExL.still (fun k hk1 hk2 => ⟨hk1, HB.out.block k hk2⟩) e1 _ HEX.out)
            rw [hrb] at hex2 HDR
            have HEX2 := Lib.hid hex2
            clear hbg hd0 hex2 hrb
            go_wp2_with fail
            refine HEX2.out.mono ?_
            rintro e' w2 ⟨rfl, hb⟩
            have HB2 := Lib.hid (HB.out.trans (hb.mono HB.out.size))
            have HC2 : Hid (w2.cell? ⟨w.heap.size, 5, none⟩ = some (.slice (some ⟨bb, o, none⟩) m q)) := (hb.cell (p := ⟨w.heap.size, 5, none⟩) (World.block_lt_of_cell? _ _ x5)).trans x5
            clear hb y0 y1 y2 y3 y4 y5 x5
            cases rb with
            | false =>
              have HRF : Hid (false = R) := by rw [← HT.out, HDR.out]; rfl
              go_wp2_with fail
              go_ret
              exact ⟨ret_bool HRF.out, HB2.out⟩
            | true =>
              go_wp2_with fail
              go_roundg g
              case rel => exact ⟨k + 1, by have := HG.out; omega, by go_num, by rw [← HT.out, HDR.out]; rfl, HB2, HC2⟩
              case measure => omega

end Go.Proofs.YtgblgkkbggdopaaDoor
