/-
  What Lookup of package resolve and of the document's answer return: the first cell and the size of a declaration. Conditions: at most 100000 declarations.
-/
import Derived.Test.YtgkioompcmgmdaaDoorWalkZb
import Derived.Test.YtgkioompcmgmdaaDoorMathK
namespace Go.Proofs.YtgkioompcmgmdaaDoor
open Go.RowKit

theorem rcells_any (nm : ByteArray) (sz it : Int) (w : World) : Calls Tryd.prog 29 #[.agg #[.string nm, .int .i64 sz, .int .i64 it]] w fun e w' => e = .returned (.int .i64 (max sz 1)) ∧ Below w.heap.size w w' := by
  go_enter Tryd.func29, Tryd.ntmps29
  go_wp2_with fail
  all_goals (go_ret; exact ⟨ret_int (by omega), (Below.refl _ _).alloc (Nat.le_refl _) _⟩)

theorem r3cells_any (nm : ByteArray) (sz it : Int) (w : World) : Calls Tryd.prog 24 #[.agg #[.string nm, .int .i64 sz, .int .i64 it]] w fun e w' => e = .returned (.int .i64 (min (max sz 1) 2147483649)) ∧ Below w.heap.size w w' := by
  go_enter Tryd.func24, Tryd.ntmps24
  go_wp2_with fail
  all_goals (go_ret; exact ⟨ret_int (by omega), (Below.refl _ _).alloc (Nat.le_refl _) _⟩)

/-- The cells of the declaration with the number k. -/
theorem VrSlice.get {S : Nat → Prop} {w : World} {l : List Vr} {A : Option Addr} {n c k : Nat} {v : Vr} (h : VrSlice S w l (.slice A n c)) (hk : l[k]? = some v) :
    n = l.length ∧ n ≤ c ∧ ∃ b o, A = some ⟨b, o, none⟩ ∧ S b ∧ b < w.heap.size ∧ w.cell? ⟨b, o + k * 3, none⟩ = some (.string (strB v.name)) ∧ w.cell? ⟨b, o + k * 3 + 1, none⟩ = some (.int .i64 v.size) ∧ w.cell? ⟨b, o + k * 3 + 2, none⟩ = some (.int .i64 v.init) := by
  obtain ⟨A', c', e, hc, hr⟩ := h
  injection e with e1 e2 e3
  subst e1 e2 e3
  obtain ⟨b, o, hA, hS, hcs⟩ := hr (fun e => by rw [e] at hk; simp at hk)
  have hg : ∀ (l : List Vr) (k : Nat) (v : Vr), l[k]? = some v → ∀ j, j < 3 → (l.flatMap vrCells)[k * 3 + j]? = (vrCells v)[j]? := by
    intro l
    induction l with
    | nil => intro k v h; simp at h
    | cons x r ih =>
      intro k v h j hj
      cases k with
      | zero =>
        simp only [List.getElem?_cons_zero, Option.some.injEq] at h
        subst h
        rw [List.flatMap_cons, List.getElem?_append_left (by simp [vrCells]; omega)]
        simp
      | succ k =>
        simp only [List.getElem?_cons_succ] at h
        rw [List.flatMap_cons, List.getElem?_append_right (by simp [vrCells]; omega), ← ih k v h j hj]
        congr 1
        simp [vrCells]; omega
  have h0 := hcs _ _ ((hg l k v hk 0 (by omega)).trans rfl)
  have h1 := hcs _ _ ((hg l k v hk 1 (by omega)).trans rfl)
  have h2 := hcs _ _ ((hg l k v hk 2 (by omega)).trans rfl)
  rw [Nat.add_zero] at h0
  exact ⟨rfl, hc, b, o, hA, hS, World.block_lt_of_cell? w _ h0, h0, by rw [Nat.add_assoc]; exact h1, by rw [Nat.add_assoc]; exact h2⟩

theorem lookS_drop {nm : List UInt8} {l : List Vr} {k : Nat} {v : Vr} (h : l[k]? = some v) (s : Int) :
    lookS nm (l.drop k) s = if v.name = nm then (s, max v.size 0, true) else if 2147483648 < s + cellsN v then (0, 0, false) else lookS nm (l.drop (k + 1)) (s + cellsN v) := by
  have hlt := (List.getElem?_eq_some_iff.1 h).1
  have hv : l[k] = v := (List.getElem?_eq_some_iff.1 h).2
  rw [List.drop_eq_getElem_cons hlt, hv]
  rfl
theorem lookS_end {nm : List UInt8} {l : List Vr} {k : Nat} (h : l.length ≤ k) (s : Int) : lookS nm (l.drop k) s = (0, 0, false) := by
  rw [List.drop_eq_nil_of_le h]; rfl

theorem vr_eq {a b : List UInt8} (h : a = b) : ((strB a).toList == (strB b).toList) = true := str_eq (by rw [str_data]; exact h)
theorem vr_ne {a b : List UInt8} (h : a ≠ b) : ((strB a).toList == (strB b).toList) = false := str_ne (by rw [str_data]; exact h)

/-- What a look-up returns. -/
abbrev lkV (x : Int × Int × Bool) : Value := .tuple #[.int .i64 x.1, .int .i64 x.2.1, .bool x.2.2]

set_option maxHeartbeats 1000000 in
set_option maxRecDepth 100000 in
theorem lookup_any (S : Nat → Prop) (l : List Vr) (nm : List UInt8) (A : Option Addr) (n c : Nat) (w : World) (hl : VrSlice S w l (.slice A n c)) (hn : l.length ≤ 100000) :
    Calls Tryd.prog 15 #[.slice A n c, .string (strB nm)] w fun e w' => e = .returned (lkV (lookS nm l 0)) ∧ Below w.heap.size w w' := by
  have HL := Lib.hid hl
  have hnl : n = l.length := by obtain ⟨_, _, e, _⟩ := hl; injection e
  have HN := Lib.hid hnl
  have hn1 : n ≤ 100000 := by omega
  obtain ⟨R, hR⟩ : ∃ R, lookS nm l 0 = R := ⟨_, rfl⟩
  have HR := Lib.hid hR
  rw [hR]
  clear hl hnl hn hR
  go_enter Tryd.func15, Tryd.ntmps15
  go_wp2_with fail
  go_loopg [7, 12] n (fun g sv i wr => ∃ (k : Nat) (s : Int), k + g = n ∧ i = .int .i64 k ∧ sv = .int .i64 s ∧ 0 ≤ s ∧ s ≤ 2147483648 ∧ lookS nm (l.drop k) s = R ∧ Below w.heap.size w wr)
  case atStart => exact ⟨0, 0, by omega, rfl, rfl, by omega, by omega, by rw [List.drop_zero]; exact HR.out, Below.refl _ _⟩
  case round =>
    obtain ⟨k, s, hkg, rfl, rfl, hs0, hs1, hlk, hb⟩ := hrel
    have HB := Lib.hid hb
    have HK := Lib.hid hlk
    clear hb hlk
    cases gk with
    | zero =>
      have hge : n ≤ k := by omega
      have HE : Hid (R = (0, 0, false)) := by rw [← HK.out]; exact lookS_end (by have := HN.out; omega) s
      clear hkg
      go_wp2_with fail
      exact bodyPost_ret (v := lkV (0, 0, false)) (by simp [results, Tryd.results15, go_sem]) rfl ⟨by rw [HE.out], HB.out⟩
    | succ g =>
      have hlt : k < n := by omega
      have HG := Lib.hid hkg
      clear hkg
      obtain ⟨v, hv⟩ : ∃ v, l[k]? = some v := ⟨_, List.getElem?_eq_getElem (by have := HN.out; omega)⟩
      have hst := lookS_drop (nm := nm) hv s
      rw [HK.out] at hst
      obtain ⟨-, -, b, o, rfl, -, hbb, d0, d1, d2⟩ := HL.out.get hv
      have hw : ∀ j u, w.cell? ⟨b, j, none⟩ = some u → wr.cell? ⟨b, j, none⟩ = some u := fun j u hu => (HB.out.cell (p := ⟨b, j, none⟩) hbb).trans hu
      replace d0 := hw _ _ d0
      replace d1 := hw _ _ d1
      replace d2 := hw _ _ d2
      obtain ⟨vn, vs, vi⟩ := v
      simp only at d0 d1 d2 hst
      clear hw hv
      by_cases h1 : vn = nm
      · rw [if_pos h1] at hst
        have HST := Lib.hid hst
        have ht := vr_eq h1
        clear h1 hst
        by_cases hv0 : vs < 0
        · have HM : Hid (max vs 0 = 0) := by show _ = _; omega
          go_wp2_with fail
          go_quiet (fail)
          go_wp2_with fail
          exact bodyPost_ret (v := lkV (s, 0, true)) (by simp [results, Tryd.results15, go_sem]) rfl ⟨by rw [HST.out, HM.out], below_drewN (HB.out.alloc HB.out.size _) _⟩
        · have HM : Hid (max vs 0 = vs) := by show _ = _; omega
          have hv1 : 0 ≤ vs := by omega
          clear hv0
          go_wp2_with fail
          go_quiet (fail)
          go_wp2_with fail
          exact bodyPost_ret (v := lkV (s, vs, true)) (by simp [results, Tryd.results15, go_sem]) rfl ⟨by rw [HST.out, HM.out], below_drewN (HB.out.alloc HB.out.size _) _⟩
      · rw [if_neg h1] at hst
        have ht := vr_ne h1
        clear h1
        rw [show cellsN ⟨vn, vs, vi⟩ = max vs 1 from rfl] at hst
        by_cases h2 : 2147483648 < s + max vs 1
        · rw [if_pos h2] at hst
          have HST := Lib.hid hst
          have h3 : 2147483648 - s < max vs 1 := by omega
          obtain ⟨mx, hmx⟩ : ∃ x, max vs 1 = x := ⟨_, rfl⟩
          have HC := Lib.hid (fun w' => rcells_any (strB vn) vs vi w')
          rw [hmx] at h2 h3 HC
          clear hst hmx h2
          go_wp2_with fail
          refine (HC.out _).mono ?_
          rintro e w2 ⟨rfl, hb⟩
          have HB2 := Lib.hid ((HB.out.alloc HB.out.size _).trans (hb.mono (by rw [new_size]; have := HB.out.size; omega)))
          clear hb HC d0 d1 d2 ht
          go_wp2_with fail
          exact bodyPost_ret (v := lkV (0, 0, false)) (by simp [results, Tryd.results15, go_sem]) rfl ⟨by rw [HST.out], HB2.out⟩
        · rw [if_neg h2] at hst
          have HST := Lib.hid hst
          have h3 : max vs 1 ≤ 2147483648 - s := by omega
          have h4 : 1 ≤ max vs 1 := by omega
          have HC := Lib.hid (fun w' => rcells_any (strB vn) vs vi w')
          obtain ⟨mx, hmx⟩ : ∃ x, max vs 1 = x := ⟨_, rfl⟩
          rw [hmx] at h3 h4 HC HST
          clear hst hmx h2
          go_wp2_with fail
          refine (HC.out _).mono ?_
          rintro e w2 ⟨rfl, hb⟩
          have HB2 := Lib.hid ((HB.out.alloc HB.out.size (.cells #[.string (strB vn), .int .i64 vs, .int .i64 vi] 43)).trans (hb.mono (by rw [new_size]; have := HB.out.size; omega)))
          have hx := below_blk hb (new_blk wr (.cells #[.string (strB vn), .int .i64 vs, .int .i64 vi] 43))
          have q0 : w2.cell? ⟨wr.heap.size, 0, none⟩ = some (.string (strB vn)) := by rw [Lib.cell_of_heap hx]; rfl
          have q1 : w2.cell? ⟨wr.heap.size, 1, none⟩ = some (.int .i64 vs) := by rw [Lib.cell_of_heap hx]; rfl
          have q2 : w2.cell? ⟨wr.heap.size, 2, none⟩ = some (.int .i64 vi) := by rw [Lib.cell_of_heap hx]; rfl
          clear hb hx d0 d1 d2 ht
          go_wp2_with fail
          refine (HC.out _).mono ?_
          rintro e w3 ⟨rfl, hb⟩
          have HB3 := Lib.hid (HB2.out.trans (hb.mono HB2.out.size))
          clear hb HC q0 q1 q2
          go_wp2_with fail
          go_roundg g
          case rel => exact ⟨k + 1, s + mx, by have := HG.out; omega, by go_num, by go_num, by omega, by omega, HST.out.symm, HB3.out⟩
          case measure => omega

set_option maxHeartbeats 1000000 in
set_option maxRecDepth 100000 in
theorem lookup3_any (S : Nat → Prop) (l : List Vr) (nm : List UInt8) (A : Option Addr) (n c : Nat) (w : World) (hl : VrSlice S w l (.slice A n c)) (hn : l.length ≤ 100000) :
    Calls Tryd.prog 41 #[.slice A n c, .string (strB nm)] w fun e w' => e = .returned (lkV (lookS nm l 0)) ∧ Below w.heap.size w w' := by
  have HL := Lib.hid hl
  have hnl : n = l.length := by obtain ⟨_, _, e, _⟩ := hl; injection e
  have HN := Lib.hid hnl
  have hn1 : n ≤ 100000 := by omega
  obtain ⟨R, hR⟩ : ∃ R, lookS nm l 0 = R := ⟨_, rfl⟩
  have HR := Lib.hid hR
  rw [hR]
  clear hl hnl hn hR
  go_enter Tryd.func41, Tryd.ntmps41
  go_wp2_with fail
  go_loopg [7, 8] n (fun g sv i wr => ∃ (k : Nat) (s : Int), k + g = n ∧ i = .int .i64 k ∧ sv = .int .i64 s ∧ 0 ≤ s ∧ s ≤ 2147483648 ∧ lookS nm (l.drop k) s = R ∧ Below w.heap.size w wr)
  case atStart => exact ⟨0, 0, by omega, rfl, rfl, by omega, by omega, by rw [List.drop_zero]; exact HR.out, Below.refl _ _⟩
  case round =>
    obtain ⟨k, s, hkg, rfl, rfl, hs0, hs1, hlk, hb⟩ := hrel
    have HB := Lib.hid hb
    have HK := Lib.hid hlk
    clear hb hlk
    cases gk with
    | zero =>
      have hge : n ≤ k := by omega
      have HE : Hid (R = (0, 0, false)) := by rw [← HK.out]; exact lookS_end (by have := HN.out; omega) s
      clear hkg
      go_wp2_with fail
      exact bodyPost_ret (v := lkV (0, 0, false)) (by simp [results, Tryd.results41, go_sem]) rfl ⟨by rw [HE.out], HB.out⟩
    | succ g =>
      have hlt : k < n := by omega
      have HG := Lib.hid hkg
      clear hkg
      obtain ⟨v, hv⟩ : ∃ v, l[k]? = some v := ⟨_, List.getElem?_eq_getElem (by have := HN.out; omega)⟩
      have hst := lookS_drop (nm := nm) hv s
      rw [HK.out] at hst
      obtain ⟨-, -, b, o, rfl, -, hbb, d0, d1, d2⟩ := HL.out.get hv
      have hw : ∀ j u, w.cell? ⟨b, j, none⟩ = some u → wr.cell? ⟨b, j, none⟩ = some u := fun j u hu => (HB.out.cell (p := ⟨b, j, none⟩) hbb).trans hu
      replace d0 := hw _ _ d0
      replace d1 := hw _ _ d1
      replace d2 := hw _ _ d2
      obtain ⟨vn, vs, vi⟩ := v
      simp only at d0 d1 d2 hst
      clear hw hv
      by_cases h1 : vn = nm
      · rw [if_pos h1] at hst
        have HST := Lib.hid hst
        have ht := vr_eq h1
        clear h1 hst
        by_cases hv0 : vs < 0
        · have HM : Hid (max vs 0 = 0) := by show _ = _; omega
          go_wp2_with fail
          go_quiet (fail)
          go_wp2_with fail
          exact bodyPost_ret (v := lkV (s, 0, true)) (by simp [results, Tryd.results41, go_sem]) rfl ⟨by rw [HST.out, HM.out], below_drewN (HB.out) _⟩
        · have HM : Hid (max vs 0 = vs) := by show _ = _; omega
          have hv1 : 0 ≤ vs := by omega
          clear hv0
          go_wp2_with fail
          go_quiet (fail)
          go_wp2_with fail
          exact bodyPost_ret (v := lkV (s, vs, true)) (by simp [results, Tryd.results41, go_sem]) rfl ⟨by rw [HST.out, HM.out], below_drewN (HB.out) _⟩
      · rw [if_neg h1] at hst
        have ht := vr_ne h1
        clear h1
        have HC := Lib.hid (fun w' => r3cells_any (strB vn) vs vi w')
        obtain ⟨mx, hmx⟩ : ∃ x, min (max vs 1) 2147483649 = x := ⟨_, rfl⟩
        have hm1 : 1 ≤ mx := by omega
        have hm2 : mx ≤ 2147483649 := by omega
        rw [hmx] at HC
        rw [show cellsN ⟨vn, vs, vi⟩ = max vs 1 from rfl] at hst
        by_cases h2 : 2147483648 < s + max vs 1
        · rw [if_pos h2] at hst
          have HST := Lib.hid hst
          have h3 : 2147483648 < s + mx := by omega
          clear hst hmx h2
          go_wp2_with fail
          refine (HC.out _).mono ?_
          rintro e w2 ⟨rfl, hb⟩
          have HB2 := Lib.hid (HB.out.trans (hb.mono HB.out.size))
          clear hb HC d0 d1 d2 ht
          go_wp2_with fail
          exact bodyPost_ret (v := lkV (0, 0, false)) (by simp [results, Tryd.results41, go_sem]) rfl ⟨by rw [HST.out], HB2.out⟩
        · rw [if_neg h2] at hst
          have hmm : max vs 1 = mx := by omega
          rw [hmm] at hst
          have HST := Lib.hid hst
          have h3 : s + mx ≤ 2147483648 := by omega
          clear hst hmx h2 hmm
          go_wp2_with fail
          refine (HC.out _).mono ?_
          rintro e w2 ⟨rfl, hb⟩
          have HB2 := Lib.hid (HB.out.trans (hb.mono HB.out.size))
          clear hb HC d0 d1 d2 ht
          go_wp2_with fail
          go_roundg g
          case rel => exact ⟨k + 1, s + mx, by have := HG.out; omega, by go_num, by go_num, by omega, by omega, HST.out.symm, HB2.out⟩
          case measure => omega
end Go.Proofs.YtgkioompcmgmdaaDoor
