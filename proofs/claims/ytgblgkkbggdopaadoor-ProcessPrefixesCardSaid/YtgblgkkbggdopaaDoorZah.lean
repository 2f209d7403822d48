/-
  Texts of a walk, laid together by a program of the prover's own (merge.py). No conditions beyond those that each text names.
-/
import Derived.Test.YtgblgkkbggdopaaDoorZag
import Derived.Deep.Cut
import Derived.Maps.AppendAt
import Derived.Laws.Rows
/-
  What Cell, Place and arg of the document's answer return. Conditions: all numbers of the expression are 64-bit ints, and so are the cells.
-/
namespace Go.Proofs.YtgblgkkbggdopaaDoor
open Go.RowKit

/-- A 64-bit int. -/
abbrev I64 (z : Int) : Prop := -9223372036854775808 ≤ z ∧ z ≤ 9223372036854775807
mutual
/-- All numbers of an expression are 64-bit ints. -/
def exR : Ex → Prop
  | .mk _ value _ slot size args => I64 value ∧ I64 slot ∧ I64 size ∧ exRL args
def exRL : List Ex → Prop
  | [] => True
  | e :: r => exR e ∧ exRL r
end
theorem exRL_at : ∀ (l : List Ex) (k : Nat) (e : Ex), exRL l → l[k]? = some e → exR e
  | [], _, _, _, h => by simp at h
  | x :: r, 0, e, hs, h => by
    simp only [List.getElem?_cons_zero, Option.some.injEq] at h
    subst h
    simp only [exRL] at hs
    exact hs.1
  | x :: r, k + 1, e, hs, h => by
    simp only [List.getElem?_cons_succ] at h
    simp only [exRL] at hs
    exact exRL_at r k e hs.2 h
theorem exRL_of : ∀ l : List Ex, (∀ x ∈ l, exR x) → exRL l
  | [], _ => by simp only [exRL]
  | e :: r, h => by
    simp only [exRL]
    exact ⟨h e (List.mem_cons_self ..), exRL_of r fun x hx => h x (List.mem_cons_of_mem _ hx)⟩

theorem wrap64_I (z : Int) : I64 (wrap64 z) := by unfold wrap64; constructor <;> omega
theorem tB_I (b : Bool) : I64 (tB b) := by cases b <;> decide
theorem tmod_I (a b : Int) (h : I64 a) : I64 (a.tmod b) := by
  have h1 := Int.natAbs_tmod a b
  have h2 : a.natAbs % b.natAbs ≤ a.natAbs := Nat.mod_le _ _
  by_cases ha : 0 ≤ a
  · have := Int.tmod_nonneg b ha
    constructor <;> omega
  · have h3 : (a.tmod b) ≤ 0 := by
      have := Int.tmod_nonneg b (show 0 ≤ -a by omega)
      rw [Int.neg_tmod] at this
      omega
    constructor <;> omega
theorem ite_I {p : Prop} [Decidable p] {x y : Int} (hx : I64 x) (hy : I64 y) : I64 (if p then x else y) := by
  split
  · exact hx
  · exact hy
theorem apS_I (op a b : Int) (h : I64 a) : I64 (apS op a b) := by
  unfold apS
  repeat' refine ite_I ?_ ?_
  all_goals first
    | exact wrap64_I _
    | exact tB_I _
    | exact tmod_I _ _ h
    | decide
theorem celS_I (zs : List Int) (n : Int) (h : ∀ z ∈ zs, I64 z) : I64 (celS zs n) := by
  unfold celS
  split
  · decide
  · rw [List.getD_eq_getElem?_getD]
    cases hk : zs[n.toNat]? with
    | none => decide
    | some z => exact h z (List.mem_of_getElem? hk)
mutual
theorem valS_I (zs : List Int) (v : En) (hz : ∀ z ∈ zs, I64 z) (hv : I64 v.self ∧ I64 v.procs ∧ I64 v.src ∧ I64 v.value) : ∀ e, exR e → I64 (valS zs v e)
  | .mk op value nm slot size args => by
    intro h
    simp only [exR] at h
    simp only [valS]
    have h0 := argS_I zs v hz hv args 0 h.2.2.2
    split
    · exact h.1
    split
    · exact celS_I zs _ hz
    split
    · unfold elmS
      split
      · decide
      · exact celS_I zs _ hz
    split
    · exact hv.1
    split
    · exact hv.2.1
    split
    · exact hv.2.2.1
    split
    · exact hv.2.2.2
    · exact apS_I _ _ _ h0
theorem argS_I (zs : List Int) (v : En) (hz : ∀ z ∈ zs, I64 z) (hv : I64 v.self ∧ I64 v.procs ∧ I64 v.src ∧ I64 v.value) : ∀ (l : List Ex) (i : Nat), exRL l → I64 (argS zs v l i)
  | [], _ => by intro _; simp only [argS]; decide
  | e :: r, 0 => by
    intro h
    simp only [exRL] at h
    simp only [argS]
    exact valS_I zs v hz hv e h.1
  | e :: r, n + 1 => by
    intro h
    simp only [exRL] at h
    simp only [argS]
    exact argS_I zs v hz hv r n h.2
end

set_option maxHeartbeats 400000 in
set_option maxRecDepth 100000 in
theorem rcell_any (zs : List Int) (A : Option Addr) (n c : Nat) (k : Int) (w : World) (h : ZsAt w zs A n) : Calls Tryd.prog 95 #[.slice A n c, .int .i64 k] w fun e w' => e = .returned (.int .i64 (celS zs k)) ∧ w' = w := by
  obtain ⟨h1, h2, h3⟩ := h
  unfold celS
  rw [← h1]
  by_cases hk : k < 0
  · rw [if_pos (.inl hk)]
    go_enter Tryd.func95, Tryd.ntmps95
    go_wp2
    go_ret
    exact ⟨rfl, rfl⟩
  · by_cases hn : (n : Int) ≤ k
    · rw [if_pos (.inr hn)]
      go_enter Tryd.func95, Tryd.ntmps95
      go_wp2
      go_ret
      exact ⟨rfl, rfl⟩
    · rw [if_neg (by omega)]
      obtain ⟨j, rfl⟩ := Int.eq_ofNat_of_zero_le (show 0 ≤ k by omega)
      obtain ⟨b, o, rfl, hi⟩ := h3 (by omega)
      have c := hi j (by omega)
      have hj : (j : Int) < (n : Int) := by omega
      obtain ⟨z, hz⟩ : ∃ z, zs.getD j 0 = z := ⟨_, rfl⟩
      rw [hz] at c
      have HZ := Lib.hid hz
      clear hi h3 hk hn hz h1
      go_enter Tryd.func95, Tryd.ntmps95
      go_wp2
      go_ret
      exact ⟨ret_int (by rw [Int.toNat_natCast]; exact HZ.out.symm), rfl⟩


theorem elm_neg (zs : List Int) (slot size i p : Int) (h : (i < 0 ∨ size ≤ i) ∨ wrap64 (slot + i) < 0 ∨ (zs.length : Int) ≤ wrap64 (slot + i)) (hp : p < 0) : celS zs p = elmS zs slot size i := by
  unfold elmS
  have h0 : celS zs p = 0 := by unfold celS; rw [if_pos (.inl hp)]
  rw [h0]
  split
  · rfl
  · unfold celS
    rw [if_pos (by omega)]
theorem elm_in (zs : List Int) (slot size i : Int) (h : ¬ (i < 0 ∨ size ≤ i)) (h2 : I64 (slot + i)) : celS zs (slot + i) = elmS zs slot size i := by
  unfold elmS
  rw [if_neg h, IntWalk.wrap64_in _ h2]

set_option maxHeartbeats 4000000 in
set_option maxRecDepth 100000 in
theorem rplace_any (zs : List Int) (A : Option Addr) (n c : Nat) (slot size i : Int) (w : World) (h : ZsAt w zs A n) (hs : I64 slot) (hi : I64 i) :
    Calls Tryd.prog 85 #[.int .i64 slot, .int .i64 size, .int .i64 i, .slice A n c] w fun e w' => ∃ p, e = .returned (.int .i64 p) ∧ celS zs p = elmS zs slot size i ∧ w' = w := by
  obtain ⟨hn, hn2, -⟩ := h
  obtain ⟨hs0, hs1⟩ := hs
  obtain ⟨hi0, hi1⟩ := hi
  by_cases h1 : i < 0
  · have HP : Hid (celS zs (-1) = elmS zs slot size i) := elm_neg zs slot size i _ (.inl (.inl h1)) (by decide)
    go_enter Tryd.func85, Tryd.ntmps85
    go_wp2
    go_ret
    exact ⟨_, rfl, HP.out, rfl⟩
  by_cases h2 : size ≤ i
  · have HP : Hid (celS zs (-1) = elmS zs slot size i) := elm_neg zs slot size i _ (.inl (.inr h2)) (by decide)
    go_enter Tryd.func85, Tryd.ntmps85
    go_wp2
    go_ret
    exact ⟨_, rfl, HP.out, rfl⟩
  by_cases h3 : slot < 0
  · by_cases h4 : slot = -9223372036854775808
    · subst h4
      have hw : wrap64 9223372036854775808 = -9223372036854775808 := by decide +kernel
      have HP : Hid (celS zs (-9223372036854775808 + i) = elmS zs (-9223372036854775808) size i) := elm_in zs _ size i (by omega) (by omega)
      go_enter Tryd.func85, Tryd.ntmps85
      go_wp2
      go_ret
      exact ⟨_, rfl, HP.out, rfl⟩
    · by_cases h5 : i < -slot
      · have HP : Hid (celS zs (-1) = elmS zs slot size i) := elm_neg zs slot size i _ (.inr (.inl (by rw [IntWalk.wrap64_in _ (by omega)]; omega))) (by decide)
        go_enter Tryd.func85, Tryd.ntmps85
        go_wp2
        go_ret
        exact ⟨_, rfl, HP.out, rfl⟩
      · by_cases h6 : (n : Int) ≤ slot + i
        · have HP : Hid (celS zs (-1) = elmS zs slot size i) := elm_neg zs slot size i _ (.inr (.inr (by rw [IntWalk.wrap64_in _ (by omega)]; omega))) (by decide)
          go_enter Tryd.func85, Tryd.ntmps85
          go_wp2
          go_ret
          exact ⟨_, rfl, HP.out, rfl⟩
        · have HP : Hid (celS zs (slot + i) = elmS zs slot size i) := elm_in zs _ size i (by omega) (by omega)
          go_enter Tryd.func85, Tryd.ntmps85
          go_wp2
          go_ret
          exact ⟨_, rfl, HP.out, rfl⟩
  · by_cases h4 : (n : Int) ≤ slot
    · have HP : Hid (celS zs (-1) = elmS zs slot size i) := elm_neg zs slot size i _ (.inr (by unfold wrap64; omega)) (by decide)
      go_enter Tryd.func85, Tryd.ntmps85
      go_wp2
      go_ret
      exact ⟨_, rfl, HP.out, rfl⟩
    · by_cases h5 : (n : Int) - slot ≤ i
      · have HP : Hid (celS zs (-1) = elmS zs slot size i) := elm_neg zs slot size i _ (.inr (by unfold wrap64; omega)) (by decide)
        go_enter Tryd.func85, Tryd.ntmps85
        go_wp2
        go_ret
        exact ⟨_, rfl, HP.out, rfl⟩
      · have HP : Hid (celS zs (slot + i) = elmS zs slot size i) := elm_in zs _ size i (by omega) (by omega)
        go_enter Tryd.func85, Tryd.ntmps85
        go_wp2
        go_ret
        exact ⟨_, rfl, HP.out, rfl⟩

/-- What a call of the answer's Value returns, for expressions of at most n parts. -/
def RlC (zs : List Int) (v : En) (n : Nat) : Prop := ∀ (e : Ex), e.big ≤ n → exR e → ∀ (S : Nat → Prop) (w : World) (a b : Int) (s : ByteArray) (c d : Int) (A : Option Addr) (l q : Nat) (Z : Option Addr) (zn zc : Nat), ExL S w e [.int .i64 a, .int .i64 b, .string s, .int .i64 c, .int .i64 d, .slice A l q] → ZsAt w zs Z zn →
    Calls Tryd.prog 84 #[.agg #[.int .i64 a, .int .i64 b, .string s, .int .i64 c, .int .i64 d, .slice A l q], .slice Z zn zc, enV v] w fun e' w' => e' = .returned (.int .i64 (valS zs v e)) ∧ Below w.heap.size w w'

set_option maxHeartbeats 2000000 in
set_option maxRecDepth 100000 in
theorem rarg_of (zs : List Int) (v : En) (n : Nat) (ih : RlC zs v n) (e : Ex) (he : e.big ≤ n + 1) (hR : exR e) (i : Nat) (S : Nat → Prop) (w : World) (a b : Int) (s : ByteArray) (c d : Int) (A : Option Addr) (l q : Nat) (Z : Option Addr) (zn zc : Nat)
    (hl : ExL S w e [.int .i64 a, .int .i64 b, .string s, .int .i64 c, .int .i64 d, .slice A l q]) (hz : ZsAt w zs Z zn) :
    Calls Tryd.prog 96 #[.agg #[.int .i64 a, .int .i64 b, .string s, .int .i64 c, .int .i64 d, .slice A l q], .int .i64 i, .slice Z zn zc, enV v] w fun e' w' => e' = .returned (.int .i64 (argS zs v e.args i)) ∧ Below w.heap.size w w' := by
  cases e with
  | mk op value name slot size args =>
  simp only [Ex.big] at he
  simp only [Ex.args]
  simp only [exR] at hR
  simp only [ExL] at hl
  obtain ⟨A', c', e1, hc, hr⟩ := hl
  simp only [exCells, List.cons.injEq, Value.slice.injEq, and_true] at e1
  obtain ⟨_, _, _, _, _, rfl, rfl, rfl⟩ := e1
  have hT := two_new w [.int .i64 a, .int .i64 b, .string s, .int .i64 c, .int .i64 d, .slice A args.length q] v
  obtain ⟨m, hm⟩ : ∃ x, args.length = x := ⟨_, rfl⟩
  have HM := Lib.hid hm
  rw [hm] at hT ⊢
  obtain ⟨W, hW⟩ : ∃ W, (w.alloc (.cells [Value.int .i64 a, .int .i64 b, .string s, .int .i64 c, .int .i64 d, .slice A m q].toArray 92)).alloc (.cells #[.int .i64 v.self, .int .i64 v.procs, .int .i64 v.src, .int .i64 v.value] 81) = W := ⟨_, rfl⟩
  rw [hW] at hT
  have HT := Lib.hid hT
  have HR := Lib.hid hr
  have HZ := Lib.hid hz
  obtain ⟨x0, x1, x2, x3, x4, x5, _⟩ := box6 (show W.heap[w.heap.size]? = some (.cells #[.int .i64 a, .int .i64 b, .string s, .int .i64 c, .int .i64 d, .slice A m q] 92 (0, 0)) from hT.x)
  obtain ⟨y0, y1, y2, y3⟩ := box4 hT.y
  obtain ⟨V, hV⟩ : ∃ V, argS zs v args i = V := ⟨_, rfl⟩
  have HV := Lib.hid hV
  rw [hV]
  clear hr hz hT hV hm
  by_cases hi : m ≤ i
  · have hi' : (m : Int) ≤ (i : Int) := by omega
    have h0 : Hid (V = 0) := by rw [← HV.out]; exact argS_no zs v args i (by rw [HM.out]; exact hi)
    clear hi
    go_enter Tryd.func96, Tryd.ntmps96
    go_upto_region 1 with fail
    clear hW
    go_wp2_with fail
    go_ret
    exact ⟨ret_int h0.out.symm, HT.out.b⟩
  · have hlt : i < m := by omega
    have hlt' : (i : Int) < (m : Int) := by omega
    obtain ⟨e1, he1⟩ : ∃ e1, args[i]? = some e1 := ⟨_, List.getElem?_eq_getElem (by have := HM.out; omega)⟩
    have hbg := Ex.big_at args i e1 he1
    have HE : Hid (valS zs v e1 = V) := by rw [← HV.out]; exact (argS_at zs v args i e1 he1).symm
    obtain ⟨bb, o, rfl, hS, hrow⟩ := HR.out (fun e => by have := HM.out; rw [e] at this; simp at this; omega)
    obtain ⟨cs, hcs, hex⟩ := ExRow.get args bb o i e1 hrow he1
    obtain ⟨a1, b1, s1, c1, d1, A1, l1, q1, rfl⟩ := hex.plain
    have hbb : bb < w.heap.size := hcs.lt
    have hw : ∀ j u, w.cell? ⟨bb, j, none⟩ = some u → W.cell? ⟨bb, j, none⟩ = some u := fun j u hu => (HT.out.b.cell (p := ⟨bb, j, none⟩) hbb).trans hu
    have z0 := hw _ _ (hcs 0 _ rfl)
    have z1 := hw _ _ (hcs 1 _ rfl)
    have z2 := hw _ _ (hcs 2 _ rfl)
    have z3 := hw _ _ (hcs 3 _ rfl)
    have z4 := hw _ _ (hcs 4 _ rfl)
    have z5 := hw _ _ (hcs 5 _ rfl)
    rw [Nat.add_zero] at z0
    have HC : Hid (∀ W', Below W.heap.size W W' → Calls Tryd.prog 84 #[.agg #[.int .i64 a1, .int .i64 b1, .string s1, .int .i64 c1, .int .i64 d1, .slice A1 l1 q1], .slice Z zn zc, enV v] W' fun e' w' => e' = .returned (.int .i64 V) ∧ Below W'.heap.size W' w') := fun W' hb => by
      have hww := HT.out.b.trans (hb.mono HT.out.b.size)
      have := ih e1 (by omega) (exRL_at args i e1 hR.2.2.2 he1) S W' a1 b1 s1 c1 d1 A1 l1 q1 Z zn zc (ExL.still (fun k hk1 hk2 => ⟨hk1, hww.block k hk2⟩) e1 _ hex) (HZ.out.below hww)
      rwa [HE.out] at this
    clear hi hw hcs hrow he1 hex hbg he hc
    go_enter Tryd.func96, Tryd.ntmps96
    go_upto_region 3 with fail
    clear hW
    go_still_tail 7, (by kernel_rfl)
    go_wp2_with fail
    refine (HC.out _ (below_drew1 _)).mono ?_
    rintro e' w2 ⟨rfl, hb⟩
    go_wp2_with fail
    go_ret
    exact ⟨rfl, HT.out.b.trans ((below_drew1 W).trans (hb.mono (show w.heap.size ≤ W.heap.size from HT.out.b.size)))⟩
end Go.Proofs.YtgblgkkbggdopaaDoor

/-
  What a handler does (chapter 5): statements executed on cells, effects and fuel. No conditions.
-/
namespace Go.Proofs.YtgblgkkbggdopaaDoor

/-- What statements change: the cells, the effects (kind, receiver, value), the fuel that is left. -/
structure RS where
  cells : List Int
  effs : List (Int × Int × Int)
  fuel : Nat

/-- A cell is changed, if there is one with this number. -/
def RS.setC (r : RS) (i x : Int) : RS := if 0 ≤ i ∧ i < r.cells.length then { r with cells := r.cells.set i.toNat x } else r
/-- An effect is added, if there may be a further one. -/
def RS.eff (r : RS) (e : Int × Int × Int) : RS := if r.effs.length < 8 then { r with effs := r.effs ++ [e] } else r
/-- A unit of fuel is used. -/
def RS.paid (r : RS) : RS := { r with fuel := r.fuel - 1 }

/-- A statement without a body. -/
def doS (v : En) (kind slot size : Int) (place value : Ex) (r : RS) : RS :=
  if kind = 1 then r.setC slot (valS r.cells v value)
  else if kind = 2 then (if 0 ≤ valS r.cells v place ∧ valS r.cells v place < size then r.setC (RowKit.wrap64 (slot + valS r.cells v place)) (valS r.cells v value) else r)
  else if kind = 5 then (if 0 ≤ valS r.cells v place ∧ valS r.cells v place < v.procs ∧ valS r.cells v place ≠ v.self then r.eff (1, valS r.cells v place, valS r.cells v value) else r)
  else if kind = 6 then r.eff (2, 0, valS r.cells v value)
  else r

/-- Statements one after another, until one finds no fuel. -/
def listS (f : St → RS → RS × Bool) : List St → RS → RS × Bool
  | [], r => (r, true)
  | s :: l, r => match f s r with
    | (r', true) => listS f l r'
    | (r', false) => (r', false)

/-- A statement, at most n units of fuel deep; false: there was no fuel for it or for one inside. -/
def exec1 (v : En) : Nat → St → RS → RS × Bool
  | 0, _, r => (r, false)
  | n + 1, .mk kind nm slot size place value body els, r =>
    if r.fuel = 0 then (r, false)
    else if kind = 3 then listS (exec1 v n) (if valS r.cells v value ≠ 0 then body else els) r.paid
    else if kind = 4 then
      (if valS r.cells v value = 0 then (r.paid, true) else
        match listS (exec1 v n) body r.paid with
        | (r2, true) => exec1 v n (.mk kind nm slot size place value body els) r2
        | (r2, false) => (r2, false))
    else (doS v kind slot size place value r.paid, true)

theorem RS.setC_fuel (r : RS) (i x : Int) : (r.setC i x).fuel = r.fuel := by unfold RS.setC; split <;> rfl
theorem RS.eff_fuel (r : RS) (e : Int × Int × Int) : (r.eff e).fuel = r.fuel := by unfold RS.eff; split <;> rfl
theorem RS.setC_len (r : RS) (i x : Int) : (r.setC i x).cells.length = r.cells.length := by unfold RS.setC; split <;> simp
theorem RS.eff_cells (r : RS) (e : Int × Int × Int) : (r.eff e).cells = r.cells := by unfold RS.eff; split <;> rfl
theorem doS_fuel (v : En) (kind slot size : Int) (place value : Ex) (r : RS) : (doS v kind slot size place value r).fuel = r.fuel := by
  unfold doS
  repeat' split
  all_goals simp [RS.setC_fuel, RS.eff_fuel]
theorem doS_len (v : En) (kind slot size : Int) (place value : Ex) (r : RS) : (doS v kind slot size place value r).cells.length = r.cells.length := by
  unfold doS
  repeat' split
  all_goals simp [RS.setC_len, RS.eff_cells]
theorem RS.eff_len (r : RS) (e : Int × Int × Int) (h : r.effs.length ≤ 8) : (r.eff e).effs.length ≤ 8 := by
  unfold RS.eff; split
  · simp; omega
  · exact h
theorem RS.setC_effs (r : RS) (i x : Int) : (r.setC i x).effs = r.effs := by unfold RS.setC; split <;> rfl
theorem doS_effs (v : En) (kind slot size : Int) (place value : Ex) (r : RS) (h : r.effs.length ≤ 8) : (doS v kind slot size place value r).effs.length ≤ 8 := by
  unfold doS
  repeat' split
  all_goals first | exact RS.eff_len _ _ h | (rw [RS.setC_effs]; exact h) | exact h

/-- What stays: the number of cells, at most eight effects, and no more fuel than before. -/
structure RS.Le (r r' : RS) : Prop where
  len : r'.cells.length = r.cells.length
  effs : r.effs.length ≤ 8 → r'.effs.length ≤ 8
  fuel : r'.fuel ≤ r.fuel
theorem RS.Le.refl (r : RS) : RS.Le r r := ⟨rfl, id, Nat.le_refl _⟩
theorem RS.Le.trans {a b c : RS} (h : RS.Le a b) (g : RS.Le b c) : RS.Le a c := ⟨g.len.trans h.len, fun x => g.effs (h.effs x), Nat.le_trans g.fuel h.fuel⟩
theorem RS.Le.paid (r : RS) : RS.Le r r.paid := ⟨rfl, id, Nat.sub_le _ _⟩
theorem RS.Le.doS (v : En) (kind slot size : Int) (place value : Ex) (r : RS) : RS.Le r (doS v kind slot size place value r) :=
  ⟨doS_len v kind slot size place value r, doS_effs v kind slot size place value r, Nat.le_of_eq (doS_fuel v kind slot size place value r)⟩
theorem listS_le {f : St → RS → RS × Bool} (hf : ∀ s r, RS.Le r (f s r).1) : ∀ (l : List St) (r : RS), RS.Le r (listS f l r).1
  | [], r => RS.Le.refl r
  | s :: l, r => by
    have h := hf s r
    unfold listS
    split
    · rename_i r' e; rw [e] at h; exact h.trans (listS_le hf l r')
    · rename_i r' e; rw [e] at h; exact h
theorem exec1_le (v : En) : ∀ (n : Nat) (s : St) (r : RS), RS.Le r (exec1 v n s r).1
  | 0, s, r => by cases s; exact RS.Le.refl r
  | n + 1, .mk kind nm slot size place value body els, r => by
    have ih := exec1_le v n
    rw [exec1]
    split
    · exact RS.Le.refl r
    · split
      · exact (RS.Le.paid r).trans (listS_le ih _ _)
      · split
        · split
          · exact RS.Le.paid r
          · have h := listS_le ih body r.paid
            split
            · rename_i r2 e; rw [e] at h; exact ((RS.Le.paid r).trans h).trans (ih _ r2)
            · rename_i r2 e; rw [e] at h; exact (RS.Le.paid r).trans h
        · exact (RS.Le.paid r).trans (RS.Le.doS v kind slot size place value r.paid)

/-- The sum is done in one part after another. -/
theorem listS_snoc (f : St → RS → RS × Bool) : ∀ (l : List St) (s : St) (r : RS), listS f (l ++ [s]) r = (match listS f l r with | (r', true) => f s r' | (r', false) => (r', false))
  | [], s, r => by
    simp only [List.nil_append, listS]
    split <;> simp_all
  | x :: l, s, r => by
    simp only [List.cons_append, listS]
    split
    · exact listS_snoc f l s _
    · rfl
end Go.Proofs.YtgblgkkbggdopaaDoor

/-
  The states of a process (chapter 6), on plain lists. No conditions.
-/
namespace Go.Proofs.YtgblgkkbggdopaaDoor

/-- A resolved program. -/
structure Cd where
  init : List Int
  start : List St
  message : List St
  tick : List St
  input : List St

/-- Statements are executed. -/
def runR (v : En) (body : List St) (cells : List Int) : RS := (listS (exec1 v 400) body ⟨cells, [], 400⟩).1

/-- A state: its cells, and its events, sends and outputs as rows of ints. -/
structure PS where
  cells : List Int
  evs : List (List Int)
  sent : List (List Int)
  outs : List (List Int)

/-- Effects become sends and outputs of the event k. -/
def addE (k : Int) : Int → List (Int × Int × Int) → List (List Int) × List (List Int) → List (List Int) × List (List Int)
  | _, [], r => r
  | o, e :: l, r => if e.1 = 1 then addE k (o + 1) l (r.1 ++ [[k, o, e.2.1, e.2.2]], r.2) else addE k o l (r.1, r.2 ++ [[k, e.2.2]])

/-- A handler is executed as the last event. -/
def exeP (v : En) (body : List St) (s : PS) : PS :=
  let q := addE s.evs.length 0 (runR v body s.cells).effs (s.sent, s.outs)
  { s with cells := (runR v body s.cells).cells, sent := q.1, outs := q.2 }

def startP (c : Cd) (self procs : Int) : PS := exeP ⟨self, procs, self, 0⟩ c.start ⟨c.init, [], [], []⟩

/-- What a number of an event's row is. -/
def evA (e : List Int) (i : Nat) : Int := e.getD i 0
def bodyP (c : Cd) (e : List Int) : List St := if evA e 0 = 1 then c.message else if evA e 0 = 2 then c.tick else if evA e 0 = 3 then c.input else []
def nextP (c : Cd) (self procs : Int) (s : PS) (e : List Int) : PS :=
  exeP ⟨self, procs, if evA e 0 = 1 then evA e 2 else self, evA e 6⟩ (bodyP c e) { s with evs := s.evs ++ [e] }
def replayP (c : Cd) (self procs : Int) (l : List (List Int)) : PS := l.foldl (nextP c self procs) (startP c self procs)

/-- What effects look like: a send to another process, or an output. -/
def EffOk (v : En) (e : Int × Int × Int) : Prop := (e.1 = 1 ∧ 0 ≤ e.2.1 ∧ e.2.1 < v.procs ∧ e.2.1 ≠ v.self) ∨ e.1 = 2
def EffsOk (v : En) (r : RS) : Prop := r.effs.length ≤ 8 ∧ ∀ e ∈ r.effs, EffOk v e
theorem RS.eff_ok {v : En} {r : RS} {e : Int × Int × Int} (h : EffsOk v r) (he : EffOk v e) : EffsOk v (r.eff e) := by
  unfold RS.eff; split
  · refine ⟨by simp; omega, fun x hx => ?_⟩
    rcases List.mem_append.1 hx with hx | hx
    · exact h.2 x hx
    · rw [List.mem_singleton.1 hx]; exact he
  · exact h
theorem RS.setC_ok {v : En} {r : RS} {i x : Int} (h : EffsOk v r) : EffsOk v (r.setC i x) := by
  unfold EffsOk; rw [RS.setC_effs]; exact h
theorem doS_ok {v : En} {kind slot size : Int} {place value : Ex} {r : RS} (h : EffsOk v r) : EffsOk v (doS v kind slot size place value r) := by
  unfold doS
  repeat' split
  all_goals first | exact RS.setC_ok h | exact h | exact RS.eff_ok h (.inr rfl) | skip
  rename_i h1
  exact RS.eff_ok h (.inl ⟨rfl, h1.1, h1.2.1, h1.2.2⟩)
theorem RS.paid_ok {v : En} {r : RS} (h : EffsOk v r) : EffsOk v r.paid := h
theorem listS_ok {v : En} {f : St → RS → RS × Bool} (hf : ∀ s r, EffsOk v r → EffsOk v (f s r).1) : ∀ (l : List St) (r : RS), EffsOk v r → EffsOk v (listS f l r).1
  | [], r, hr => hr
  | s :: l, r, hr => by
    have h := hf s r hr
    unfold listS
    split
    · rename_i r' e; rw [e] at h; exact listS_ok hf l r' h
    · rename_i r' e; rw [e] at h; exact h
theorem exec1_ok (v : En) : ∀ (n : Nat) (s : St) (r : RS), EffsOk v r → EffsOk v (exec1 v n s r).1
  | 0, s, r, hr => by cases s; exact hr
  | n + 1, .mk kind nm slot size place value body els, r, hr => by
    have ih := exec1_ok v n
    rw [exec1]
    split
    · exact hr
    · split
      · exact listS_ok ih _ _ hr
      · split
        · split
          · exact hr
          · have h := listS_ok ih body r.paid hr
            split
            · rename_i r2 e; rw [e] at h; exact ih _ r2 h
            · rename_i r2 e; rw [e] at h; exact h
        · exact doS_ok (r := r.paid) hr
theorem runR_ok (v : En) (body : List St) (cells : List Int) : EffsOk v (runR v body cells) := listS_ok (exec1_ok v 400) body _ ⟨by simp, fun e h => by cases h⟩
theorem runR_le (v : En) (body : List St) (cells : List Int) : RS.Le ⟨cells, [], 400⟩ (runR v body cells) := listS_le (exec1_le v 400) body _

/-- How many sends and outputs effects become. -/
theorem addE_len (k : Int) : ∀ (l : List (Int × Int × Int)) (o : Int) (r : List (List Int) × List (List Int)), (addE k o l r).1.length + (addE k o l r).2.length = r.1.length + r.2.length + l.length
  | [], _, _ => by simp [addE]
  | e :: l, o, r => by
    rw [addE]; split
    · rw [addE_len k l]; simp; omega
    · rw [addE_len k l]; simp; omega
theorem addE_snoc (k : Int) (e : Int × Int × Int) : ∀ (l : List (Int × Int × Int)) (o : Int) (r : List (List Int) × List (List Int)),
    addE k o (l ++ [e]) r = (if e.1 = 1 then ((addE k o l r).1 ++ [[k, o + ((l.filter fun x => x.1 = 1).length : Int), e.2.1, e.2.2]], (addE k o l r).2) else ((addE k o l r).1, (addE k o l r).2 ++ [[k, e.2.2]]))
  | [], o, r => by
    simp only [List.nil_append, addE, List.filter_nil, List.length_nil]
    split <;> simp
  | x :: l, o, r => by
    simp only [List.cons_append]
    rw [addE, addE]
    by_cases hx : x.1 = 1
    · rw [if_pos hx, if_pos hx, addE_snoc k e l]
      have : o + 1 + ((l.filter fun x => x.1 = 1).length : Int) = o + (((x :: l).filter fun x => x.1 = 1).length : Int) := by
        rw [List.filter_cons_of_pos (by simpa using hx), List.length_cons]; omega
      rw [this]
    · rw [if_neg hx, if_neg hx, addE_snoc k e l]
      rw [List.filter_cons_of_neg (by simpa using hx)]

theorem exeP_evs (v : En) (body : List St) (s : PS) : (exeP v body s).evs = s.evs := rfl
theorem exeP_len (v : En) (body : List St) (s : PS) : (exeP v body s).cells.length = s.cells.length := (runR_le v body s.cells).len
theorem exeP_few (v : En) (body : List St) (s : PS) : (exeP v body s).sent.length + (exeP v body s).outs.length ≤ s.sent.length + s.outs.length + 8 := by
  have h := addE_len s.evs.length (runR v body s.cells).effs 0 (s.sent, s.outs)
  have h2 := (runR_ok v body s.cells).1
  simp only [exeP] at h ⊢
  omega
theorem nextP_evs (c : Cd) (self procs : Int) (s : PS) (e : List Int) : (nextP c self procs s e).evs = s.evs ++ [e] := rfl

theorem replayP_snoc (c : Cd) (self procs : Int) (l : List (List Int)) (e : List Int) : replayP c self procs (l ++ [e]) = nextP c self procs (replayP c self procs l) e := by
  unfold replayP; rw [List.foldl_append]; rfl
theorem foldP_evs (c : Cd) (self procs : Int) : ∀ (l : List (List Int)) (s : PS), (l.foldl (nextP c self procs) s).evs = s.evs ++ l
  | [], s => by simp
  | e :: l, s => by
    rw [List.foldl_cons, foldP_evs c self procs l, nextP_evs]; simp
theorem replayP_evs (c : Cd) (self procs : Int) (l : List (List Int)) : (replayP c self procs l).evs = l := by
  unfold replayP; rw [foldP_evs]; rfl
theorem foldP_len (c : Cd) (self procs : Int) : ∀ (l : List (List Int)) (s : PS), (l.foldl (nextP c self procs) s).cells.length = s.cells.length
  | [], s => rfl
  | e :: l, s => by
    rw [List.foldl_cons, foldP_len c self procs l]
    exact exeP_len _ _ _
theorem replayP_len (c : Cd) (self procs : Int) (l : List (List Int)) : (replayP c self procs l).cells.length = c.init.length := by
  unfold replayP; rw [foldP_len]; exact exeP_len _ _ _
theorem foldP_few (c : Cd) (self procs : Int) : ∀ (l : List (List Int)) (s : PS), (l.foldl (nextP c self procs) s).sent.length + (l.foldl (nextP c self procs) s).outs.length ≤ s.sent.length + s.outs.length + 8 * l.length
  | [], s => by simp
  | e :: l, s => by
    rw [List.foldl_cons, List.length_cons]
    have h1 := foldP_few c self procs l (nextP c self procs s e)
    have h2 := exeP_few ⟨self, procs, if evA e 0 = 1 then evA e 2 else self, evA e 6⟩ (bodyP c e) { s with evs := s.evs ++ [e] }
    have h3 : nextP c self procs s e = exeP ⟨self, procs, if evA e 0 = 1 then evA e 2 else self, evA e 6⟩ (bodyP c e) { s with evs := s.evs ++ [e] } := rfl
    rw [← h3] at h2
    simp only at h2
    omega
theorem replayP_few (c : Cd) (self procs : Int) (l : List (List Int)) : (replayP c self procs l).sent.length + (replayP c self procs l).outs.length ≤ 8 + 8 * l.length := by
  have h1 := foldP_few c self procs l (startP c self procs)
  have h2 := exeP_few ⟨self, procs, self, 0⟩ c.start ⟨c.init, [], [], []⟩
  have h3 : startP c self procs = exeP ⟨self, procs, self, 0⟩ c.start ⟨c.init, [], [], []⟩ := rfl
  rw [← h3] at h2
  unfold replayP
  simp only [List.length_nil] at h2
  omega
end Go.Proofs.YtgblgkkbggdopaaDoor

/-
  The machine of package interp: how it lies in memory, and what pay, set, value, effect, put do. Conditions: the machine lies behind all that was there before Run.
-/
namespace Go.Proofs.YtgblgkkbggdopaaDoor
open Go.RowKit

/-- What a handler without fuel throws. -/
def spent : PanicEntry := { v := .iface 133 (.agg #[]), recovered := false }
/-- The cells of effects. -/
def effC (l : List (Int × Int × Int)) : List Value := l.flatMap fun e => [.int .i64 e.1, .int .i64 e.2.1, .int .i64 e.2.2]
theorem effC_snoc (l : List (Int × Int × Int)) (e : Int × Int × Int) : effC (l ++ [e]) = effC l ++ [.int .i64 e.1, .int .i64 e.2.1, .int .i64 e.2.2] := by simp [effC]
theorem effC_len (l : List (Int × Int × Int)) : (effC l).length = l.length * 3 := by
  induction l with
  | nil => rfl
  | cons x r ih =>
    have h : effC (x :: r) = [.int .i64 x.1, .int .i64 x.2.1, .int .i64 x.2.2] ++ effC r := rfl
    rw [h, List.length_append, ih]; simp; omega

theorem frz {w : World} {b : Nat} {cs : Array Value} {t : TypeId} (h : w.heap[b]? = some (.cells cs t (0, 0))) (j : Nat) : w.frozen? ⟨b, j, none⟩ = false := by simp [World.frozen?, h]
theorem own_set {w : World} {base : Nat} {e : TypeId} {size n : Nat} {v : Value} {xs : List Value} (h : w.ownsRow base e size v n xs) (p : Addr) (hne : v.ownBlock ≠ some p.block) (u : Value) : (w.setCell p u).ownsRow base e size v n xs := by
  refine h.kept (row := some p.block) ⟨by simp [World.setCell], by simp [World.setCell], by simp [World.setCell], by simp [World.setCell], fun k hk hk2 => Below.heap_setCell _ _ _ _ (fun e => hk2 (by rw [e]))⟩ ?_
  cases hob : v.ownBlock with
  | none => exact .inl rfl
  | some j => exact .inr (fun e => hne (by rw [hob]; exact e))
/-- A cell of an owned row of plain cells is written. -/
theorem own_put {w : World} {base : Nat} {e : TypeId} {n zb zc : Nat} {xs : List Value} (h : w.ownsRow base e 1 (.slice (some ⟨zb, 0, none⟩) n zc) n xs) (i : Nat) (u : Value) : (w.setCell ⟨zb, i, none⟩ u).ownsRow base e 1 (.slice (some ⟨zb, 0, none⟩) n zc) n (xs.set i u) := by
  obtain ⟨hl, ⟨h1, _⟩ | ⟨g, cap, cur, hv, hg, hb, h1, h2, h3, h4⟩⟩ := h
  · cases h1
  · injection hv with e1 _ e3
    injection e1 with e1
    injection e1 with e1
    subst e1 e3
    refine ⟨by rw [List.length_set]; exact hl, .inr ⟨zb, zc, _, rfl, hg, blk_set hb i u, h1, h2, by simpa using h3, ?_⟩⟩
    rw [Array.toList_setIfInBounds, List.take_set, h4]

/-- The machine at block mb: base: where all that Run made begins; n0: where the effects may begin. -/
structure MSt (base mb n0 : Nat) (v : En) (r : RS) (w : World) : Prop where
  lo : base ≤ mb
  hi : mb < n0
  top : n0 ≤ w.heap.size
  box : ∃ zb zc E ec, w.heap[mb]? = some (.cells #[.slice (some ⟨zb, 0, none⟩) r.cells.length zc, .slice E r.effs.length ec, .int .i64 r.fuel, .int .i64 v.self, .int .i64 v.procs, .int .i64 v.src, .int .i64 v.value] 125 (0, 0)) ∧
    base ≤ zb ∧ zb < n0 ∧ zb ≠ mb ∧ w.ownsRow base 3 1 (.slice (some ⟨zb, 0, none⟩) r.cells.length zc) r.cells.length (r.cells.map (Value.int .i64)) ∧ w.ownsRow n0 108 3 (.slice E r.effs.length ec) r.effs.length (effC r.effs)
  fuel : r.fuel ≤ 400
  effs : r.effs.length ≤ 8
  few : r.cells.length ≤ 1000000

theorem MSt.below {base mb n0 : Nat} {v : En} {r : RS} {w w' : World} (h : MSt base mb n0 v r w) (hb : Below w.heap.size w w') : MSt base mb n0 v r w' := by
  obtain ⟨zb, zc, E, ec, h1, h2, h3, h4, h5, h6⟩ := h.box
  exact ⟨h.lo, h.hi, Nat.le_trans h.top hb.size, ⟨zb, zc, E, ec, below_blk hb h1, h2, h3, h4, own_bel h5 hb, own_bel h6 hb⟩, h.fuel, h.effs, h.few⟩
theorem MSt.lt {base mb n0 : Nat} {v : En} {r : RS} {w : World} (h : MSt base mb n0 v r w) : mb < w.heap.size := Nat.lt_of_lt_of_le h.hi h.top
theorem MSt.le {base mb n0 : Nat} {v : En} {r : RS} {w : World} (h : MSt base mb n0 v r w) : base ≤ w.heap.size := Nat.le_trans h.lo (Nat.le_of_lt h.lt)

/-- A block that is no part of the machine at mb. -/
def Idle (mb : Nat) (w : World) (k : Nat) : Prop := k < w.heap.size ∧ k ≠ mb ∧ ∀ i A n c, i < 2 → w.cell? ⟨mb, i, none⟩ = some (.slice A n c) → (Value.slice A n c).ownBlock ≠ some k
/-- What is no part of the machine stays as it was, and stays no part of it. -/
structure Fr (mb : Nat) (w w' : World) : Prop where
  os : w'.os = w.os
  tape : w'.tape = w.tape
  output : w'.output = w.output
  size : w.heap.size ≤ w'.heap.size
  blk : ∀ k, Idle mb w k → w'.heap[k]? = w.heap[k]? ∧ Idle mb w' k
theorem Fr.refl (mb : Nat) (w : World) : Fr mb w w := ⟨rfl, rfl, rfl, Nat.le_refl _, fun _ h => ⟨rfl, h⟩⟩
theorem Fr.trans {mb : Nat} {a b c : World} (h : Fr mb a b) (g : Fr mb b c) : Fr mb a c :=
  ⟨g.os.trans h.os, g.tape.trans h.tape, g.output.trans h.output, Nat.le_trans h.size g.size, fun k hk => ⟨((g.blk k (h.blk k hk).2).1).trans (h.blk k hk).1, (g.blk k (h.blk k hk).2).2⟩⟩
theorem Fr.of_below {mb : Nat} {w w' : World} (h : Below w.heap.size w w') (hm : mb < w.heap.size) : Fr mb w w' :=
  ⟨h.os, h.tape, h.output, h.size, fun k hk => ⟨h.block k hk.1, Nat.lt_of_lt_of_le hk.1 h.size, hk.2.1, fun i A n c hi hc => hk.2.2 i A n c hi ((h.cell (p := ⟨mb, i, none⟩) hm).symm.trans hc)⟩⟩
theorem Fr.down {mb : Nat} {w w' w'' : World} (h : Fr mb w w') (hm : mb < w'.heap.size) (hb : Below w'.heap.size w' w'') : Fr mb w w'' := h.trans (Fr.of_below hb hm)
theorem Idle.new {mb : Nat} {w w' : World} (hs : w.heap.size < w'.heap.size) (hm : mb < w.heap.size) (hb : Below w.heap.size w w') (hl : ∀ i A n c, i < 2 → w.cell? ⟨mb, i, none⟩ = some (.slice A n c) → (Value.slice A n c).ownBlock ≠ some w.heap.size) : Idle mb w' w.heap.size :=
  ⟨hs, by omega, fun i A n c hi hc => hl i A n c hi ((hb.cell (p := ⟨mb, i, none⟩) hm).symm.trans hc)⟩
theorem MSt.idle {base mb n0 : Nat} {v : En} {r : RS} {w : World} (h : MSt base mb n0 v r w) (k : Nat) (hk : k < base) : Idle mb w k := by
  obtain ⟨zb, zc, E, ec, h1, h2, h3, h4, h5, h6⟩ := h.box
  have e1 := h.lo
  have e2 := h.hi
  have e3 := h.top
  refine ⟨by omega, by omega, fun i A n c hi hc => ?_⟩
  rw [Lib.cell_of_heap h1] at hc
  rcases (show i = 0 ∨ i = 1 by omega) with rfl | rfl
  · simp only [List.getElem?_toArray, List.getElem?_cons_zero, Option.some.injEq, Value.slice.injEq] at hc
    obtain ⟨rfl, rfl, rfl⟩ := hc
    simp [Value.ownBlock]; omega
  · simp only [List.getElem?_toArray, List.getElem?_cons_succ, List.getElem?_cons_zero, Option.some.injEq, Value.slice.injEq] at hc
    obtain ⟨rfl, rfl, rfl⟩ := hc
    exact fun e => own_no' h6 (by omega) e.symm
/-- A block that a call has just made is no part of the machine. -/
theorem MSt.fresh {base mb n0 : Nat} {v : En} {r : RS} {w w' : World} (h : MSt base mb n0 v r w) (hb : Below w.heap.size w w') (hs : w.heap.size < w'.heap.size) : Idle mb w' w.heap.size := by
  obtain ⟨zb, zc, E, ec, h1, h2, h3, h4, h5, h6⟩ := h.box
  have e1 := h.lt
  have e3 := h.top
  refine Idle.new hs e1 hb fun i A n c hi hc => ?_
  rw [Lib.cell_of_heap h1] at hc
  rcases (show i = 0 ∨ i = 1 by omega) with rfl | rfl
  · simp only [List.getElem?_toArray, List.getElem?_cons_zero, Option.some.injEq, Value.slice.injEq] at hc
    obtain ⟨rfl, rfl, rfl⟩ := hc
    simp [Value.ownBlock]; omega
  · simp only [List.getElem?_toArray, List.getElem?_cons_succ, List.getElem?_cons_zero, Option.some.injEq, Value.slice.injEq] at hc
    obtain ⟨rfl, rfl, rfl⟩ := hc
    exact fun e => Nat.lt_irrefl _ (h6.lt _ e).2
theorem MSt.bel {base mb n0 : Nat} {v : En} {r : RS} {w w' : World} (h : MSt base mb n0 v r w) (hf : Fr mb w w') : Below base w w' :=
  ⟨hf.os, hf.tape, hf.output, hf.size, fun k hk => (hf.blk k (h.idle k hk)).1⟩
theorem set_fr {mb : Nat} (w : World) (i : Nat) (hi : 2 ≤ i) (u : Value) : Fr mb w (w.setCell ⟨mb, i, none⟩ u) :=
  ⟨by simp [World.setCell], by simp [World.setCell], by simp [World.setCell], by simp [World.setCell], fun k hk => ⟨Below.heap_setCell _ _ _ _ hk.2.1, by rw [set_size]; exact hk.1, hk.2.1, fun j A n c hj hc => hk.2.2 j A n c hj (by rwa [World.cell?_setCell_other _ _ _ _ (fun e => by injection e with e1 e2; omega)] at hc)⟩⟩
theorem zb_fr {mb zb n c : Nat} (w : World) (hc : w.cell? ⟨mb, 0, none⟩ = some (.slice (some ⟨zb, 0, none⟩) n c)) (hne : zb ≠ mb) (i : Nat) (u : Value) : Fr mb w (w.setCell ⟨zb, i, none⟩ u) :=
  ⟨by simp [World.setCell], by simp [World.setCell], by simp [World.setCell], by simp [World.setCell], fun k hk => ⟨Below.heap_setCell _ _ _ _ (fun e => hk.2.2 0 _ _ _ (by omega) hc (by simp [Value.ownBlock]; exact e.symm)), by rw [set_size]; exact hk.1, hk.2.1, fun j A n c hj hc' => hk.2.2 j A n c hj (by rwa [World.cell?_setCell_other _ _ _ _ (fun e => by injection e with e1 e2; omega)] at hc')⟩⟩

/-- The cells that a machine's slice reads as. -/
theorem MSt.zs {base n zb zc : Nat} {w : World} {xs : List Int} (hn : n = xs.length) (h : w.ownsRow base 3 1 (.slice (some ⟨zb, 0, none⟩) n zc) n (xs.map (Value.int .i64))) (hm : n ≤ 1000000) : ZsAt w xs (some ⟨zb, 0, none⟩) n := by
  refine ⟨hn, by omega, fun _ => ⟨zb, 0, rfl, fun i hi => ?_⟩⟩
  have hc := h.cells (g := zb) rfl i (.int .i64 (xs.getD i 0)) (by rw [List.getElem?_map, List.getElem?_eq_getElem (by omega)]; simp [List.getD, List.getElem?_eq_getElem (show i < xs.length by omega)])
  rwa [Addr.add_lit] at hc

/-- A unit of fuel is taken. -/
theorem MSt.pay {base mb n0 : Nat} {v : En} {r : RS} {w : World} (h : MSt base mb n0 v r w) (hf : r.fuel ≠ 0) : MSt base mb n0 v r.paid (w.setCell ⟨mb, 2, none⟩ (.int .i64 ((r.fuel : Int) - 1))) := by
  obtain ⟨zb, zc, E, ec, h1, h2, h3, h4, h5, h6⟩ := h.box
  have h0 := h.hi
  refine ⟨h.lo, h.hi, by rw [set_size]; exact h.top, ⟨zb, zc, E, ec, ?_, h2, h3, h4, own_set h5 _ (by simp [Value.ownBlock]; omega) _, own_set h6 _ (fun e => own_no' h6 (by simpa using h0) e.symm) _⟩, Nat.le_trans (Nat.sub_le _ _) h.fuel, h.effs, h.few⟩
  rw [blk_set h1]
  have e : ((r.fuel : Int) - 1) = ((r.paid.fuel : Nat) : Int) := by simp only [RS.paid]; omega
  rw [e]
  rfl

set_option maxHeartbeats 400000 in
set_option maxRecDepth 100000 in
theorem pay_some (base mb n0 : Nat) (v : En) (r : RS) (w : World) (h : MSt base mb n0 v r w) (hf : r.fuel ≠ 0) :
    Calls Tryd.prog 87 #[.pointer (some ⟨mb, 0, none⟩)] w fun e w' => e = .returned (.tuple #[]) ∧ MSt base mb n0 v r.paid w' ∧ Fr mb w w' := by
  have hp := Lib.hid (h.pay hf)
  have hbl := Lib.hid (set_fr (mb := mb) w 2 (by omega) (.int .i64 ((r.fuel : Int) - 1)))
  have hfu := h.fuel
  obtain ⟨zb, zc, E, ec, h1, -⟩ := h.box
  have hlt := h.lt
  have c2 : w.cell? ⟨mb, 2, none⟩ = some (.int .i64 r.fuel) := by rw [Lib.cell_of_heap h1]; rfl
  have f2 : w.frozen? ⟨mb, 2, none⟩ = false := frz h1 2
  have hne : ((r.fuel : Int) == 0) = false := by simpa using hf
  obtain ⟨n, hn⟩ : ∃ n : Int, (r.fuel : Int) = n := ⟨_, rfl⟩
  rw [hn] at c2 hne hp hbl
  have h01 : 0 < n := by omega
  have h02 : n ≤ 400 := by omega
  clear h h1 hf hfu hn
  go_enter Tryd.func87, Tryd.ntmps87
  go_wp2_with fail
  exact bodyPost_end (results_none rfl _ _ _) rfl ⟨rfl, hp.out, hbl.out⟩

set_option maxHeartbeats 400000 in
set_option maxRecDepth 100000 in
theorem pay_none (base mb n0 : Nat) (v : En) (r : RS) (w : World) (h : MSt base mb n0 v r w) (hf : r.fuel = 0) :
    Calls Tryd.prog 87 #[.pointer (some ⟨mb, 0, none⟩)] w fun e w' => e = .panicked [spent] ∧ w = w' := by
  obtain ⟨zb, zc, E, ec, h1, -⟩ := h.box
  have hlt := h.lt
  have c2 : w.cell? ⟨mb, 2, none⟩ = some (.int .i64 0) := by rw [Lib.cell_of_heap h1, hf]; rfl
  clear h h1 hf
  go_enter Tryd.func87, Tryd.ntmps87
  go_wp2_with fail
  exact ⟨rfl, rfl, rfl⟩

/-- A cell is changed. -/
theorem MSt.put {base mb n0 : Nat} {v : En} {r : RS} {w : World} {zb zc ec : Nat} {E : Option Addr} (h : MSt base mb n0 v r w) (i : Nat) (x : Int) (h1 : w.heap[mb]? = some (.cells #[.slice (some ⟨zb, 0, none⟩) r.cells.length zc, .slice E r.effs.length ec, .int .i64 r.fuel, .int .i64 v.self, .int .i64 v.procs, .int .i64 v.src, .int .i64 v.value] 125 (0, 0)))
    (h2 : base ≤ zb) (h3 : zb < n0) (h4 : zb ≠ mb) (h5 : w.ownsRow base 3 1 (.slice (some ⟨zb, 0, none⟩) r.cells.length zc) r.cells.length (r.cells.map (Value.int .i64))) (h6 : w.ownsRow n0 108 3 (.slice E r.effs.length ec) r.effs.length (effC r.effs)) :
    MSt base mb n0 v { r with cells := r.cells.set i x } (w.setCell ⟨zb, i, none⟩ (.int .i64 x)) := by
  refine ⟨h.lo, h.hi, by rw [set_size]; exact h.top, ⟨zb, zc, E, ec, ?_, h2, h3, h4, ?_, own_set h6 _ (fun e => own_no' h6 (by simpa using h3) e.symm) _⟩, h.fuel, h.effs, by simp only [List.length_set]; exact h.few⟩
  · rw [Below.heap_setCell _ _ _ _ (by simpa using Ne.symm h4), h1]; simp only [List.length_set]
  · have := own_put h5 i (.int .i64 x)
    simp only [List.length_set, List.map_set]
    exact this

set_option maxHeartbeats 400000 in
set_option maxRecDepth 100000 in
theorem set_any (base mb n0 : Nat) (v : En) (r : RS) (w : World) (slot x : Int) (h : MSt base mb n0 v r w) :
    Calls Tryd.prog 88 #[.pointer (some ⟨mb, 0, none⟩), .int .i64 slot, .int .i64 x] w fun e w' => e = .returned (.tuple #[]) ∧ MSt base mb n0 v (r.setC slot x) w' ∧ Fr mb w w' := by
  obtain ⟨zb, zc, E, ec, h1, h2, h3, h4, h5, h6⟩ := h.box
  have hlt := h.lt
  have c0 : w.cell? ⟨mb, 0, none⟩ = some (.slice (some ⟨zb, 0, none⟩) r.cells.length zc) := by rw [Lib.cell_of_heap h1]; rfl
  unfold RS.setC
  by_cases hs : 0 ≤ slot ∧ slot < r.cells.length
  · rw [if_pos hs]
    obtain ⟨i, rfl⟩ := Int.eq_ofNat_of_zero_le hs.1
    have hi : i < r.cells.length := by omega
    have hfew := h.few
    have HM := Lib.hid (h.put (i : Int).toNat x h1 h2 h3 h4 h5 h6)
    have hz := MSt.zs rfl h5 h.few
    obtain ⟨b', o', hA, hcell⟩ := hz.2.2 (by omega)
    injection hA with hA
    injection hA with hA1 hA2
    subst hA1 hA2
    have ci := hcell i hi
    obtain ⟨y, hy⟩ : ∃ y, r.cells.getD i 0 = y := ⟨_, rfl⟩
    rw [hy, Nat.zero_add] at ci
    have fi : w.frozen? ⟨zb, i, none⟩ = false := by
      obtain ⟨_, ⟨e, _⟩ | ⟨g, cap, cur, e, _, hb, _⟩⟩ := h5
      · cases e
      · injection e with e1; injection e1 with e1; injection e1 with e1; subst e1; exact frz hb i
    have hz : zb < w.heap.size := Nat.lt_of_lt_of_le h3 h.top
    have HB : Hid (Fr mb w (w.setCell ⟨zb, i, none⟩ (.int .i64 x))) := zb_fr w c0 h4 i _
    have h01 : 0 ≤ (i : Int) := hs.1
    have h02 : (i : Int) < (r.cells.length : Int) := hs.2
    rw [Int.toNat_natCast] at HM
    rw [Int.toNat_natCast]
    generalize r.cells.length = n at *
    clear hcell hy h5 h6 h1 h hs
    go_enter Tryd.func88, Tryd.ntmps88
    go_wp2_with fail
    exact bodyPost_end (results_none rfl _ _ _) rfl ⟨rfl, HM.out, HB.out⟩
  · rw [if_neg hs]
    have HM := Lib.hid h
    obtain ⟨n, hn⟩ : ∃ n, r.cells.length = n := ⟨_, rfl⟩
    rw [hn] at c0 hs
    clear hn h1 h5 h6 h
    by_cases h0 : 0 ≤ slot
    · have h01 : (n : Int) ≤ slot := by omega
      clear hs
      go_enter Tryd.func88, Tryd.ntmps88
      go_wp2_with fail
      exact bodyPost_end (results_none rfl _ _ _) rfl ⟨rfl, HM.out, Fr.refl _ _⟩
    · have h01 : slot < 0 := by omega
      clear hs h0
      go_enter Tryd.func88, Tryd.ntmps88
      go_wp2_with fail
      exact bodyPost_end (results_none rfl _ _ _) rfl ⟨rfl, HM.out, Fr.refl _ _⟩

theorem box7 {w : World} {n : Nat} {a0 a1 a2 a3 a4 a5 a6 : Value} {T : TypeId} {fr : Nat × Nat} (h : w.heap[n]? = some (.cells #[a0, a1, a2, a3, a4, a5, a6] T fr)) :
    w.cell? ⟨n, 0, none⟩ = some a0 ∧ w.cell? ⟨n, 1, none⟩ = some a1 ∧ w.cell? ⟨n, 2, none⟩ = some a2 ∧ w.cell? ⟨n, 3, none⟩ = some a3 ∧ w.cell? ⟨n, 4, none⟩ = some a4 ∧ w.cell? ⟨n, 5, none⟩ = some a5 ∧ w.cell? ⟨n, 6, none⟩ = some a6 :=
  ⟨by rw [Lib.cell_of_heap h]; rfl, by rw [Lib.cell_of_heap h]; rfl, by rw [Lib.cell_of_heap h]; rfl, by rw [Lib.cell_of_heap h]; rfl, by rw [Lib.cell_of_heap h]; rfl, by rw [Lib.cell_of_heap h]; rfl, by rw [Lib.cell_of_heap h]; rfl⟩

set_option maxHeartbeats 1000000 in
set_option maxRecDepth 100000 in
theorem mvalue_any (base mb n0 : Nat) (v : En) (r : RS) (w : World) (h : MSt base mb n0 v r w) (e : Ex) (S : Nat → Prop) (a b : Int) (s : ByteArray) (c d : Int) (A : Option Addr) (l q : Nat) (hl : ExL S w e [.int .i64 a, .int .i64 b, .string s, .int .i64 c, .int .i64 d, .slice A l q]) :
    Calls Tryd.prog 89 #[.pointer (some ⟨mb, 0, none⟩), .agg #[.int .i64 a, .int .i64 b, .string s, .int .i64 c, .int .i64 d, .slice A l q]] w fun e' w' => e' = .returned (.int .i64 (valS r.cells v e)) ∧ Below w.heap.size w w' := by
  have hb1 := rp_one1 w (.cells #[.int .i64 a, .int .i64 b, .string s, .int .i64 c, .int .i64 d, .slice A l q] 92)
  have hx := new_blk w (.cells #[.int .i64 a, .int .i64 b, .string s, .int .i64 c, .int .i64 d, .slice A l q] 92)
  have h' := h.below hb1
  have hl' := ExL.still (S := S) (S' := S) (fun k hk1 hk2 => ⟨hk1, hb1.block k hk2⟩) e _ hl
  obtain ⟨W, hW⟩ : ∃ W, w.alloc (.cells #[.int .i64 a, .int .i64 b, .string s, .int .i64 c, .int .i64 d, .slice A l q] 92) = W := ⟨_, rfl⟩
  obtain ⟨nb, hnb⟩ : ∃ x, w.heap.size = x := ⟨_, rfl⟩
  rw [hW] at hb1 hx h' hl'
  rw [hnb] at hx
  obtain ⟨x0, x1, x2, x3, x4, x5, _⟩ := box6 hx
  obtain ⟨zb, zc, E, ec, g1, g2, g3, g4, g5, g6⟩ := h'.box
  obtain ⟨m0, _, _, m3, m4, m5, m6⟩ := box7 g1
  have hz := MSt.zs rfl g5 h.few
  have HC := Lib.hid (fun (W' : World) (hb : Below W.heap.size W W') => value_any r.cells v e S W' a b s c d A l q (some ⟨zb, 0, none⟩) r.cells.length zc (ExL.still (fun k hk1 hk2 => ⟨hk1, hb.block k hk2⟩) e _ hl') (hz.below hb))
  have HB1 := Lib.hid hb1
  obtain ⟨R, hR⟩ : ∃ R, valS r.cells v e = R := ⟨_, rfl⟩
  obtain ⟨n, hn⟩ : ∃ n, r.cells.length = n := ⟨_, rfl⟩
  obtain ⟨s1, s2, s3, s4⟩ := v
  rw [hR, hn] at HC
  rw [hR]
  rw [hn] at m0
  simp only at m3 m4 m5 m6 HC
  clear h h' hl hl' hb1 hx g1 g5 g6 hz hR hn
  go_enter Tryd.func89, Tryd.ntmps89
  go_upto_region 1 with fail
  clear hW
  go_still_tail 9, (by kernel_rfl)
  go_wp2_with fail
  refine (HC.out _ (below_drew1 _)).mono ?_
  rintro e' w2 ⟨rfl, hb⟩
  have HB2 := Lib.hid (HB1.out.trans (((below_drew1 W).trans hb).mono HB1.out.size))
  clear hb
  go_wp2_with fail
  go_ret
  exact ⟨rfl, HB2.out⟩
end Go.Proofs.YtgblgkkbggdopaaDoor

/-
  What effect, put and store of the machine of package interp do. Conditions: those of WalkMa.
-/
namespace Go.Proofs.YtgblgkkbggdopaaDoor
open Go.RowKit

theorem rp_oneD (w : World) (a : Obj) : Below w.heap.size w ((w.alloc a).drew) := ((Below.refl _ _).alloc (Nat.le_refl _) a).drew
theorem rp_cellsA (w : World) (cs : List Value) (T : TypeId) : ∀ j u, cs[j]? = some u → (w.alloc (.cells cs.toArray T)).cell? ((⟨w.heap.size, 0, none⟩ : Addr).add j) = some u := fun j u hj => by
  rw [Addr.add_lit, Nat.zero_add]
  exact new_cell w _ T j u (by simpa using hj)
theorem rp_cellsD (w : World) (cs : List Value) (T : TypeId) : ∀ j u, cs[j]? = some u → ((w.alloc (.cells cs.toArray T)).drew).cell? ((⟨w.heap.size, 0, none⟩ : Addr).add j) = some u := fun j u hj => rp_cellsA w cs T j u hj

theorem infoEff : (Tryd.prog.info? 108).map (fun i => (i.zero, i.size, i.bytes)) = some (some (.agg #[.int .i64 0, .int .i64 0, .int .i64 0]), 3, 24) := by kernel_rfl

/-- An effect has been added. -/
theorem MSt.add {base mb n0 : Nat} {v : En} {r : RS} {w w2 w3 : World} {zb zc ec : Nat} {E : Option Addr} {x : Int × Int × Int} {v9 : Value} (h : MSt base mb n0 v r w) (h1 : w.heap[mb]? = some (.cells #[.slice (some ⟨zb, 0, none⟩) r.cells.length zc, .slice E r.effs.length ec, .int .i64 r.fuel, .int .i64 v.self, .int .i64 v.procs, .int .i64 v.src, .int .i64 v.value] 125 (0, 0)))
    (h2 : base ≤ zb) (h3 : zb < n0) (h4 : zb ≠ mb) (h5 : w.ownsRow base 3 1 (.slice (some ⟨zb, 0, none⟩) r.cells.length zc) r.cells.length (r.cells.map (Value.int .i64))) (h6 : w.ownsRow n0 108 3 (.slice E r.effs.length ec) r.effs.length (effC r.effs))
    (hb : Below w.heap.size w w2) (hlen : r.effs.length < 8)
    (hown : w3.ownsRow n0 108 3 v9 (r.effs.length + 1) (effC r.effs ++ [.int .i64 x.1, .int .i64 x.2.1, .int .i64 x.2.2])) (hg : w2.grownBy w3 (Value.slice E r.effs.length ec).ownBlock) (hob : v9.ownBlock = (Value.slice E r.effs.length ec).ownBlock ∨ v9.ownBlock = some w2.heap.size) :
    MSt base mb n0 v (r.eff x) (w3.setCell ⟨mb, 1, none⟩ v9) ∧ Fr mb w (w3.setCell ⟨mb, 1, none⟩ v9) := by
  have e0 := h.hi
  have e1 := h.lo
  have hz1 := hb.size
  have hz2 := hg.size
  have htop := h.top
  have hw : ∀ k, k < n0 → w3.heap[k]? = w.heap[k]? := fun k hk => (hg.block k (by omega) (own_no' h6 hk)).trans (hb.block k (by omega))
  obtain ⟨A9, c9, rfl⟩ := own_slice hown
  refine ⟨⟨h.lo, h.hi, by rw [set_size]; omega, ⟨zb, zc, A9, c9, ?_, h2, h3, h4, ?_, ?_⟩, ?_, ?_, ?_⟩, ?_⟩
  · rw [blk_set ((hw mb h.hi).trans h1)]
    unfold RS.eff
    rw [if_pos hlen]
    simp
  · have hc : (r.eff x).cells = r.cells := RS.eff_cells r x
    rw [hc]
    refine own_set ?_ _ (by simp [Value.ownBlock]; omega) _
    refine h5.kept (row := (Value.slice E r.effs.length ec).ownBlock) ?_ (.inr (fun e => own_no' h6 h3 (by simpa [Value.ownBlock] using e)))
    exact ⟨hg.os.trans hb.os, hg.tape.trans hb.tape, hg.output.trans hb.output, by omega, fun k hk hne => (hg.block k (by omega) hne).trans (hb.block k hk)⟩
  · unfold RS.eff
    rw [if_pos hlen]
    simp only [List.length_append, List.length_cons, List.length_nil, effC_snoc]
    exact own_set hown _ (fun e => own_no' hown (by simpa using e0) e.symm) _
  · rw [RS.eff_fuel]; exact h.fuel
  · exact RS.eff_len r x h.effs
  · rw [RS.eff_cells]; exact h.few
  · have c0 : w.cell? ⟨mb, 0, none⟩ = some (.slice (some ⟨zb, 0, none⟩) r.cells.length zc) := by rw [Lib.cell_of_heap h1]; rfl
    have c1 : w.cell? ⟨mb, 1, none⟩ = some (.slice E r.effs.length ec) := by rw [Lib.cell_of_heap h1]; rfl
    have hmw := hw mb h.hi
    refine ⟨hg.os.trans hb.os, hg.tape.trans hb.tape, hg.output.trans hb.output, by rw [set_size]; omega, fun k hk => ?_⟩
    have k1 := hk.2.2 1 _ _ _ (by omega) c1
    have k2 := hk.1
    refine ⟨(Below.heap_setCell _ _ _ _ hk.2.1).trans ((hg.block k (by omega) (fun e => k1 e.symm)).trans (hb.block k k2)), by rw [set_size]; omega, hk.2.1, fun i A n c hi hc => ?_⟩
    rcases (show i = 0 ∨ i = 1 by omega) with rfl | rfl
    · rw [World.cell?_setCell_other _ _ _ _ (by simp)] at hc
      exact hk.2.2 0 A n c (by omega) ((World.cell?_of_block (w := w) (a := ⟨mb, 0, none⟩) hmw).symm.trans hc)
    · rw [World.cell?_setCell_same _ _ _ ((World.cell?_of_block (w := w) (a := ⟨mb, 1, none⟩) hmw).trans c1)] at hc
      injection hc with hc
      rw [← hc]
      rcases hob with e | e
      · rw [e]; exact k1
      · rw [e]; intro e'; injection e' with e'; omega

set_option maxHeartbeats 1000000 in
set_option maxRecDepth 100000 in
theorem effect_any (base mb n0 : Nat) (v : En) (r : RS) (w : World) (x0 x1 x2 : Int) (h : MSt base mb n0 v r w) :
    Calls Tryd.prog 94 #[.pointer (some ⟨mb, 0, none⟩), .agg #[.int .i64 x0, .int .i64 x1, .int .i64 x2]] w fun e w' => e = .returned (.tuple #[]) ∧ MSt base mb n0 v (r.eff (x0, x1, x2)) w' ∧ Fr mb w w' := by
  have hb1 := rp_one1 w (.cells #[.int .i64 x0, .int .i64 x1, .int .i64 x2] 108)
  have hx := new_blk w (.cells #[.int .i64 x0, .int .i64 x1, .int .i64 x2] 108)
  have h' := h.below hb1
  have hbb := Lib.hid (Fr.of_below hb1 h.lt)
  obtain ⟨W, hW⟩ : ∃ W, w.alloc (.cells #[.int .i64 x0, .int .i64 x1, .int .i64 x2] 108) = W := ⟨_, rfl⟩
  obtain ⟨nb, hnb⟩ : ∃ x, w.heap.size = x := ⟨_, rfl⟩
  rw [hW] at hb1 hx h' hbb
  rw [hnb] at hx
  have c0 : W.cell? ⟨nb, 0, none⟩ = some (.int .i64 x0) := by rw [Lib.cell_of_heap hx]; rfl
  have c1 : W.cell? ⟨nb, 1, none⟩ = some (.int .i64 x1) := by rw [Lib.cell_of_heap hx]; rfl
  have c2 : W.cell? ⟨nb, 2, none⟩ = some (.int .i64 x2) := by rw [Lib.cell_of_heap hx]; rfl
  have hnW : nb < W.heap.size := lt_of_block hx
  obtain ⟨zb, zc, E, ec, g1, g2, g3, g4, g5, g6⟩ := h'.box
  obtain ⟨_, m1, _, _, _, _, _⟩ := box7 g1
  have f1 := frz g1 1
  have hmW : mb < W.heap.size := h'.lt
  have hn0 := Lib.hid h'.top
  have hef := h.effs
  have HO := Lib.hid g6
  by_cases hlen : r.effs.length < 8
  · have HA : Hid (∀ (w2 w3 : World) (v9 : Value), Below W.heap.size W w2 → w3.ownsRow n0 108 3 v9 (r.effs.length + 1) (effC r.effs ++ [.int .i64 x0, .int .i64 x1, .int .i64 x2]) → w2.grownBy w3 (Value.slice E r.effs.length ec).ownBlock → (v9.ownBlock = (Value.slice E r.effs.length ec).ownBlock ∨ v9.ownBlock = some w2.heap.size) → MSt base mb n0 v (r.eff (x0, x1, x2)) (w3.setCell ⟨mb, 1, none⟩ v9) ∧ Fr mb W (w3.setCell ⟨mb, 1, none⟩ v9)) :=
      fun w2 w3 v9 hb hown hg hob => MSt.add (x := (x0, x1, x2)) h' g1 g2 g3 g4 g5 g6 hb hlen hown hg hob
    obtain ⟨i0, hi, hz0, hz1, hz2⟩ := info_parts infoEff
    have HI := Lib.hid hi
    have HI0 := Lib.hid hz0
    have HI1 := Lib.hid hz1
    have HI2 := Lib.hid hz2
    have HNO : Hid (∀ k, k < n0 → some k ≠ (Value.slice E r.effs.length ec).ownBlock) := fun k hk => own_no' g6 hk
    have hmn := Lib.hid h.hi
    clear hi hz0 hz1 hz2 h' h hb1 hx g1 g5 g6
    obtain ⟨n, hn⟩ : ∃ n, r.effs.length = n := ⟨_, rfl⟩
    rw [hn] at m1 HO hlen HNO
    simp only [hn] at HA
    have hl8 : (n : Int) < 8 := by omega
    clear hn
    go_enter Tryd.func94, Tryd.ntmps94
    go_upto_region 2 with fail
    clear hW
    go_region_law (refine step_append_own_at rfl (.tmp 14) (.tmp 16) 104 rfl n0 108 i0 _ 3 24 Tryd.underlying104 HI.out HI0.out HI1.out HI2.out rfl (by decide) (.slice E n ec) n (effC r.effs) (by simp [Act.eval]) (own_bel HO.out (by first | exact rp_one1 _ _ | exact rp_oneD _ _)) ⟨W.heap.size, 0, none⟩ 1 1 [.int .i64 x0, .int .i64 x1, .int .i64 x2] (by simp [Act.eval]) rfl (by first | exact rp_cellsA _ _ _ | exact rp_cellsD _ _ _) (by simp [Value.oneCell']) (by unfold maxLen; omega) (by omega) (by have := hn0.out; simp; omega) ?_; intro v9 w9 hown9 hgrow9 hob9; obtain ⟨A9, q9, rfl⟩ := own_slice hown9; have HOW := Lib.hid hown9; have HGR := Lib.hid hgrow9; have HOB := Lib.hid hob9; have hm9 : w9.heap[mb]? = W.heap[mb]? := (hgrow9.block mb (by simp; omega) (HNO.out mb hmn.out)).trans ((rp_one1 W _).block mb hmW); have c9 : ∃ u, w9.cell? ⟨mb, 1, none⟩ = some u := ⟨_, (World.cell?_of_block (w := W) (a := ⟨mb, 1, none⟩) hm9).trans m1⟩; obtain ⟨u9, c9⟩ := c9; have f9 : w9.frozen? ⟨mb, 1, none⟩ = false := (World.frozen?_of_block (w := W) (a := ⟨mb, 1, none⟩) hm9).trans f1; clear hown9 hgrow9 hob9 hm9)
    all_goals
      go_wp2_with fail
      obtain ⟨k1, k2⟩ := HA.out _ _ _ (by first | exact rp_one1 _ _ | exact rp_oneD _ _) HOW.out HGR.out HOB.out
      exact bodyPost_end (results_none rfl _ _ _) rfl ⟨rfl, k1, hbb.out.trans k2⟩
  · have HM := Lib.hid h'
    have he : r.eff (x0, x1, x2) = r := by unfold RS.eff; rw [if_neg hlen]
    rw [he]
    obtain ⟨n, hn⟩ : ∃ n, r.effs.length = n := ⟨_, rfl⟩
    rw [hn] at m1 hlen
    have hl8 : (8 : Int) ≤ (n : Int) := by omega
    clear he hn h' h hb1 hx g1 g5 g6 HO hlen
    go_enter Tryd.func94, Tryd.ntmps94
    go_wp2_with fail
    exact bodyPost_end (results_none rfl _ _ _) rfl ⟨rfl, HM.out, hbb.out⟩

set_option maxHeartbeats 1000000 in
set_option maxRecDepth 100000 in
theorem put_any (base mb n0 : Nat) (v : En) (r : RS) (w : World) (q x : Int) (h : MSt base mb n0 v r w) :
    Calls Tryd.prog 93 #[.pointer (some ⟨mb, 0, none⟩), .int .i64 q, .int .i64 x] w fun e w' => e = .returned (.tuple #[]) ∧ MSt base mb n0 v (if 0 ≤ q ∧ q < v.procs ∧ q ≠ v.self then r.eff (1, q, x) else r) w' ∧ Fr mb w w' := by
  have HE := Lib.hid (effect_any base mb n0 v r w 1 q x h)
  obtain ⟨zb, zc, E, ec, g1, -⟩ := h.box
  obtain ⟨_, _, _, m3, m4, _, _⟩ := box7 g1
  have hlt := h.lt
  have HM := Lib.hid h
  clear h g1
  obtain ⟨self, procs, src, va⟩ := v
  simp only at m3 m4 ⊢
  by_cases h0 : 0 ≤ q
  · by_cases h1 : q < procs
    · by_cases h2 : q = self
      · rw [if_neg (by omega)]
        subst h2
        have h3 : (!(q == q)) = false := by simp
        go_enter Tryd.func93, Tryd.ntmps93
        go_wp2_with fail
        exact bodyPost_end (results_none rfl _ _ _) rfl ⟨rfl, HM.out, Fr.refl _ _⟩
      · rw [if_pos ⟨h0, h1, h2⟩]
        have h3 : (q == self) = false := by simpa using h2
        have h4 : (!(q == self)) = true := by simp [h3]
        clear h2
        go_enter Tryd.func93, Tryd.ntmps93
        go_wp2_with fail
        refine HE.out.mono ?_
        rintro e w1 ⟨rfl, hm, hb⟩
        go_wp2_with fail
        exact bodyPost_end (results_none rfl _ _ _) rfl ⟨rfl, hm, hb⟩
    · rw [if_neg (by omega)]
      go_enter Tryd.func93, Tryd.ntmps93
      go_wp2_with fail
      exact bodyPost_end (results_none rfl _ _ _) rfl ⟨rfl, HM.out, Fr.refl _ _⟩
  · rw [if_neg (by omega)]
    go_enter Tryd.func93, Tryd.ntmps93
    go_wp2_with fail
    exact bodyPost_end (results_none rfl _ _ _) rfl ⟨rfl, HM.out, Fr.refl _ _⟩
end Go.Proofs.YtgblgkkbggdopaaDoor

/-
  What store, choose, repeat, statement and list of the machine of package interp do: they execute statements, or throw where the fuel ends (gens46.py writes this text). Conditions: those of WalkMa; at most 100000 parts.
-/
namespace Go.Proofs.YtgblgkkbggdopaaDoor
open Go.RowKit

/-- What statements leave. -/
def Done (base mb n0 : Nat) (en : En) (R : RS × Bool) (w : World) (e : Ending) (w' : World) : Prop :=
  e = (if R.2 = true then .returned (.tuple #[]) else .panicked [spent]) ∧ MSt base mb n0 en R.1 w' ∧ Fr mb w w'
/-- A call of list, with at most n units of fuel. -/
def LstC (en : En) (n : Nat) : Prop := ∀ (l : List St) (r : RS), r.fuel ≤ n → St.bigL l ≤ 100000 → ∀ (base mb n0 : Nat) (w : World) (A : Option Addr) (len c : Nat), MSt base mb n0 en r w → StSlice (fun k => k < base) w l (.slice A len c) →
    Calls Tryd.prog 77 #[.pointer (some ⟨mb, 0, none⟩), .slice A len c] w (Done base mb n0 en (listS (exec1 en n) l r) w)
/-- What a While does whose condition is paid for. -/
def repW (en : En) (n : Nat) (s : St) (value : Ex) (body : List St) (r : RS) : RS × Bool :=
  if valS r.cells en value = 0 then (r, true) else match listS (exec1 en n) body r with
    | (r2, true) => exec1 en n s r2
    | (r2, false) => (r2, false)

set_option maxHeartbeats 2000000 in
set_option maxRecDepth 100000 in
theorem store_any (base mb n0 : Nat) (en : En) (r : RS) (w : World) (S : Nat → Prop) (kind : Int) (name : List UInt8) (slot size : Int) (place value : Ex) (body els : List St) (p0 p1 : Int) (p2 : ByteArray) (p3 p4 : Int) (P1 : Option Addr) (P2 P3 : Nat) (v0 v1 : Int) (v2 : ByteArray) (v3 v4 : Int) (V1 : Option Addr) (V2 V3 : Nat) (A3 : Option Addr) (c3 : Nat) (A4 : Option Addr) (c4 : Nat) (h : MSt base mb n0 en r w)
    (hp : ExL S w place [.int .i64 p0, .int .i64 p1, .string p2, .int .i64 p3, .int .i64 p4, .slice P1 P2 P3]) (hv : ExL S w value [.int .i64 v0, .int .i64 v1, .string v2, .int .i64 v3, .int .i64 v4, .slice V1 V2 V3]) :
    Calls Tryd.prog 90 #[.pointer (some ⟨mb, 0, none⟩), .agg #[.int .i64 kind, .string (strB name), .int .i64 slot, .int .i64 size, .int .i64 p0, .int .i64 p1, .string p2, .int .i64 p3, .int .i64 p4, .slice P1 P2 P3, .int .i64 v0, .int .i64 v1, .string v2, .int .i64 v3, .int .i64 v4, .slice V1 V2 V3, .slice A3 body.length c3, .slice A4 els.length c4]] w fun e w' => e = .returned (.tuple #[]) ∧ MSt base mb n0 en (if 0 ≤ valS r.cells en place ∧ valS r.cells en place < size then r.setC (wrap64 (slot + valS r.cells en place)) (valS r.cells en value) else r) w' ∧ Fr mb w w' := by
  have hb1 := rp_one1 w (.cells #[.int .i64 kind, .string (strB name), .int .i64 slot, .int .i64 size, .int .i64 p0, .int .i64 p1, .string p2, .int .i64 p3, .int .i64 p4, .slice P1 P2 P3, .int .i64 v0, .int .i64 v1, .string v2, .int .i64 v3, .int .i64 v4, .slice V1 V2 V3, .slice A3 body.length c3, .slice A4 els.length c4] 94)
  have hx := new_blk w (.cells #[.int .i64 kind, .string (strB name), .int .i64 slot, .int .i64 size, .int .i64 p0, .int .i64 p1, .string p2, .int .i64 p3, .int .i64 p4, .slice P1 P2 P3, .int .i64 v0, .int .i64 v1, .string v2, .int .i64 v3, .int .i64 v4, .slice V1 V2 V3, .slice A3 body.length c3, .slice A4 els.length c4] 94)
  have h' := h.below hb1
  have hfr := MSt.fresh h hb1 (by rw [new_size]; omega)
  have HF1 := Lib.hid (Fr.of_below hb1 h.lt)
  obtain ⟨W, hW⟩ : ∃ W, w.alloc (.cells #[.int .i64 kind, .string (strB name), .int .i64 slot, .int .i64 size, .int .i64 p0, .int .i64 p1, .string p2, .int .i64 p3, .int .i64 p4, .slice P1 P2 P3, .int .i64 v0, .int .i64 v1, .string v2, .int .i64 v3, .int .i64 v4, .slice V1 V2 V3, .slice A3 body.length c3, .slice A4 els.length c4] 94) = W := ⟨_, rfl⟩
  obtain ⟨nb, hnb⟩ : ∃ x, w.heap.size = x := ⟨_, rfl⟩
  rw [hW] at hb1 hx h' HF1 hfr
  rw [hnb] at hx hfr
  have HX := Lib.hid hx
  have HI := Lib.hid hfr
  have HM := Lib.hid h'
  have hnW : nb < W.heap.size := lt_of_block hx
  have y2 : W.cell? ⟨nb, 2, none⟩ = some (.int .i64 slot) := by rw [Lib.cell_of_heap hx]; rfl
  have y3 : W.cell? ⟨nb, 3, none⟩ = some (.int .i64 size) := by rw [Lib.cell_of_heap hx]; rfl
  have y4 : W.cell? ⟨nb, 4, none⟩ = some (.int .i64 p0) := by rw [Lib.cell_of_heap hx]; rfl
  have y5 : W.cell? ⟨nb, 5, none⟩ = some (.int .i64 p1) := by rw [Lib.cell_of_heap hx]; rfl
  have y6 : W.cell? ⟨nb, 6, none⟩ = some (.string p2) := by rw [Lib.cell_of_heap hx]; rfl
  have y7 : W.cell? ⟨nb, 7, none⟩ = some (.int .i64 p3) := by rw [Lib.cell_of_heap hx]; rfl
  have y8 : W.cell? ⟨nb, 8, none⟩ = some (.int .i64 p4) := by rw [Lib.cell_of_heap hx]; rfl
  have y9 : W.cell? ⟨nb, 9, none⟩ = some (.slice P1 P2 P3) := by rw [Lib.cell_of_heap hx]; rfl
  have HP : Hid (Calls Tryd.prog 89 #[.pointer (some ⟨mb, 0, none⟩), .agg #[.int .i64 p0, .int .i64 p1, .string p2, .int .i64 p3, .int .i64 p4, .slice P1 P2 P3]] W fun e' w' => e' = .returned (.int .i64 (valS r.cells en place)) ∧ Below W.heap.size W w') :=
    mvalue_any base mb n0 en r W HM.out place S p0 p1 p2 p3 p4 P1 P2 P3 (ExL.still (fun k h1 h2 => ⟨h1, hb1.block k h2⟩) place _ hp)
  have HV : Hid (∀ W', Below W.heap.size W W' → Calls Tryd.prog 89 #[.pointer (some ⟨mb, 0, none⟩), .agg #[.int .i64 v0, .int .i64 v1, .string v2, .int .i64 v3, .int .i64 v4, .slice V1 V2 V3]] W' fun e' w' => e' = .returned (.int .i64 (valS r.cells en value)) ∧ Below W'.heap.size W' w') := fun W' hb =>
    mvalue_any base mb n0 en r W' (HM.out.below hb) value S v0 v1 v2 v3 v4 V1 V2 V3 (ExL.still (fun k h1 h2 => ⟨h1, (hb.block k (Nat.lt_of_lt_of_le h2 hb1.size)).trans (hb1.block k h2)⟩) value _ hv)
  obtain ⟨X, hX⟩ : ∃ x, valS r.cells en place = x := ⟨_, rfl⟩
  obtain ⟨Y, hY⟩ : ∃ x, valS r.cells en value = x := ⟨_, rfl⟩
  rw [hX] at HP ⊢
  rw [hY] at HV ⊢
  obtain ⟨T, hT⟩ : ∃ x, (if 0 ≤ X ∧ X < size then r.setC (wrap64 (slot + X)) Y else r) = x := ⟨_, rfl⟩
  rw [hT]
  have HT := Lib.hid hT
  clear hX hY hx hfr h' hb1 h hp hv hT
  go_enter Tryd.func90, Tryd.ntmps90
  go_wp2_with fail
  clear hW
  refine HP.out.mono ?_
  rintro e' w1 ⟨rfl, hb⟩
  have HB1 := Lib.hid hb
  have HX1 := Lib.hid (below_blk hb HX.out)
  have z2 : w1.cell? ⟨nb, 2, none⟩ = some (.int .i64 slot) := by rw [Lib.cell_of_heap HX1.out]; rfl
  have z3 : w1.cell? ⟨nb, 3, none⟩ = some (.int .i64 size) := by rw [Lib.cell_of_heap HX1.out]; rfl
  have z10 : w1.cell? ⟨nb, 10, none⟩ = some (.int .i64 v0) := by rw [Lib.cell_of_heap HX1.out]; rfl
  have z11 : w1.cell? ⟨nb, 11, none⟩ = some (.int .i64 v1) := by rw [Lib.cell_of_heap HX1.out]; rfl
  have z12 : w1.cell? ⟨nb, 12, none⟩ = some (.string v2) := by rw [Lib.cell_of_heap HX1.out]; rfl
  have z13 : w1.cell? ⟨nb, 13, none⟩ = some (.int .i64 v3) := by rw [Lib.cell_of_heap HX1.out]; rfl
  have z14 : w1.cell? ⟨nb, 14, none⟩ = some (.int .i64 v4) := by rw [Lib.cell_of_heap HX1.out]; rfl
  have z15 : w1.cell? ⟨nb, 15, none⟩ = some (.slice V1 V2 V3) := by rw [Lib.cell_of_heap HX1.out]; rfl
  clear hb y2 y3 y4 y5 y6 y7 y8 y9
  go_wp2_with fail
  refine (HV.out _ HB1.out).mono ?_
  rintro e' w2 ⟨rfl, hb⟩
  have HB2 := Lib.hid (HB1.out.trans (hb.mono HB1.out.size))
  have HX2 := Lib.hid (below_blk hb HX1.out)
  have u2 : w2.cell? ⟨nb, 2, none⟩ = some (.int .i64 slot) := by rw [Lib.cell_of_heap HX2.out]; rfl
  have u3 : w2.cell? ⟨nb, 3, none⟩ = some (.int .i64 size) := by rw [Lib.cell_of_heap HX2.out]; rfl
  clear hb z2 z3 z10 z11 z12 z13 z14 z15
  have HM2 := Lib.hid (HM.out.below HB2.out)
  have HF2 := Lib.hid (HF1.out.down HM.out.lt HB2.out)
  by_cases h0 : 0 ≤ X
  · by_cases h1 : X < size
    · go_wp2_with fail
      refine (set_any base mb n0 en r _ (wrap64 (slot + X)) Y HM2.out).mono ?_
      rintro e' w3 ⟨rfl, hm, hf⟩
      have HM3 := Lib.hid hm
      have HF3 := Lib.hid (HF2.out.trans hf)
      clear hm hf
      go_wp2_with fail
      exact bodyPost_end (results_none rfl _ _ _) rfl ⟨rfl, by rw [← HT.out, if_pos ⟨h0, h1⟩]; exact HM3.out, HF3.out⟩
    · go_wp2_with fail
      exact bodyPost_end (results_none rfl _ _ _) rfl ⟨rfl, by rw [← HT.out, if_neg (by omega)]; exact HM2.out, HF2.out⟩
  · go_wp2_with fail
    exact bodyPost_end (results_none rfl _ _ _) rfl ⟨rfl, by rw [← HT.out, if_neg (by omega)]; exact HM2.out, HF2.out⟩

theorem done_cases {base mb n0 : Nat} {en : En} {R : RS × Bool} {w w' : World} {e : Ending} (h : Done base mb n0 en R w e w') : (R.2 = true ∧ e = .returned (.tuple #[]) ∨ R.2 = false ∧ e = .panicked [spent]) ∧ MSt base mb n0 en R.1 w' ∧ Fr mb w w' := by
  obtain ⟨h1, h2, h3⟩ := h
  refine ⟨?_, h2, h3⟩
  cases hr : R.2
  · right; rw [hr] at h1; exact ⟨rfl, by simpa using h1⟩
  · left; rw [hr] at h1; exact ⟨rfl, by simpa using h1⟩

set_option maxHeartbeats 2000000 in
set_option maxRecDepth 100000 in
theorem choose_any (base mb n0 n : Nat) (en : En) (r : RS) (w : World) (kind : Int) (name : List UInt8) (slot size : Int) (value : Ex) (body els : List St) (p0 p1 : Int) (p2 : ByteArray) (p3 p4 : Int) (P1 : Option Addr) (P2 P3 : Nat) (v0 v1 : Int) (v2 : ByteArray) (v3 v4 : Int) (V1 : Option Addr) (V2 V3 : Nat) (A3 : Option Addr) (c3 : Nat) (A4 : Option Addr) (c4 : Nat) (hL : LstC en n) (hf : r.fuel ≤ n) (h : MSt base mb n0 en r w)
    (hbb : St.bigL body ≤ 100000) (hbe : St.bigL els ≤ 100000) (hv : ExL (fun k => k < base) w value [.int .i64 v0, .int .i64 v1, .string v2, .int .i64 v3, .int .i64 v4, .slice V1 V2 V3]) (hbo : StSlice (fun k => k < base) w body (.slice A3 body.length c3)) (hel : StSlice (fun k => k < base) w els (.slice A4 els.length c4)) :
    Calls Tryd.prog 91 #[.pointer (some ⟨mb, 0, none⟩), .agg #[.int .i64 kind, .string (strB name), .int .i64 slot, .int .i64 size, .int .i64 p0, .int .i64 p1, .string p2, .int .i64 p3, .int .i64 p4, .slice P1 P2 P3, .int .i64 v0, .int .i64 v1, .string v2, .int .i64 v3, .int .i64 v4, .slice V1 V2 V3, .slice A3 body.length c3, .slice A4 els.length c4]] w (Done base mb n0 en (listS (exec1 en n) (if valS r.cells en value ≠ 0 then body else els) r) w) := by
  have hb1 := rp_one1 w (.cells #[.int .i64 kind, .string (strB name), .int .i64 slot, .int .i64 size, .int .i64 p0, .int .i64 p1, .string p2, .int .i64 p3, .int .i64 p4, .slice P1 P2 P3, .int .i64 v0, .int .i64 v1, .string v2, .int .i64 v3, .int .i64 v4, .slice V1 V2 V3, .slice A3 body.length c3, .slice A4 els.length c4] 94)
  have hx := new_blk w (.cells #[.int .i64 kind, .string (strB name), .int .i64 slot, .int .i64 size, .int .i64 p0, .int .i64 p1, .string p2, .int .i64 p3, .int .i64 p4, .slice P1 P2 P3, .int .i64 v0, .int .i64 v1, .string v2, .int .i64 v3, .int .i64 v4, .slice V1 V2 V3, .slice A3 body.length c3, .slice A4 els.length c4] 94)
  have h' := h.below hb1
  have hfr := MSt.fresh h hb1 (by rw [new_size]; omega)
  have HF1 := Lib.hid (Fr.of_below hb1 h.lt)
  obtain ⟨W, hW⟩ : ∃ W, w.alloc (.cells #[.int .i64 kind, .string (strB name), .int .i64 slot, .int .i64 size, .int .i64 p0, .int .i64 p1, .string p2, .int .i64 p3, .int .i64 p4, .slice P1 P2 P3, .int .i64 v0, .int .i64 v1, .string v2, .int .i64 v3, .int .i64 v4, .slice V1 V2 V3, .slice A3 body.length c3, .slice A4 els.length c4] 94) = W := ⟨_, rfl⟩
  obtain ⟨nb, hnb⟩ : ∃ x, w.heap.size = x := ⟨_, rfl⟩
  rw [hW] at hb1 hx h' HF1 hfr
  rw [hnb] at hx hfr
  have HX := Lib.hid hx
  have HI := Lib.hid hfr
  have HM := Lib.hid h'
  have hnW : nb < W.heap.size := lt_of_block hx
  have y10 : W.cell? ⟨nb, 10, none⟩ = some (.int .i64 v0) := by rw [Lib.cell_of_heap hx]; rfl
  have y11 : W.cell? ⟨nb, 11, none⟩ = some (.int .i64 v1) := by rw [Lib.cell_of_heap hx]; rfl
  have y12 : W.cell? ⟨nb, 12, none⟩ = some (.string v2) := by rw [Lib.cell_of_heap hx]; rfl
  have y13 : W.cell? ⟨nb, 13, none⟩ = some (.int .i64 v3) := by rw [Lib.cell_of_heap hx]; rfl
  have y14 : W.cell? ⟨nb, 14, none⟩ = some (.int .i64 v4) := by rw [Lib.cell_of_heap hx]; rfl
  have y15 : W.cell? ⟨nb, 15, none⟩ = some (.slice V1 V2 V3) := by rw [Lib.cell_of_heap hx]; rfl
  have HV : Hid (Calls Tryd.prog 89 #[.pointer (some ⟨mb, 0, none⟩), .agg #[.int .i64 v0, .int .i64 v1, .string v2, .int .i64 v3, .int .i64 v4, .slice V1 V2 V3]] W fun e' w' => e' = .returned (.int .i64 (valS r.cells en value)) ∧ Below W.heap.size W w') :=
    mvalue_any base mb n0 en r W HM.out value (fun k => k < base) v0 v1 v2 v3 v4 V1 V2 V3 (ExL.still (fun k h1 h2 => ⟨h1, hb1.block k h2⟩) value _ hv)
  have HLB : Hid (∀ W', Below W.heap.size W W' → Calls Tryd.prog 77 #[.pointer (some ⟨mb, 0, none⟩), .slice A3 body.length c3] W' (Done base mb n0 en (listS (exec1 en n) body r) W')) := fun W' hb =>
    hL body r hf hbb base mb n0 W' A3 body.length c3 (HM.out.below hb) (hbo.still fun k h1 h2 => ⟨h1, (hb.block k (Nat.lt_of_lt_of_le h2 hb1.size)).trans (hb1.block k h2)⟩)
  have HLE : Hid (∀ W', Below W.heap.size W W' → Calls Tryd.prog 77 #[.pointer (some ⟨mb, 0, none⟩), .slice A4 els.length c4] W' (Done base mb n0 en (listS (exec1 en n) els r) W')) := fun W' hb =>
    hL els r hf hbe base mb n0 W' A4 els.length c4 (HM.out.below hb) (hel.still fun k h1 h2 => ⟨h1, (hb.block k (Nat.lt_of_lt_of_le h2 hb1.size)).trans (hb1.block k h2)⟩)
  obtain ⟨Y, hY⟩ : ∃ x, valS r.cells en value = x := ⟨_, rfl⟩
  rw [hY] at HV ⊢
  clear hY hx hfr h' hb1 h hL hf hbb hbe hv hbo hel
  by_cases h0 : Y = 0
  · rw [if_neg (by omega)]
    subst h0
    obtain ⟨R, hR⟩ : ∃ x, listS (exec1 en n) els r = x := ⟨_, rfl⟩
    rw [hR] at HLE ⊢
    clear hR HLB
    have h1 : (!((0 : Int) == 0)) = false := by decide
    go_enter Tryd.func91, Tryd.ntmps91
    go_wp2_with fail
    clear hW
    refine HV.out.mono ?_
    rintro e' w1 ⟨rfl, hb⟩
    have HB1 := Lib.hid hb
    have HX1 := Lib.hid (below_blk hb HX.out)
    have HF2 := Lib.hid (HF1.out.down HM.out.lt hb)
    have z17 : w1.cell? ⟨nb, 17, none⟩ = some (.slice A4 els.length c4) := by rw [Lib.cell_of_heap HX1.out]; rfl
    clear hb y10 y11 y12 y13 y14 y15
    go_wp2_with fail
    refine (HLE.out _ HB1.out).mono ?_
    intro e' w2 hd
    obtain ⟨⟨hR, rfl⟩ | ⟨hR, rfl⟩, hm, hf⟩ := done_cases hd
    · have HQ : Hid (Done base mb n0 en R w (.returned (.tuple #[])) w2) := ⟨by rw [if_pos hR], hm, HF2.out.trans hf⟩
      clear hd hR hm hf
      go_wp2_with fail
      exact bodyPost_end (results_none rfl _ _ _) rfl HQ.out
    · have HQ : Hid (Done base mb n0 en R w (.panicked [spent]) w2) := ⟨by rw [hR]; rfl, hm, HF2.out.trans hf⟩
      clear hd hR hm hf
      go_wp2_with fail
      exact ⟨rfl, HQ.out⟩
  · rw [if_pos h0]
    obtain ⟨R, hR⟩ : ∃ x, listS (exec1 en n) body r = x := ⟨_, rfl⟩
    rw [hR] at HLB ⊢
    clear hR HLE
    have h1 : (Y == 0) = false := by simpa using h0
    have h2 : (!(Y == 0)) = true := by simp [h1]
    clear h0
    go_enter Tryd.func91, Tryd.ntmps91
    go_wp2_with fail
    clear hW
    refine HV.out.mono ?_
    rintro e' w1 ⟨rfl, hb⟩
    have HB1 := Lib.hid hb
    have HX1 := Lib.hid (below_blk hb HX.out)
    have HF2 := Lib.hid (HF1.out.down HM.out.lt hb)
    have z16 : w1.cell? ⟨nb, 16, none⟩ = some (.slice A3 body.length c3) := by rw [Lib.cell_of_heap HX1.out]; rfl
    clear hb y10 y11 y12 y13 y14 y15
    go_wp2_with fail
    refine (HLB.out _ HB1.out).mono ?_
    intro e' w2 hd
    obtain ⟨⟨hR, rfl⟩ | ⟨hR, rfl⟩, hm, hf⟩ := done_cases hd
    · have HQ : Hid (Done base mb n0 en R w (.returned (.tuple #[])) w2) := ⟨by rw [if_pos hR], hm, HF2.out.trans hf⟩
      clear hd hR hm hf
      go_wp2_with fail
      exact bodyPost_end (results_none rfl _ _ _) rfl HQ.out
    · have HQ : Hid (Done base mb n0 en R w (.panicked [spent]) w2) := ⟨by rw [hR]; rfl, hm, HF2.out.trans hf⟩
      clear hd hR hm hf
      go_wp2_with fail
      exact ⟨rfl, HQ.out⟩

theorem exec_while (en : En) (n : Nat) (kind : Int) (name : List UInt8) (slot size : Int) (place value : Ex) (body els : List St) (r : RS) (hf : r.fuel ≠ 0) (hk : kind = 4) : exec1 en (n + 1) (.mk kind name slot size place value body els) r = repW en n (.mk kind name slot size place value body els) value body r.paid := by
  rw [exec1, if_neg hf, if_neg (by omega), if_pos hk]
  rfl
theorem repW_le (en : En) (n : Nat) (s : St) (value : Ex) (body : List St) (r : RS) : RS.Le r (repW en n s value body r).1 := by
  unfold repW
  split
  · exact RS.Le.refl r
  · have h := listS_le (exec1_le en n) body r
    split
    · rename_i r2 e; rw [e] at h; exact h.trans (exec1_le en n s r2)
    · rename_i r2 e; rw [e] at h; exact h

set_option maxHeartbeats 2000000 in
set_option maxRecDepth 100000 in
theorem repeat_any (base mb n0 n : Nat) (en : En) (r : RS) (w : World) (kind : Int) (name : List UInt8) (slot size : Int) (place value : Ex) (body els : List St) (p0 p1 : Int) (p2 : ByteArray) (p3 p4 : Int) (P1 : Option Addr) (P2 P3 : Nat) (v0 v1 : Int) (v2 : ByteArray) (v3 v4 : Int) (V1 : Option Addr) (V2 V3 : Nat) (A3 : Option Addr) (c3 : Nat) (A4 : Option Addr) (c4 : Nat) (hk : kind = 4) (hL : ∀ m, m ≤ n → LstC en m) (hf : r.fuel ≤ n) (h : MSt base mb n0 en r w)
    (hbb : St.bigL body ≤ 100000) (hv : ExL (fun k => k < base) w value [.int .i64 v0, .int .i64 v1, .string v2, .int .i64 v3, .int .i64 v4, .slice V1 V2 V3]) (hbo : StSlice (fun k => k < base) w body (.slice A3 body.length c3)) :
    Calls Tryd.prog 92 #[.pointer (some ⟨mb, 0, none⟩), .agg #[.int .i64 kind, .string (strB name), .int .i64 slot, .int .i64 size, .int .i64 p0, .int .i64 p1, .string p2, .int .i64 p3, .int .i64 p4, .slice P1 P2 P3, .int .i64 v0, .int .i64 v1, .string v2, .int .i64 v3, .int .i64 v4, .slice V1 V2 V3, .slice A3 body.length c3, .slice A4 els.length c4]] w (Done base mb n0 en (repW en n (.mk kind name slot size place value body els) value body r) w) := by
  have hb1 := rp_one1 w (.cells #[.int .i64 kind, .string (strB name), .int .i64 slot, .int .i64 size, .int .i64 p0, .int .i64 p1, .string p2, .int .i64 p3, .int .i64 p4, .slice P1 P2 P3, .int .i64 v0, .int .i64 v1, .string v2, .int .i64 v3, .int .i64 v4, .slice V1 V2 V3, .slice A3 body.length c3, .slice A4 els.length c4] 94)
  have hx := new_blk w (.cells #[.int .i64 kind, .string (strB name), .int .i64 slot, .int .i64 size, .int .i64 p0, .int .i64 p1, .string p2, .int .i64 p3, .int .i64 p4, .slice P1 P2 P3, .int .i64 v0, .int .i64 v1, .string v2, .int .i64 v3, .int .i64 v4, .slice V1 V2 V3, .slice A3 body.length c3, .slice A4 els.length c4] 94)
  have h' := h.below hb1
  have hfr := MSt.fresh h hb1 (by rw [new_size]; omega)
  have HF1 := Lib.hid (Fr.of_below hb1 h.lt)
  obtain ⟨W, hW⟩ : ∃ W, w.alloc (.cells #[.int .i64 kind, .string (strB name), .int .i64 slot, .int .i64 size, .int .i64 p0, .int .i64 p1, .string p2, .int .i64 p3, .int .i64 p4, .slice P1 P2 P3, .int .i64 v0, .int .i64 v1, .string v2, .int .i64 v3, .int .i64 v4, .slice V1 V2 V3, .slice A3 body.length c3, .slice A4 els.length c4] 94) = W := ⟨_, rfl⟩
  obtain ⟨nb, hnb⟩ : ∃ x, w.heap.size = x := ⟨_, rfl⟩
  rw [hW] at hb1 hx h' HF1 hfr
  rw [hnb] at hx hfr
  have HX := Lib.hid hx
  have HI := Lib.hid hfr
  have HM := Lib.hid h'
  have hnW : nb < W.heap.size := lt_of_block hx
  have HV : Hid (∀ W' r', MSt base mb n0 en r' W' → Fr mb W W' → Calls Tryd.prog 89 #[.pointer (some ⟨mb, 0, none⟩), .agg #[.int .i64 v0, .int .i64 v1, .string v2, .int .i64 v3, .int .i64 v4, .slice V1 V2 V3]] W' fun e' w' => e' = .returned (.int .i64 (valS r'.cells en value)) ∧ Below W'.heap.size W' w') := fun W' r' hm hf' =>
    mvalue_any base mb n0 en r' W' hm value (fun k => k < base) v0 v1 v2 v3 v4 V1 V2 V3 (ExL.still (fun k h1 h2 => ⟨h1, ((HM.out.bel hf').block k h1).trans (hb1.block k h2)⟩) value _ hv)
  have HL : Hid (∀ m W' r', m ≤ n → r'.fuel ≤ m → MSt base mb n0 en r' W' → Fr mb W W' → Calls Tryd.prog 77 #[.pointer (some ⟨mb, 0, none⟩), .slice A3 body.length c3] W' (Done base mb n0 en (listS (exec1 en m) body r') W')) := fun m W' r' hm hf2 hm2 hf' =>
    hL m hm body r' hf2 hbb base mb n0 W' A3 body.length c3 hm2 (hbo.still fun k h1 h2 => ⟨h1, ((HM.out.bel hf').block k h1).trans (hb1.block k h2)⟩)
  obtain ⟨s, hs⟩ : ∃ x, St.mk kind name slot size place value body els = x := ⟨_, rfl⟩
  have HS := Lib.hid hs
  obtain ⟨R, hR⟩ : ∃ x, repW en n s value body r = x := ⟨_, rfl⟩
  rw [hs, hR]
  have HR := Lib.hid hR
  have HK := Lib.hid hk
  clear hs hR hx hfr h' hb1 h hL hbb hv hbo hk
  go_enter Tryd.func92, Tryd.ntmps92
  go_wp2_with fail
  clear hW
  go_loopg [] n (fun g wr => ∃ r', r'.fuel ≤ g ∧ g ≤ n ∧ Hid (MSt base mb n0 en r' wr) ∧ Hid (Fr mb W wr) ∧ Hid (repW en g s value body r' = R))
  case atStart => exact ⟨r, hf, Nat.le_refl _, HM, Fr.refl _ _, HR⟩
  case round =>
    obtain ⟨r', hf', hg, HM', HF', HR'⟩ := hrel
    have HXr : Hid (wr.heap[nb]? = some (.cells #[.int .i64 kind, .string (strB name), .int .i64 slot, .int .i64 size, .int .i64 p0, .int .i64 p1, .string p2, .int .i64 p3, .int .i64 p4, .slice P1 P2 P3, .int .i64 v0, .int .i64 v1, .string v2, .int .i64 v3, .int .i64 v4, .slice V1 V2 V3, .slice A3 body.length c3, .slice A4 els.length c4] 94 (0, 0))) := (HF'.out.blk nb HI.out).1.trans HX.out
    have y10 : wr.cell? ⟨nb, 10, none⟩ = some (.int .i64 v0) := by rw [Lib.cell_of_heap HXr.out]; rfl
    have y11 : wr.cell? ⟨nb, 11, none⟩ = some (.int .i64 v1) := by rw [Lib.cell_of_heap HXr.out]; rfl
    have y12 : wr.cell? ⟨nb, 12, none⟩ = some (.string v2) := by rw [Lib.cell_of_heap HXr.out]; rfl
    have y13 : wr.cell? ⟨nb, 13, none⟩ = some (.int .i64 v3) := by rw [Lib.cell_of_heap HXr.out]; rfl
    have y14 : wr.cell? ⟨nb, 14, none⟩ = some (.int .i64 v4) := by rw [Lib.cell_of_heap HXr.out]; rfl
    have y15 : wr.cell? ⟨nb, 15, none⟩ = some (.slice V1 V2 V3) := by rw [Lib.cell_of_heap HXr.out]; rfl
    obtain ⟨Y, hY⟩ : ∃ x, valS r'.cells en value = x := ⟨_, rfl⟩
    have HC := Lib.hid (HV.out wr r' HM'.out HF'.out)
    rw [hY] at HC
    have HY := Lib.hid hY
    have HG := Lib.hid hg
    have HFU := Lib.hid hf'
    clear hY hg hf' hf HR
    go_wp2_with fail
    refine HC.out.mono ?_
    rintro e' w1 ⟨rfl, hb⟩
    have HF1' := Lib.hid (HF'.out.down HM'.out.lt hb)
    have HM1 := Lib.hid (HM'.out.below hb)
    have HX1 : Hid (w1.heap[nb]? = some (.cells #[.int .i64 kind, .string (strB name), .int .i64 slot, .int .i64 size, .int .i64 p0, .int .i64 p1, .string p2, .int .i64 p3, .int .i64 p4, .slice P1 P2 P3, .int .i64 v0, .int .i64 v1, .string v2, .int .i64 v3, .int .i64 v4, .slice V1 V2 V3, .slice A3 body.length c3, .slice A4 els.length c4] 94 (0, 0))) := (HF1'.out.blk nb HI.out).1.trans HX.out
    have z16 : w1.cell? ⟨nb, 16, none⟩ = some (.slice A3 body.length c3) := by rw [Lib.cell_of_heap HX1.out]; rfl
    clear hb y10 y11 y12 y13 y14 y15 HC
    by_cases h0 : Y = 0
    · subst h0
      have h1 : (!((0 : Int) == 0)) = false := by decide
      have HQ : Hid (Done base mb n0 en R w (.returned (.tuple #[])) w1) := by
        have e := HR'.out
        unfold repW at e
        rw [if_pos HY.out] at e
        subst e
        exact ⟨rfl, HM1.out, HF1.out.trans HF1'.out⟩
      go_wp2_with fail
      exact bodyPost_end (results_none rfl _ _ _) rfl HQ.out
    · have h1 : (Y == 0) = false := by simpa using h0
      have h2 : (!(Y == 0)) = true := by simp [h1]
      have HN := Lib.hid h0
      have HC := Lib.hid (HL.out gk w1 r' HG.out HFU.out HM1.out HF1'.out)
      clear h0
      go_wp2_with fail
      refine HC.out.mono ?_
      intro e' w2 hd
      obtain ⟨⟨hb, rfl⟩ | ⟨hb, rfl⟩, hm, hf2⟩ := done_cases hd
      · have HM2 := Lib.hid hm
        have HF2 := Lib.hid (HF1'.out.trans hf2)
        have HB := Lib.hid hb
        have HFL : Hid ((listS (exec1 en gk) body r').1.fuel ≤ r'.fuel) := (listS_le (exec1_le en gk) body r').fuel
        clear hd hb hm hf2 HC
        by_cases hz : (listS (exec1 en gk) body r').1.fuel = 0
        · have HZ := Lib.hid hz
          clear hz
          go_wp2_with fail
          refine (pay_none base mb n0 en _ _ HM2.out HZ.out).mono ?_
          rintro e' w3 ⟨rfl, rfl⟩
          have HQ : Hid (Done base mb n0 en R w (.panicked [spent]) w2) := by
            have e := HR'.out
            unfold repW at e
            rw [if_neg (by rw [HY.out]; exact HN.out)] at e
            obtain ⟨r2, b2, hlr⟩ : ∃ r2 b2, listS (exec1 en gk) body r' = (r2, b2) := ⟨_, _, rfl⟩
            have hb := HB.out
            have hz := HZ.out
            have hm := HM2.out
            rw [hlr] at e hb hz hm
            simp only at hb hz hm
            subst hb
            simp only at e
            have he : exec1 en gk s r2 = (r2, false) := by
              cases s
              cases gk with
              | zero => rfl
              | succ k => rw [exec1, if_pos hz]
            rw [he] at e
            subst e
            exact ⟨rfl, hm, HF1.out.trans HF2.out⟩
          go_wp2_with fail
          exact ⟨rfl, HQ.out⟩
        · have HZ := Lib.hid hz
          clear hz
          go_wp2_with fail
          refine (pay_some base mb n0 en _ _ HM2.out HZ.out).mono ?_
          rintro e' w3 ⟨rfl, hm, hf3⟩
          have HM3 := Lib.hid hm
          have HF3 := Lib.hid (HF2.out.trans hf3)
          clear hm hf3
          cases gk with
          | zero => exact absurd (show (listS (exec1 en 0) body r').1.fuel = 0 by have := HFL.out; have := HFU.out; omega) HZ.out
          | succ g =>
            have HQ : Hid (∃ r1, r1.fuel ≤ g ∧ g ≤ n ∧ Hid (MSt base mb n0 en r1 w3) ∧ Hid (Fr mb W w3) ∧ Hid (repW en g s value body r1 = R)) := by
              refine ⟨_, ?_, ?_, HM3, HF3, ?_⟩
              · have := HFL.out; have := HFU.out; have := HZ.out; simp only [RS.paid]; omega
              · have := HG.out; omega
              · show repW en g s value body _ = R
                have e := HR'.out
                unfold repW at e
                rw [if_neg (by rw [HY.out]; exact HN.out)] at e
                obtain ⟨r2, b2, hlr⟩ : ∃ r2 b2, listS (exec1 en (g + 1)) body r' = (r2, b2) := ⟨_, _, rfl⟩
                have hb := HB.out
                have hz := HZ.out
                rw [hlr] at e hb hz ⊢
                simp only at hb hz ⊢
                subst hb
                simp only at e
                rw [← e, ← HS.out]
                exact (exec_while en g kind name slot size place value body els r2 hz HK.out).symm
            obtain ⟨r1, j1, j2, j3, j4, j5⟩ := HQ.out
            go_wp2_with fail
            go_roundg g
            case rel => exact ⟨r1, j1, j2, j3, j4, j5⟩
            case measure => omega
      · have HQ : Hid (Done base mb n0 en R w (.panicked [spent]) w2) := by
          have e := HR'.out
          unfold repW at e
          rw [if_neg (by rw [HY.out]; exact HN.out)] at e
          obtain ⟨r2, b2, hlr⟩ : ∃ r2 b2, listS (exec1 en gk) body r' = (r2, b2) := ⟨_, _, rfl⟩
          rw [hlr] at e hb hm
          simp only at hb hm
          subst hb
          simp only at e
          subst e
          exact ⟨rfl, hm, HF1.out.trans (HF1'.out.trans hf2)⟩
        clear hd hb hm hf2
        go_wp2_with fail
        exact ⟨rfl, HQ.out⟩
end Go.Proofs.YtgblgkkbggdopaaDoor
