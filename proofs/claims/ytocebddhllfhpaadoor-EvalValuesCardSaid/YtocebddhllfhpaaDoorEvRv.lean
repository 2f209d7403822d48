/-
  What Cell, Place and arg of the document's answer return. Conditions: all numbers of the expression are 64-bit ints, and so are the cells.
-/
import Derived.Test.YtocebddhllfhpaaDoorEvVz
import Derived.Test.YtocebddhllfhpaaDoorEvRa
namespace Go.Proofs.YtocebddhllfhpaaDoor
open Go.RowKit

/-- A 64-bit int. -/
abbrev I64 (z : Int) : Prop := -9223372036854775808 ≤ z ∧ z ≤ 9223372036854775807
mutual
/-- All numbers of an expression are 64-bit ints. -/
def exR : Ex → Prop
  | .mk _ value _ slot size args => I64 value ∧ I64 slot ∧ I64 size ∧ exRL args
def exRL : List Ex → Prop
  | [] => True
  | e :: r => exR e ∧ exRL r
end
theorem exRL_at : ∀ (l : List Ex) (k : Nat) (e : Ex), exRL l → l[k]? = some e → exR e
  | [], _, _, _, h => by simp at h
  | x :: r, 0, e, hs, h => by
    simp only [List.getElem?_cons_zero, Option.some.injEq] at h
    subst h
    simp only [exRL] at hs
    exact hs.1
  | x :: r, k + 1, e, hs, h => by
    simp only [List.getElem?_cons_succ] at h
    simp only [exRL] at hs
    exact exRL_at r k e hs.2 h
theorem exRL_of : ∀ l : List Ex, (∀ x ∈ l, exR x) → exRL l
  | [], _ => by simp only [exRL]
  | e :: r, h => by
    simp only [exRL]
    exact ⟨h e (List.mem_cons_self ..), exRL_of r fun x hx => h x (List.mem_cons_of_mem _ hx)⟩

theorem wrap64_I (z : Int) : I64 (wrap64 z) := by unfold wrap64; constructor <;> omega
theorem tB_I (b : Bool) : I64 (tB b) := by cases b <;> decide
theorem tmod_I (a b : Int) (h : I64 a) : I64 (a.tmod b) := by
  have h1 := Int.natAbs_tmod a b
  have h2 : a.natAbs % b.natAbs ≤ a.natAbs := Nat.mod_le _ _
  by_cases ha : 0 ≤ a
  · have := Int.tmod_nonneg b ha
    constructor <;> omega
  · have h3 : (a.tmod b) ≤ 0 := by
      have := Int.tmod_nonneg b (show 0 ≤ -a by omega)
      rw [Int.neg_tmod] at this
      omega
    constructor <;> omega
theorem ite_I {p : Prop} [Decidable p] {x y : Int} (hx : I64 x) (hy : I64 y) : I64 (if p then x else y) := by
  split
  · exact hx
  · exact hy
theorem apS_I (op a b : Int) (h : I64 a) : I64 (apS op a b) := by
  unfold apS
  repeat' refine ite_I ?_ ?_
  all_goals first
    | exact wrap64_I _
    | exact tB_I _
    | exact tmod_I _ _ h
    | decide
theorem celS_I (zs : List Int) (n : Int) (h : ∀ z ∈ zs, I64 z) : I64 (celS zs n) := by
  unfold celS
  split
  · decide
  · rw [List.getD_eq_getElem?_getD]
    cases hk : zs[n.toNat]? with
    | none => decide
    | some z => exact h z (List.mem_of_getElem? hk)
mutual
theorem valS_I (zs : List Int) (v : En) (hz : ∀ z ∈ zs, I64 z) (hv : I64 v.self ∧ I64 v.procs ∧ I64 v.src ∧ I64 v.value) : ∀ e, exR e → I64 (valS zs v e)
  | .mk op value nm slot size args => by
    intro h
    simp only [exR] at h
    simp only [valS]
    have h0 := argS_I zs v hz hv args 0 h.2.2.2
    split
    · exact h.1
    split
    · exact celS_I zs _ hz
    split
    · unfold elmS
      split
      · decide
      · exact celS_I zs _ hz
    split
    · exact hv.1
    split
    · exact hv.2.1
    split
    · exact hv.2.2.1
    split
    · exact hv.2.2.2
    · exact apS_I _ _ _ h0
theorem argS_I (zs : List Int) (v : En) (hz : ∀ z ∈ zs, I64 z) (hv : I64 v.self ∧ I64 v.procs ∧ I64 v.src ∧ I64 v.value) : ∀ (l : List Ex) (i : Nat), exRL l → I64 (argS zs v l i)
  | [], _ => by intro _; simp only [argS]; decide
  | e :: r, 0 => by
    intro h
    simp only [exRL] at h
    simp only [argS]
    exact valS_I zs v hz hv e h.1
  | e :: r, n + 1 => by
    intro h
    simp only [exRL] at h
    simp only [argS]
    exact argS_I zs v hz hv r n h.2
end

set_option maxHeartbeats 400000 in
set_option maxRecDepth 100000 in
theorem rcell_any (zs : List Int) (A : Option Addr) (n c : Nat) (k : Int) (w : World) (h : ZsAt w zs A n) : Calls Tryd.prog 22 #[.slice A n c, .int .i64 k] w fun e w' => e = .returned (.int .i64 (celS zs k)) ∧ w' = w := by
  obtain ⟨h1, h2, h3⟩ := h
  unfold celS
  rw [← h1]
  by_cases hk : k < 0
  · rw [if_pos (.inl hk)]
    go_enter Tryd.func22, Tryd.ntmps22
    go_wp2
    go_ret
    exact ⟨rfl, rfl⟩
  · by_cases hn : (n : Int) ≤ k
    · rw [if_pos (.inr hn)]
      go_enter Tryd.func22, Tryd.ntmps22
      go_wp2
      go_ret
      exact ⟨rfl, rfl⟩
    · rw [if_neg (by omega)]
      obtain ⟨j, rfl⟩ := Int.eq_ofNat_of_zero_le (show 0 ≤ k by omega)
      obtain ⟨b, o, rfl, hi⟩ := h3 (by omega)
      have c := hi j (by omega)
      have hj : (j : Int) < (n : Int) := by omega
      obtain ⟨z, hz⟩ : ∃ z, zs.getD j 0 = z := ⟨_, rfl⟩
      rw [hz] at c
      have HZ := Lib.hid hz
      clear hi h3 hk hn hz h1
      go_enter Tryd.func22, Tryd.ntmps22
      go_wp2
      go_ret
      exact ⟨ret_int (by rw [Int.toNat_natCast]; exact HZ.out.symm), rfl⟩


theorem elm_neg (zs : List Int) (slot size i p : Int) (h : (i < 0 ∨ size ≤ i) ∨ wrap64 (slot + i) < 0 ∨ (zs.length : Int) ≤ wrap64 (slot + i)) (hp : p < 0) : celS zs p = elmS zs slot size i := by
  unfold elmS
  have h0 : celS zs p = 0 := by unfold celS; rw [if_pos (.inl hp)]
  rw [h0]
  split
  · rfl
  · unfold celS
    rw [if_pos (by omega)]
theorem elm_in (zs : List Int) (slot size i : Int) (h : ¬ (i < 0 ∨ size ≤ i)) (h2 : I64 (slot + i)) : celS zs (slot + i) = elmS zs slot size i := by
  unfold elmS
  rw [if_neg h, IntWalk.wrap64_in _ h2]

set_option maxHeartbeats 4000000 in
set_option maxRecDepth 100000 in
theorem rplace_any (zs : List Int) (A : Option Addr) (n c : Nat) (slot size i : Int) (w : World) (h : ZsAt w zs A n) (hs : I64 slot) (hi : I64 i) :
    Calls Tryd.prog 23 #[.int .i64 slot, .int .i64 size, .int .i64 i, .slice A n c] w fun e w' => ∃ p, e = .returned (.int .i64 p) ∧ celS zs p = elmS zs slot size i ∧ w' = w := by
  obtain ⟨hn, hn2, -⟩ := h
  obtain ⟨hs0, hs1⟩ := hs
  obtain ⟨hi0, hi1⟩ := hi
  by_cases h1 : i < 0
  · have HP : Hid (celS zs (-1) = elmS zs slot size i) := elm_neg zs slot size i _ (.inl (.inl h1)) (by decide)
    go_enter Tryd.func23, Tryd.ntmps23
    go_wp2
    go_ret
    exact ⟨_, rfl, HP.out, rfl⟩
  by_cases h2 : size ≤ i
  · have HP : Hid (celS zs (-1) = elmS zs slot size i) := elm_neg zs slot size i _ (.inl (.inr h2)) (by decide)
    go_enter Tryd.func23, Tryd.ntmps23
    go_wp2
    go_ret
    exact ⟨_, rfl, HP.out, rfl⟩
  by_cases h3 : slot < 0
  · by_cases h4 : slot = -9223372036854775808
    · subst h4
      have hw : wrap64 9223372036854775808 = -9223372036854775808 := by decide +kernel
      have HP : Hid (celS zs (-9223372036854775808 + i) = elmS zs (-9223372036854775808) size i) := elm_in zs _ size i (by omega) (by omega)
      go_enter Tryd.func23, Tryd.ntmps23
      go_wp2
      go_ret
      exact ⟨_, rfl, HP.out, rfl⟩
    · by_cases h5 : i < -slot
      · have HP : Hid (celS zs (-1) = elmS zs slot size i) := elm_neg zs slot size i _ (.inr (.inl (by rw [IntWalk.wrap64_in _ (by omega)]; omega))) (by decide)
        go_enter Tryd.func23, Tryd.ntmps23
        go_wp2
        go_ret
        exact ⟨_, rfl, HP.out, rfl⟩
      · by_cases h6 : (n : Int) ≤ slot + i
        · have HP : Hid (celS zs (-1) = elmS zs slot size i) := elm_neg zs slot size i _ (.inr (.inr (by rw [IntWalk.wrap64_in _ (by omega)]; omega))) (by decide)
          go_enter Tryd.func23, Tryd.ntmps23
          go_wp2
          go_ret
          exact ⟨_, rfl, HP.out, rfl⟩
        · have HP : Hid (celS zs (slot + i) = elmS zs slot size i) := elm_in zs _ size i (by omega) (by omega)
          go_enter Tryd.func23, Tryd.ntmps23
          go_wp2
          go_ret
          exact ⟨_, rfl, HP.out, rfl⟩
  · by_cases h4 : (n : Int) ≤ slot
    · have HP : Hid (celS zs (-1) = elmS zs slot size i) := elm_neg zs slot size i _ (.inr (by unfold wrap64; omega)) (by decide)
      go_enter Tryd.func23, Tryd.ntmps23
      go_wp2
      go_ret
      exact ⟨_, rfl, HP.out, rfl⟩
    · by_cases h5 : (n : Int) - slot ≤ i
      · have HP : Hid (celS zs (-1) = elmS zs slot size i) := elm_neg zs slot size i _ (.inr (by unfold wrap64; omega)) (by decide)
        go_enter Tryd.func23, Tryd.ntmps23
        go_wp2
        go_ret
        exact ⟨_, rfl, HP.out, rfl⟩
      · have HP : Hid (celS zs (slot + i) = elmS zs slot size i) := elm_in zs _ size i (by omega) (by omega)
        go_enter Tryd.func23, Tryd.ntmps23
        go_wp2
        go_ret
        exact ⟨_, rfl, HP.out, rfl⟩

/-- What a call of the answer's Value returns, for expressions of at most n parts. -/
def RlC (zs : List Int) (v : En) (n : Nat) : Prop := ∀ (e : Ex), e.big ≤ n → exR e → ∀ (S : Nat → Prop) (w : World) (a b : Int) (s : ByteArray) (c d : Int) (A : Option Addr) (l q : Nat) (Z : Option Addr) (zn zc : Nat), ExL S w e [.int .i64 a, .int .i64 b, .string s, .int .i64 c, .int .i64 d, .slice A l q] → ZsAt w zs Z zn →
    Calls Tryd.prog 11 #[.agg #[.int .i64 a, .int .i64 b, .string s, .int .i64 c, .int .i64 d, .slice A l q], .slice Z zn zc, enV v] w fun e' w' => e' = .returned (.int .i64 (valS zs v e)) ∧ Below w.heap.size w w'

set_option maxHeartbeats 2000000 in
set_option maxRecDepth 100000 in
theorem rarg_of (zs : List Int) (v : En) (n : Nat) (ih : RlC zs v n) (e : Ex) (he : e.big ≤ n + 1) (hR : exR e) (i : Nat) (S : Nat → Prop) (w : World) (a b : Int) (s : ByteArray) (c d : Int) (A : Option Addr) (l q : Nat) (Z : Option Addr) (zn zc : Nat)
    (hl : ExL S w e [.int .i64 a, .int .i64 b, .string s, .int .i64 c, .int .i64 d, .slice A l q]) (hz : ZsAt w zs Z zn) :
    Calls Tryd.prog 24 #[.agg #[.int .i64 a, .int .i64 b, .string s, .int .i64 c, .int .i64 d, .slice A l q], .int .i64 i, .slice Z zn zc, enV v] w fun e' w' => e' = .returned (.int .i64 (argS zs v e.args i)) ∧ Below w.heap.size w w' := by
  cases e with
  | mk op value name slot size args =>
  simp only [Ex.big] at he
  simp only [Ex.args]
  simp only [exR] at hR
  simp only [ExL] at hl
  obtain ⟨A', c', e1, hc, hr⟩ := hl
  simp only [exCells, List.cons.injEq, Value.slice.injEq, and_true] at e1
  obtain ⟨_, _, _, _, _, rfl, rfl, rfl⟩ := e1
  have hT := two_new w [.int .i64 a, .int .i64 b, .string s, .int .i64 c, .int .i64 d, .slice A args.length q] v
  obtain ⟨m, hm⟩ : ∃ x, args.length = x := ⟨_, rfl⟩
  have HM := Lib.hid hm
  rw [hm] at hT ⊢
  obtain ⟨W, hW⟩ : ∃ W, (w.alloc (.cells [Value.int .i64 a, .int .i64 b, .string s, .int .i64 c, .int .i64 d, .slice A m q].toArray 31)).alloc (.cells #[.int .i64 v.self, .int .i64 v.procs, .int .i64 v.src, .int .i64 v.value] 25) = W := ⟨_, rfl⟩
  rw [hW] at hT
  have HT := Lib.hid hT
  have HR := Lib.hid hr
  have HZ := Lib.hid hz
  obtain ⟨x0, x1, x2, x3, x4, x5, _⟩ := box6 (show W.heap[w.heap.size]? = some (.cells #[.int .i64 a, .int .i64 b, .string s, .int .i64 c, .int .i64 d, .slice A m q] 31 (0, 0)) from hT.x)
  obtain ⟨y0, y1, y2, y3⟩ := box4 hT.y
  obtain ⟨V, hV⟩ : ∃ V, argS zs v args i = V := ⟨_, rfl⟩
  have HV := Lib.hid hV
  rw [hV]
  clear hr hz hT hV hm
  by_cases hi : m ≤ i
  · have hi' : (m : Int) ≤ (i : Int) := by omega
    have h0 : Hid (V = 0) := by rw [← HV.out]; exact argS_no zs v args i (by rw [HM.out]; exact hi)
    clear hi
    go_enter Tryd.func24, Tryd.ntmps24
    go_upto_region 1 with fail
    clear hW
    go_wp2_with fail
    go_ret
    exact ⟨ret_int h0.out.symm, HT.out.b⟩
  · have hlt : i < m := by omega
    have hlt' : (i : Int) < (m : Int) := by omega
    obtain ⟨e1, he1⟩ : ∃ e1, args[i]? = some e1 := ⟨_, List.getElem?_eq_getElem (by have := HM.out; omega)⟩
    have hbg := Ex.big_at args i e1 he1
    have HE : Hid (valS zs v e1 = V) := by rw [← HV.out]; exact (argS_at zs v args i e1 he1).symm
    obtain ⟨bb, o, rfl, hS, hrow⟩ := HR.out (fun e => by have := HM.out; rw [e] at this; simp at this; omega)
    obtain ⟨cs, hcs, hex⟩ := ExRow.get args bb o i e1 hrow he1
    obtain ⟨a1, b1, s1, c1, d1, A1, l1, q1, rfl⟩ := hex.plain
    have hbb : bb < w.heap.size := hcs.lt
    have hw : ∀ j u, w.cell? ⟨bb, j, none⟩ = some u → W.cell? ⟨bb, j, none⟩ = some u := fun j u hu => (HT.out.b.cell (p := ⟨bb, j, none⟩) hbb).trans hu
    have z0 := hw _ _ (hcs 0 _ rfl)
    have z1 := hw _ _ (hcs 1 _ rfl)
    have z2 := hw _ _ (hcs 2 _ rfl)
    have z3 := hw _ _ (hcs 3 _ rfl)
    have z4 := hw _ _ (hcs 4 _ rfl)
    have z5 := hw _ _ (hcs 5 _ rfl)
    rw [Nat.add_zero] at z0
    have HC : Hid (∀ W', Below W.heap.size W W' → Calls Tryd.prog 11 #[.agg #[.int .i64 a1, .int .i64 b1, .string s1, .int .i64 c1, .int .i64 d1, .slice A1 l1 q1], .slice Z zn zc, enV v] W' fun e' w' => e' = .returned (.int .i64 V) ∧ Below W'.heap.size W' w') := fun W' hb => by
      have hww := HT.out.b.trans (hb.mono HT.out.b.size)
      have := ih e1 (by omega) (exRL_at args i e1 hR.2.2.2 he1) S W' a1 b1 s1 c1 d1 A1 l1 q1 Z zn zc (ExL.still (fun k hk1 hk2 => ⟨hk1, hww.block k hk2⟩) e1 _ hex) (HZ.out.below hww)
      rwa [HE.out] at this
    clear hi hw hcs hrow he1 hex hbg he hc
    go_enter Tryd.func24, Tryd.ntmps24
    go_upto_region 3 with fail
    clear hW
    go_still_tail 7, (by kernel_rfl)
    go_wp2_with fail
    refine (HC.out _ (below_drew1 _)).mono ?_
    rintro e' w2 ⟨rfl, hb⟩
    go_wp2_with fail
    go_ret
    exact ⟨rfl, HT.out.b.trans ((below_drew1 W).trans (hb.mono (show w.heap.size ≤ W.heap.size from HT.out.b.size)))⟩
end Go.Proofs.YtocebddhllfhpaaDoor
