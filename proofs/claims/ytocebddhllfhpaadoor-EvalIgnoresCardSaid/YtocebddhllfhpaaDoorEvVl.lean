/-
  What Value and operand of package eval return. Conditions: an expression has at most 100000 parts; the list of cells has at most 2^63 - 1 cells.
-/
import Derived.Test.YtocebddhllfhpaaDoorEvVa
namespace Go.Proofs.YtocebddhllfhpaaDoor
open Go.RowKit

theorem box4 {w : World} {n : Nat} {a0 a1 a2 a3 : Value} {T : TypeId} {fr : Nat × Nat} (h : w.heap[n]? = some (.cells #[a0, a1, a2, a3] T fr)) :
    w.cell? ⟨n, 0, none⟩ = some a0 ∧ w.cell? ⟨n, 1, none⟩ = some a1 ∧ w.cell? ⟨n, 2, none⟩ = some a2 ∧ w.cell? ⟨n, 3, none⟩ = some a3 :=
  ⟨by rw [Lib.cell_of_heap h]; rfl, by rw [Lib.cell_of_heap h]; rfl, by rw [Lib.cell_of_heap h]; rfl, by rw [Lib.cell_of_heap h]; rfl⟩

/-- What a call of Value returns, for expressions of at most n parts. -/
def VlC (zs : List Int) (v : En) (n : Nat) : Prop := ∀ (e : Ex), e.big ≤ n → ∀ (S : Nat → Prop) (w : World) (a b : Int) (s : ByteArray) (c d : Int) (A : Option Addr) (l q : Nat) (Z : Option Addr) (zn zc : Nat), ExL S w e [.int .i64 a, .int .i64 b, .string s, .int .i64 c, .int .i64 d, .slice A l q] → ZsAt w zs Z zn →
    Calls Tryd.prog 10 #[.agg #[.int .i64 a, .int .i64 b, .string s, .int .i64 c, .int .i64 d, .slice A l q], .slice Z zn zc, enV v] w fun e' w' => e' = .returned (.int .i64 (valS zs v e)) ∧ Below w.heap.size w w'

/-- The blocks of an expression and of what a process sees, as operand and Value lay them. -/
structure Two (w0 wc : World) (n : Nat) (cs : List Value) (v : En) : Prop where
  b : Below n w0 wc
  x : wc.heap[n]? = some (.cells cs.toArray 31 (0, 0))
  y : wc.heap[n + 1]? = some (.cells #[.int .i64 v.self, .int .i64 v.procs, .int .i64 v.src, .int .i64 v.value] 25 (0, 0))
theorem Two.below {w0 w w' : World} {n : Nat} {cs : List Value} {v : En} (h : Two w0 w n cs v) (hb : Below w.heap.size w w') : Two w0 w' n cs v := by
  have h1 := lt_of_block h.x
  exact ⟨h.b.trans (hb.mono (by omega)), below_blk hb h.x, below_blk hb h.y⟩
theorem two_new (w : World) (cs : List Value) (v : En) : Two w ((w.alloc (.cells cs.toArray 31)).alloc (.cells #[.int .i64 v.self, .int .i64 v.procs, .int .i64 v.src, .int .i64 v.value] 25)) w.heap.size cs v :=
  ⟨((Below.refl _ _).alloc (Nat.le_refl _) _).alloc (by rw [new_size]; omega) _, (alloc_blk _ _ (by rw [new_size]; omega)).trans (new_blk w _), new_blk1 w _ _⟩

/-- The operands of an expression. -/
def Ex.args : Ex → List Ex | .mk _ _ _ _ _ l => l

set_option maxHeartbeats 2000000 in
set_option maxRecDepth 100000 in
theorem operand_of (zs : List Int) (v : En) (n : Nat) (ih : VlC zs v n) (e : Ex) (he : e.big ≤ n + 1) (i : Nat) (S : Nat → Prop) (w : World) (a b : Int) (s : ByteArray) (c d : Int) (A : Option Addr) (l q : Nat) (Z : Option Addr) (zn zc : Nat)
    (hl : ExL S w e [.int .i64 a, .int .i64 b, .string s, .int .i64 c, .int .i64 d, .slice A l q]) (hz : ZsAt w zs Z zn) :
    Calls Tryd.prog 21 #[.agg #[.int .i64 a, .int .i64 b, .string s, .int .i64 c, .int .i64 d, .slice A l q], .int .i64 i, .slice Z zn zc, enV v] w fun e' w' => e' = .returned (.int .i64 (argS zs v e.args i)) ∧ Below w.heap.size w w' := by
  cases e with
  | mk op value name slot size args =>
  simp only [Ex.big] at he
  simp only [Ex.args]
  simp only [ExL] at hl
  obtain ⟨A', c', e1, hc, hr⟩ := hl
  simp only [exCells, List.cons.injEq, Value.slice.injEq, and_true] at e1
  obtain ⟨_, _, _, _, _, rfl, rfl, rfl⟩ := e1
  have hT := two_new w [.int .i64 a, .int .i64 b, .string s, .int .i64 c, .int .i64 d, .slice A args.length q] v
  obtain ⟨m, hm⟩ : ∃ x, args.length = x := ⟨_, rfl⟩
  have HM := Lib.hid hm
  rw [hm] at hT ⊢
  obtain ⟨W, hW⟩ : ∃ W, (w.alloc (.cells [Value.int .i64 a, .int .i64 b, .string s, .int .i64 c, .int .i64 d, .slice A m q].toArray 31)).alloc (.cells #[.int .i64 v.self, .int .i64 v.procs, .int .i64 v.src, .int .i64 v.value] 25) = W := ⟨_, rfl⟩
  rw [hW] at hT
  have HT := Lib.hid hT
  have HR := Lib.hid hr
  have HZ := Lib.hid hz
  obtain ⟨x0, x1, x2, x3, x4, x5, _⟩ := box6 (show W.heap[w.heap.size]? = some (.cells #[.int .i64 a, .int .i64 b, .string s, .int .i64 c, .int .i64 d, .slice A m q] 31 (0, 0)) from hT.x)
  obtain ⟨y0, y1, y2, y3⟩ := box4 hT.y
  obtain ⟨V, hV⟩ : ∃ V, argS zs v args i = V := ⟨_, rfl⟩
  have HV := Lib.hid hV
  rw [hV]
  clear hr hz hT hV hm
  by_cases hi : m ≤ i
  · have hi' : (m : Int) ≤ (i : Int) := by omega
    have h0 : Hid (V = 0) := by rw [← HV.out]; exact argS_no zs v args i (by rw [HM.out]; exact hi)
    clear hi
    go_enter Tryd.func21, Tryd.ntmps21
    go_upto_region 1 with fail
    clear hW
    go_wp2_with fail
    go_ret
    exact ⟨ret_int h0.out.symm, HT.out.b⟩
  · have hlt : i < m := by omega
    have hlt' : (i : Int) < (m : Int) := by omega
    obtain ⟨e1, he1⟩ : ∃ e1, args[i]? = some e1 := ⟨_, List.getElem?_eq_getElem (by have := HM.out; omega)⟩
    have hbg := Ex.big_at args i e1 he1
    have HE : Hid (valS zs v e1 = V) := by rw [← HV.out]; exact (argS_at zs v args i e1 he1).symm
    obtain ⟨bb, o, rfl, hS, hrow⟩ := HR.out (fun e => by have := HM.out; rw [e] at this; simp at this; omega)
    obtain ⟨cs, hcs, hex⟩ := ExRow.get args bb o i e1 hrow he1
    obtain ⟨a1, b1, s1, c1, d1, A1, l1, q1, rfl⟩ := hex.plain
    have hbb : bb < w.heap.size := hcs.lt
    have hw : ∀ j u, w.cell? ⟨bb, j, none⟩ = some u → W.cell? ⟨bb, j, none⟩ = some u := fun j u hu => (HT.out.b.cell (p := ⟨bb, j, none⟩) hbb).trans hu
    have z0 := hw _ _ (hcs 0 _ rfl)
    have z1 := hw _ _ (hcs 1 _ rfl)
    have z2 := hw _ _ (hcs 2 _ rfl)
    have z3 := hw _ _ (hcs 3 _ rfl)
    have z4 := hw _ _ (hcs 4 _ rfl)
    have z5 := hw _ _ (hcs 5 _ rfl)
    rw [Nat.add_zero] at z0
    have HC : Hid (∀ W', Below W.heap.size W W' → Calls Tryd.prog 10 #[.agg #[.int .i64 a1, .int .i64 b1, .string s1, .int .i64 c1, .int .i64 d1, .slice A1 l1 q1], .slice Z zn zc, enV v] W' fun e' w' => e' = .returned (.int .i64 V) ∧ Below W'.heap.size W' w') := fun W' hb => by
      have hww := HT.out.b.trans (hb.mono HT.out.b.size)
      have := ih e1 (by omega) S W' a1 b1 s1 c1 d1 A1 l1 q1 Z zn zc (ExL.still (fun k hk1 hk2 => ⟨hk1, hww.block k hk2⟩) e1 _ hex) (HZ.out.below hww)
      rwa [HE.out] at this
    clear hi hw hcs hrow he1 hex hbg he hc
    go_enter Tryd.func21, Tryd.ntmps21
    go_upto_region 3 with fail
    clear hW
    go_still_tail 7, (by kernel_rfl)
    go_wp2_with fail
    refine (HC.out _ (below_drew1 _)).mono ?_
    rintro e' w2 ⟨rfl, hb⟩
    go_wp2_with fail
    go_ret
    exact ⟨rfl, HT.out.b.trans ((below_drew1 W).trans (hb.mono (show w.heap.size ≤ W.heap.size from HT.out.b.size)))⟩
end Go.Proofs.YtocebddhllfhpaaDoor
