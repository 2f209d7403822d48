/-
  What parse of package syntax does: the program of a list of tokens, or the place of the first one that does not fit.
-/
import Derived.Test.YtdlnpfocmgclmaaDoorWalkPg
import Derived.Defers
import Derived.Recover
import Derived.Laws.Pointers
import Derived.Tactics2
namespace Go.Proofs.YtdlnpfocmgclmaaDoor
open Go.RowKit

set_option maxHeartbeats 1000000 in
set_option maxRecDepth 100000 in
theorem catch_thrown (b5 b6 n : Nat) (x y : Int) (w : World) (c5 : w.cell? ⟨b5, 0, none⟩ = some (.int .i64 x)) (c6 : w.cell? ⟨b6, 0, none⟩ = some (.int .i64 y)) (f5 : w.frozen? ⟨b5, 0, none⟩ = false) (f6 : w.frozen? ⟨b6, 0, none⟩ = false) (hne : b5 ≠ b6) :
    CallsD Tryd.prog 16 #[.pointer (some ⟨b5, 0, none⟩), .pointer (some ⟨b6, 0, none⟩)] (.panicking [thrown n]) w fun e u' w' =>
      e = .returned (.tuple #[]) ∧ u' = .panicking [{ thrown n with recovered := true }] ∧ w' = ((w.setCell ⟨b5, 0, none⟩ (.int .i64 n)).setCell ⟨b6, 0, none⟩ (.int .i64 1)).alloc (.cells #[.int .i64 n] 58) := by
  have h5 : b5 < w.heap.size := World.block_lt_of_cell? w _ c5
  have h6 : b6 < w.heap.size := World.block_lt_of_cell? w _ c6
  have hta : ∀ w, (Instr.typeAssert (.iface 58 (.agg #[.int .i64 n])) 20 58 true).run Tryd.prog w = .ok (.tuple #[.agg #[.int .i64 n], .bool true]) w := fun w => by kernel_rfl
  refine callsD_of_wpS Tryd.func16 rfl fun c₀ cs hu => ?_
  apply wpS_seq
  apply wpS_region
  simp [wpOpsS, go_sem, recoverD, hu, Tryd.ntmps16, Exit.thenS, thrown]
  refine wpS_of_wp ?_
  go_wp2_with fail
  cases c₀
  simp_all [bodyPostS, results, Tryd.results16]

theorem catch_idle (b5 b6 : Nat) (w : World) :
    CallsD Tryd.prog 16 #[.pointer (some ⟨b5, 0, none⟩), .pointer (some ⟨b6, 0, none⟩)] .returning w fun e u' w' => e = .returned (.tuple #[]) ∧ u' = .returning ∧ w' = w := by
  refine callsD_of_wpS Tryd.func16 rfl fun c₀ cs hu => ?_
  apply wpS_seq
  apply wpS_region
  simp [wpOpsS, go_sem, recoverD, hu, Tryd.ntmps16, Exit.thenS]
  refine wpS_of_wp ?_
  go_wp2_with fail
  cases c₀
  simp_all [bodyPostS, results, Tryd.results16]

/-- What parse returns. -/
def ParsePost (en : Nat) (r : Res Pr) (w : World) (e : Ending) (w' : World) : Prop :=
  match r with
  | .ok p _ => ∃ v, e = .returned (.tuple #[v, .int .i64 0, .int .i64 0]) ∧ VPr w.heap.size w' p v ∧ Below w.heap.size w w'
  | .fail t => e = .returned (.tuple #[.agg #[.slice none 0 0, .slice none 0 0, .slice none 0 0, .slice none 0 0, .slice none 0 0], .int .i64 (posOf en t), .int .i64 1]) ∧ Below w.heap.size w w'
  | .out => False

/-- The parser has been made. -/
theorem pst_new {w : World} {A : Option Addr} {en c : Nat} {toks : List Tok} (hs : TokSlice w (.slice A toks.length c) toks) (hlen : toks.length ≤ 100000) (hok : ∀ t ∈ toks, TokOK t) (hsym : ∃ T fr, w.heap[2]? = some (.cells symArr T fr)) (T : TypeId) :
    PSt w.heap.size toks en (w.alloc (.cells #[.slice A toks.length c, .int .i64 0, .int .i64 en] T)) toks := by
  obtain ⟨A', c', e1, hc, hr⟩ := hs
  injection e1 with e1 _ e2
  subst e1 e2
  obtain ⟨T', fr, hg⟩ := hsym
  refine ⟨⟨0, by simp, rfl, new_cell w _ T 1 _ rfl⟩, ⟨A, c, new_cell w _ T 0 _ rfl, fun hne => ?_⟩, new_cell w _ T 2 _ rfl, new_free w _ T 1, hlen, ⟨T', fr, (alloc_blk w _ (lt_of_block hg)).trans hg⟩, lt_of_block hg, hok⟩
  obtain ⟨b, o, hA, hi⟩ := hr hne
  have hb : b < w.heap.size := by
    cases toks with
    | nil => exact absurd rfl hne
    | cons t r => exact World.block_lt_of_cell? w _ (hi 0 t rfl).1
  refine ⟨b, o, hA, hb, fun i t ht => ?_⟩
  have hbl : ∀ j, (w.alloc (.cells #[.slice A toks.length c, .int .i64 0, .int .i64 en] T)).cell? ⟨b, j, none⟩ = w.cell? ⟨b, j, none⟩ := fun j => World.cell?_of_block (w := w) (a := ⟨b, j, none⟩) (alloc_blk w _ hb)
  obtain ⟨e0, e1, e2, e3⟩ := hi i t ht
  exact ⟨(hbl _).trans e0, (hbl _).trans e1, (hbl _).trans e2, (hbl _).trans e3⟩

set_option maxHeartbeats 2000000 in
set_option maxRecDepth 100000 in
theorem parse_any (f en : Nat) (toks : List Tok) (v : Value) (w : World) (r : Res Pr) (hr : pProg f toks = r) (hne : r ≠ .out) (hs : TokSlice w v toks) (hlen : toks.length ≤ 100000) (hok : ∀ t ∈ toks, TokOK t) (hsym : ∃ T fr, w.heap[2]? = some (.cells symArr T fr)) :
    Calls Tryd.prog 10 #[v, .int .i64 en] w (ParsePost en r w) := by
  have hmf : ∀ (fn : Fn) (first cap : Array Value) (w : World), (Instr.makeFunc fn first cap).run Tryd.prog w = .ok (.func fn first cap) w := fun _ _ _ _ => rfl
  obtain ⟨A, c, rfl, hc, hi⟩ := hs
  have HS : Hid (TokSlice w (.slice A toks.length c) toks) := ⟨A, c, rfl, hc, hi⟩
  have HOK := Lib.hid hok
  have HSY := Lib.hid hsym
  have HLN := Lib.hid hlen
  have HR := Lib.hid hr
  have HNE := Lib.hid hne
  clear hi hok hsym hlen hr hne
  have hsz3 : (((w.alloc prZ).alloc (.cells #[.int .i64 0] 3)).alloc (.cells #[.int .i64 0] 29)).heap.size = w.heap.size + 1 + 1 + 1 := by simp only [new_size]
  have hb3 : Below w.heap.size w (((w.alloc prZ).alloc (.cells #[.int .i64 0] 3)).alloc (.cells #[.int .i64 0] 29)) := (((Below.refl _ _).alloc (Nat.le_refl _) _).alloc (by simp only [new_size]; omega) _).alloc (by simp only [new_size]; omega) _
  have HP : Hid (PSt (w.heap.size + 1 + 1 + 1) toks en ((((w.alloc prZ).alloc (.cells #[.int .i64 0] 3)).alloc (.cells #[.int .i64 0] 29)).alloc (.cells #[.slice A toks.length c, .int .i64 0, .int .i64 en] 61)) toks) := by
    have := pst_new (en := en) (HS.out.below hb3) HLN.out HOK.out (by obtain ⟨T, fr, h⟩ := HSY.out; exact ⟨T, fr, below_blk hb3 h⟩) 61
    rwa [hsz3] at this
  have HBW : Hid (Below w.heap.size w ((((w.alloc prZ).alloc (.cells #[.int .i64 0] 3)).alloc (.cells #[.int .i64 0] 29)).alloc (.cells #[.slice A toks.length c, .int .i64 0, .int .i64 en] 61))) := hb3.alloc (by rw [hsz3]; omega) _
  have hszA : (w.alloc prZ).heap.size = w.heap.size + 1 := new_size _ _
  have hszB : ((w.alloc prZ).alloc (.cells #[.int .i64 0] 3)).heap.size = w.heap.size + 1 + 1 := by simp only [new_size]
  have HX0 : Hid (((((w.alloc prZ).alloc (.cells #[.int .i64 0] 3)).alloc (.cells #[.int .i64 0] 29)).alloc (.cells #[.slice A toks.length c, .int .i64 0, .int .i64 en] 61)).heap[w.heap.size]? = some prZ) := by
    show _ = _
    rw [alloc_blk _ _ (by omega), alloc_blk _ _ (by omega), alloc_blk _ _ (by omega), new_blk]
  have HX1 : Hid (((((w.alloc prZ).alloc (.cells #[.int .i64 0] 3)).alloc (.cells #[.int .i64 0] 29)).alloc (.cells #[.slice A toks.length c, .int .i64 0, .int .i64 en] 61)).heap[w.heap.size + 1]? = some (.cells #[.int .i64 0] 3 (0, 0))) := by
    show _ = _
    rw [alloc_blk _ _ (by omega), alloc_blk _ _ (by omega), ← hszA, new_blk]
  have HX2 : Hid (((((w.alloc prZ).alloc (.cells #[.int .i64 0] 3)).alloc (.cells #[.int .i64 0] 29)).alloc (.cells #[.slice A toks.length c, .int .i64 0, .int .i64 en] 61)).heap[w.heap.size + 1 + 1]? = some (.cells #[.int .i64 0] 29 (0, 0))) := by
    show _ = _
    rw [alloc_blk _ _ (by omega), ← hszB, new_blk]
  have HZ : Hid (((((w.alloc prZ).alloc (.cells #[.int .i64 0] 3)).alloc (.cells #[.int .i64 0] 29)).alloc (.cells #[.slice A toks.length c, .int .i64 0, .int .i64 en] 61)).heap.size = w.heap.size + 1 + 1 + 1 + 1) := by show _ = _; simp only [new_size]
  clear hsz3 hb3 hszA hszB
  go_enter_defers Tryd.func10, Tryd.ntmps10
  go_wp2_with fail
  obtain ⟨w4, hw4⟩ : ∃ x, ((((w.alloc prZ).alloc (.cells #[.int .i64 0] 3)).alloc (.cells #[.int .i64 0] 29)).alloc (.cells #[.slice A toks.length c, .int .i64 0, .int .i64 en] 61)) = x := ⟨_, rfl⟩
  rw [hw4] at HP HBW HX0 HX1 HX2 HZ ⊢
  clear hw4
  refine (program_any f _ en toks toks w4 r HR.out HNE.out HP.out).mono ?_
  have hne2 := HNE.out
  cases r with
  | out => exact absurd rfl hne2
  | ok p t =>
    clear hne2
    rintro e w5 ⟨v, rfl, ⟨A0, A1, A2, A3, A4, l0, q0, l1, q1, l2, q2, l3, q3, l4, q4, rfl, hpr⟩, hp, hk⟩
    have HPR := Lib.hid hpr
    have HK := Lib.hid hk
    have hz4 := HZ.out
    have hz5 := hk.size
    obtain ⟨d0, d1, d2, d3, d4, f0, f1, f2, f3, f4, hz⟩ := box5 (hk.blk HX0.out (by omega))
    have g1 := cell_of_one (hk.blk HX1.out (by omega))
    have g2 := free_of_one (hk.blk HX1.out (by omega))
    have g3 := cell_of_one (hk.blk HX2.out (by omega))
    have g4 := free_of_one (hk.blk HX2.out (by omega))
    clear hpr hp hk
    go_wp2_with fail
    refine leaves_cons (f := 16) (args := #[.pointer (some ⟨w.heap.size + 1, 0, none⟩), .pointer (some ⟨w.heap.size + 1 + 1, 0, none⟩)]) (by simp) (by simp [go_sem]) ?_
    refine (catch_idle _ _ _).mono ?_
    rintro e u' w'' ⟨rfl, rfl, rfl⟩
    simp [Leaves, settle, results, Tryd.results10, go_sem, World.cell?_setCell_same, World.cell?_setCell_other, d0, d1, d2, d3, d4, g1, g3]
    have hblk : ∀ k, w.heap.size + 1 + 1 + 1 ≤ k → ((((((((w5.setCell ⟨w.heap.size, 0, none⟩ (.slice A0 l0 q0)).setCell ⟨w.heap.size, 1, none⟩ (.slice A1 l1 q1)).setCell ⟨w.heap.size, 2, none⟩ (.slice A2 l2 q2)).setCell ⟨w.heap.size, 3, none⟩ (.slice A3 l3 q3)).setCell ⟨w.heap.size, 4, none⟩ (.slice A4 l4 q4)).setCell ⟨w.heap.size + 1, 0, none⟩ (.int .i64 0)).setCell ⟨w.heap.size + 1 + 1, 0, none⟩ (.int .i64 0)).heap[k]? = w5.heap[k]?) := fun k hk => by
      rw [Below.heap_setCell _ _ _ _ (by show k ≠ w.heap.size + 1 + 1; omega), Below.heap_setCell _ _ _ _ (by show k ≠ w.heap.size + 1; omega)]
      exact set5_blk w5 w.heap.size _ _ _ _ _ (by omega)
    refine ⟨_, rfl, ⟨A0, A1, A2, A3, A4, l0, q0, l1, q1, l2, q2, l3, q3, l4, q4, rfl, HPR.out.still fun k (h1 : _ ≤ k) _ => ⟨show w.heap.size ≤ k by omega, hblk k (by omega)⟩⟩, ?_⟩
    have hB := HBW.out.trans (HK.out.below (B := w.heap.size) (by omega) (by omega))
    exact ((((((hB.setCell (p := ⟨w.heap.size, 0, none⟩) (Nat.le_refl _) _).setCell (p := ⟨w.heap.size, 1, none⟩) (Nat.le_refl _) _).setCell (p := ⟨w.heap.size, 2, none⟩) (Nat.le_refl _) _).setCell (p := ⟨w.heap.size, 3, none⟩) (Nat.le_refl _) _).setCell (p := ⟨w.heap.size, 4, none⟩) (Nat.le_refl _) _).setCell (p := ⟨w.heap.size + 1, 0, none⟩) (by show _ ≤ w.heap.size + 1; omega) _).setCell (p := ⟨w.heap.size + 1 + 1, 0, none⟩) (by show _ ≤ w.heap.size + 1 + 1; omega) _
  | fail t =>
    clear hne2
    rintro e w5 ⟨rfl, hk⟩
    have HK := Lib.hid hk
    have hz4 := HZ.out
    have hz5 := hk.size
    obtain ⟨d0, d1, d2, d3, d4, f0, f1, f2, f3, f4, hz⟩ := box5 (hk.blk HX0.out (by omega))
    have g1 := cell_of_one (hk.blk HX1.out (by omega))
    have g2 := free_of_one (hk.blk HX1.out (by omega))
    have g3 := cell_of_one (hk.blk HX2.out (by omega))
    have g4 := free_of_one (hk.blk HX2.out (by omega))
    clear hk
    go_wp2_with fail
    refine leaves_cons (f := 16) (args := #[.pointer (some ⟨w.heap.size + 1, 0, none⟩), .pointer (some ⟨w.heap.size + 1 + 1, 0, none⟩)]) (by simp) (by simp [go_sem]) ?_
    refine (catch_thrown (w.heap.size + 1) (w.heap.size + 1 + 1) (posOf en t) 0 0 w5 g1 g3 g2 g4 (by omega)).mono ?_
    rintro e u' w'' ⟨rfl, rfl, rfl⟩
    have hz1 : w.heap.size + 1 < w5.heap.size := by omega
    have hz2 : w.heap.size + 1 + 1 < w5.heap.size := by omega
    simp [Leaves, settle, results, Tryd.results10, go_sem, World.cell?_setCell_same, World.cell?_setCell_other, d0, d1, d2, d3, d4, g1, g3, hz, hz1, hz2]
    have hB := HBW.out.trans (HK.out.below (B := w.heap.size) (by omega) (by omega))
    refine ⟨rfl, ((hB.setCell (p := ⟨w.heap.size + 1, 0, none⟩) (by show _ ≤ w.heap.size + 1; omega) _).setCell (p := ⟨w.heap.size + 1 + 1, 0, none⟩) (by show _ ≤ w.heap.size + 1 + 1; omega) _).alloc ?_ _⟩
    rw [set_size, set_size]; omega
end Go.Proofs.YtdlnpfocmgclmaaDoor
