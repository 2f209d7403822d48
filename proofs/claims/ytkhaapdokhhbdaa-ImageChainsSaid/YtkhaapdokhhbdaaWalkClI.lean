/-
  What slices.Clone returns of a list of numbers. Condition: at most 2^47 bytes.
-/
import Derived.Test.YtkhaapdokhhbdaaWalkI1
import Derived.Deep.LoopGhost
import Derived.Lib.Walk
import Derived.Lib.SliceRun
namespace Go.Proofs.Ytkhaapdokhhbdaa
open Go.RowKit

/-- A slice of elements of k cells reads as cs. -/
def RwAt (w : World) (k : Nat) (cs : List Value) (A : Option Addr) (n : Nat) : Prop := cs.length = n * k ∧ (0 < n → ∃ b o, A = some ⟨b, o, none⟩ ∧ CellsAt w b o cs)
theorem RwAt.below {w w' : World} {k n : Nat} {cs : List Value} {A : Option Addr} (hk : 0 < k) (h : RwAt w k cs A n) (hb : Below w.heap.size w w') : RwAt w' k cs A n := by
  refine ⟨h.1, fun h0 => ?_⟩
  obtain ⟨b, o, hA, hc⟩ := h.2 h0
  have hl : 0 < cs.length := by rw [h.1]; exact Nat.mul_pos h0 hk
  obtain ⟨v, r, e⟩ := List.exists_cons_of_length_pos hl
  have : b < w.heap.size := by rw [e] at hc; exact hc.lt
  exact ⟨b, o, hA, hc.of_block (hb.block b this)⟩
/-- The same with blocks below B alone. -/
theorem RwAt.own {w : World} {base k n c : Nat} {T : TypeId} {A : Option Addr} {cs : List Value} (h : w.ownsRow base T k (.slice A n c) n cs) : RwAt w k cs A n := by
  refine ⟨h.1, fun h0 => ?_⟩
  rcases h.2 with ⟨_, e⟩ | ⟨g, cap, cur, e, _⟩
  · omega
  · injection e with e1 _ e3
    subst e1 e3
    refine ⟨g, 0, rfl, fun j u hj => ?_⟩
    have := h.cells (g := g) rfl j u hj
    rwa [Addr.add_lit] at this
theorem ints_one (xs : List Int) : ∀ u ∈ xs.map (Value.int .i64), u.oneCell' = true := by
  intro u hu
  obtain ⟨x, _, rfl⟩ := List.mem_map.1 hu
  rfl
theorem info_ints : (Try.prog.info? 3).map (fun i => (i.zero, i.size, i.bytes)) = some (some (.int .i64 0), 1, 8) := by kernel_rfl
set_option maxHeartbeats 2000000 in
set_option maxRecDepth 100000 in
theorem clone_ints (cs : List Value) (A : Option Addr) (n c : Nat) (w : World) (h : RwAt w 1 cs A n) (h1 : ∀ u ∈ cs, u.oneCell' = true) (hn : n * 8 ≤ 140737488355328) :
    Calls Try.prog 29 #[.slice A n c] w fun e w' => ∃ A' c', e = .returned (.slice A' n c') ∧ w'.ownsRow w.heap.size 3 1 (.slice A' n c') n cs ∧ Below w.heap.size w w' := by
  have q : ∀ (w : World) (a : Option Addr) (n c n' c' : Nat), (binOp .eql 22 (.slice a n c) (.slice none n' c')).run Try.prog w = .ok (.bool a.isNone) w := fun w a n c n' c' => Lib.run_eql_slice_nil w _ _ a n c n' c' Try.underlying22
  have u : ∀ w, Sem.run Try.prog (underlying 22) w = .ok (TypeDesc.slice 3) w := run_underlying Try.underlying22
  obtain ⟨i0, hi, hz0, hz1, hz2⟩ := info_parts info_ints
  have HI := Lib.hid hi
  have HI0 := Lib.hid hz0
  have HI1 := Lib.hid hz1
  have HI2 := Lib.hid hz2
  have H := Lib.hid h
  have H1 := Lib.hid h1
  clear hi hz0 hz1 hz2 h h1
  cases A with
  | none =>
    have h0 : n = 0 := by
      rcases Nat.eq_zero_or_pos n with h | h
      · exact h
      · obtain ⟨_, _, e, _⟩ := H.out.2 h
        cases e
    subst h0
    have hc : cs = [] := List.eq_nil_of_length_eq_zero (by have := H.out.1; omega)
    subst hc
    clear hn
    go_enter Try.func29, Try.ntmps29
    go_wp2_with fail
    go_ret
    exact ⟨none, 0, rfl, World.ownsRow_nil _ _ _ _, Below.refl _ _⟩
  | some ad =>
    have HC : Hid (∀ (W : World), (∀ k, k < w.heap.size → W.heap[k]? = w.heap[k]?) → ∀ j u, cs[j]? = some u → W.cell? (ad.add j) = some u) := fun W hW j u hj => by
      have hjl := (List.getElem?_eq_some_iff.1 hj).1
      rw [H.out.1] at hjl
      have h0 : 0 < n := Nat.pos_of_ne_zero (fun e => by subst e; omega)
      obtain ⟨b, o, e, hc⟩ := H.out.2 h0
      injection e with e
      subst e
      have hx := hc j u hj
      rw [Addr.add_lit]
      exact (World.cell?_of_block (w := w) (a := ⟨b, o + j, none⟩) (hW b (World.block_lt_of_cell? w _ hx))).trans hx
    have HL := Lib.hid H.out.1
    have hn1 := Lib.hid hn
    clear H hn
    go_enter Try.func29, Try.ntmps29
    go_wp2_with (at_builtin; refine wpList_append_own _ rfl _ _ 22 rfl w.heap.size 3 i0 (.int .i64 0) 1 8 Try.underlying22 HI.out HI0.out HI1.out HI2.out rfl (by decide) _ _ _ rfl (World.ownsRow_made w #[] 0 (Nat.le_refl _) (Nat.zero_le _) rfl) ad n c cs rfl HL.out ?qc2 H1.out ?qc4 ?qc5 ?qc6 ?_)
    case qc2 => exact HC.out _ (fun k hk => alloc_blk w _ hk)
    case qc4 => have := hn1.out; unfold maxLen; omega
    case qc5 => have := hn1.out; omega
    case qc6 => simp
    intro v' w1 hown hgrow hnil
    obtain ⟨A', c', rfl⟩ := own_slice hown
    have HO := Lib.hid hown
    have HG := Lib.hid hgrow
    clear hown hgrow hnil
    go_wp2_with fail
    go_ret
    refine ⟨A', c', by simp, by simpa using HO.out, ?_⟩
    exact ((Below.refl _ w).alloc (Nat.le_refl _) _).grown HG.out (by simp) (by intro k hk; simp [Value.ownBlock] at hk; omega)


theorem ZsAt.rw {w : World} {zs : List Int} {A : Option Addr} {n : Nat} (h : ZsAt w zs A n) : RwAt w 1 (zs.map (Value.int .i64)) A n := by
  obtain ⟨h1, h2, h3⟩ := h
  refine ⟨by rw [List.length_map, h1, Nat.mul_one], fun h0 => ?_⟩
  obtain ⟨b, o, hA, hi⟩ := h3 h0
  refine ⟨b, o, hA, fun j u hj => ?_⟩
  rw [List.getElem?_map] at hj
  obtain ⟨x, hx, rfl⟩ := Option.map_eq_some_iff.1 hj
  have hlt := (List.getElem?_eq_some_iff.1 hx).1
  rw [hi j (by omega), List.getD_eq_getElem?_getD, hx]
  rfl
/-- What is cloned: a list of the call's own. -/
theorem clone_zs (zs : List Int) (A : Option Addr) (n c : Nat) (w : World) (h : ZsAt w zs A n) (hn : n * 8 ≤ 140737488355328) :
    Calls Try.prog 29 #[.slice A n c] w fun e w' => ∃ A' c', e = .returned (.slice A' n c') ∧ w'.ownsRow w.heap.size 3 1 (.slice A' n c') n (zs.map (Value.int .i64)) ∧ Below w.heap.size w w' :=
  clone_ints _ A n c w h.rw (ints_one zs) hn
end Go.Proofs.Ytkhaapdokhhbdaa
