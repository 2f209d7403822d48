/-
  'append' of a slice that may be nil onto a list of the call's own; a cell of such a list is written. Condition: a nil slice has no room.
-/
import Derived.Test.YtkhaapdokhhbdaaWalkAp7
import Derived.Laws.AppendOwnNone
namespace Go.Proofs.Ytkhaapdokhhbdaa
open Go.RowKit

theorem wpList_append_rw {P : Program} {w : World} {ops : Array Oper} {rest : List Oper} {o : Oper} {a : Act} {Q : Exit → Act → World → Prop} (hg : o.guard = none) (s x : Operand) (t : TypeId)
    (hop : o.op = Op.call { callee := Callee.builtin Builtin.append, args := #[s, x], argTypes := #[t, t] })
    (base : Nat) (e : TypeId) (i : TypeInfo) (z : Value) (size bytes : Nat) (ht : P.underlying t = some (.slice e)) (hi : P.info? e = some i) (hz : i.zero = some z)
    (hsize : i.size = size) (hby : i.bytes = bytes) (hzs : z.cells.size = size) (hsz : 0 < size)
    (v : Value) (n : Nat) (xs : List Value) (hs : a.eval s = v) (hown : w.ownsRow base e size v n xs)
    (A : Option Addr) (m c : Nat) (news : List Value) (hx : a.eval x = .slice A m c) (hr : RwAt w size news A m) (hnil : A = none → c = 0) (h1 : ∀ u ∈ news, u.oneCell' = true)
    (h63 : n + m ≤ maxLen) (hbytes : (n + m) * bytes ≤ 140737488355328) (hbase : base ≤ w.heap.size)
    (h : ∀ v' w', w'.ownsRow base e size v' (n + m) (xs ++ news) → w.grownBy w' v.ownBlock → (v'.ownBlock = v.ownBlock ∨ v'.ownBlock = some w.heap.size) → wpList P ops Q rest (a.put o.dst v') w') :
    wpList P ops Q (o :: rest) a w := by
  cases A with
  | none =>
    have hm : m = 0 := by
      rcases Nat.eq_zero_or_pos m with h0 | h0
      · exact h0
      · obtain ⟨_, _, e, _⟩ := hr.2 h0
        cases e
    have hc := hnil rfl
    subst hm hc
    have hn : news = [] := List.eq_nil_of_length_eq_zero (by have := hr.1; omega)
    subst hn
    refine wpList_append_own_none hg s x t hop base e i size ht hi v n xs hs hown hx (h v w ?_ ⟨rfl, rfl, rfl, Nat.le_refl _, fun _ _ _ => rfl⟩ (.inl rfl))
    rw [List.append_nil, Nat.add_zero]
    exact hown
  | some ad =>
    refine wpList_append_own_at _ hg s x t hop base e i z size bytes ht hi hz hsize hby hzs hsz v n xs hs hown ad m c news hx hr.1 (fun j u hj => ?_) h1 h63 hbytes hbase fun v' w' h2 h3 _ h5 => h v' w' h2 h3 h5
    have hjl := (List.getElem?_eq_some_iff.1 hj).1
    rw [hr.1] at hjl
    have h0 : 0 < m := Nat.pos_of_ne_zero (fun e => by subst e; omega)
    obtain ⟨b, o', e, hc⟩ := hr.2 h0
    injection e with e
    subst e
    rw [Addr.add_lit]
    exact hc j u hj
/-- A cell of a list of numbers is written. -/
theorem own_set {w : World} {base n c g k : Nat} {zs : List Int} (h : w.ownsRow base 3 1 (.slice (some ⟨g, 0, none⟩) n c) n (zs.map (Value.int .i64))) (v : Int) :
    (w.setCell ⟨g, k, none⟩ (.int .i64 v)).ownsRow base 3 1 (.slice (some ⟨g, 0, none⟩) n c) n ((zs.set k v).map (Value.int .i64)) := by
  obtain ⟨h1, ⟨e, _⟩ | ⟨g0, cap, cur, e, hbg, hblk, hnc, hcm, hcs, htk⟩⟩ := h
  · cases e
  · injection e with e1 _ e3
    injection e1 with e1
    injection e1 with e1
    subst e1 e3
    refine ⟨by simpa using h1, .inr ⟨g, c, _, rfl, hbg, blk_set hblk k _, hnc, hcm, by simpa using hcs, ?_⟩⟩
    rw [Array.toList_setIfInBounds, Nat.mul_one, List.take_set, List.map_set]
    rw [Nat.mul_one] at htk
    rw [htk]
theorem own_cell {w : World} {base n c k : Nat} {A : Option Addr} {zs : List Int} (h : w.ownsRow base 3 1 (.slice A n c) n (zs.map (Value.int .i64))) (hk : k < n) :
    ∃ g, A = some ⟨g, 0, none⟩ ∧ base ≤ g ∧ n ≤ c ∧ w.cell? ⟨g, k, none⟩ = some (.int .i64 (zs.getD k 0)) ∧ w.frozen? ⟨g, k, none⟩ = false := by
  obtain ⟨h1, ⟨e, h0⟩ | ⟨g0, cap, cur, e, hbg, hblk, hnc, hcm, hcs, htk⟩⟩ := h
  · omega
  · injection e with e1 _ e3
    subst e1 e3
    refine ⟨g0, rfl, hbg, hnc, ?_, Lib.frozen_of_heap hblk k⟩
    have hl : k < zs.length := by simp at h1; omega
    have hx : (zs.map (Value.int .i64))[k]? = some (.int .i64 (zs.getD k 0)) := by
      rw [List.getElem?_map, List.getD_eq_getElem?_getD, List.getElem?_eq_getElem hl]; rfl
    rw [← htk, Nat.mul_one, List.getElem?_take_of_lt hk] at hx
    rw [Lib.cell_of_heap hblk, ← Array.getElem?_toList]
    exact hx
theorem ZsAt.cell {w : World} {zs : List Int} {b o n k : Nat} (h : ZsAt w zs (some ⟨b, o, none⟩) n) (hk : k < n) : w.cell? ⟨b, o + k, none⟩ = some (.int .i64 (zs.getD k 0)) := by
  obtain ⟨b', o', e, hi⟩ := h.2.2 (by omega)
  injection e with e
  injection e with e1 e2 _
  subst e1 e2
  exact hi k hk
end Go.Proofs.Ytkhaapdokhhbdaa
