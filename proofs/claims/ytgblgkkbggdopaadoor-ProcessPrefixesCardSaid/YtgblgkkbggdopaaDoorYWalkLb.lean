/-
  What stands while two states are replayed and laid into two boxes, in whatever order. No conditions.
-/
import Derived.Test.YtgblgkkbggdopaaDoorYMathLb
namespace Go.Proofs.YtgblgkkbggdopaaDoor
open Go.RowKit

/-- What Replay returned: the state and where its lists lie. -/
structure RV where
  s : PS
  Z : Option Addr
  V : Option Addr
  S : Option Addr
  O : Option Addr
  zc : Nat
  vc : Nat
  sc : Nat
  oc : Nat
def RV.rd (w : World) (r : RV) : Prop := SRd w r.s r.Z r.V r.S r.O
def RV.in (r : RV) (b : Nat) : Prop := ∃ o, r.Z = some ⟨b, o, none⟩ ∨ r.V = some ⟨b, o, none⟩ ∨ r.S = some ⟨b, o, none⟩ ∨ r.O = some ⟨b, o, none⟩
abbrev RV.agg (r : RV) : Value := .agg #[.slice r.Z r.s.cells.length r.zc, .slice r.V r.s.evs.length r.vc, .slice r.S r.s.sent.length r.sc, .slice r.O r.s.outs.length r.oc]
abbrev RV.in4 (w : World) (n : Nat) (r : RV) : World := set4 w n (.slice r.Z r.s.cells.length r.zc) (.slice r.V r.s.evs.length r.vc) (.slice r.S r.s.sent.length r.sc) (.slice r.O r.s.outs.length r.oc)
abbrev Box0 (w : World) (n : Nat) : Prop := w.heap[n]? = some (.cells #[.slice none 0 0, .slice none 0 0, .slice none 0 0, .slice none 0 0] 36 (0, 0))
abbrev mk0 (w : World) : World := w.alloc (.cells #[.slice none 0 0, .slice none 0 0, .slice none 0 0, .slice none 0 0] 36)

structure LbI (lo : Nat) (l m : List (List Int)) (A B : Option Addr) (u : World) (ra rb : Option RV) (pa pb : Option Nat) : Prop where
  low : lo ≤ u.heap.size
  rl : RwAt u 7 (rowC l) A l.length
  rm : RwAt u 7 (rowC m) B m.length
  stA : ∀ x, ra = some x → x.rd u ∧ ∀ b, x.in b → b < u.heap.size ∧ pa ≠ some b ∧ pb ≠ some b
  stB : ∀ x, rb = some x → x.rd u ∧ ∀ b, x.in b → b < u.heap.size ∧ pa ≠ some b ∧ pb ≠ some b
  boxA : ∀ k, pa = some k → Box0 u k ∧ lo ≤ k
  boxB : ∀ k, pb = some k → Box0 u k ∧ lo ≤ k
  ne : ∀ k, pa = some k → pb ≠ some k

variable {lo : Nat} {l m : List (List Int)} {A B : Option Addr} {u : World} {ra rb : Option RV} {pa pb : Option Nat}
theorem RV.rd.below {r : RV} {w w' : World} (h : r.rd w) (hb : Below w.heap.size w w') : r.rd w' := SRd.below h hb
theorem LbI.allocA (h : LbI lo l m A B u ra rb none pb) : LbI lo l m A B (mk0 u) ra rb (some u.heap.size) pb := by
  have hb : Below u.heap.size u (mk0 u) := rp_one1 _ _
  have ks : ∀ x : RV, (x.rd u ∧ ∀ b, x.in b → b < u.heap.size ∧ (none : Option Nat) ≠ some b ∧ pb ≠ some b) → x.rd (mk0 u) ∧ ∀ b, x.in b → b < (mk0 u).heap.size ∧ some u.heap.size ≠ some b ∧ pb ≠ some b := fun x hx =>
    ⟨hx.1.below hb, fun b hi => ⟨Nat.lt_of_lt_of_le (hx.2 b hi).1 hb.size, fun e => by have := (hx.2 b hi).1; injection e; omega, (hx.2 b hi).2.2⟩⟩
  refine ⟨Nat.le_trans h.low hb.size, h.rl.below (by decide) hb, h.rm.below (by decide) hb, fun x hx => ks x (h.stA x hx), fun x hx => ks x (h.stB x hx), ?_, fun k hk => ⟨below_blk hb (h.boxB k hk).1, (h.boxB k hk).2⟩, ?_⟩
  · intro k hk
    injection hk with hk
    subst hk
    exact ⟨new_blk _ _, h.low⟩
  · intro k hk e
    injection hk with hk
    subst hk
    have := lt_of_block (h.boxB _ e).1
    omega
theorem LbI.allocB (h : LbI lo l m A B u ra rb pa none) : LbI lo l m A B (mk0 u) ra rb pa (some u.heap.size) := by
  have hb : Below u.heap.size u (mk0 u) := rp_one1 _ _
  have ks : ∀ x : RV, (x.rd u ∧ ∀ b, x.in b → b < u.heap.size ∧ pa ≠ some b ∧ (none : Option Nat) ≠ some b) → x.rd (mk0 u) ∧ ∀ b, x.in b → b < (mk0 u).heap.size ∧ pa ≠ some b ∧ some u.heap.size ≠ some b := fun x hx =>
    ⟨hx.1.below hb, fun b hi => ⟨Nat.lt_of_lt_of_le (hx.2 b hi).1 hb.size, (hx.2 b hi).2.1, fun e => by have := (hx.2 b hi).1; injection e; omega⟩⟩
  refine ⟨Nat.le_trans h.low hb.size, h.rl.below (by decide) hb, h.rm.below (by decide) hb, fun x hx => ks x (h.stA x hx), fun x hx => ks x (h.stB x hx), fun k hk => ⟨below_blk hb (h.boxA k hk).1, (h.boxA k hk).2⟩, ?_, ?_⟩
  · intro k hk
    injection hk with hk
    subst hk
    exact ⟨new_blk _ _, h.low⟩
  · intro k hk e
    injection e with e
    subst e
    have := lt_of_block (h.boxA _ hk).1
    omega
theorem LbI.call {u' : World} (h : LbI lo l m A B u ra rb pa pb) (hb : Below u.heap.size u u') : LbI lo l m A B u' ra rb pa pb :=
  have ks : ∀ x : RV, (x.rd u ∧ ∀ b, x.in b → b < u.heap.size ∧ pa ≠ some b ∧ pb ≠ some b) → x.rd u' ∧ ∀ b, x.in b → b < u'.heap.size ∧ pa ≠ some b ∧ pb ≠ some b := fun _ hx => ⟨hx.1.below hb, fun b hi => ⟨Nat.lt_of_lt_of_le (hx.2 b hi).1 hb.size, (hx.2 b hi).2⟩⟩
  ⟨Nat.le_trans h.low hb.size, h.rl.below (by decide) hb, h.rm.below (by decide) hb, fun x hx => ks x (h.stA x hx), fun x hx => ks x (h.stB x hx), fun k hk => ⟨below_blk hb (h.boxA k hk).1, (h.boxA k hk).2⟩, fun k hk => ⟨below_blk hb (h.boxB k hk).1, (h.boxB k hk).2⟩, h.ne⟩
theorem LbI.fresh {u' : World} (h : LbI lo l m A B u ra rb pa pb) {r : RV} (hx : ∀ b, r.in b → u.heap.size ≤ b ∧ b < u'.heap.size) : ∀ b, r.in b → b < u'.heap.size ∧ pa ≠ some b ∧ pb ≠ some b := fun b hi =>
  ⟨(hx b hi).2, fun e => by have := (hx b hi).1; have := lt_of_block (h.boxA _ e).1; omega, fun e => by have := (hx b hi).1; have := lt_of_block (h.boxB _ e).1; omega⟩
theorem LbI.callA {u' : World} {r : RV} (h : LbI lo l m A B u none rb pa pb) (hb : Below u.heap.size u u') (hr : r.rd u') (hx : ∀ b, r.in b → u.heap.size ≤ b ∧ b < u'.heap.size) : LbI lo l m A B u' (some r) rb pa pb :=
  { h.call hb with stA := fun x e => by injection e with e; subst e; exact ⟨hr, h.fresh hx⟩ }
theorem LbI.callB {u' : World} {r : RV} (h : LbI lo l m A B u ra none pa pb) (hb : Below u.heap.size u u') (hr : r.rd u') (hx : ∀ b, r.in b → u.heap.size ≤ b ∧ b < u'.heap.size) : LbI lo l m A B u' ra (some r) pa pb :=
  { h.call hb with stB := fun x e => by injection e with e; subst e; exact ⟨hr, h.fresh hx⟩ }

/-- A state in a box. -/
def RV.box (w : World) (r : RV) (n : Nat) : Prop := SBox w r.s n r.Z r.V r.S r.O r.zc r.vc r.sc r.oc
theorem RV.rd_at {r : RV} {w w' : World} (h : r.rd w) (hk : ∀ b, r.in b → w'.heap[b]? = w.heap[b]?) : r.rd w' :=
  ⟨h.cells.at' (fun b o e => hk b ⟨o, .inl e⟩), h.evs.at' (fun b o e => hk b ⟨o, .inr (.inl e)⟩), h.sent.at' (fun b o e => hk b ⟨o, .inr (.inr (.inl e))⟩), h.outs.at' (fun b o e => hk b ⟨o, .inr (.inr (.inr e))⟩)⟩
theorem LbI.last {x y : RV} {p q : Nat} (h : LbI lo l m A B u (some x) (some y) (some p) (some q)) : x.box (y.in4 (x.in4 u p) q) p ∧ y.box (y.in4 (x.in4 u p) q) q ∧ Box0 (x.in4 u p) q ∧ lo ≤ p ∧ lo ≤ q ∧ p ≠ q := by
  obtain ⟨bx, lp⟩ := h.boxA p rfl
  obtain ⟨bq, lq⟩ := h.boxB q rfl
  obtain ⟨ha, ha2⟩ := h.stA x rfl
  obtain ⟨hb, hb2⟩ := h.stB y rfl
  have hpq : p ≠ q := fun e => h.ne p rfl (by rw [e])
  have s1 : ∀ k, k ≠ p → (x.in4 u p).heap[k]? = u.heap[k]? := fun k hk => set4_blk _ _ _ _ _ _ hk
  have s2 : ∀ k, k ≠ q → (y.in4 (x.in4 u p) q).heap[k]? = (x.in4 u p).heap[k]? := fun k hk => set4_blk _ _ _ _ _ _ hk
  have e1 : x.box (x.in4 u p) p := sbox_early ha bx fun b o e => by
    have := (ha2 b ⟨o, e⟩).2.1
    intro e2; exact this (by rw [e2])
  have hq1 : Box0 (x.in4 u p) q := (s1 q (Ne.symm hpq)).trans bq
  have hy1 : y.rd (x.in4 u p) := RV.rd_at hb fun b hi => s1 b fun e => (hb2 b hi).2.1 (by rw [e])
  have e2 : y.box (y.in4 (x.in4 u p) q) q := sbox_early hy1 hq1 fun b o e => by
    have := (hb2 b ⟨o, e⟩).2.2
    intro e2; exact this (by rw [e2])
  refine ⟨⟨(s2 p hpq).trans e1.1, RV.rd_at (r := x) e1.2 fun b hi => s2 b fun e => (ha2 b hi).2.2 (by rw [e])⟩, e2, hq1, lp, lq, hpq⟩

theorem row_lab (a b : Int) (k : Nat) (l : List (List Int)) (x0 x1 x2 x3 x4 x5 x6 : Int) (hr : l[k]? = some [x0, x1, x2, x3, x4, x5, x6]) (h7 : ∀ r ∈ l, r.length = 7) :
    ((((rowC (mixL a b k l)).set (k * 7 + 1) (.int .i64 a)).set (k * 7 + 3) (.int .i64 b)).set (k * 7 + 4) (.int .i64 k)).set (k * 7 + 5) (.int .i64 b) = rowC (mixL a b (k + 1) l) := by
  have hms := mixL_here a b k l _ hr
  have hrs := mixL_rows a b k l h7
  have hk : k < (mixL a b k l).length := (List.getElem?_eq_some_iff.1 hms).1
  have lens : ∀ (r : List Int), r.length = 7 → ∀ q ∈ (mixL a b k l).set k r, q.length = 7 := fun r h q hq => by
    rcases List.mem_or_eq_of_mem_set hq with h' | rfl
    · exact hrs q h'
    · exact h
  have here : ∀ (r : List Int), ((mixL a b k l).set k r)[k]? = some r := fun r => by rw [List.getElem?_set_self hk]
  rw [rowC_set 7 _ k 1 _ a hrs hms (by decide), rowC_set 7 _ k 3 _ b (lens _ rfl) (here _) (by decide), List.set_set, rowC_set 7 _ k 4 _ k (lens _ rfl) (here _) (by decide), List.set_set, rowC_set 7 _ k 5 _ b (lens _ rfl) (here _) (by decide), List.set_set]
  rw [← mixL_step a b k l _ hr]
  rfl

/-- The two states in their boxes. -/
theorem LbI.start {lo : Nat} {l m : List (List Int)} {A B : Option Addr} {u : World} (h1 : lo ≤ u.heap.size) (h2 : RwAt u 7 (rowC l) A l.length) (h3 : RwAt u 7 (rowC m) B m.length) : LbI lo l m A B u none none none none :=
  { low := h1, rl := h2, rm := h3, stA := fun _ h => (nomatch h), stB := fun _ h => (nomatch h), boxA := fun _ h => (nomatch h), boxB := fun _ h => (nomatch h), ne := fun _ h => (nomatch h) }

end Go.Proofs.YtgblgkkbggdopaaDoor
