/-
  Texts of a walk, laid together by a program of the prover's own (merge.py). No conditions beyond those that each text names.
-/
import Derived.Test.YtgblgkkbggdopaaDoorZab
import Derived.Test.YtgblgkkbggdopaaDoorZae
import Derived.Laws.EntriesVeiled
/-
  Plain mathematics of chapter 2, syntax: how large a program is. No conditions.
-/
namespace Go.Proofs.YtgblgkkbggdopaaDoor

/-! ### How large a program is -/
mutual
def Ex.big : Ex → Nat
  | .mk _ _ _ _ _ args => Ex.bigL args + 1
def Ex.bigL : List Ex → Nat
  | [] => 0
  | e :: r => e.big + Ex.bigL r
end
mutual
def St.big : St → Nat
  | .mk _ _ _ _ p v b e => 1 + p.big + v.big + St.bigL b + St.bigL e
def St.bigL : List St → Nat
  | [] => 0
  | s :: r => s.big + St.bigL r
end
def Pr.big (p : Pr) : Nat := St.bigL p.start + St.bigL p.message + St.bigL p.tick + St.bigL p.input
mutual
theorem Ex.deep_big : ∀ e : Ex, e.deep ≤ e.big
  | .mk _ _ _ _ _ args => by simp only [Ex.deep, Ex.big]; have := Ex.deepL_big args; omega
theorem Ex.deepL_big : ∀ l : List Ex, Ex.deepL l ≤ Ex.bigL l
  | [] => by simp [Ex.deepL]
  | e :: r => by simp only [Ex.deepL, Ex.bigL]; have := Ex.deep_big e; have := Ex.deepL_big r; omega
end
theorem Ex.big_pos (e : Ex) : 0 < e.big := by cases e; simp only [Ex.big]; omega
theorem Ex.len_big : ∀ l : List Ex, l.length ≤ Ex.bigL l
  | [] => by simp
  | e :: r => by simp only [List.length_cons, Ex.bigL]; have := Ex.big_pos e; have := Ex.len_big r; omega
theorem Ex.big_at : ∀ (l : List Ex) (k : Nat) (e : Ex), l[k]? = some e → e.big ≤ Ex.bigL l
  | [], _, _, h => by simp at h
  | x :: r, 0, e, h => by
    simp only [List.getElem?_cons_zero, Option.some.injEq] at h
    subst h
    simp only [Ex.bigL]; omega
  | x :: r, k + 1, e, h => by
    simp only [List.getElem?_cons_succ] at h
    have := Ex.big_at r k e h
    simp only [Ex.bigL]; omega
mutual
theorem St.deep_big : ∀ e : St, e.deep ≤ e.big
  | .mk _ _ _ _ p v b e => by simp only [St.deep, St.big]; have := Ex.deep_big p; have := Ex.deep_big v; have := St.deepL_big b; have := St.deepL_big e; omega
theorem St.deepL_big : ∀ l : List St, St.deepL l ≤ St.bigL l
  | [] => by simp [St.deepL]
  | e :: r => by simp only [St.deepL, St.bigL]; have := St.deep_big e; have := St.deepL_big r; omega
end
theorem St.big_pos (e : St) : 0 < e.big := by cases e; simp only [St.big]; omega
theorem St.len_big : ∀ l : List St, l.length ≤ St.bigL l
  | [] => by simp
  | e :: r => by simp only [List.length_cons, St.bigL]; have := St.big_pos e; have := St.len_big r; omega
theorem St.big_at : ∀ (l : List St) (k : Nat) (e : St), l[k]? = some e → e.big ≤ St.bigL l
  | [], _, _, h => by simp at h
  | x :: r, 0, e, h => by
    simp only [List.getElem?_cons_zero, Option.some.injEq] at h
    subst h
    simp only [St.bigL]; omega
  | x :: r, k + 1, e, h => by
    simp only [List.getElem?_cons_succ] at h
    have := St.big_at r k e h
    simp only [St.bigL]; omega
end Go.Proofs.YtgblgkkbggdopaaDoor

/-
  What Depth of package syntax and its parts return. Condition: the program is less than 100000 levels deep.
-/
namespace Go.Proofs.YtgblgkkbggdopaaDoor
open Go.RowKit

theorem ExRow.get {S : Nat → Prop} {w : World} : ∀ (l : List Ex) (b o k : Nat) (e : Ex), ExRow S w l b o → l[k]? = some e → ∃ cs, CellsAt w b (o + k * 6) cs ∧ ExL S w e cs
  | [], _, _, _, _, _, h => by simp at h
  | x :: r, b, o, 0, e, h, hk => by
    simp only [List.getElem?_cons_zero, Option.some.injEq] at hk
    subst hk
    simp only [ExRow] at h
    simpa using h.1
  | x :: r, b, o, k + 1, e, h, hk => by
    simp only [List.getElem?_cons_succ] at hk
    simp only [ExRow] at h
    obtain ⟨cs, h1, h2⟩ := ExRow.get r b (o + 6) k e h.2 hk
    exact ⟨cs, by rw [show o + (k + 1) * 6 = o + 6 + k * 6 by omega]; exact h1, h2⟩
theorem ExL.plain {S : Nat → Prop} {w : World} {e : Ex} {cs : List Value} (h : ExL S w e cs) : ∃ (a b : Int) (s : ByteArray) (c d : Int) (A : Option Addr) (l q : Nat), cs = [.int .i64 a, .int .i64 b, .string s, .int .i64 c, .int .i64 d, .slice A l q] := by
  cases e
  simp only [ExL] at h
  obtain ⟨A, c, rfl, _⟩ := h
  exact ⟨_, _, _, _, _, _, _, _, rfl⟩
theorem deepL_take : ∀ (l : List Ex) (k : Nat) (e : Ex), l[k]? = some e → Ex.deepL (l.take (k + 1)) = max (Ex.deepL (l.take k)) e.deep
  | [], _, _, h => by simp at h
  | x :: r, 0, e, h => by
    simp only [List.getElem?_cons_zero, Option.some.injEq] at h
    subst h
    simp [Ex.deepL]
  | x :: r, k + 1, e, h => by
    simp only [List.getElem?_cons_succ] at h
    have := deepL_take r k e h
    simp only [List.take_succ_cons, Ex.deepL] at this ⊢
    rw [this]; omega
theorem deepL_le : ∀ (l : List Ex) (k : Nat) (e : Ex), l[k]? = some e → e.deep ≤ Ex.deepL l
  | [], _, _, h => by simp at h
  | x :: r, 0, e, h => by
    simp only [List.getElem?_cons_zero, Option.some.injEq] at h
    subst h
    simp only [Ex.deepL]; omega
  | x :: r, k + 1, e, h => by
    simp only [List.getElem?_cons_succ] at h
    have := deepL_le r k e h
    simp only [Ex.deepL]; omega
theorem deepL_take_le : ∀ (l : List Ex) (k : Nat), Ex.deepL (l.take k) ≤ Ex.deepL l
  | [], k => by simp
  | x :: r, 0 => by simp [Ex.deepL]
  | x :: r, k + 1 => by
    have := deepL_take_le r k
    simp only [List.take_succ_cons, Ex.deepL]; omega

end Go.Proofs.YtgblgkkbggdopaaDoor

/-
  What find and expr of package resolve's resolver do where all names are declared and stand for what they are declared as. Conditions: the resolver lies at block R; names have at most 4096 bytes.
-/
namespace Go.Proofs.YtgblgkkbggdopaaDoor
open Go.RowKit

/-- Expressions and their cells. -/
def ExAll (S : Nat → Prop) (w : World) : List Ex → List (List Value) → Prop
  | [], [] => True
  | s :: r, c :: cs => ExL S w s c ∧ ExAll S w r cs
  | _, _ => False

theorem ExAll.still {S S' : Nat → Prop} {w w' : World} (hs : Still S S' w w') : ∀ (l : List Ex) (css : List (List Value)), ExAll S w l css → ExAll S' w' l css
  | [], [], _ => trivial
  | _ :: _, [], h => h.elim
  | [], _ :: _, h => h.elim
  | s :: r, c :: cs, h => ⟨ExL.still hs s c h.1, ExAll.still hs r cs h.2⟩
theorem ExAll.snoc {S : Nat → Prop} {w : World} {s : Ex} {c : List Value} (hs : ExL S w s c) : ∀ (l : List Ex) (css : List (List Value)), ExAll S w l css → ExAll S w (l ++ [s]) (css ++ [c])
  | [], [], _ => ⟨hs, trivial⟩
  | _ :: _, [], h => h.elim
  | [], _ :: _, h => h.elim
  | _ :: r, _ :: cs, h => ⟨h.1, ExAll.snoc hs r cs h.2⟩
theorem ExAll.row {S : Nat → Prop} {w : World} {g : Nat} : ∀ (l : List Ex) (css : List (List Value)) (o : Nat), ExAll S w l css → CellsAt w g o css.flatten → ExRow S w l g o
  | [], [], o, _, _ => by simp only [ExRow]
  | _ :: _, [], _, h, _ => h.elim
  | [], _ :: _, _, h, _ => h.elim
  | s :: r, c :: cs, o, h, hc => by
    have hl := h.1.shape.1
    simp only [ExRow]
    refine ⟨⟨c, fun j u hj => hc j u ?_, h.1⟩, ExAll.row r cs (o + 6) h.2 fun j u hj => ?_⟩
    · rw [List.flatten_cons, List.getElem?_append_left (List.getElem?_eq_some_iff.1 hj).1]; exact hj
    · have := hc (6 + j) u (by rw [List.flatten_cons, List.getElem?_append_right (by omega), hl]; simpa using hj)
      rw [← Nat.add_assoc] at this; exact this

/-- A slice of the call's own, all of whose expressions are known, reads as their list. -/
theorem own_exs {w : World} {n0 : Nat} {v : Value} {acc : List Ex} {css : List (List Value)} (h : w.ownsRow n0 92 6 v acc.length css.flatten) (ha : ExAll (Sv n0 v) w acc css) :
    ∃ A c, v = .slice A acc.length c ∧ acc.length ≤ c ∧ (acc ≠ [] → ∃ b o, A = some ⟨b, o, none⟩ ∧ n0 ≤ b ∧ ExRow (From n0) w acc b o) := by
  rcases h.2 with ⟨rfl, h0⟩ | ⟨g, cap, cur, rfl, hb, hg, hle, hcap, hsz, htk⟩
  · rw [List.length_eq_zero_iff.1 h0]; exact ⟨none, 0, rfl, Nat.le_refl _, fun h => absurd rfl h⟩
  · refine ⟨_, cap, rfl, hle, fun _ => ⟨g, 0, rfl, hb, ?_⟩⟩
    have hc := h.cells (g := g) rfl
    have ha' : ExAll (From n0) w acc css := ExAll.still (fun b hb' _ => ⟨hb'.1, rfl⟩) acc css ha
    exact ExAll.row acc css 0 ha' fun j u hj => by
      have := hc j u hj
      rwa [show (⟨g, 0, none⟩ : Addr).add j = ⟨g, 0 + j, none⟩ from by unfold Addr.add; split <;> simp_all] at this

theorem infoEx3 : (Tryd.prog.info? 92).map (fun i => (i.zero, i.size, i.bytes)) = some (some (.agg #[.int .i64 0, .int .i64 0, .string ⟨#[]⟩, .int .i64 0, .int .i64 0, .slice none 0 0]), 6, 72) := by kernel_rfl

mutual
/-- An expression with the places of its names. -/
def Ex.res (f : Pl) : Ex → Ex
  | .mk op v nm sl sz args => if op = 2 ∨ op = 3 then .mk op v nm ((f nm).getD (0, 0)).1 ((f nm).getD (0, 0)).2 (Ex.resL f args) else .mk op v nm sl sz (Ex.resL f args)
def Ex.resL (f : Pl) : List Ex → List Ex
  | [] => []
  | e :: r => e.res f :: Ex.resL f r
end
mutual
/-- All names are declared and stand for what they are declared as. -/
def Ex.rok (f : Pl) : Ex → Prop
  | .mk op _ nm _ _ args => (op = 2 → ∃ x, f nm = some x ∧ ¬ 0 < x.2) ∧ (op = 3 → ∃ x, f nm = some x ∧ 0 < x.2) ∧ nm.length ≤ 4096 ∧ Ex.rokL f args
def Ex.rokL (f : Pl) : List Ex → Prop
  | [] => True
  | e :: r => e.rok f ∧ Ex.rokL f r
end
theorem rokL_at (f : Pl) : ∀ (l : List Ex) (k : Nat) (e : Ex), Ex.rokL f l → l[k]? = some e → e.rok f
  | [], _, _, _, h => by simp at h
  | x :: r, 0, e, hs, h => by
    simp only [List.getElem?_cons_zero, Option.some.injEq] at h
    subst h
    simp only [Ex.rokL] at hs
    exact hs.1
  | x :: r, k + 1, e, hs, h => by
    simp only [List.getElem?_cons_succ] at h
    simp only [Ex.rokL] at hs
    exact rokL_at f r k e hs.2 h
theorem resL_take (f : Pl) : ∀ (l : List Ex) (k : Nat) (e : Ex), l[k]? = some e → Ex.resL f (l.take (k + 1)) = Ex.resL f (l.take k) ++ [e.res f]
  | [], _, _, h => by simp at h
  | x :: r, 0, e, h => by
    simp only [List.getElem?_cons_zero, Option.some.injEq] at h
    subst h
    simp [Ex.resL]
  | x :: r, k + 1, e, h => by
    simp only [List.getElem?_cons_succ] at h
    simp [Ex.resL, resL_take f r k e h]
theorem resL_len (f : Pl) : ∀ (l : List Ex), (Ex.resL f l).length = l.length
  | [] => rfl
  | x :: r => by simp [Ex.resL, resL_len f r]

end Go.Proofs.YtgblgkkbggdopaaDoor

/-
  What expr of package resolve's resolver does where all names are declared and stand for what they are declared as: a copy with all places filled in. Conditions: the resolver lies at block R; an expression has at most 100000 parts.
-/
namespace Go.Proofs.YtgblgkkbggdopaaDoor
open Go.RowKit

/-- The loop's head: k operands are copied. -/
theorem new_blk1 (w : World) (o o' : Obj) : ((w.alloc o).alloc o').heap[w.heap.size + 1]? = some o' := by have := new_blk (w.alloc o) o'; rwa [new_size] at this

theorem below_drew1 {B : Nat} (w : World) : Below B w w.drew := below_drewN (Below.refl _ _) 1

structure RxHead (R : Nat) (f : Pl) (n0 : Nat) (w0 : World) (k : Nat) (args : List Ex) (box : List Value) (v : Value) (wr : World) (css : List (List Value)) : Prop where
  b : Below w0.heap.size w0 wr
  x : wr.heap[w0.heap.size]? = some (.cells box.toArray 92 (0, 0))
  r : wr.heap[w0.heap.size + 1]? = some (.cells #[.int .i64 0, .int .i64 0, .string ⟨#[]⟩, .int .i64 0, .int .i64 0, .slice none 0 0] 92 (0, 0))
  o : wr.ownsRow n0 92 6 v (Ex.resL f (args.take k)).length css.flatten
  a : ExAll (Sv n0 v) wr (Ex.resL f (args.take k)) css

theorem rx_len {f : Pl} {args : List Ex} {k : Nat} (hk : k ≤ args.length) : (Ex.resL f (args.take k)).length = k := by
  rw [resL_len, List.length_take]; omega

/-- An operand more. -/
theorem RxHead.next {R n0 k : Nat} {f : Pl} {w0 wr w2 w3 : World} {args : List Ex} {box : List Value} {v v' : Value} {css : List (List Value)} {e : Ex} {cs : List Value} {o : Obj} (h : RxHead R f n0 w0 k args box v wr css)
    (hn0 : n0 = w0.heap.size + 2) (hk : args[k]? = some e) (hb : Below wr.heap.size wr w2) (hs : ExL (From wr.heap.size) w2 (e.res f) cs)
    (hown : w3.ownsRow n0 92 6 v' ((Ex.resL f (args.take k)).length + 1) (css.flatten ++ cs)) (hg : (w2.alloc o).grownBy w3 v.ownBlock) (hob : v'.ownBlock = v.ownBlock ∨ v'.ownBlock = some (w2.heap.size + 1)) :
    RxHead R f n0 w0 (k + 1) args box v' w3 (css ++ [cs]) := by
  have hz := hb.size
  have hx1 := lt_of_block h.x
  have hr1 := lt_of_block h.r
  have hob2 : ∀ b, v.ownBlock = some b → n0 ≤ b ∧ b < wr.heap.size := fun b hb => by
    rcases h.o.2 with ⟨rfl, _⟩ | ⟨g, cap, cur, rfl, h2, h3, _⟩
    · cases hb
    · simp only [Value.ownBlock, Option.some.injEq] at hb; subst hb; exact ⟨h2, lt_of_block h3⟩
  have hblk : ∀ k, k < w2.heap.size → v.ownBlock ≠ some k → w3.heap[k]? = w2.heap[k]? := fun k hk1 hk2 =>
    (hg.block k (by rw [new_size]; omega) (fun e => hk2 e.symm)).trans (alloc_blk w2 o hk1)
  have hnot : ∀ k, k < w2.heap.size → v.ownBlock ≠ some k → v'.ownBlock ≠ some k := fun k hk1 hk2 h => by
    rcases hob with h' | h'
    · exact hk2 (h' ▸ h)
    · rw [h'] at h; injection h with h; omega
  have hlow : ∀ k, k < w0.heap.size + 2 → k < wr.heap.size → w3.heap[k]? = wr.heap[k]? := fun k h1 h2 =>
    (hblk k (by omega) (fun h => by have := (hob2 k h).1; omega)).trans (hb.block k h2)
  refine ⟨?_, (hlow _ (by omega) hx1).trans h.x, (hlow _ (by omega) hr1).trans h.r, ?_, ?_⟩
  · have hk2 := h.b.trans (hb.mono h.b.size)
    exact ⟨hg.os.trans hk2.os, hg.tape.trans hk2.tape, hg.output.trans hk2.output, by have := hg.size; rw [new_size] at this; have := hk2.size; omega, fun k hk1 =>
      (hblk k (by have := hk2.size; omega) (fun h => by have := (hob2 k h).1; omega)).trans (hk2.block k hk1)⟩
  · rw [resL_take f args k e hk, List.length_append, List.flatten_append]; simpa using hown
  · rw [resL_take f args k e hk]
    refine ExAll.snoc ?_ _ css ?_
    · exact ExL.still (fun k (hk1 : wr.heap.size ≤ k) hk2 => ⟨⟨by have := h.b.size; omega, hnot k hk2 (fun h => by have := (hob2 k h).2; omega)⟩, hblk k hk2 (fun h => by have := (hob2 k h).2; omega)⟩) (e.res f) cs hs
    · exact ExAll.still (fun k hk1 hk2 => ⟨⟨hk1.1, hnot k (by omega) hk1.2⟩, (hblk k (by omega) hk1.2).trans (hb.block k hk2)⟩) _ css h.a

theorem rp_one1 (w : World) (a : Obj) : Below w.heap.size w (w.alloc a) := (Below.refl _ _).alloc (Nat.le_refl _) a
theorem ex_new (w : World) (cs : List Value) (T : TypeId) : ∀ j u, cs[j]? = some u → (w.alloc (.cells cs.toArray T)).cell? ((⟨w.heap.size, 0, none⟩ : Addr).add j) = some u := fun j u hj => by
  rw [Addr.add_lit]; exact new_cells w cs T j u hj

end Go.Proofs.YtgblgkkbggdopaaDoor

/-
  Stands for EvQ: the frames of expressions. No conditions.
-/

/-
  What the table of operators of package eval holds, and what its functions return. No conditions.
-/
namespace Go.Proofs.YtgblgkkbggdopaaDoor
open Go.RowKit

/-- The table of operators. -/
def opTab : Array Value := #[.nilFunc, .nilFunc, .nilFunc, .nilFunc, .nilFunc, .nilFunc, .nilFunc, .nilFunc, .func (.func 105) #[] #[], .func (.func 106) #[] #[], .func (.func 108) #[] #[], .func (.func 109) #[] #[], .func (.func 110) #[] #[], .func (.func 111) #[] #[], .func (.func 112) #[] #[], .func (.func 113) #[] #[], .func (.func 114) #[] #[], .func (.func 115) #[] #[], .func (.func 116) #[] #[], .func (.func 117) #[] #[], .func (.func 118) #[] #[], .func (.func 119) #[] #[], .func (.func 120) #[] #[]]
/-- The table before it is filled. -/
abbrev opZ : Obj := .cells #[.nilFunc, .nilFunc, .nilFunc, .nilFunc, .nilFunc, .nilFunc, .nilFunc, .nilFunc, .nilFunc, .nilFunc, .nilFunc, .nilFunc, .nilFunc, .nilFunc, .nilFunc, .nilFunc, .nilFunc, .nilFunc, .nilFunc, .nilFunc, .nilFunc, .nilFunc, .nilFunc] 146
theorem infoOp : (Tryd.prog.info? 146).map (·.size) = some opTab.size := by kernel_rfl

theorem opOne : opTab.all (·.oneCell') = true := by simp [opTab, Value.oneCell']

set_option maxHeartbeats 1000000 in
set_option maxRecDepth 100000 in
theorem operators_any (w : World) : Calls Tryd.prog 104 #[] w fun e w' => e = .returned (.agg opTab) ∧ Below w.heap.size w w' := by
  go_enter Tryd.func104, Tryd.ntmps104
  go_wp2_with (refine wpList_store_row rfl 146 _ _ rfl w.heap.size opTab rfl rfl _ _ (new_blk w opZ) infoOp rfl opOne ?_)
  refine bodyPost_ret (results_cell_row rfl _ _ w.heap.size 146 _ _ _ rfl (setRow_same (new_blk w opZ)) Tryd.underlying146 rfl infoOp) rfl ?_
  exact ⟨rfl, (Keep.below (R := w.heap.size) (((Keep.refl _ w).alloc opZ).setRow (Nat.le_refl _) _) (Nat.le_refl _) (Nat.le_refl _))⟩
end Go.Proofs.YtgblgkkbggdopaaDoor
