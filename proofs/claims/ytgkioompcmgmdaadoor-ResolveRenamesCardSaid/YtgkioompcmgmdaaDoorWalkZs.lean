/-
  Frames that many walks share: lists of statements that a call makes. No conditions.
-/
import Derived.Test.YtgkioompcmgmdaaDoorWalkZb
import Derived.Maps.AppendAt
import Derived.OwnWalk
namespace Go.Proofs.YtgkioompcmgmdaaDoor
open Go.RowKit

/-- Statements and their cells. -/
def StAll (S : Nat → Prop) (w : World) : List St → List (List Value) → Prop
  | [], [] => True
  | s :: r, c :: cs => StL S w s c ∧ StAll S w r cs
  | _, _ => False

theorem StAll.still {S S' : Nat → Prop} {w w' : World} (hs : Still S S' w w') : ∀ (l : List St) (css : List (List Value)), StAll S w l css → StAll S' w' l css
  | [], [], _ => trivial
  | _ :: _, [], h => h.elim
  | [], _ :: _, h => h.elim
  | s :: r, c :: cs, h => ⟨StL.still hs s c h.1, StAll.still hs r cs h.2⟩
theorem StAll.snoc {S : Nat → Prop} {w : World} {s : St} {c : List Value} (hs : StL S w s c) : ∀ (l : List St) (css : List (List Value)), StAll S w l css → StAll S w (l ++ [s]) (css ++ [c])
  | [], [], _ => ⟨hs, trivial⟩
  | _ :: _, [], h => h.elim
  | [], _ :: _, h => h.elim
  | _ :: r, _ :: cs, h => ⟨h.1, StAll.snoc hs r cs h.2⟩
theorem StAll.row {S : Nat → Prop} {w : World} {g : Nat} : ∀ (l : List St) (css : List (List Value)) (o : Nat), StAll S w l css → CellsAt w g o css.flatten → StRow S w l g o
  | [], [], o, _, _ => by simp only [StRow]
  | _ :: _, [], _, h, _ => h.elim
  | [], _ :: _, _, h, _ => h.elim
  | s :: r, c :: cs, o, h, hc => by
    have hl := h.1.shape.1
    simp only [StRow]
    refine ⟨⟨c, fun j u hj => hc j u ?_, h.1⟩, StAll.row r cs (o + 18) h.2 fun j u hj => ?_⟩
    · rw [List.flatten_cons, List.getElem?_append_left (List.getElem?_eq_some_iff.1 hj).1]; exact hj
    · have := hc (18 + j) u (by rw [List.flatten_cons, List.getElem?_append_right (by omega), hl]; simpa using hj)
      rw [← Nat.add_assoc] at this; exact this

/-- From n on, but not the block of v's own. -/
def Sv (n : Nat) (v : Value) : Nat → Prop := fun b => n ≤ b ∧ v.ownBlock ≠ some b

theorem own_keep {R : Nat} {w w' : World} {base : Nat} {e : TypeId} {size : Nat} {v : Value} {n : Nat} {xs : List Value} (h : w.ownsRow base e size v n xs) (hk : Keep R w w') (hR : R < base) : w'.ownsRow base e size v n xs := by
  obtain ⟨h1, h2⟩ := h
  refine ⟨h1, ?_⟩
  rcases h2 with h2 | ⟨g, cap, cur, hv, hg, hh, r⟩
  · exact .inl h2
  · exact .inr ⟨g, cap, cur, hv, hg, hk.blk hh (by omega), r⟩

/-- A slice of the call's own, all of whose statements are known, reads as their list. -/
theorem own_sts {w : World} {n0 : Nat} {v : Value} {acc : List St} {css : List (List Value)} (h : w.ownsRow n0 58 18 v acc.length css.flatten) (ha : StAll (Sv n0 v) w acc css) : VSts n0 w acc v := by
  rcases h.2 with ⟨rfl, h0⟩ | ⟨g, cap, cur, rfl, hb, hg, hle, hcap, hsz, htk⟩
  · rw [List.length_eq_zero_iff.1 h0]; exact ⟨none, 0, rfl, Nat.le_refl _, fun h => absurd rfl h⟩
  · refine ⟨_, cap, rfl, hle, fun _ => ⟨g, 0, rfl, hb, ?_⟩⟩
    have hc := h.cells (g := g) rfl
    have ha' : StAll (From n0) w acc css := StAll.still (fun b hb' _ => ⟨hb'.1, rfl⟩) acc css ha
    exact StAll.row acc css 0 ha' fun j u hj => by
      have := hc j u hj
      rwa [show (⟨g, 0, none⟩ : Addr).add j = ⟨g, 0 + j, none⟩ from by unfold Addr.add; split <;> simp_all] at this

theorem infoSt3 : (Tryd.prog.info? 58).map (fun i => (i.zero, i.size, i.bytes)) = some (some (.agg #[.int .i64 0, .string ⟨#[]⟩, .int .i64 0, .int .i64 0, .int .i64 0, .int .i64 0, .string ⟨#[]⟩, .int .i64 0, .int .i64 0, .slice none 0 0, .int .i64 0, .int .i64 0, .string ⟨#[]⟩, .int .i64 0, .int .i64 0, .slice none 0 0, .slice none 0 0, .slice none 0 0]), 18, 232) := by kernel_rfl

/-- The eighteen cells of a statement, one by one. -/
theorem StL.plain {S : Nat → Prop} {w : World} {s : St} {cs : List Value} (h : StL S w s cs) : ∃ (x0 : Int) (x1 : ByteArray) (x2 x3 x4 x5 : Int) (x6 : ByteArray) (x7 x8 : Int) (A1 : Option Addr) (l1 q1 : Nat) (y4 y5 : Int) (y6 : ByteArray) (y7 y8 : Int) (A2 : Option Addr) (l2 q2 : Nat) (A3 : Option Addr) (l3 q3 : Nat) (A4 : Option Addr) (l4 q4 : Nat),
    cs = [.int .i64 x0, .string x1, .int .i64 x2, .int .i64 x3, .int .i64 x4, .int .i64 x5, .string x6, .int .i64 x7, .int .i64 x8, .slice A1 l1 q1, .int .i64 y4, .int .i64 y5, .string y6, .int .i64 y7, .int .i64 y8, .slice A2 l2 q2, .slice A3 l3 q3, .slice A4 l4 q4] := by
  cases s with
  | mk kind name slot size place value body els =>
  simp only [StL] at h
  obtain ⟨cp, cv, A, c, A', c', rfl, h1, h2, _⟩ := h
  cases place
  cases value
  simp only [ExL] at h1 h2
  obtain ⟨B, d, rfl, _⟩ := h1
  obtain ⟨B', d', rfl, _⟩ := h2
  exact ⟨_, _, _, _, _, _, _, _, _, _, _, _, _, _, _, _, _, _, _, _, _, _, _, _, _, _, rfl⟩

/-- 'append' as one step of a region that draws. -/
theorem step_append_own_at {P : Program} {ops : Array Oper} {o : Oper} {a : Act} {w : World} {K : Act → World → Prop} {Q : Exit → Act → World → Prop} {E : Prop}
    (hg : o.guard = none) (s x : Operand) (t : TypeId) (hop : o.op = Op.call { callee := Callee.builtin Builtin.append, args := #[s, x], argTypes := #[t, t] })
    (base : Nat) (e : TypeId) (i : TypeInfo) (z : Value) (size bytes : Nat) (ht : P.underlying t = some (.slice e)) (hi : P.info? e = some i) (hz : i.zero = some z)
    (hsize : i.size = size) (hby : i.bytes = bytes) (hzs : z.cells.size = size) (hsz : 0 < size)
    (v : Value) (n : Nat) (xs : List Value) (hs : a.eval s = v) (hown : w.ownsRow base e size v n xs)
    (ad : Addr) (m c : Nat) (news : List Value) (hx : a.eval x = .slice (some ad) m c) (hl : news.length = m * size) (hnews : ∀ j u, news[j]? = some u → w.cell? (ad.add j) = some u) (h1 : ∀ u ∈ news, u.oneCell' = true)
    (h63 : n + m ≤ maxLen) (hbytes : (n + m) * bytes ≤ 140737488355328) (hbase : base ≤ w.heap.size)
    (hK : ∀ v' w', w'.ownsRow base e size v' (n + m) (xs ++ news) → w.grownBy w' v.ownBlock → (v'.ownBlock = v.ownBlock ∨ v'.ownBlock = some w.heap.size) → K (a.put o.dst v') w') :
    if Region.wanted o (yielded ops a.tmps) = true then Oper.wp P o a w K Q else E := by
  have hw : Region.wanted o (yielded ops a.tmps) = true := by simp [Region.wanted, hg]
  rw [if_pos hw]
  obtain ⟨v', w', hr, h2, h3, _, h5⟩ := run_append_own_at (P := P) w base t o.type e i z size bytes ht hi hz hsize hby hzs hsz v n xs hown ad m c news hl hnews h1 h63 hbytes hbase
  unfold Oper.wp execOp
  simp only [hop, resolve, invoke, builtin, Sem.run_bind, Sem.run_pure, Result.andThen_ok, List.map_toArray, List.map_cons, List.map_nil, hs, hx, hr]
  exact hK _ _ h2 h3 h5

theorem own_slice {w : World} {base : Nat} {e : TypeId} {size n : Nat} {v : Value} {xs : List Value} (h : w.ownsRow base e size v n xs) : ∃ A c, v = .slice A n c := by
  obtain ⟨_, ⟨rfl, rfl⟩ | ⟨g, cap, cur, rfl, _⟩⟩ := h
  · exact ⟨none, 0, rfl⟩
  · exact ⟨_, _, rfl⟩

theorem own_bel {w w' : World} {base : Nat} {e : TypeId} {size n : Nat} {v : Value} {xs : List Value} (h : w.ownsRow base e size v n xs) (hb : Below w.heap.size w w') : w'.ownsRow base e size v n xs := by
  refine h.kept (row := none) ⟨hb.os, hb.tape, hb.output, hb.size, fun k hk _ => hb.block k hk⟩ ?_
  cases hob : v.ownBlock with
  | none => exact .inl rfl
  | some j => exact .inr (fun e => by cases e)
theorem own_no {w : World} {base : Nat} {e : TypeId} {size n : Nat} {v : Value} {xs : List Value} (h : w.ownsRow (base + 1) e size v n xs) : some base ≠ v.ownBlock := fun e => by
  have := (h.lt base e.symm).1; omega
theorem own_no' {w : World} {base j : Nat} {e : TypeId} {size n : Nat} {v : Value} {xs : List Value} (h : w.ownsRow base e size v n xs) (hj : j < base) : some j ≠ v.ownBlock := fun e => by
  have := (h.lt j e.symm).1; omega
end Go.Proofs.YtgkioompcmgmdaaDoor
