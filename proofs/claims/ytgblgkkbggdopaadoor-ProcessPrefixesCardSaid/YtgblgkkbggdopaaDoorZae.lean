/-
  Texts of a walk, laid together by a program of the prover's own (merge.py). No conditions beyond those that each text names.
-/
import Derived.Test.YtgblgkkbggdopaaDoorZad
import Derived.Test.YtgblgkkbggdopaaDoorZab
import Derived.Maps.AppendAt
import Derived.OwnWalk
import Derived.Laws.CopyOwn
import Derived.Deep.RegionLaw
/-
  What Int of rollbacknetmake does: a number that is drawn by choices; and how large a drawn expression is. Condition: the list of choices is one that the call was given.
-/
namespace Go.Proofs.YtgblgkkbggdopaaDoor
open Go.RowKit

def inL : Nat → Int | 0 => 9223372036854775807 | 1 => -9223372036854775808 | 2 => 2147483648 | 3 => -1 | 4 => 63 | 5 => 64 | 6 => -65 | 7 => 127 | 8 => 128 | _ => 1099511627776
theorem in_cell {w : World} {n : Nat} {T : TypeId} {fr : Nat × Nat} (h : w.heap[n]? = some (.cells #[.int .i64 9223372036854775807, .int .i64 (-9223372036854775808), .int .i64 2147483648, .int .i64 (-1), .int .i64 63, .int .i64 64, .int .i64 (-65), .int .i64 127, .int .i64 128, .int .i64 1099511627776] T fr)) : ∀ k, k < 10 → w.cell? ⟨n, k, none⟩ = some (.int .i64 (inL k)) := fun k hk => by
  rw [Lib.cell_of_heap h]
  match k, hk with
  | 0, _ => rfl
  | 1, _ => rfl
  | 2, _ => rfl
  | 3, _ => rfl
  | 4, _ => rfl
  | 5, _ => rfl
  | 6, _ => rfl
  | 7, _ => rfl
  | 8, _ => rfl
  | 9, _ => rfl
theorem in_wf (k : Nat) : -9223372036854775808 ≤ inL k ∧ inL k ≤ 9223372036854775807 := by
  unfold inL; split <;> decide

set_option maxHeartbeats 1000000 in
set_option maxRecDepth 100000 in
theorem int_any (B cb : Nat) (w : World) (h : CodesIn B w cb) :
    Calls Tryd.prog 49 #[.pointer (some ⟨cb, 0, none⟩)] w fun e w' => ∃ z : Int, e = .returned (.int .i64 z) ∧ (-9223372036854775808 ≤ z ∧ z ≤ 9223372036854775807) ∧ CodesIn B w' cb ∧ Keep cb w w' := by
  have hcb := h.lt
  obtain ⟨W, hW⟩ : ∃ W, w.alloc (.cells #[.int .i64 9223372036854775807, .int .i64 (-9223372036854775808), .int .i64 2147483648, .int .i64 (-1), .int .i64 63, .int .i64 64, .int .i64 (-65), .int .i64 127, .int .i64 128, .int .i64 1099511627776] 3) = W := ⟨_, rfl⟩
  have hx : W.heap[w.heap.size]? = _ := hW ▸ new_blk w _
  have HC := Lib.hid (show CodesIn B W cb by rw [← hW]; exact h.up fun k hk => alloc_blk w _ (by omega))
  have HK := Lib.hid (show Keep cb w W by rw [← hW]; exact (Keep.refl cb w).alloc _)
  have HX := Lib.hid hx
  clear h hx
  go_enter Tryd.func49, Tryd.ntmps49
  go_wp2_with fail
  refine (next_keep B cb 6 _ HC.out (by decide) (by decide)).mono ?_
  rintro e w1 ⟨j, hj, rfl, hc, hk⟩
  have HC1 := Lib.hid hc
  have HK1 := Lib.hid (HK.out.trans hk)
  have HX1 := Lib.hid (hk.blk HX.out (by omega))
  clear hc hk hW
  by_cases h5 : j = 5
  · subst h5
    go_wp2_with fail
    refine (next_keep B cb 10 _ HC1.out (by decide) (by decide)).mono ?_
    rintro e w2 ⟨i, hi, rfl, hc, hk⟩
    have HC2 := Lib.hid hc
    have HK2 := Lib.hid (HK1.out.trans hk)
    have c := in_cell (hk.blk HX1.out (by omega)) i hi
    obtain ⟨z, hz⟩ : ∃ z, inL i = z := ⟨_, rfl⟩
    have HZ := Lib.hid (in_wf i)
    rw [hz] at c HZ
    have hi' : (i : Int) < 10 := by omega
    clear hc hk hz
    go_wp2_with fail
    go_ret
    exact ⟨z, rfl, HZ.out, HC2.out, HK2.out⟩
  · have h5' : ((j : Int) == 5) = false := beq_eq_false_iff_ne.2 (by omega)
    clear h5
    go_wp2_with fail
    refine (next_keep B cb 12 _ HC1.out (by decide) (by decide)).mono ?_
    rintro e w2 ⟨i, hi, rfl, hc, hk⟩
    have HC2 := Lib.hid hc
    have HK2 := Lib.hid (HK1.out.trans hk)
    have hi' : (i : Int) < 12 := by omega
    clear hc hk
    go_wp2_with fail
    go_ret
    exact ⟨_, rfl, by omega, HC2.out, HK2.out⟩

end Go.Proofs.YtgblgkkbggdopaaDoor

/-
  Frames that many walks share: lists of statements that a call makes. No conditions.
-/
namespace Go.Proofs.YtgblgkkbggdopaaDoor
open Go.RowKit

/-- Statements and their cells. -/
def StAll (S : Nat → Prop) (w : World) : List St → List (List Value) → Prop
  | [], [] => True
  | s :: r, c :: cs => StL S w s c ∧ StAll S w r cs
  | _, _ => False

theorem StAll.still {S S' : Nat → Prop} {w w' : World} (hs : Still S S' w w') : ∀ (l : List St) (css : List (List Value)), StAll S w l css → StAll S' w' l css
  | [], [], _ => trivial
  | _ :: _, [], h => h.elim
  | [], _ :: _, h => h.elim
  | s :: r, c :: cs, h => ⟨StL.still hs s c h.1, StAll.still hs r cs h.2⟩
theorem StAll.snoc {S : Nat → Prop} {w : World} {s : St} {c : List Value} (hs : StL S w s c) : ∀ (l : List St) (css : List (List Value)), StAll S w l css → StAll S w (l ++ [s]) (css ++ [c])
  | [], [], _ => ⟨hs, trivial⟩
  | _ :: _, [], h => h.elim
  | [], _ :: _, h => h.elim
  | _ :: r, _ :: cs, h => ⟨h.1, StAll.snoc hs r cs h.2⟩
theorem StAll.row {S : Nat → Prop} {w : World} {g : Nat} : ∀ (l : List St) (css : List (List Value)) (o : Nat), StAll S w l css → CellsAt w g o css.flatten → StRow S w l g o
  | [], [], o, _, _ => by simp only [StRow]
  | _ :: _, [], _, h, _ => h.elim
  | [], _ :: _, _, h, _ => h.elim
  | s :: r, c :: cs, o, h, hc => by
    have hl := h.1.shape.1
    simp only [StRow]
    refine ⟨⟨c, fun j u hj => hc j u ?_, h.1⟩, StAll.row r cs (o + 18) h.2 fun j u hj => ?_⟩
    · rw [List.flatten_cons, List.getElem?_append_left (List.getElem?_eq_some_iff.1 hj).1]; exact hj
    · have := hc (18 + j) u (by rw [List.flatten_cons, List.getElem?_append_right (by omega), hl]; simpa using hj)
      rw [← Nat.add_assoc] at this; exact this

/-- From n on, but not the block of v's own. -/
def Sv (n : Nat) (v : Value) : Nat → Prop := fun b => n ≤ b ∧ v.ownBlock ≠ some b

theorem own_keep {R : Nat} {w w' : World} {base : Nat} {e : TypeId} {size : Nat} {v : Value} {n : Nat} {xs : List Value} (h : w.ownsRow base e size v n xs) (hk : Keep R w w') (hR : R < base) : w'.ownsRow base e size v n xs := by
  obtain ⟨h1, h2⟩ := h
  refine ⟨h1, ?_⟩
  rcases h2 with h2 | ⟨g, cap, cur, hv, hg, hh, r⟩
  · exact .inl h2
  · exact .inr ⟨g, cap, cur, hv, hg, hk.blk hh (by omega), r⟩

/-- A slice of the call's own, all of whose statements are known, reads as their list. -/
theorem own_sts {w : World} {n0 : Nat} {v : Value} {acc : List St} {css : List (List Value)} (h : w.ownsRow n0 94 18 v acc.length css.flatten) (ha : StAll (Sv n0 v) w acc css) : VSts n0 w acc v := by
  rcases h.2 with ⟨rfl, h0⟩ | ⟨g, cap, cur, rfl, hb, hg, hle, hcap, hsz, htk⟩
  · rw [List.length_eq_zero_iff.1 h0]; exact ⟨none, 0, rfl, Nat.le_refl _, fun h => absurd rfl h⟩
  · refine ⟨_, cap, rfl, hle, fun _ => ⟨g, 0, rfl, hb, ?_⟩⟩
    have hc := h.cells (g := g) rfl
    have ha' : StAll (From n0) w acc css := StAll.still (fun b hb' _ => ⟨hb'.1, rfl⟩) acc css ha
    exact StAll.row acc css 0 ha' fun j u hj => by
      have := hc j u hj
      rwa [show (⟨g, 0, none⟩ : Addr).add j = ⟨g, 0 + j, none⟩ from by unfold Addr.add; split <;> simp_all] at this

theorem infoSt3 : (Tryd.prog.info? 94).map (fun i => (i.zero, i.size, i.bytes)) = some (some (.agg #[.int .i64 0, .string ⟨#[]⟩, .int .i64 0, .int .i64 0, .int .i64 0, .int .i64 0, .string ⟨#[]⟩, .int .i64 0, .int .i64 0, .slice none 0 0, .int .i64 0, .int .i64 0, .string ⟨#[]⟩, .int .i64 0, .int .i64 0, .slice none 0 0, .slice none 0 0, .slice none 0 0]), 18, 232) := by kernel_rfl

/-- The eighteen cells of a statement, one by one. -/
theorem StL.plain {S : Nat → Prop} {w : World} {s : St} {cs : List Value} (h : StL S w s cs) : ∃ (x0 : Int) (x1 : ByteArray) (x2 x3 x4 x5 : Int) (x6 : ByteArray) (x7 x8 : Int) (A1 : Option Addr) (l1 q1 : Nat) (y4 y5 : Int) (y6 : ByteArray) (y7 y8 : Int) (A2 : Option Addr) (l2 q2 : Nat) (A3 : Option Addr) (l3 q3 : Nat) (A4 : Option Addr) (l4 q4 : Nat),
    cs = [.int .i64 x0, .string x1, .int .i64 x2, .int .i64 x3, .int .i64 x4, .int .i64 x5, .string x6, .int .i64 x7, .int .i64 x8, .slice A1 l1 q1, .int .i64 y4, .int .i64 y5, .string y6, .int .i64 y7, .int .i64 y8, .slice A2 l2 q2, .slice A3 l3 q3, .slice A4 l4 q4] := by
  cases s with
  | mk kind name slot size place value body els =>
  simp only [StL] at h
  obtain ⟨cp, cv, A, c, A', c', rfl, h1, h2, _⟩ := h
  cases place
  cases value
  simp only [ExL] at h1 h2
  obtain ⟨B, d, rfl, _⟩ := h1
  obtain ⟨B', d', rfl, _⟩ := h2
  exact ⟨_, _, _, _, _, _, _, _, _, _, _, _, _, _, _, _, _, _, _, _, _, _, _, _, _, _, rfl⟩

/-- 'append' as one step of a region that draws. -/
theorem step_append_own_at {P : Program} {ops : Array Oper} {o : Oper} {a : Act} {w : World} {K : Act → World → Prop} {Q : Exit → Act → World → Prop} {E : Prop}
    (hg : o.guard = none) (s x : Operand) (t : TypeId) (hop : o.op = Op.call { callee := Callee.builtin Builtin.append, args := #[s, x], argTypes := #[t, t] })
    (base : Nat) (e : TypeId) (i : TypeInfo) (z : Value) (size bytes : Nat) (ht : P.underlying t = some (.slice e)) (hi : P.info? e = some i) (hz : i.zero = some z)
    (hsize : i.size = size) (hby : i.bytes = bytes) (hzs : z.cells.size = size) (hsz : 0 < size)
    (v : Value) (n : Nat) (xs : List Value) (hs : a.eval s = v) (hown : w.ownsRow base e size v n xs)
    (ad : Addr) (m c : Nat) (news : List Value) (hx : a.eval x = .slice (some ad) m c) (hl : news.length = m * size) (hnews : ∀ j u, news[j]? = some u → w.cell? (ad.add j) = some u) (h1 : ∀ u ∈ news, u.oneCell' = true)
    (h63 : n + m ≤ maxLen) (hbytes : (n + m) * bytes ≤ 140737488355328) (hbase : base ≤ w.heap.size)
    (hK : ∀ v' w', w'.ownsRow base e size v' (n + m) (xs ++ news) → w.grownBy w' v.ownBlock → (v'.ownBlock = v.ownBlock ∨ v'.ownBlock = some w.heap.size) → K (a.put o.dst v') w') :
    if Region.wanted o (yielded ops a.tmps) = true then Oper.wp P o a w K Q else E := by
  have hw : Region.wanted o (yielded ops a.tmps) = true := by simp [Region.wanted, hg]
  rw [if_pos hw]
  obtain ⟨v', w', hr, h2, h3, _, h5⟩ := run_append_own_at (P := P) w base t o.type e i z size bytes ht hi hz hsize hby hzs hsz v n xs hown ad m c news hl hnews h1 h63 hbytes hbase
  unfold Oper.wp execOp
  simp only [hop, resolve, invoke, builtin, Sem.run_bind, Sem.run_pure, Result.andThen_ok, List.map_toArray, List.map_cons, List.map_nil, hs, hx, hr]
  exact hK _ _ h2 h3 h5

theorem own_slice {w : World} {base : Nat} {e : TypeId} {size n : Nat} {v : Value} {xs : List Value} (h : w.ownsRow base e size v n xs) : ∃ A c, v = .slice A n c := by
  obtain ⟨_, ⟨rfl, rfl⟩ | ⟨g, cap, cur, rfl, _⟩⟩ := h
  · exact ⟨none, 0, rfl⟩
  · exact ⟨_, _, rfl⟩

theorem own_bel {w w' : World} {base : Nat} {e : TypeId} {size n : Nat} {v : Value} {xs : List Value} (h : w.ownsRow base e size v n xs) (hb : Below w.heap.size w w') : w'.ownsRow base e size v n xs := by
  refine h.kept (row := none) ⟨hb.os, hb.tape, hb.output, hb.size, fun k hk _ => hb.block k hk⟩ ?_
  cases hob : v.ownBlock with
  | none => exact .inl rfl
  | some j => exact .inr (fun e => by cases e)
theorem own_no {w : World} {base : Nat} {e : TypeId} {size n : Nat} {v : Value} {xs : List Value} (h : w.ownsRow (base + 1) e size v n xs) : some base ≠ v.ownBlock := fun e => by
  have := (h.lt base e.symm).1; omega
theorem own_no' {w : World} {base j : Nat} {e : TypeId} {size n : Nat} {v : Value} {xs : List Value} (h : w.ownsRow base e size v n xs) (hj : j < base) : some j ≠ v.ownBlock := fun e => by
  have := (h.lt j e.symm).1; omega
end Go.Proofs.YtgblgkkbggdopaaDoor

/-
  Plain mathematics of chapter 3, resolve: where declarations have their cells, and which declarations a program may have. No conditions.
-/
namespace Go.Proofs.YtgblgkkbggdopaaDoor

/-- How many cells a declaration has. -/
def cellsN (v : Vr) : Int := max v.size 1
/-- The first cell and the size of a declaration, counted from a cell on. -/
def lookS (nm : List UInt8) : List Vr → Int → Int × Int × Bool
  | [], _ => (0, 0, false)
  | v :: r, s => if v.name = nm then (s, max v.size 0, true) else if 2147483648 < s + cellsN v then (0, 0, false) else lookS nm r (s + cellsN v)

theorem cellsN_pos (v : Vr) : 1 ≤ cellsN v := by unfold cellsN; omega

/-- Whether there is a text for a declaration. -/
def varOK (v : Vr) : Bool := validS v.name && decide (0 ≤ v.size) && decide (v.init ≠ -9223372036854775808) && (decide (v.size = 0) || decide (v.init = 0))

/-- What names stand for. -/
abbrev Pl := List UInt8 → Option (Int × Int)
def pl0 : Pl := fun _ => none
def Pl.upd (f : Pl) (nm : List UInt8) (x : Int × Int) : Pl := fun s => if s = nm then some x else f s
/-- All names are noted; none: one occurs twice. -/
def seenS : List Vr → Pl → Option Pl
  | [], f => some f
  | v :: r, f => if (f v.name).isSome then none else seenS r (f.upd v.name (0, 0))
/-- The initial values of all cells, and what names stand for; none: too many cells. -/
def valsS : List Vr → List Int → Pl → Option (List Int × Pl)
  | [], acc, f => some (acc, f)
  | v :: r, acc, f => if 32 - (acc.length : Int) < cellsN v then none else valsS r (acc ++ List.replicate (cellsN v).toNat v.init) (f.upd v.name (acc.length, v.size))
/-- The error of declarations, their initial values and places. -/
def declS (l : List Vr) : Int × List Int × Pl :=
  if 16 < l.length then (4, [], pl0) else
  match seenS l pl0 with
  | none => (2, [], pl0)
  | some f => match valsS l [] f with
    | none => (4, [], pl0)
    | some (a, g) => (0, a, g)
end Go.Proofs.YtgblgkkbggdopaaDoor

/-
  What Lookup of package resolve and of the document's answer return: the first cell and the size of a declaration. Conditions: at most 100000 declarations.
-/
namespace Go.Proofs.YtgblgkkbggdopaaDoor
open Go.RowKit

theorem r3cells_any (nm : ByteArray) (sz it : Int) (w : World) : Calls Tryd.prog 53 #[.agg #[.string nm, .int .i64 sz, .int .i64 it]] w fun e w' => e = .returned (.int .i64 (min (max sz 1) 2147483649)) ∧ Below w.heap.size w w' := by
  go_enter Tryd.func53, Tryd.ntmps53
  go_wp2_with fail
  all_goals (go_ret; exact ⟨ret_int (by omega), (Below.refl _ _).alloc (Nat.le_refl _) _⟩)

/-- The cells of the declaration with the number k. -/
theorem VrSlice.get {S : Nat → Prop} {w : World} {l : List Vr} {A : Option Addr} {n c k : Nat} {v : Vr} (h : VrSlice S w l (.slice A n c)) (hk : l[k]? = some v) :
    n = l.length ∧ n ≤ c ∧ ∃ b o, A = some ⟨b, o, none⟩ ∧ S b ∧ b < w.heap.size ∧ w.cell? ⟨b, o + k * 3, none⟩ = some (.string (strB v.name)) ∧ w.cell? ⟨b, o + k * 3 + 1, none⟩ = some (.int .i64 v.size) ∧ w.cell? ⟨b, o + k * 3 + 2, none⟩ = some (.int .i64 v.init) := by
  obtain ⟨A', c', e, hc, hr⟩ := h
  injection e with e1 e2 e3
  subst e1 e2 e3
  obtain ⟨b, o, hA, hS, hcs⟩ := hr (fun e => by rw [e] at hk; simp at hk)
  have hg : ∀ (l : List Vr) (k : Nat) (v : Vr), l[k]? = some v → ∀ j, j < 3 → (l.flatMap vrCells)[k * 3 + j]? = (vrCells v)[j]? := by
    intro l
    induction l with
    | nil => intro k v h; simp at h
    | cons x r ih =>
      intro k v h j hj
      cases k with
      | zero =>
        simp only [List.getElem?_cons_zero, Option.some.injEq] at h
        subst h
        rw [List.flatMap_cons, List.getElem?_append_left (by simp [vrCells]; omega)]
        simp
      | succ k =>
        simp only [List.getElem?_cons_succ] at h
        rw [List.flatMap_cons, List.getElem?_append_right (by simp [vrCells]; omega), ← ih k v h j hj]
        congr 1
        simp [vrCells]; omega
  have h0 := hcs _ _ ((hg l k v hk 0 (by omega)).trans rfl)
  have h1 := hcs _ _ ((hg l k v hk 1 (by omega)).trans rfl)
  have h2 := hcs _ _ ((hg l k v hk 2 (by omega)).trans rfl)
  rw [Nat.add_zero] at h0
  exact ⟨rfl, hc, b, o, hA, hS, World.block_lt_of_cell? w _ h0, h0, by rw [Nat.add_assoc]; exact h1, by rw [Nat.add_assoc]; exact h2⟩

theorem lookS_drop {nm : List UInt8} {l : List Vr} {k : Nat} {v : Vr} (h : l[k]? = some v) (s : Int) :
    lookS nm (l.drop k) s = if v.name = nm then (s, max v.size 0, true) else if 2147483648 < s + cellsN v then (0, 0, false) else lookS nm (l.drop (k + 1)) (s + cellsN v) := by
  have hlt := (List.getElem?_eq_some_iff.1 h).1
  have hv : l[k] = v := (List.getElem?_eq_some_iff.1 h).2
  rw [List.drop_eq_getElem_cons hlt, hv]
  rfl
theorem lookS_end {nm : List UInt8} {l : List Vr} {k : Nat} (h : l.length ≤ k) (s : Int) : lookS nm (l.drop k) s = (0, 0, false) := by
  rw [List.drop_eq_nil_of_le h]; rfl

theorem vr_eq {a b : List UInt8} (h : a = b) : ((strB a).toList == (strB b).toList) = true := str_eq (by rw [str_data]; exact h)
theorem vr_ne {a b : List UInt8} (h : a ≠ b) : ((strB a).toList == (strB b).toList) = false := str_ne (by rw [str_data]; exact h)

/-- What a look-up returns. -/
abbrev lkV (x : Int × Int × Bool) : Value := .tuple #[.int .i64 x.1, .int .i64 x.2.1, .bool x.2.2]

set_option maxHeartbeats 1000000 in
set_option maxRecDepth 100000 in
theorem lookup3_any (S : Nat → Prop) (l : List Vr) (nm : List UInt8) (A : Option Addr) (n c : Nat) (w : World) (hl : VrSlice S w l (.slice A n c)) (hn : l.length ≤ 100000) :
    Calls Tryd.prog 63 #[.slice A n c, .string (strB nm)] w fun e w' => e = .returned (lkV (lookS nm l 0)) ∧ Below w.heap.size w w' := by
  have HL := Lib.hid hl
  have hnl : n = l.length := by obtain ⟨_, _, e, _⟩ := hl; injection e
  have HN := Lib.hid hnl
  have hn1 : n ≤ 100000 := by omega
  obtain ⟨R, hR⟩ : ∃ R, lookS nm l 0 = R := ⟨_, rfl⟩
  have HR := Lib.hid hR
  rw [hR]
  clear hl hnl hn hR
  go_enter Tryd.func63, Tryd.ntmps63
  go_wp2_with fail
  go_loopg [7, 8] n (fun g sv i wr => ∃ (k : Nat) (s : Int), k + g = n ∧ i = .int .i64 k ∧ sv = .int .i64 s ∧ 0 ≤ s ∧ s ≤ 2147483648 ∧ lookS nm (l.drop k) s = R ∧ Below w.heap.size w wr)
  case atStart => exact ⟨0, 0, by omega, rfl, rfl, by omega, by omega, by rw [List.drop_zero]; exact HR.out, Below.refl _ _⟩
  case round =>
    obtain ⟨k, s, hkg, rfl, rfl, hs0, hs1, hlk, hb⟩ := hrel
    have HB := Lib.hid hb
    have HK := Lib.hid hlk
    clear hb hlk
    cases gk with
    | zero =>
      have hge : n ≤ k := by omega
      have HE : Hid (R = (0, 0, false)) := by rw [← HK.out]; exact lookS_end (by have := HN.out; omega) s
      clear hkg
      go_wp2_with fail
      exact bodyPost_ret (v := lkV (0, 0, false)) (by simp [results, Tryd.results63, go_sem]) rfl ⟨by rw [HE.out], HB.out⟩
    | succ g =>
      have hlt : k < n := by omega
      have HG := Lib.hid hkg
      clear hkg
      obtain ⟨v, hv⟩ : ∃ v, l[k]? = some v := ⟨_, List.getElem?_eq_getElem (by have := HN.out; omega)⟩
      have hst := lookS_drop (nm := nm) hv s
      rw [HK.out] at hst
      obtain ⟨-, -, b, o, rfl, -, hbb, d0, d1, d2⟩ := HL.out.get hv
      have hw : ∀ j u, w.cell? ⟨b, j, none⟩ = some u → wr.cell? ⟨b, j, none⟩ = some u := fun j u hu => (HB.out.cell (p := ⟨b, j, none⟩) hbb).trans hu
      replace d0 := hw _ _ d0
      replace d1 := hw _ _ d1
      replace d2 := hw _ _ d2
      obtain ⟨vn, vs, vi⟩ := v
      simp only at d0 d1 d2 hst
      clear hw hv
      by_cases h1 : vn = nm
      · rw [if_pos h1] at hst
        have HST := Lib.hid hst
        have ht := vr_eq h1
        clear h1 hst
        by_cases hv0 : vs < 0
        · have HM : Hid (max vs 0 = 0) := by show _ = _; omega
          go_wp2_with fail
          go_quiet (fail)
          go_wp2_with fail
          exact bodyPost_ret (v := lkV (s, 0, true)) (by simp [results, Tryd.results63, go_sem]) rfl ⟨by rw [HST.out, HM.out], below_drewN (HB.out) _⟩
        · have HM : Hid (max vs 0 = vs) := by show _ = _; omega
          have hv1 : 0 ≤ vs := by omega
          clear hv0
          go_wp2_with fail
          go_quiet (fail)
          go_wp2_with fail
          exact bodyPost_ret (v := lkV (s, vs, true)) (by simp [results, Tryd.results63, go_sem]) rfl ⟨by rw [HST.out, HM.out], below_drewN (HB.out) _⟩
      · rw [if_neg h1] at hst
        have ht := vr_ne h1
        clear h1
        have HC := Lib.hid (fun w' => r3cells_any (strB vn) vs vi w')
        obtain ⟨mx, hmx⟩ : ∃ x, min (max vs 1) 2147483649 = x := ⟨_, rfl⟩
        have hm1 : 1 ≤ mx := by omega
        have hm2 : mx ≤ 2147483649 := by omega
        rw [hmx] at HC
        rw [show cellsN ⟨vn, vs, vi⟩ = max vs 1 from rfl] at hst
        by_cases h2 : 2147483648 < s + max vs 1
        · rw [if_pos h2] at hst
          have HST := Lib.hid hst
          have h3 : 2147483648 < s + mx := by omega
          clear hst hmx h2
          go_wp2_with fail
          refine (HC.out _).mono ?_
          rintro e w2 ⟨rfl, hb⟩
          have HB2 := Lib.hid (HB.out.trans (hb.mono HB.out.size))
          clear hb HC d0 d1 d2 ht
          go_wp2_with fail
          exact bodyPost_ret (v := lkV (0, 0, false)) (by simp [results, Tryd.results63, go_sem]) rfl ⟨by rw [HST.out], HB2.out⟩
        · rw [if_neg h2] at hst
          have hmm : max vs 1 = mx := by omega
          rw [hmm] at hst
          have HST := Lib.hid hst
          have h3 : s + mx ≤ 2147483648 := by omega
          clear hst hmx h2 hmm
          go_wp2_with fail
          refine (HC.out _).mono ?_
          rintro e w2 ⟨rfl, hb⟩
          have HB2 := Lib.hid (HB.out.trans (hb.mono HB.out.size))
          clear hb HC d0 d1 d2 ht
          go_wp2_with fail
          go_roundg g
          case rel => exact ⟨k + 1, s + mx, by have := HG.out; omega, by go_num, by go_num, by omega, by omega, HST.out.symm, HB2.out⟩
          case measure => omega
end Go.Proofs.YtgblgkkbggdopaaDoor

/-
  What slices.Repeat returns for a list of one number: as many of it as are asked for, in a new block. Conditions: from 1 to 100000 are asked for.
-/
namespace Go.Proofs.YtgblgkkbggdopaaDoor
open Go.RowKit

theorem infoInt : (Tryd.prog.info? 3).map (fun i => (i.zero, i.size, i.bytes)) = some (some (.int .i64 0), 1, 8) := by kernel_rfl
theorem sizeInt1 : (Tryd.prog.info? 3).map (·.size) = some 1 := by kernel_rfl

/-- The first n of m cells are v, the others 0. -/
def rpCells (v : Int) (n m : Nat) : List Value := List.replicate n (.int .i64 v) ++ List.replicate (m - n) (.int .i64 0)
theorem rpCells_len (v : Int) (n m : Nat) (h : n ≤ m) : (rpCells v n m).length = m := by simp [rpCells]; omega
theorem rpCells_splice (v : Int) (n m k : Nat) (h : n + k ≤ m) : splice (rpCells v n m) n (List.replicate k (.int .i64 v)) = rpCells v (n + k) m := by
  unfold splice rpCells
  rw [List.take_left' (by simp), List.length_replicate, List.drop_append, List.drop_eq_nil_of_le (by simp), List.drop_replicate, List.nil_append, List.length_replicate, ← List.append_assoc, List.replicate_append_replicate]
  congr 2
  omega
theorem rpCells_one (v : Int) (n m j : Nat) (h : j < n) : (rpCells v n m)[j]? = some (.int .i64 v) := by
  unfold rpCells
  rw [List.getElem?_append_left (by simpa using h), List.getElem?_replicate, if_pos h]
theorem rpOne (v : Int) (k : Nat) : ∀ u ∈ List.replicate k (Value.int .i64 v), u.oneCell' = true := fun u hu => by
  rw [List.eq_of_mem_replicate hu]; rfl

end Go.Proofs.YtgblgkkbggdopaaDoor

/-
  What declare of package resolve returns: the places of declarations by their names, and the initial values of all cells. Conditions: names have at most 4096 bytes; sizes are of their type.
-/
namespace Go.Proofs.YtgblgkkbggdopaaDoor
open Go.RowKit
open Go.Maps (Keyed string_keyed)

/-! ### The map of places -/
theorem keyStrP : Keyed Tryd.prog 9 := string_keyed Tryd.underlying9
/-- An element of the map reads as itself. -/
def RvP (v : Value) : Option (DataW Value × List MemPlace) := some (.held v, [])
/-- A place. -/
def plV (x : Int × Int) : Value := .agg #[.int .i64 x.1, .int .i64 x.2]
theorem key_ofP (s : List UInt8) (hs : s.length ≤ 4096) : keyOf Tryd.prog 9 (.string (strB s)) = some (.string s) := by
  have := Go.WideMaps.keyOf_string_mk Tryd.underlying9 (s := strB s) (by rw [str_size]; unfold maxLen; omega)
  rw [str_data] at this; exact this
/-- What the map holds. -/
def PlIs (D : DataW Value) (f : Pl) : Prop := ∀ s zd, D.atKey (.string s) zd = match f s with | none => zd | some x => .held (plV x)
theorem PlIs.zero : PlIs (.map []) pl0 := fun _ _ => rfl
theorem PlIs.put {w : World} {b n : Nat} {D : DataW Value} {f : Pl} (h : PlIs D f) (ho : w.ownsMap Tryd.prog 9 RvP b n D) (nm : List UInt8) (x : Int × Int) : PlIs (D.put (.string nm) (.held (plV x))) (f.upd nm x) := fun s zd => by
  have hm : Go.Maps.IsMap D := by obtain ⟨es, clock, _, _, _, rfl⟩ := ho; exact ⟨_, rfl⟩
  unfold Pl.upd
  by_cases e : s = nm
  · subst e
    rw [if_pos rfl]
    exact Go.Maps.atKey_put_same hm (by trivial) _ _
  · rw [if_neg e, Go.Maps.atKey_put_other (fun h => by injection h with h; exact e h)]
    exact h s zd
theorem map_below {b n : Nat} {w w' : World} {D : DataW Value} (h : w.ownsMap Tryd.prog 9 RvP b n D) (hb : Below w.heap.size w w') : w'.ownsMap Tryd.prog 9 RvP b n D := by
  obtain ⟨es, clock, hbb, F, hs, hD⟩ := h
  exact ⟨es, clock, below_blk hb hbb, F, hs, hD⟩
theorem map_blk {b n : Nat} {w w' : World} {D : DataW Value} (h : w.ownsMap Tryd.prog 9 RvP b n D) (hb : w'.heap[b]? = w.heap[b]?) : w'.ownsMap Tryd.prog 9 RvP b n D := by
  obtain ⟨es, clock, hbb, F, hs, hD⟩ := h
  exact ⟨es, clock, hb.trans hbb, F, hs, hD⟩

theorem seenS_drop {l : List Vr} {k : Nat} {v : Vr} (h : l[k]? = some v) (f : Pl) : seenS (l.drop k) f = if (f v.name).isSome then none else seenS (l.drop (k + 1)) (f.upd v.name (0, 0)) := by
  have hlt := (List.getElem?_eq_some_iff.1 h).1
  have hv : l[k] = v := (List.getElem?_eq_some_iff.1 h).2
  rw [List.drop_eq_getElem_cons hlt, hv]
  rfl
theorem valsS_drop {l : List Vr} {k : Nat} {v : Vr} (h : l[k]? = some v) (acc : List Int) (f : Pl) : valsS (l.drop k) acc f = if 32 - (acc.length : Int) < cellsN v then none else valsS (l.drop (k + 1)) (acc ++ List.replicate (cellsN v).toNat v.init) (f.upd v.name (acc.length, v.size)) := by
  have hlt := (List.getElem?_eq_some_iff.1 h).1
  have hv : l[k] = v := (List.getElem?_eq_some_iff.1 h).2
  rw [List.drop_eq_getElem_cons hlt, hv]
  rfl

theorem rp_two (w : World) (a b : Obj) : Below w.heap.size w (((w.alloc a).alloc b).drew) := (((Below.refl _ _).alloc (Nat.le_refl _) a).alloc (by rw [new_size]; omega) b).drew
theorem rp_cell1 (w : World) (u : Value) (T : TypeId) (x : Obj) : (((w.alloc (.cells #[u] T)).alloc x).drew).cell? ⟨w.heap.size, 0, none⟩ = some u := by
  have h : (((w.alloc (.cells #[u] T)).alloc x).drew).heap[w.heap.size]? = some (.cells #[u] T (0, 0)) := (alloc_blk _ x (by rw [new_size]; omega)).trans (new_blk w _)
  rw [Lib.cell_of_heap h]; rfl
theorem rp_cell2 (w : World) (u : Value) (T : TypeId) (x : Obj) : (((w.alloc x).alloc (.cells #[u] T)).drew).cell? ⟨w.heap.size + 1, 0, none⟩ = some u := by
  have h : (((w.alloc x).alloc (.cells #[u] T)).drew).heap[w.heap.size + 1]? = some (.cells #[u] T (0, 0)) := by
    have := new_blk (w.alloc x) (.cells #[u] T)
    rwa [new_size] at this
  rw [Lib.cell_of_heap h]; rfl

/-- What declare returns. -/
def DcPost (R : Int × List Int × Pl) (w : World) (e : Ending) (w' : World) : Prop :=
  Below w.heap.size w w' ∧ ((R.1 = 0 ∧ ∃ b n D v, e = .returned (.tuple #[.map (some b), v, .int .i64 0]) ∧ w.heap.size ≤ b ∧ w'.ownsMap Tryd.prog 9 RvP b n D ∧ PlIs D R.2.2 ∧ w'.ownsRow (w.heap.size + 1) 3 1 v R.2.1.length (R.2.1.map (Value.int .i64))) ∨
    (R.1 ≠ 0 ∧ e = .returned (.tuple #[.map none, .slice none 0 0, .int .i64 R.1])))

end Go.Proofs.YtgblgkkbggdopaaDoor
