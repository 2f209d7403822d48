/-
  What the document's answer for chapter 8 keeps while it reads a state: the frame of two blocks, the loops' invariant, and the four lists as one state (gens100.py writes this text). No conditions.
-/
import Derived.Test.YtadikcioacaphaaWalkQg8
namespace Go.Proofs.Ytadikcioacaphaa
open Go.RowKit

/-- All blocks but two lie as they did. -/
structure KeepX (R X : Nat) (w w' : World) : Prop where
  os : w'.os = w.os
  tape : w'.tape = w.tape
  output : w'.output = w.output
  size : w.heap.size ≤ w'.heap.size
  block : ∀ k, k < w.heap.size → k ≠ R → k ≠ X → w'.heap[k]? = w.heap[k]?
theorem KeepX.refl (R X : Nat) (w : World) : KeepX R X w w := ⟨rfl, rfl, rfl, Nat.le_refl _, fun _ _ _ _ => rfl⟩
theorem KeepX.trans {R X : Nat} {a b c : World} (h : KeepX R X a b) (k : KeepX R X b c) : KeepX R X a c :=
  ⟨k.os.trans h.os, k.tape.trans h.tape, k.output.trans h.output, Nat.le_trans h.size k.size, fun i hi h1 h2 => (k.block i (Nat.lt_of_lt_of_le hi h.size) h1 h2).trans (h.block i hi h1 h2)⟩
theorem Keep.x {R X : Nat} {w w' : World} (h : Keep R w w') : KeepX R X w w' := ⟨h.os, h.tape, h.output, h.size, fun k hk h1 _ => h.block k hk h1⟩
theorem KeepX.setX {R X : Nat} {a w : World} (h : KeepX R X a w) (j : Nat) (u : Value) : KeepX R X a (w.setCell ⟨X, j, none⟩ u) :=
  ⟨h.os, h.tape, h.output, Nat.le_trans h.size (by simp [World.setCell]), fun k hk h1 h2 => (Below.heap_setCell _ _ _ _ h2).trans (h.block k hk h1 h2)⟩
theorem KeepX.alloc {R X : Nat} {a w : World} (h : KeepX R X a w) (o : Obj) : KeepX R X a (w.alloc o) := h.trans ((Keep.refl R w).alloc o).x
theorem KeepX.drewN {R X : Nat} {a w : World} (h : KeepX R X a w) (n : Nat) : KeepX R X a (w.drewN n) := h.trans ((Keep.refl R w).drewN n).x
theorem KeepX.grown {R X : Nat} {a b c : World} {row : Option Nat} (h : KeepX R X a b) (hg : b.grownBy c row) (hr : ∀ k, row = some k → a.heap.size ≤ k) : KeepX R X a c :=
  ⟨hg.os.trans h.os, hg.tape.trans h.tape, hg.output.trans h.output, Nat.le_trans h.size hg.size, fun k hk h1 h2 => (hg.block k (Nat.lt_of_lt_of_le hk h.size) (fun e => by have := hr k e.symm; omega)).trans (h.block k hk h1 h2)⟩
theorem KeepX.below {R X B : Nat} {w w' : World} (h : KeepX R X w w') (hB : B ≤ w.heap.size) (hR : B ≤ R) (hX : B ≤ X) : Below B w w' :=
  ⟨h.os, h.tape, h.output, h.size, fun k hk => h.block k (by omega) (by omega) (by omega)⟩
theorem KeepX.blk {R X b : Nat} {w w' : World} {o : Obj} (h : KeepX R X w w') (hb : w.heap[b]? = some o) (h1 : b ≠ R) (h2 : b ≠ X) : w'.heap[b]? = some o := (h.block b (lt_of_block hb) h1 h2).trans hb
theorem own_keepX {R X base n : Nat} {w w' : World} {e : TypeId} {size : Nat} {v : Value} {xs : List Value} (h : w.ownsRow base e size v n xs) (hk : KeepX R X w w') (hR : R < base) (hX : X < base) : w'.ownsRow base e size v n xs :=
  own_blk h fun b hb => hk.block b (h.lt b hb).2 (by have := (h.lt b hb).1; omega) (by have := (h.lt b hb).1; omega)
theorem VList.keepX {T : TypeId} {k base R X : Nat} {w w' : World} {zs : List Int} {v : Value} (h : VList T k base w zs v) (hk : KeepX R X w w') (hR : R < base) (hX : X < base) : VList T k base w' zs v := by
  obtain ⟨n, h1, h2, h3⟩ := h
  exact ⟨n, h1, h2, own_keepX h3 hk hR hX⟩

/-- A number of elements of k numbers each, and these, behind a state. -/
def rowsQ (k : Nat) (s : RR Unit) : RR (List Int) := match s with | .ok _ t => rowsS k t | .err e => .err e
theorem rowsQ_cnt {k N : Nat} {s : RR Unit} (h : ∀ n' t', cntQ s = .ok n' t' → N = n') : rowsQ k s = numsQ (k * N) (stU (cntQ s)) := by
  cases s with
  | err e => rfl
  | ok u t =>
    simp only [rowsQ, cntQ, rowsS]
    simp only [cntQ] at h
    cases hc : cntR t with
    | err e => rfl
    | ok n' t' =>
      have e := h n' t' hc
      subst e
      rfl
theorem st_err {bs : List Nat} {k : Int} {ke : Nat} (h : rowsQ 2 (stU (rowsQ 4 (stU (rowsQ 7 (stU (rowsQ 1 (begS bs k))))))) = .err ke) : rdS stS bs k = .err ke := by
  unfold begS at h
  unfold rdS
  split
  · rename_i hk
    rw [if_pos hk] at h
    simpa [rowsQ, stU] using h
  · rename_i hk
    rw [if_neg hk] at h
    unfold stS
    simp only [rowsQ] at h
    cases h1 : rowsS 1 (bs.drop k.toNat) with
    | err e => rw [h1] at h; simpa [stU, RR.bind] using h
    | ok a ta =>
      rw [h1] at h
      simp only [stU] at h
      simp only [RR.bind]
      cases h2 : rowsS 7 ta with
      | err e => rw [h2] at h; simpa [stU, RR.bind] using h
      | ok b tb =>
        rw [h2] at h
        simp only at h ⊢
        cases h3 : rowsS 4 tb with
        | err e => rw [h3] at h; simpa [stU, RR.bind] using h
        | ok c tc =>
          rw [h3] at h
          simp only at h ⊢
          rw [h]
theorem st_ok {bs t d : List _} {k : Int} (h : rowsQ 2 (stU (rowsQ 4 (stU (rowsQ 7 (stU (rowsQ 1 (begS bs k))))))) = .ok d t) :
    ∃ a b c ta tb tc, rowsQ 1 (begS bs k) = .ok a ta ∧ rowsQ 7 (stU (rowsQ 1 (begS bs k))) = .ok b tb ∧ rowsQ 4 (stU (rowsQ 7 (stU (rowsQ 1 (begS bs k))))) = .ok c tc ∧ rdS stS bs k = .ok (a, b, c, d) t := by
  unfold rdS
  unfold begS at h ⊢
  split
  · rename_i hk
    rw [if_pos hk] at h
    simp [rowsQ, stU] at h
  · rename_i hk
    rw [if_neg hk] at h
    unfold stS
    simp only [rowsQ] at h ⊢
    cases h1 : rowsS 1 (bs.drop k.toNat) with
    | err e => rw [h1] at h; simp [stU] at h
    | ok a ta =>
      rw [h1] at h
      simp only [stU] at h
      simp only [RR.bind, stU]
      cases h2 : rowsS 7 ta with
      | err e => rw [h2] at h; simp at h
      | ok b tb =>
        rw [h2] at h
        simp only at h ⊢
        cases h3 : rowsS 4 tb with
        | err e => rw [h3] at h; simp at h
        | ok c tc =>
          rw [h3] at h
          simp only at h ⊢
          exact ⟨a, b, c, ta, tb, tc, rfl, rfl, rfl, by rw [h]⟩

/-- What is owned on the way of rows. -/
def RqOwn (T : TypeId) (kk N : Nat) (s : RR Unit) (w0 w : World) (v : Value) (i g : Nat) : RR Unit → Prop
  | .ok _ t => ∃ zs : List Int, zs.length = kk * i ∧ w.ownsRow w0.heap.size T kk v i (zs.map (Value.int .i64)) ∧ numsQ (kk * N) s = (numsS (kk * g) t).bind fun vs r => .ok (zs ++ vs) r
  | .err k => numsQ (kk * N) s = .err k
/-- On the way of rows that lie in a box's field. -/
structure RqSt (R X : Nat) (T : TypeId) (kk N : Nat) (bs : List Nat) (s : RR Unit) (w0 w : World) (v : Value) (i g : Nat) (s' : RR Unit) : Prop where
  st : Qd R w bs s'
  keep : KeepX R X w0 w
  ltR : R < w0.heap.size
  ltX : X < w0.heap.size
  ne : R < X
  own : RqOwn T kk N s w0 w v i g s'
theorem RqSt.made {R X N kk : Nat} {T : TypeId} {bs : List Nat} {s : RR Unit} {w : World} (h : Qd R w bs s) (hX : X < w.heap.size) (hn : R < X) : RqSt R X T kk N bs s w w (.slice none 0 0) 0 N s := by
  refine ⟨h, KeepX.refl _ _ _, h.lt, hX, hn, ?_⟩
  clear h
  cases s with
  | err k => rfl
  | ok u t => exact ⟨[], rfl, World.ownsRow_nil _ _ _ _, by simp only [numsQ]; cases numsS (kk * N) t <;> rfl⟩
theorem RqSt.push {R X N kk i g j : Nat} {T : TypeId} {bs t : List Nat} {s : RR Unit} {w0 wr w1 w3 : World} {v v' : Value} {u : Unit} {vs zs : List Int} (h : RqSt R X T kk N bs s w0 wr v i (g + 1) (.ok u t))
    (hv : ∀ vs' t', numsS kk t = .ok vs' t' → vs' = vs) (hvl : vs.length = kk) (hst : Qd R w1 bs (stU (numsS kk t))) (hk : KeepX R X wr w1) (o : Obj)
    (hz : zs.length = kk * i) (hro : wr.ownsRow w0.heap.size T kk v i (zs.map (Value.int .i64))) (hq : numsQ (kk * N) s = (numsS (kk * (g + 1)) t).bind fun vs r => .ok (zs ++ vs) r)
    (hr : w3.ownsRow w0.heap.size T kk v' (i + 1) (zs.map (Value.int .i64) ++ vs.map (Value.int .i64))) (hg : (w1.alloc o).grownBy w3 v.ownBlock) :
    RqSt R X T kk N bs s w0 (w3.setCell ⟨X, j, none⟩ v') v' (i + 1) g (stU (numsS kk t)) := by
  have hR := h.ltR
  have hX := h.ltX
  have hn := h.ne
  have hb : ∀ b, v.ownBlock = some b → w0.heap.size ≤ b := fun b hb => (hro.lt b hb).1
  refine ⟨hst.still fun k hkR => ?_, (((h.keep.trans hk).alloc o).grown hg hb).setX _ _, hR, hX, hn, ?_⟩
  · have hs1 := hst.lt
    rw [Below.heap_setCell _ _ _ _ (by show k ≠ X; omega), hg.block k (by rw [new_size]; omega) (fun e => by have := hb k e.symm; omega), alloc_blk _ _ (by omega)]
  · rw [show kk * (g + 1) = kk + kk * g by rw [Nat.mul_add, Nat.mul_one, Nat.add_comm], numsS_add] at hq
    clear hst
    cases hp : numsS kk t with
    | err ke => rw [hp] at hq; exact hq
    | ok vs' t' =>
      have e := hv vs' t' hp
      subst e
      rw [hp] at hq
      simp only [stU]
      refine ⟨zs ++ vs', by rw [List.length_append, hz, hvl, Nat.mul_add, Nat.mul_one], own_blk (by rw [List.map_append]; exact hr) fun b hb => Below.heap_setCell _ _ _ _ (by show b ≠ X; have := (hr.lt b hb).1; omega), ?_⟩
      · rw [hq]
        simp only [RR.bind]
        cases numsS (kk * g) t' with
        | err k => rfl
        | ok vs2 r2 => simp only [List.append_assoc]
theorem RqSt.end_err {R X N kk i g ke : Nat} {T : TypeId} {bs : List Nat} {s : RR Unit} {w0 w : World} {v : Value} (h : RqSt R X T kk N bs s w0 w v i g (.err ke)) :
    KeepX R X w0 w ∧ Qd R w bs (stU (numsQ (kk * N) s)) ∧ ∀ zs t, numsQ (kk * N) s = .ok zs t → VList T kk w0.heap.size w zs v := by
  have e : numsQ (kk * N) s = .err ke := h.own
  refine ⟨h.keep, by rw [e]; exact h.st, fun zs t hz => by rw [e] at hz; cases hz⟩
theorem RqSt.end_ok {R X N kk i : Nat} {T : TypeId} {bs t : List Nat} {s : RR Unit} {w0 w : World} {v : Value} {u : Unit} (h : RqSt R X T kk N bs s w0 w v i 0 (.ok u t)) (hi : i ≤ 1099511627776) :
    KeepX R X w0 w ∧ Qd R w bs (stU (numsQ (kk * N) s)) ∧ ∀ zs t, numsQ (kk * N) s = .ok zs t → VList T kk w0.heap.size w zs v := by
  obtain ⟨zs, hz, ho, hq⟩ := h.own
  have e : numsQ (kk * N) s = .ok zs t := by rw [hq]; simp [numsS, RR.bind]
  refine ⟨h.keep, by rw [e]; exact h.st, fun zs' t' hz' => ?_⟩
  rw [e] at hz'
  injection hz' with h1 _
  subst h1
  exact ⟨i, hz, hi, ho⟩
end Go.Proofs.Ytadikcioacaphaa
