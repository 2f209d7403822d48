/-
  Frames of the parser's walks: blocks of eighteen cells. No conditions.
-/
import Derived.Test.YtdlnpfocmgclmaaDoorWalkBi
import Derived.Laws.Tables
namespace Go.Proofs.YtdlnpfocmgclmaaDoor
open Go.RowKit

theorem setRow_blk (w : World) (n : Nat) (cs : Array Value) {k : Nat} (h : k ≠ n) : (w.setRow n cs).heap[k]? = w.heap[k]? := by
  unfold World.setRow
  simp only [Array.getElem?_modify]
  rw [if_neg (fun e => h e.symm)]
theorem Keep.setRow {R n : Nat} {a w : World} (h : Keep R a w) (hn : a.heap.size ≤ n) (cs : Array Value) : Keep R a (w.setRow n cs) :=
  ⟨h.os, h.tape, h.output, Nat.le_trans h.size (by simp), fun k hk hne => (setRow_blk w n cs (by omega)).trans (h.block k hk hne)⟩
theorem PSt.setRow {R en n : Nat} {toks ts : List Tok} {w : World} (h : PSt R toks en w ts) (hn : R < n) (cs : Array Value) : PSt R toks en (w.setRow n cs) ts :=
  h.up fun k hk => setRow_blk w n cs (by omega)
theorem PSt.setNew {R en : Nat} {toks ts : List Tok} {w : World} (h : PSt R toks en w ts) {p : Addr} (hn : R < p.block) (v : Value) : PSt R toks en (w.setCell p v) ts :=
  h.up fun k hk => Below.heap_setCell w p v k (by omega)
theorem StL.setRow {n m : Nat} {w : World} {s : St} {cs : List Value} (h : StL (From n) w s cs) (hm : m ≤ n) {k : Nat} (hk : k < n) (c : Array Value) : StL (From m) (w.setRow k c) s cs :=
  StL.still (fun b (hb : n ≤ b) _ => ⟨Nat.le_trans hm hb, setRow_blk w k c (by omega)⟩) s cs h

theorem ExL.shape {S : Nat → Prop} {w : World} {e : Ex} {cs : List Value} (h : ExL S w e cs) : cs.length = 6 ∧ ∀ v ∈ cs, v.oneCell' = true := by
  cases e
  simp only [ExL] at h
  obtain ⟨A, c, rfl, _⟩ := h
  exact ⟨rfl, by simp [exCells, Value.oneCell']⟩
theorem StL.shape {S : Nat → Prop} {w : World} {s : St} {cs : List Value} (h : StL S w s cs) : cs.length = 18 ∧ ∀ v ∈ cs, v.oneCell' = true := by
  cases s
  simp only [StL] at h
  obtain ⟨cp, cv, A, c, A', c', rfl, h1, h2, _⟩ := h
  have s1 := h1.shape
  have s2 := h2.shape
  refine ⟨by simp [stCells, s1.1, s2.1], fun v hv => ?_⟩
  simp only [stCells, List.mem_append, List.mem_cons, List.not_mem_nil, or_false] at hv
  rcases hv with (rfl | rfl | rfl | rfl) | hv | hv | rfl | rfl
  · rfl
  · rfl
  · rfl
  · rfl
  · exact s1.2 v hv
  · exact s2.2 v hv
  · rfl
  · rfl
theorem StL.one {S : Nat → Prop} {w : World} {s : St} {cs : List Value} (h : StL S w s cs) : cs.toArray.all (·.oneCell') = true := by
  have := h.shape.2
  simpa using this
theorem StL.size18 {S : Nat → Prop} {w : World} {s : St} {cs : List Value} (h : StL S w s cs) : 18 = cs.toArray.size := by simp [h.shape.1]
theorem infoSt : (Tryd.prog.info? 36).map (·.size) = some 18 := by kernel_rfl
theorem StL.info {S : Nat → Prop} {w : World} {s : St} {cs : List Value} (h : StL S w s cs) : (Tryd.prog.info? 36).map (·.size) = some cs.toArray.size := by
  rw [infoSt]; simp [h.shape.1]

/-- The block of a statement that has not been written yet. -/
abbrev stZ : Obj := .cells #[.int .i64 0, .string ⟨#[]⟩, .int .i64 0, .int .i64 0, .int .i64 0, .int .i64 0, .string ⟨#[]⟩, .int .i64 0, .int .i64 0, .slice none 0 0, .int .i64 0, .int .i64 0, .string ⟨#[]⟩, .int .i64 0, .int .i64 0, .slice none 0 0, .slice none 0 0, .slice none 0 0] 36

/-- A function's result lies in its block: what it returns. -/
theorem finSt {R en n m : Nat} {toks ts : List Tok} {w w' : World} {s : St} {cs : List Value} (hk : Keep R w w') (hn : n = w.heap.size) (hR : R < n) (hp : PSt R toks en w' ts) (hl : StL (From m) w' s cs) (hm : n < m) :
    PP R toks en (VSt w.heap.size) (.ok s ts) w (.returned (.agg cs.toArray)) (w'.setRow n cs.toArray) := by
  subst hn
  exact ⟨_, rfl, ⟨cs, rfl, hl.setRow (by omega) hm _⟩, hp.setRow hR _, hk.setRow (Nat.le_refl _) _⟩

theorem setRow_same {w : World} {n : Nat} {old cs : Array Value} {t : TypeId} {fr : Nat × Nat} (h : w.heap[n]? = some (.cells old t fr)) : (w.setRow n cs).heap[n]? = some (.cells cs t fr) := setRow_heap w n old cs t fr h

/-- The zero expression. -/
theorem ex0_at (S : Nat → Prop) (w : World) : ExL S w ex0 [.int .i64 0, .int .i64 0, .string ⟨#[]⟩, .int .i64 0, .int .i64 0, .slice none 0 0] := by
  simp only [ex0, ExL]
  exact ⟨none, 0, rfl, Nat.le_refl _, fun h => absurd rfl h⟩
theorem StSlice.still {S S' : Nat → Prop} {w w' : World} {l : List St} {v : Value} (h : StSlice S w l v) (hs : Still S S' w w') : StSlice S' w' l v := by
  obtain ⟨A, c, rfl, hc, hr⟩ := h
  refine ⟨A, c, rfl, hc, fun hne => ?_⟩
  obtain ⟨b, o, hA, hS, hrow⟩ := hr hne
  have hb : b < w.heap.size := by
    cases l with
    | nil => exact absurd rfl hne
    | cons e r =>
      simp only [StRow] at hrow
      obtain ⟨⟨cs', hc', hl⟩, _⟩ := hrow
      obtain ⟨v, r', rfl⟩ := hl.cons
      exact hc'.lt
  exact ⟨b, o, hA, (hs b hS hb).1, StRow.still hs l b o hS hrow⟩
/-- A statement out of its parts. -/
theorem st_mk {S : Nat → Prop} {w : World} {kind : Int} {name : List UInt8} {place value : Ex} {body els : List St} {cp cv : List Value} {A A' : Option Addr} {n n' c c' : Nat} (hp : ExL S w place cp) (hv : ExL S w value cv) (hb : StSlice S w body (.slice A n c)) (he : StSlice S w els (.slice A' n' c')) :
    StL S w (.mk kind name 0 0 place value body els) (stCells kind name 0 0 cp cv (.slice A n c) (.slice A' n' c')) := by
  obtain ⟨_, _, e1, h1, h2⟩ := hb
  obtain ⟨_, _, e2, h3, h4⟩ := he
  injection e1 with e1 e1' e1''
  injection e2 with e2 e2' e2''
  subst e1 e1' e1'' e2 e2' e2''
  simp only [StL]
  exact ⟨cp, cv, A, c, A', c', rfl, hp, hv, h1, h3, h2, h4⟩
theorem sts_nil (S : Nat → Prop) (w : World) : StSlice S w [] (.slice none 0 0) := ⟨none, 0, rfl, Nat.le_refl _, fun h => absurd rfl h⟩

/-- A statement's blocks: the result that has not been written yet, and the statement so far. -/
structure SB (R en n0 n1 : Nat) (toks : List Tok) (w0 w : World) (ts : List Tok) (cs : List Value) : Prop where
  p : PSt R toks en w ts
  k : Keep R w0 w
  h0 : w.heap[n0]? = some stZ
  h1 : w.heap[n1]? = some (.cells cs.toArray 36 (0, 0))
  lt : n0 < n1
  hR : R < n0
  hn : n0 = w0.heap.size

variable {R en n0 n1 : Nat} {toks ts ts' : List Tok} {w0 w w' : World} {cs : List Value}

theorem SB.keep (h : SB R en n0 n1 toks w0 w ts cs) (hk : Keep R w w') (hp : PSt R toks en w' ts') : SB R en n0 n1 toks w0 w' ts' cs := by
  have := h.lt
  have := h.hR
  exact ⟨hp, h.k.trans hk, hk.blk h.h0 (by omega), hk.blk h.h1 (by omega), h.lt, h.hR, h.hn⟩
theorem SB.below (h : SB R en n0 n1 toks w0 w ts cs) (hb : Below w.heap.size w w') : SB R en n0 n1 toks w0 w' ts cs := h.keep (Keep.of_below hb) (h.p.below hb)
theorem SB.set (h : SB R en n0 n1 toks w0 w ts cs) (i : Nat) (v : Value) : SB R en n0 n1 toks w0 (w.setCell ⟨n1, i, none⟩ v) ts (cs.set i v) := by
  have h1 := h.lt
  have h2 := h.hR
  have h3 := h.hn
  refine ⟨h.p.setNew (by show R < n1; omega) v, h.k.setNew (by show _ ≤ n1; omega) v, (Below.heap_setCell w ⟨n1, i, none⟩ v n0 (by show n0 ≠ n1; omega)).trans h.h0, ?_, h.lt, h.hR, h.hn⟩
  have := blk_set h.h1 i v
  rw [List.setIfInBounds_toArray] at this
  exact this
theorem SB.lt1 (h : SB R en n0 n1 toks w0 w ts cs) : n1 < w.heap.size := lt_of_block h.h1
/-- The beginning: the call's result block, and a block made in a later world. -/
theorem SB.start (hR : R < w0.heap.size) (hk : Keep R (w0.alloc stZ) w) (hp : PSt R toks en w ts) (c : Array Value) (hc : c = cs.toArray) : SB R en w0.heap.size w.heap.size toks w0 (w.alloc (.cells c 36)) ts cs := by
  have hz := hk.size
  rw [new_size] at hz
  subst hc
  exact ⟨hp.more _, ((Keep.refl R w0).alloc _ |>.trans hk).alloc _, (alloc_blk w _ (by omega)).trans (hk.blk (new_blk w0 stZ) (by omega)), new_blk w _, by omega, hR, rfl⟩

/-- A part of a statement: none of its blocks is the statement's own. -/
def PX (n0 n1 : Nat) (w : World) (e : Ex) (cs : List Value) : Prop := ExL (Sx (n0 + 1) n1) w e cs
def PL (n0 n1 : Nat) (w : World) (l : List St) (v : Value) : Prop := StSlice (Sx (n0 + 1) n1) w l v

variable {e : Ex} {es : List Value} {l : List St} {v : Value}
theorem PX.keep (h : PX n0 n1 w e es) (hk : Keep R w w') (hR : R < n0) : PX n0 n1 w' e es := ExL.still (fun k hk1 hk2 => ⟨hk1, hk.block k hk2 (by have := hk1.1; omega)⟩) e es h
theorem PL.keep (h : PL n0 n1 w l v) (hk : Keep R w w') (hR : R < n0) : PL n0 n1 w' l v := StSlice.still h fun k hk1 hk2 => ⟨hk1, hk.block k hk2 (by have := hk1.1; omega)⟩
theorem PX.set (h : PX n0 n1 w e es) (i : Nat) (u : Value) : PX n0 n1 (w.setCell ⟨n1, i, none⟩ u) e es := ExL.still (fun k hk1 _ => ⟨hk1, Below.heap_setCell w ⟨n1, i, none⟩ u k hk1.2⟩) e es h
theorem PL.set (h : PL n0 n1 w l v) (i : Nat) (u : Value) : PL n0 n1 (w.setCell ⟨n1, i, none⟩ u) l v := StSlice.still h fun k hk1 _ => ⟨hk1, Below.heap_setCell w ⟨n1, i, none⟩ u k hk1.2⟩
/-- A part that was made before the statement's block. -/
theorem PX.early {m : Nat} (h : ExL (From m) w e es) (hm : n0 < m) (o : Obj) : PX n0 w.heap.size (w.alloc o) e es :=
  ExL.still (fun k (hk1 : m ≤ k) hk2 => ⟨⟨by omega, by omega⟩, alloc_blk w o hk2⟩) e es h
/-- A part that was made behind the statement's block. -/
theorem PX.late {m : Nat} (h : ExL (From m) w e es) (hm : n1 < m) (h01 : n0 < n1) : PX n0 n1 w e es := ExL.still (fun k (hk1 : m ≤ k) _ => ⟨⟨by omega, by omega⟩, rfl⟩) e es h
theorem PL.late {m : Nat} (h : StSlice (From m) w l v) (hm : n1 < m) (h01 : n0 < n1) : PL n0 n1 w l v := StSlice.still h fun k (hk1 : m ≤ k) _ => ⟨⟨by omega, by omega⟩, rfl⟩
theorem PX.zero : PX n0 n1 w ex0 [.int .i64 0, .int .i64 0, .string ⟨#[]⟩, .int .i64 0, .int .i64 0, .slice none 0 0] := ex0_at _ _
theorem PL.nil : PL n0 n1 w [] (.slice none 0 0) := sts_nil _ _

/-- The end: the statement is copied to the result. -/
theorem SB.fin {s : St} (h : SB R en n0 n1 toks w0 w ts cs) (hs : StL (Sx (n0 + 1) n1) w s cs) : PP R toks en (VSt w0.heap.size) (.ok s ts) w0 (.returned (.agg cs.toArray)) (w.setRow n0 cs.toArray) := by
  have h1 := h.hR
  have h2 := h.hn
  refine ⟨_, rfl, ⟨cs, rfl, StL.still (fun k hk1 _ => ⟨show w0.heap.size ≤ k by have := hk1.1; omega, setRow_blk w n0 _ (by have := hk1.1; omega)⟩) s cs hs⟩, h.p.setRow h1 _, h.k.setRow (by omega) _⟩

def BlkC (f : Nat) : Prop := ∀ (R en : Nat) (toks ts : List Tok) (w : World) (r : Res (List St)), pBlock f ts = r → r ≠ .out → PSt R toks en w ts →
  Calls Tryd.prog 38 #[.pointer (some ⟨R, 0, none⟩)] w (PP R toks en (VSts w.heap.size) r w)
def StmC (f : Nat) : Prop := ∀ (R en : Nat) (toks ts : List Tok) (w : World) (r : Res St), pStmt f ts = r → r ≠ .out → PSt R toks en w ts →
  Calls Tryd.prog 44 #[.pointer (some ⟨R, 0, none⟩)] w (PP R toks en (VSt w.heap.size) r w)

/-- What follows the word if. -/
def pChoice (f : Nat) (ts : List Tok) : Res St := (pBin f 0 ts).bind fun c t => (pBlock f t).bind fun b t =>
  if txt t = [101, 108, 115, 101] then (pBlock f t.tail).bind fun e t => .ok (.mk 3 [] 0 0 ex0 c b e) t
  else .ok (.mk 3 [] 0 0 ex0 c b []) t
/-- An assignment. -/
def pAssign (f : Nat) (ts : List Tok) : Res St := (nameS ts).bind fun nm t =>
  if txt t = [91] then (pBin f 0 t.tail).bind fun p t => (expectS [93] t).bind fun _ t => (expectS [61] t).bind fun _ t => (pBin f 0 t).bind fun v t => (expectS [59] t).bind fun _ t => .ok (.mk 2 nm 0 0 p v [] []) t
  else (expectS [61] t).bind fun _ t => (pBin f 0 t).bind fun v t => (expectS [59] t).bind fun _ t => .ok (.mk 1 nm 0 0 ex0 v [] []) t
end Go.Proofs.YtdlnpfocmgclmaaDoor
