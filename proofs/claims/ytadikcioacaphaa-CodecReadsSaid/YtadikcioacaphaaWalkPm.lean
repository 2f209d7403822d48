/-
  Lists of pages in memory. No conditions.
-/
import Derived.Test.YtadikcioacaphaaWalkLs
import Derived.Test.YtadikcioacaphaaWalkZa
namespace Go.Proofs.Ytadikcioacaphaa
open Go.RowKit

/-- A page: its number and its cells. -/
abbrev Pg := Int × List Int
/-- Numbers that lie in a block that meets S. -/
def ZsS (S : Nat → Prop) (w : World) (zs : List Int) (A : Option Addr) : Prop :=
  zs.length ≤ 9223372036854775807 ∧ (0 < zs.length → ∃ b o, A = some ⟨b, o, none⟩ ∧ S b ∧ ∀ i, i < zs.length → w.cell? ⟨b, o + i, none⟩ = some (.int .i64 (zs.getD i 0)))
theorem ZsS.at {S : Nat → Prop} {w : World} {zs : List Int} {A : Option Addr} (h : ZsS S w zs A) : ZsAt w zs A zs.length := by
  refine ⟨rfl, h.1, fun h0 => ?_⟩
  obtain ⟨b, o, hA, _, hi⟩ := h.2 h0
  exact ⟨b, o, hA, hi⟩
theorem ZsS.still {S S' : Nat → Prop} {w w' : World} {zs : List Int} {A : Option Addr} (hs : Still S S' w w') (h : ZsS S w zs A) : ZsS S' w' zs A := by
  refine ⟨h.1, fun h0 => ?_⟩
  obtain ⟨b, o, hA, hS, hi⟩ := h.2 h0
  have hb := hs b hS (World.block_lt_of_cell? w _ (hi 0 h0))
  exact ⟨b, o, hA, hb.1, fun i hin => (World.cell?_of_block (w := w) (a := ⟨b, o + i, none⟩) hb.2).trans (hi i hin)⟩
theorem ZsAt.s {w : World} {zs : List Int} {A : Option Addr} {n : Nat} (h : ZsAt w zs A n) : ZsS (fun b => b < w.heap.size) w zs A := by
  obtain ⟨h1, h2, h3⟩ := h
  subst h1
  refine ⟨h2, fun h0 => ?_⟩
  obtain ⟨b, o, hA, hi⟩ := h3 h0
  exact ⟨b, o, hA, World.block_lt_of_cell? w _ (hi 0 h0), hi⟩
/-- Where a page's cells lie: the address and the room. -/
abbrev Sl := Option Addr × Nat
/-- The two cells of each page. -/
def pgC : List Pg → List Sl → List Value
  | p :: r, s :: t => .int .i64 p.1 :: .slice s.1 p.2.length s.2 :: pgC r t
  | _, _ => []
theorem pgC_len : ∀ (ps : List Pg) (ss : List Sl), ss.length = ps.length → (pgC ps ss).length = ps.length * 2
  | [], [], _ => rfl
  | p :: r, s :: t, h => by
    simp only [List.length_cons] at h
    simp only [pgC, List.length_cons, pgC_len r t (by omega)]
    omega
theorem pgC_snoc : ∀ (ps : List Pg) (ss : List Sl) (p : Pg) (s : Sl), ss.length = ps.length → pgC (ps ++ [p]) (ss ++ [s]) = pgC ps ss ++ [.int .i64 p.1, .slice s.1 p.2.length s.2]
  | [], [], _, _, _ => rfl
  | q :: r, u :: t, p, s, h => by
    simp only [List.length_cons] at h
    simp only [List.cons_append, pgC, pgC_snoc r t p s (by omega)]
theorem pgC_one : ∀ (ps : List Pg) (ss : List Sl), ∀ u ∈ pgC ps ss, u.oneCell' = true
  | [], _, u, h => by simp [pgC] at h
  | _ :: _, [], u, h => by simp [pgC] at h
  | p :: r, s :: t, u, h => by
    simp only [pgC, List.mem_cons] at h
    rcases h with rfl | rfl | h
    · rfl
    · rfl
    · exact pgC_one r t u h
theorem pgC_at : ∀ (ps : List Pg) (ss : List Sl) (i : Nat) (p : Pg) (s : Sl), ps[i]? = some p → ss[i]? = some s → (pgC ps ss)[2 * i]? = some (.int .i64 p.1) ∧ (pgC ps ss)[2 * i + 1]? = some (.slice s.1 p.2.length s.2)
  | [], _, _, _, _, h, _ => by simp at h
  | _ :: _, [], _, _, _, _, h => by simp at h
  | q :: r, u :: t, 0, p, s, h, h' => by
    simp only [List.getElem?_cons_zero, Option.some.injEq] at h h'
    subst h h'
    exact ⟨rfl, rfl⟩
  | q :: r, u :: t, i + 1, p, s, h, h' => by
    simp only [List.getElem?_cons_succ] at h h'
    have := pgC_at r t i p s h h'
    simp only [pgC]
    rw [show 2 * (i + 1) = 2 * i + 1 + 1 by omega, List.getElem?_cons_succ, List.getElem?_cons_succ, List.getElem?_cons_succ, List.getElem?_cons_succ]
    exact this
/-- Each page's cells lie in blocks that meet S. -/
def PgAll (S : Nat → Prop) (w : World) : List Pg → List Sl → Prop
  | [], [] => True
  | p :: r, s :: t => (p.2.length ≤ s.2 ∧ ZsS S w p.2 s.1) ∧ PgAll S w r t
  | _, _ => False
theorem PgAll.len {S : Nat → Prop} {w : World} : ∀ {ps : List Pg} {ss : List Sl}, PgAll S w ps ss → ss.length = ps.length
  | [], [], _ => rfl
  | _ :: _, _ :: _, h => by simp only [List.length_cons, PgAll.len h.2]
  | _ :: _, [], h => h.elim
  | [], _ :: _, h => h.elim
theorem PgAll.still {S S' : Nat → Prop} {w w' : World} (hs : Still S S' w w') : ∀ {ps : List Pg} {ss : List Sl}, PgAll S w ps ss → PgAll S' w' ps ss
  | [], [], _ => trivial
  | _ :: _, _ :: _, h => ⟨⟨h.1.1, h.1.2.still hs⟩, PgAll.still hs h.2⟩
  | _ :: _, [], h => h.elim
  | [], _ :: _, h => h.elim
theorem PgAll.snoc {S : Nat → Prop} {w : World} {p : Pg} {s : Sl} (hp : p.2.length ≤ s.2 ∧ ZsS S w p.2 s.1) : ∀ {ps : List Pg} {ss : List Sl}, PgAll S w ps ss → PgAll S w (ps ++ [p]) (ss ++ [s])
  | [], [], _ => ⟨hp, trivial⟩
  | _ :: _, _ :: _, h => ⟨h.1, PgAll.snoc hp h.2⟩
  | _ :: _, [], h => h.elim
  | [], _ :: _, h => h.elim
theorem PgAll.get {S : Nat → Prop} {w : World} : ∀ {ps : List Pg} {ss : List Sl} {i : Nat} {p : Pg}, PgAll S w ps ss → ps[i]? = some p → ∃ s, ss[i]? = some s ∧ p.2.length ≤ s.2 ∧ ZsS S w p.2 s.1
  | [], _, _, _, _, h => by simp at h
  | _ :: _, [], _, _, h, _ => h.elim
  | q :: r, u :: t, 0, p, h, hi => by
    simp only [List.getElem?_cons_zero, Option.some.injEq] at hi
    subst hi
    exact ⟨u, rfl, h.1⟩
  | q :: r, u :: t, i + 1, p, h, hi => by
    simp only [List.getElem?_cons_succ] at hi ⊢
    exact PgAll.get h.2 hi
theorem PgAll.app {S : Nat → Prop} {w : World} : ∀ {ps qs : List Pg} {ss ts : List Sl}, PgAll S w ps ss → PgAll S w qs ts → PgAll S w (ps ++ qs) (ss ++ ts)
  | [], _, [], _, _, h => h
  | _ :: _, _, _ :: _, _, h, h' => ⟨h.1, PgAll.app h.2 h'⟩
  | _ :: _, _, [], _, h, _ => h.elim
  | [], _, _ :: _, _, h, _ => h.elim
theorem PgAll.cut {S : Nat → Prop} {w : World} : ∀ (k : Nat) {ps : List Pg} {ss : List Sl}, PgAll S w ps ss → PgAll S w (ps.take k) (ss.take k) ∧ PgAll S w (ps.drop k) (ss.drop k)
  | 0, _, _, h => by simpa [PgAll] using h
  | _ + 1, [], [], _ => ⟨trivial, trivial⟩
  | k + 1, _ :: _, _ :: _, h => by
    have := PgAll.cut k h.2
    exact ⟨⟨h.1, this.1⟩, this.2⟩
  | _ + 1, _ :: _, [], h => h.elim
  | _ + 1, [], _ :: _, h => h.elim
theorem pgC_app : ∀ (ps qs : List Pg) (ss ts : List Sl), ss.length = ps.length → pgC (ps ++ qs) (ss ++ ts) = pgC ps ss ++ pgC qs ts
  | [], _, [], _, _ => rfl
  | p :: r, qs, s :: t, ts, h => by
    simp only [List.length_cons] at h
    simp only [List.cons_append, pgC, pgC_app r qs t ts (by omega)]

/-- The slice at A with n pages reads as ps; its cells lie in blocks that meet S. -/
def PgAt (S : Nat → Prop) (w : World) (ps : List Pg) (A : Option Addr) (n : Nat) : Prop :=
  n = ps.length ∧ n ≤ 9223372036854775807 ∧ ∃ ss, PgAll S w ps ss ∧ (0 < n → ∃ b o, A = some ⟨b, o, none⟩ ∧ S b ∧ CellsAt w b o (pgC ps ss))
theorem PgAt.still {S S' : Nat → Prop} {w w' : World} {ps : List Pg} {A : Option Addr} {n : Nat} (hs : Still S S' w w') (h : PgAt S w ps A n) : PgAt S' w' ps A n := by
  obtain ⟨h1, h2, ss, h3, h4⟩ := h
  refine ⟨h1, h2, ss, h3.still hs, fun h0 => ?_⟩
  obtain ⟨b, o, hA, hS, hc⟩ := h4 h0
  have hl : 0 < (pgC ps ss).length := by rw [pgC_len ps ss h3.len]; omega
  obtain ⟨v, r, e⟩ := List.exists_cons_of_length_pos hl
  have hb := hs b hS (by rw [e] at hc; exact hc.lt)
  exact ⟨b, o, hA, hb.1, hc.of_block hb.2⟩
theorem PgAt.below {w w' : World} {ps : List Pg} {A : Option Addr} {n : Nat} (h : PgAt (fun _ => True) w ps A n) (hb : Below w.heap.size w w') : PgAt (fun _ => True) w' ps A n :=
  h.still fun b _ hl => ⟨trivial, hb.block b hl⟩
theorem PgAt.belowS {w w' : World} {S : Nat → Prop} {ps : List Pg} {A : Option Addr} {n : Nat} (h : PgAt S w ps A n) (hb : Below w.heap.size w w') : PgAt S w' ps A n :=
  h.still fun b hs hl => ⟨hs, hb.block b hl⟩
theorem PgAt.nil (S : Nat → Prop) (w : World) : PgAt S w [] none 0 := ⟨rfl, by decide, [], trivial, fun h => absurd h (by decide)⟩
theorem PgAt.weak {S : Nat → Prop} {w : World} {ps : List Pg} {A : Option Addr} {n : Nat} (h : PgAt S w ps A n) : PgAt (fun _ => True) w ps A n := h.still fun _ _ _ => ⟨trivial, rfl⟩
/-- Page i. -/
theorem PgAt.get {S : Nat → Prop} {w : World} {ps : List Pg} {A : Option Addr} {n : Nat} (h : PgAt S w ps A n) {i : Nat} (hi : i < n) : ∃ b o p A' c, A = some ⟨b, o, none⟩ ∧ ps[i]? = some p ∧ w.cell? ⟨b, o + i * 2, none⟩ = some (.int .i64 p.1) ∧ w.cell? ⟨b, o + i * 2 + 1, none⟩ = some (.slice A' p.2.length c) ∧ p.2.length ≤ c ∧ ZsS S w p.2 A' := by
  obtain ⟨h1, _, ss, h3, h4⟩ := h
  obtain ⟨b, o, hA, _, hc⟩ := h4 (by omega)
  obtain ⟨p, hp⟩ : ∃ p, ps[i]? = some p := ⟨_, List.getElem?_eq_getElem (by omega)⟩
  obtain ⟨s, hs, hl, hz⟩ := h3.get hp
  have hcc := pgC_at ps ss i p s hp hs
  refine ⟨b, o, p, s.1, s.2, hA, hp, ?_, ?_, hl, hz⟩
  · have := hc _ _ hcc.1; rwa [Nat.mul_comm 2 i] at this
  · have := hc _ _ hcc.2; rwa [Nat.mul_comm 2 i, ← Nat.add_assoc] at this
/-- A list of pages of the call's own. -/
def OwnPg (base : Nat) (S : Nat → Prop) (w : World) (v : Value) (ps : List Pg) : Prop :=
  ∃ ss, w.ownsRow base 70 2 v ps.length (pgC ps ss) ∧ PgAll S w ps ss
theorem OwnPg.slice {base : Nat} {S : Nat → Prop} {w : World} {v : Value} {ps : List Pg} (h : OwnPg base S w v ps) (hm : ps.length ≤ 9223372036854775807) :
    ∃ A c, v = .slice A ps.length c ∧ ps.length ≤ c ∧ PgAt (fun b => S b ∨ base ≤ b) w ps A ps.length := by
  obtain ⟨ss, hr, ha⟩ := h
  have ha' : PgAll (fun b => S b ∨ base ≤ b) w ps ss := ha.still fun b hb _ => ⟨.inl hb, rfl⟩
  rcases hr.2 with ⟨rfl, h0⟩ | ⟨g, cap, cur, rfl, hb, hg, hle, hcap, hsz, htk⟩
  · exact ⟨none, 0, by rw [h0], by omega, rfl, hm, ss, ha', fun h => by omega⟩
  · refine ⟨_, cap, rfl, hle, rfl, hm, ss, ha', fun _ => ⟨g, 0, rfl, .inr hb, fun j u hj => ?_⟩⟩
    have hc := hr.cells (g := g) rfl j u hj
    rwa [Addr.add_lit] at hc
theorem OwnPg.made (base : Nat) (S : Nat → Prop) (w : World) : OwnPg base S w (.slice none 0 0) [] := ⟨[], World.ownsRow_nil _ _ _ _, trivial⟩
theorem OwnPg.bel {base : Nat} {S : Nat → Prop} {w w' : World} {v : Value} {ps : List Pg} (h : OwnPg base S w v ps) (hb : Below w.heap.size w w') : OwnPg base S w' v ps := by
  obtain ⟨ss, hr, ha⟩ := h
  exact ⟨ss, own_bel hr hb, ha.still fun b hS hl => ⟨hS, hb.block b hl⟩⟩
theorem OwnPg.weakS {base : Nat} {S S' : Nat → Prop} {w : World} {v : Value} {ps : List Pg} (h : OwnPg base S w v ps) (hs : ∀ b, S b → b < w.heap.size → S' b) : OwnPg base S' w v ps := by
  obtain ⟨ss, hr, ha⟩ := h
  exact ⟨ss, hr, ha.still fun b hS hl => ⟨hs b hS hl, rfl⟩⟩
theorem infoPg : (Try.prog.info? 70).map (fun i => (i.zero, i.size, i.bytes)) = some (some (.agg #[.int .i64 0, .slice none 0 0]), 2, 32) := by kernel_rfl
/-- T, but not the block of v's own. -/
def Off (T : Nat → Prop) (v : Value) : Nat → Prop := fun b => T b ∧ v.ownBlock ≠ some b
theorem own_zs {w : World} {base L c : Nat} {A : Option Addr} {zs : List Int} (h : w.ownsRow base 3 1 (.slice A L c) L (zs.map (Value.int .i64))) (hL : L ≤ 9223372036854775807) : L = zs.length ∧ L ≤ c ∧ ZsS (fun b => base ≤ b) w zs A := by
  have hz := ZsAt.own h hL
  obtain ⟨h1, h2, h3⟩ := hz
  subst h1
  refine ⟨rfl, ?_, h2, fun h0 => ?_⟩
  · rcases h.2 with ⟨e, h0⟩ | ⟨g, cap, cur, e, _, _, hle, _⟩
    · omega
    · injection e with _ _ e3
      omega
  · obtain ⟨b, o, hA, hi⟩ := h3 h0
    refine ⟨b, o, hA, ?_, hi⟩
    exact (h.lt b (by rw [hA]; rfl)).1
theorem own_base {w : World} {b b' : Nat} {e : TypeId} {size n : Nat} {v : Value} {xs : List Value} (h : w.ownsRow b e size v n xs) (hb : b' ≤ b) : w.ownsRow b' e size v n xs := by
  obtain ⟨h1, h2⟩ := h
  refine ⟨h1, ?_⟩
  rcases h2 with h2 | ⟨g, cap, cur, hv, hg, r⟩
  · exact .inl h2
  · exact .inr ⟨g, cap, cur, hv, Nat.le_trans hb hg, r⟩
theorem page_cells {w : World} {n : Int} {A : Option Addr} {L c : Nat} {T : TypeId} : ∀ j u, ([.int .i64 n, .slice A L c] : List Value)[j]? = some u → (w.alloc (.cells #[.int .i64 n, .slice A L c] T)).cell? ((⟨w.heap.size, 0, none⟩ : Addr).add j) = some u := fun j u hj => by
  rw [Addr.add_lit]; exact new_cells w [.int .i64 n, .slice A L c] T j u hj

/-- A page is put behind others. -/
theorem OwnPg.push {base R : Nat} {wr w1 w3 : World} {ps : List Pg} {v v' : Value} {ss : List Sl} {zs : List Int} {n : Int} {A' : Option Addr} {L c' : Nat} {o : Obj}
    (hbase : base ≤ wr.heap.size) (hR : R < base) (hro : wr.ownsRow base 70 2 v ps.length (pgC ps ss)) (hall : PgAll (Off (fun b => base ≤ b) v) wr ps ss)
    (hk : Keep R wr w1) (hz : w1.ownsRow wr.heap.size 3 1 (.slice A' L c') L (zs.map (Value.int .i64))) (hL : L ≤ 9223372036854775807)
    (hr : w3.ownsRow base 70 2 v' (ps.length + 1) (pgC ps ss ++ [.int .i64 n, .slice A' L c'])) (hg : (w1.alloc o).grownBy w3 v.ownBlock) (hl : v'.ownBlock = v.ownBlock ∨ v'.ownBlock = some (w1.alloc o).heap.size) :
    OwnPg base (Off (fun b => base ≤ b) v') w3 v' (ps ++ [(n, zs)]) := by
  have hlt : ∀ b, v.ownBlock = some b → base ≤ b ∧ b < wr.heap.size := fun b hb => hro.lt b hb
  obtain ⟨hzl, hzc, hzs⟩ := own_zs hz hL
  have s1 := hk.size
  have h2 : PgAll (Off (fun b => base ≤ b) v) (w1.alloc o) ps ss := hall.still fun b hS hb => ⟨hS, (alloc_blk _ _ (by omega)).trans (hk.block b hb (by have := hS.1; omega))⟩
  have h3 : ZsS (Off (fun b => base ≤ b) v) (w1.alloc o) zs A' := hzs.still fun b (hb : wr.heap.size ≤ b) hlt' => ⟨⟨Nat.le_trans hbase hb, fun e => by have := (hlt b e).2; omega⟩, alloc_blk _ _ hlt'⟩
  refine ⟨ss ++ [(A', c')], ?_, ?_⟩
  · rw [List.length_append, pgC_snoc _ _ _ _ hall.len]
    rw [hzl] at hr
    exact hr
  · refine (PgAll.snoc (p := (n, zs)) (s := (A', c')) ⟨by show zs.length ≤ c'; omega, h3⟩ h2).still fun b hS hb => ⟨⟨hS.1, ?_⟩, hg.block b hb fun e => hS.2 e.symm⟩
    rcases hl with e | e
    · rw [e]; exact hS.2
    · rw [e]; intro e2; injection e2 with e2; omega
end Go.Proofs.Ytadikcioacaphaa
