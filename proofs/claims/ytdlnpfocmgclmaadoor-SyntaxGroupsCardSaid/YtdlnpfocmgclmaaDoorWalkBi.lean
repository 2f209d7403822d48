/-
  What binary of a parser of package syntax does, as long as binary and unary do what they ought to at lesser bounds. Conditions: the parser lies at block R.
-/
import Derived.Test.YtdlnpfocmgclmaaDoorWalkPe
import Derived.Deep.RegionHeld3
import Derived.Deep.RegionHeld2
import Derived.Deep.DeepCutAuto
namespace Go.Proofs.YtdlnpfocmgclmaaDoor
open Go.RowKit

set_option maxHeartbeats 400000 in
set_option maxRecDepth 100000 in
theorem closure_any (n : Int) (b2 b3 R en : Nat) (toks ts : List Tok) (w : World) (h : PSt R toks en w ts) (c2 : w.cell? ⟨b2, 0, none⟩ = some (.pointer (some ⟨R, 0, none⟩))) (c3 : w.cell? ⟨b3, 0, none⟩ = some (.int .i64 n)) :
    Calls Tryd.prog 64 #[.pointer (some ⟨b2, 0, none⟩), .pointer (some ⟨b3, 0, none⟩)] w (SymPost R toks en n ts w) := by
  have H := Lib.hid h
  clear h
  go_enter Tryd.func64, Tryd.ntmps64
  go_wp2_with fail
  refine (symbol_any _ _ _ _ _ _ H.out).mono ?_
  rintro e w1 (⟨h0, rfl, hb⟩ | ⟨h0, rfl, hp, hk⟩)
  · have HB := Lib.hid hb
    have H0 := Lib.hid h0
    clear hb h0
    go_wp2_with fail
    go_ret
    exact .inl ⟨H0.out, rfl, HB.out⟩
  · have HP := Lib.hid hp
    have HK := Lib.hid hk
    have H0 := Lib.hid h0
    clear hp hk h0
    go_wp2_with fail
    go_ret
    exact .inr ⟨H0.out, rfl, HP.out, HK.out⟩

/-- From n on, but not k. -/
def Sx (n k : Nat) : Nat → Prop := fun b => n ≤ b ∧ b ≠ k

/-- binary's blocks: the parser, the level, the result and the expression so far. -/
structure BinSt (R en n0 b6 : Nat) (toks : List Tok) (n : Int) (w0 w : World) (ts : List Tok) (e : Ex) (a b : Int) (s : ByteArray) (c d : Int) (A : Option Addr) (l q : Nat) : Prop where
  p : PSt R toks en w ts
  k : Keep R w0 w
  h2 : w.heap[n0]? = some (.cells #[.pointer (some ⟨R, 0, none⟩)] 59 (0, 0))
  h3 : w.heap[n0 + 1]? = some (.cells #[.int .i64 n] 3 (0, 0))
  h4 : w.heap[n0 + 1 + 1]? = some exZ
  h6 : w.heap[b6]? = some (.cells #[.int .i64 a, .int .i64 b, .string s, .int .i64 c, .int .i64 d, .slice A l q] 34 (0, 0))
  hb : n0 + 2 < b6
  hR : R < n0
  hn : n0 = w0.heap.size
  ex : ExL (Sx (n0 + 1 + 1 + 1) b6) w e [.int .i64 a, .int .i64 b, .string s, .int .i64 c, .int .i64 d, .slice A l q]

theorem row2S {S : Nat → Prop} {v : World} {e e' : Ex} {c0 c1 c2 c3 c4 c5 d0 d1 d2 d3 d4 d5 : Value} {T : TypeId} (h : ExL S (v.alloc (.cells #[c0, c1, c2, c3, c4, c5, d0, d1, d2, d3, d4, d5] T)) e [c0, c1, c2, c3, c4, c5])
    (h' : ExL S (v.alloc (.cells #[c0, c1, c2, c3, c4, c5, d0, d1, d2, d3, d4, d5] T)) e' [d0, d1, d2, d3, d4, d5]) : ExRow S (v.alloc (.cells #[c0, c1, c2, c3, c4, c5, d0, d1, d2, d3, d4, d5] T)) [e, e'] v.heap.size 0 := by
  simp only [ExRow, and_true]
  have hn := new_cells v [c0, c1, c2, c3, c4, c5, d0, d1, d2, d3, d4, d5] T
  refine ⟨⟨_, fun j u hj => hn j u ?_, h⟩, ⟨_, fun j u hj => ?_, h'⟩⟩
  · rw [show ([c0, c1, c2, c3, c4, c5, d0, d1, d2, d3, d4, d5] : List Value) = [c0, c1, c2, c3, c4, c5] ++ [d0, d1, d2, d3, d4, d5] from rfl, List.getElem?_append_left (List.getElem?_eq_some_iff.1 hj).1]; exact hj
  · have := hn (6 + j) u (by rw [show ([c0, c1, c2, c3, c4, c5, d0, d1, d2, d3, d4, d5] : List Value) = [c0, c1, c2, c3, c4, c5] ++ [d0, d1, d2, d3, d4, d5] from rfl, List.getElem?_append_right (by simp)]; simpa using hj)
    rw [Nat.zero_add] at this ⊢
    exact this

/-- The expression so far has become the left operand of a new one. -/
theorem BinSt.next {R en n0 b6 : Nat} {toks : List Tok} {n : Int} {w0 wr w5 : World} {ts t3 : List Tok} {e2 e3 : Ex} {a b c d : Int} {s : ByteArray} {A : Option Addr} {l q : Nat} {x0 x1 x3 x4 : Int} {x2 : ByteArray} {x5 : Option Addr} {x6 x7 : Nat} {op : Int}
    (hs : BinSt R en n0 b6 toks n w0 wr ts e2 a b s c d A l q) (hk : Keep R wr w5) (hl : ExL (From wr.heap.size) w5 e3 [.int .i64 x0, .int .i64 x1, .string x2, .int .i64 x3, .int .i64 x4, .slice x5 x6 x7]) (hp : PSt R toks en w5 t3) (w6 : World)
    (h6 : (set6 w5 b6 (.int .i64 op) (.int .i64 0) (.string ⟨#[]⟩) (.int .i64 0) (.int .i64 0) (.slice (some ⟨w5.heap.size, 0, none⟩) 2 2)).alloc (.cells #[.int .i64 a, .int .i64 b, .string s, .int .i64 c, .int .i64 d, .slice A l q, .int .i64 x0, .int .i64 x1, .string x2, .int .i64 x3, .int .i64 x4, .slice x5 x6 x7] 34) = w6) :
    PSt R toks en w6 t3 ∧ w6.cell? ⟨n0, 0, none⟩ = some (.pointer (some ⟨R, 0, none⟩)) ∧ w6.cell? ⟨n0 + 1, 0, none⟩ = some (.int .i64 n) ∧
    ∀ w7 tx, Keep R w6 w7 → PSt R toks en w7 tx → BinSt R en n0 b6 toks n w0 w7 tx (.mk op 0 [] 0 0 [e2, e3]) op 0 ⟨#[]⟩ 0 0 (some ⟨w5.heap.size, 0, none⟩) 2 2 := by
  have hb := hs.hb
  have hR := hs.hR
  have hlt : b6 < wr.heap.size := lt_of_block hs.h6
  have hz := hk.size
  have hsz := set6_size w5 b6 (.int .i64 op) (.int .i64 0) (.string ⟨#[]⟩) (.int .i64 0) (.int .i64 0) (.slice (some ⟨w5.heap.size, 0, none⟩) 2 2)
  have hblk : ∀ k, k ≠ b6 → k < w5.heap.size → w6.heap[k]? = w5.heap[k]? := fun k hk1 hk2 => by
    rw [← h6, alloc_blk _ _ (by rw [hsz]; exact hk2), set6_blk _ _ _ _ _ _ _ _ hk1]
  have hk6 : Keep R w0 w6 := by rw [← h6]; exact ((hs.k.trans hk).set6 (by have := hs.hn; omega) _ _ _ _ _ _).alloc _
  have hp6 : PSt R toks en w6 t3 := hp.up fun k hk1 => hblk k (by omega) (by omega)
  have h2 := (hblk n0 (by omega) (by omega)).trans (hk.blk hs.h2 (by omega))
  have h3 := (hblk (n0 + 1) (by omega) (by omega)).trans (hk.blk hs.h3 (by omega))
  have h4 := (hblk (n0 + 1 + 1) (by omega) (by omega)).trans (hk.blk hs.h4 (by omega))
  have h66 : w6.heap[b6]? = some (.cells #[.int .i64 op, .int .i64 0, .string ⟨#[]⟩, .int .i64 0, .int .i64 0, .slice (some ⟨w5.heap.size, 0, none⟩) 2 2] 34 (0, 0)) := by
    rw [← h6, alloc_blk _ _ (by rw [hsz]; omega)]
    unfold set6
    exact blk_set (blk_set (blk_set (blk_set (blk_set (blk_set (hk.blk hs.h6 (by omega)) 0 _) 1 _) 2 _) 3 _) 4 _) 5 _
  have he2 : ExL (Sx (n0 + 1 + 1 + 1) b6) w6 e2 [.int .i64 a, .int .i64 b, .string s, .int .i64 c, .int .i64 d, .slice A l q] :=
    ExL.still (fun k hk1 hk2 => ⟨hk1, (hblk k hk1.2 (by omega)).trans (hk.block k hk2 (by have := hk1.1; omega))⟩) e2 _ hs.ex
  have he3 : ExL (Sx (n0 + 1 + 1 + 1) b6) w6 e3 [.int .i64 x0, .int .i64 x1, .string x2, .int .i64 x3, .int .i64 x4, .slice x5 x6 x7] :=
    ExL.still (fun k (hk1 : wr.heap.size ≤ k) hk2 => ⟨⟨by omega, by omega⟩, hblk k (by omega) hk2⟩) e3 _ hl
  have hr : ExRow (Sx (n0 + 1 + 1 + 1) b6) w6 [e2, e3] w5.heap.size 0 := by
    rw [← h6] at he2 he3 ⊢
    have := row2S he2 he3
    rw [hsz] at this
    exact this
  have hex : ExL (Sx (n0 + 1 + 1 + 1) b6) w6 (.mk op 0 [] 0 0 [e2, e3]) [.int .i64 op, .int .i64 0, .string ⟨#[]⟩, .int .i64 0, .int .i64 0, .slice (some ⟨w5.heap.size, 0, none⟩) 2 2] := by
    simp only [ExL]
    exact ⟨_, 2, rfl, Nat.le_refl _, fun _ => ⟨_, _, rfl, ⟨by omega, by omega⟩, hr⟩⟩
  refine ⟨hp6, cell_of_one h2, cell_of_one h3, fun w7 tx hk7 hp7 => ⟨hp7, hk6.trans hk7, hk7.blk h2 (by omega), hk7.blk h3 (by omega), hk7.blk h4 (by omega), hk7.blk h66 (by omega), hb, hR, hs.hn, ?_⟩⟩
  exact ExL.still (fun k hk1 hk2 => ⟨hk1, hk7.block k hk2 (by have := hk1.1; omega)⟩) _ _ hex

set_option maxHeartbeats 2000000 in
set_option maxRecDepth 100000 in
theorem binary_unary (f : Nat) (hU : UnC f) (R en : Nat) (toks ts : List Tok) (w : World) (r : Res Ex) (hr : pUn f ts = r) (hne : r ≠ .out) (h : PSt R toks en w ts) :
    Calls Tryd.prog 59 #[.pointer (some ⟨R, 0, none⟩), .int .i64 5] w (PP R toks en (VEx w.heap.size) r w) := by
  have hR := h.lt
  have HU' : Hid (∀ w', PSt R toks en w' ts → Calls Tryd.prog 63 #[.pointer (some ⟨R, 0, none⟩)] w' (PP R toks en (VEx w'.heap.size) r w')) := fun w' h' => hU R en toks ts w' r hr hne h'
  have H := Lib.hid h
  clear h hU hr
  cases r with
  | out => exact absurd rfl hne
  | fail t =>
    clear hne
    go_enter Tryd.func59, Tryd.ntmps59
    go_wp2_with fail
    refine (HU'.out _ (((H.out.more _).more _).more _)).mono ?_
    rintro e w1 ⟨rfl, hk⟩
    go_wp2_with fail
    exact ⟨rfl, rfl, ((((Keep.refl R w).alloc _).alloc _).alloc _).trans hk⟩
  | ok e t =>
    clear hne
    go_enter Tryd.func59, Tryd.ntmps59
    go_wp2_with fail
    have HP := Lib.hid (((H.out.more (.cells #[.pointer (some ⟨R, 0, none⟩)] 59)).more (.cells #[.int .i64 5] 3)).more exZ)
    have HX := Lib.hid (new_blk ((w.alloc (.cells #[.pointer (some ⟨R, 0, none⟩)] 59)).alloc (.cells #[.int .i64 5] 3)) exZ)
    have HK := Lib.hid ((((Keep.refl R w).alloc (.cells #[.pointer (some ⟨R, 0, none⟩)] 59)).alloc (.cells #[.int .i64 5] 3)).alloc exZ)
    have hz3 : (((w.alloc (.cells #[.pointer (some ⟨R, 0, none⟩)] 59)).alloc (.cells #[.int .i64 5] 3)).alloc exZ).heap.size = w.heap.size + 1 + 1 + 1 := by rw [new_size, new_size, new_size]
    rw [new_size, new_size] at HX
    obtain ⟨w3, hw3⟩ : ∃ x, ((w.alloc (.cells #[.pointer (some ⟨R, 0, none⟩)] 59)).alloc (.cells #[.int .i64 5] 3)).alloc exZ = x := ⟨_, rfl⟩
    rw [hw3] at HP HX HK hz3 ⊢
    clear hw3
    refine (HU'.out _ HP.out).mono ?_
    rintro e w1 ⟨v, rfl, ⟨a, b, s, c, d, A, l, q, rfl, hl⟩, hp, hk⟩
    have hz1 := hk.size
    obtain ⟨c0, c1, c2, c3, c4, c5, f0, f1, f2, f3, f4, f5, hz⟩ := box6 (hk.blk HX.out (by omega))
    have HF := Lib.hid (fin7 (n := w.heap.size + 1 + 1) (HK.out.trans hk) (by omega) (by omega) hp hl (by omega))
    clear hp hk hl
    go_wp2_with fail
    refine bodyPost_ret (v := .agg #[.int .i64 a, .int .i64 b, .string s, .int .i64 c, .int .i64 d, .slice A l q]) ?_ rfl ?_
    · simp [results, Tryd.results59, go_sem, World.cell?_setCell_same, World.cell?_setCell_other, c0, c1, c2, c3, c4, c5]
    · exact HF.out

/-- What is left behind symbol. -/
def aft (n : Int) (ts : List Tok) : List Tok := if symS n ts = 0 then ts else ts.tail

theorem closure_at (n : Int) (b2 b3 R en : Nat) (toks ts : List Tok) (w : World) (h : PSt R toks en w ts) (c2 : w.cell? ⟨b2, 0, none⟩ = some (.pointer (some ⟨R, 0, none⟩))) (c3 : w.cell? ⟨b3, 0, none⟩ = some (.int .i64 n)) :
    Calls Tryd.prog 64 #[.pointer (some ⟨b2, 0, none⟩), .pointer (some ⟨b3, 0, none⟩)] w fun e w' => e = .returned (.int .i64 (symS n ts)) ∧ PSt R toks en w' (aft n ts) ∧ Keep R w w' :=
  (closure_any n b2 b3 R en toks ts w h c2 c3).mono fun e w' hh => by
    rcases hh with ⟨h0, he, hb⟩ | ⟨h0, he, hp, hk⟩
    · exact ⟨by rw [he, h0], by unfold aft; rw [if_pos h0]; exact h.below hb, Keep.of_below hb⟩
    · exact ⟨he, by unfold aft; rw [if_neg h0]; exact hp, hk⟩

/-- The loop's head. -/
def BinHead (R en n0 b6 : Nat) (toks : List Tok) (n : Nat) (r : Res Ex) (w0 : World) (g : Nat) (v7 : Value) (wr : World) : Prop :=
  ∃ e tc a b s c d A l q, v7 = .int .i64 (symS n tc) ∧ pLoop g n e tc = r ∧ BinSt R en n0 b6 toks n w0 wr (aft n tc) e a b s c d A l q

set_option maxHeartbeats 4000000 in
set_option maxRecDepth 100000 in
theorem binary_more (f : Nat) (hB : ∀ g, g ≤ f → BinC g) (n R en : Nat) (hn : n ≤ 4) (toks ts : List Tok) (w : World) (r : Res Ex) (hr : (pBin f (n + 1) ts).bind (fun e t => pLoop f n e t) = r) (hne : r ≠ .out) (h : PSt R toks en w ts) :
    Calls Tryd.prog 59 #[.pointer (some ⟨R, 0, none⟩), .int .i64 n] w (PP R toks en (VEx w.heap.size) r w) := by
  have hR := h.lt
  have HB : Hid (∀ g tc w' r1, g ≤ f → pBin g (n + 1) tc = r1 → r1 ≠ .out → PSt R toks en w' tc → Calls Tryd.prog 59 #[.pointer (some ⟨R, 0, none⟩), .int .i64 ((n : Int) + 1)] w' (PP R toks en (VEx w'.heap.size) r1 w')) :=
    fun g tc w' r1 hg e1 n1 h' => by have := hB g hg (n + 1) R en toks tc w' r1 (by omega) e1 n1 h'; rwa [Int.natCast_add] at this
  have H := Lib.hid h
  have HNE := Lib.hid hne
  have hn5 : ((n : Int) == 5) = false := by simp; omega
  have hmf : ∀ (fn : Fn) (first cap : Array Value) (w : World), (Instr.makeFunc fn first cap).run Tryd.prog w = .ok (.func fn first cap) w := fun _ _ _ _ => rfl
  have HR := Lib.hid hr
  clear h hB hne hr
  obtain ⟨r1, hr1⟩ : ∃ r1, pBin f (n + 1) ts = r1 := ⟨_, rfl⟩
  have HR1 := Lib.hid hr1
  rw [hr1] at HR
  have hne1 : r1 ≠ .out := fun e => by have := HR.out; rw [e] at this; exact HNE.out this.symm
  have HC : Hid (∀ w', PSt R toks en w' ts → Calls Tryd.prog 59 #[.pointer (some ⟨R, 0, none⟩), .int .i64 ((n : Int) + 1)] w' (PP R toks en (VEx w'.heap.size) r1 w')) := fun w' h' => HB.out f ts w' r1 (Nat.le_refl _) hr1 hne1 h'
  clear hr1 HR1
  have HP := Lib.hid (((H.out.more (.cells #[.pointer (some ⟨R, 0, none⟩)] 59)).more (.cells #[.int .i64 n] 3)).more exZ)
  have HX := Lib.hid (new_blk ((w.alloc (.cells #[.pointer (some ⟨R, 0, none⟩)] 59)).alloc (.cells #[.int .i64 n] 3)) exZ)
  have HX3 : Hid ((((w.alloc (.cells #[.pointer (some ⟨R, 0, none⟩)] 59)).alloc (.cells #[.int .i64 n] 3)).alloc exZ).heap[w.heap.size + 1]? = some (.cells #[.int .i64 n] 3 (0, 0))) := by
    show _ = _
    have h1 := new_blk (w.alloc (.cells #[.pointer (some ⟨R, 0, none⟩)] 59)) (.cells #[.int .i64 n] 3)
    rw [new_size] at h1
    rw [alloc_blk _ _ (by simp only [new_size]; omega), h1]
  have HX2 : Hid ((((w.alloc (.cells #[.pointer (some ⟨R, 0, none⟩)] 59)).alloc (.cells #[.int .i64 n] 3)).alloc exZ).heap[w.heap.size]? = some (.cells #[.pointer (some ⟨R, 0, none⟩)] 59 (0, 0))) := by
    show _ = _
    rw [alloc_blk _ _ (by simp only [new_size]; omega), alloc_blk _ _ (by simp only [new_size]; omega), new_blk]
  have HK := Lib.hid ((((Keep.refl R w).alloc (.cells #[.pointer (some ⟨R, 0, none⟩)] 59)).alloc (.cells #[.int .i64 n] 3)).alloc exZ)
  have hz3 : (((w.alloc (.cells #[.pointer (some ⟨R, 0, none⟩)] 59)).alloc (.cells #[.int .i64 n] 3)).alloc exZ).heap.size = w.heap.size + 1 + 1 + 1 := by rw [new_size, new_size, new_size]
  rw [new_size, new_size] at HX
  go_enter Tryd.func59, Tryd.ntmps59
  go_wp2_with fail
  obtain ⟨w3, hw3⟩ : ∃ x, ((w.alloc (.cells #[.pointer (some ⟨R, 0, none⟩)] 59)).alloc (.cells #[.int .i64 n] 3)).alloc exZ = x := ⟨_, rfl⟩
  rw [hw3] at HP HX HX2 HX3 HK hz3 ⊢
  clear hw3
  refine (HC.out _ HP.out).mono ?_
  clear HC
  cases r1 with
  | out => exact absurd rfl hne1
  | fail t =>
    rintro e w1 ⟨rfl, hk⟩
    have HQ : Hid (r = .fail t) := HR.out.symm
    go_wp2_with fail
    rw [HQ.out]
    exact ⟨rfl, rfl, HK.out.trans hk⟩
  | ok e1 t1 =>
    rintro e w1 ⟨v, rfl, ⟨a, b, s, c, d, A, l, q, rfl, hl⟩, hp, hk⟩
    have hz1 := hk.size
    have HP1 := Lib.hid (hp.more (.cells #[.int .i64 a, .int .i64 b, .string s, .int .i64 c, .int .i64 d, .slice A l q] 34))
    have HA1 := Lib.hid hk
    have HL1 := Lib.hid hl
    clear hp hk hl
    have C2 := Lib.hid (cell_of_one ((alloc_blk w1 (.cells #[.int .i64 a, .int .i64 b, .string s, .int .i64 c, .int .i64 d, .slice A l q] 34) (by omega)).trans (HA1.out.blk HX2.out (by omega))))
    have C3 := Lib.hid (cell_of_one ((alloc_blk w1 (.cells #[.int .i64 a, .int .i64 b, .string s, .int .i64 c, .int .i64 d, .slice A l q] 34) (by omega)).trans (HA1.out.blk HX3.out (by omega))))
    go_wp2_with fail
    refine (closure_at _ _ _ _ _ _ _ _ HP1.out C2.out C3.out).mono ?_
    rintro e w2 ⟨rfl, hp, hk⟩
    have hz2 := hk.size
    rw [new_size] at hz2
    have HS : Hid (BinSt R en w.heap.size w1.heap.size toks n w w2 (aft n t1) e1 a b s c d A l q) :=
      ⟨hp, ((HK.out.trans HA1.out).alloc _).trans hk, hk.blk ((alloc_blk w1 _ (by omega)).trans (HA1.out.blk HX2.out (by omega))) (by omega), hk.blk ((alloc_blk w1 _ (by omega)).trans (HA1.out.blk HX3.out (by omega))) (by omega),
       hk.blk ((alloc_blk w1 _ (by omega)).trans (HA1.out.blk HX.out (by omega))) (by omega), hk.blk (new_blk w1 _) (by omega), by omega, hR, rfl,
       ExL.still (S := From w3.heap.size) (fun k hk' hlt => ⟨⟨by have : w3.heap.size ≤ k := hk'; omega, by omega⟩, (hk.block k (by rw [new_size]; omega) (by have : w3.heap.size ≤ k := hk'; omega)).trans (alloc_blk w1 _ hlt)⟩) e1 _ HL1.out⟩
    clear hp hk HP1 HA1 HL1 C2 C3 HP HX HX2 HX3 HK
    have HR2 : Hid (pLoop f n e1 t1 = r) := HR.out
    clear HR
    obtain ⟨b6, hb6⟩ : ∃ x, w1.heap.size = x := ⟨_, rfl⟩
    rw [hb6] at HS ⊢
    clear hb6 hz1 hz2
    go_wp2_with fail
    go_loopg [7] f (fun g v7 wr => g ≤ f ∧ BinHead R en w.heap.size b6 toks n r w g v7 wr)
    case atStart => exact ⟨Nat.le_refl _, e1, t1, a, b, s, c, d, A, l, q, rfl, HR2.out, HS.out⟩
    case round =>
      obtain ⟨hgf, e2, tc, a', b', s', c', d', A', l', q', rfl, hl, hs⟩ := hrel
      have HL := Lib.hid hl
      have HS2 := Lib.hid hs
      have hb6 := hs.hb
      have C2 := cell_of_one hs.h2
      have C3 := cell_of_one hs.h3
      obtain ⟨d0, d1, d2, d3, d4, d5, g0, g1, g2, g3, g4, g5, hz⟩ := box6 hs.h6
      clear hl hs HS HR2
      cases gk with
      | zero => exact absurd HL.out.symm HNE.out
      | succ g =>
        by_cases h0 : symS n tc = 0
        · have ht : (symS n tc != 0) = false := by simp [h0]
          have HQ : Hid (r = .ok e2 tc) := by
            have := HL.out
            rw [pLoop, if_pos h0] at this; exact this.symm
          have HT : Hid (aft n tc = tc) := by show _ = _; unfold aft; rw [if_pos h0]
          obtain ⟨c0, c1, c2, c3, c4, c5, f0, f1, f2, f3, f4, f5, hz'⟩ := box6 HS2.out.h4
          clear h0 HL
          go_wp2_with fail
          rw [HQ.out]
          refine bodyPost_ret (v := .agg #[.int .i64 a', .int .i64 b', .string s', .int .i64 c', .int .i64 d', .slice A' l' q']) ?_ rfl ?_
          · simp [results, Tryd.results59, go_sem, World.cell?_setCell_same, World.cell?_setCell_other, c0, c1, c2, c3, c4, c5]
          · have hp := HS2.out.p
            rw [HT.out] at hp
            exact ⟨_, rfl, ⟨a', b', s', c', d', A', l', q', rfl, ExL.still (fun k hk hlt => ⟨show w.heap.size ≤ k by have := hk.1; omega, set6_blk wr (w.heap.size + 1 + 1) _ _ _ _ _ _ (by have := hk.1; omega)⟩) e2 _ HS2.out.ex⟩, hp.set6 (n := w.heap.size + 1 + 1) (by omega) _ _ _ _ _ _, HS2.out.k.set6 (n := w.heap.size + 1 + 1) (by omega) _ _ _ _ _ _⟩
        · have ht : (symS n tc != 0) = true := by simpa using h0
          obtain ⟨r1, hr1⟩ : ∃ r1, pBin g (n + 1) tc.tail = r1 := ⟨_, rfl⟩
          have HQ : Hid (r1.bind (fun e2' t => pLoop g n (.mk (symS n tc) 0 [] 0 0 [e2, e2']) t) = r) := by
            have := HL.out
            rw [pLoop, if_neg h0, hr1] at this; exact this
          have hne1 : r1 ≠ .out := fun e => by have := HQ.out; rw [e] at this; exact HNE.out this.symm
          have HC : Hid (∀ w', PSt R toks en w' tc.tail → Calls Tryd.prog 59 #[.pointer (some ⟨R, 0, none⟩), .int .i64 ((n : Int) + 1)] w' (PP R toks en (VEx w'.heap.size) r1 w')) := fun w' h' => HB.out g tc.tail w' r1 (by omega) hr1 hne1 h'
          have HP : Hid (PSt R toks en wr tc.tail) := by have := HS2.out.p; unfold aft at this; rw [if_neg h0] at this; exact this
          clear h0 HL hr1
          cases r1 with
          | out => exact absurd rfl hne1
          | fail t =>
            have HQ' : Hid (r = .fail t) := HQ.out.symm
            clear HQ hne1
            go_wp2_with fail
            clear hmf hn5 g0 g1 g2 g3 g4 g5
            have hwr : IntKind.i64.wrap ((n : Int) + 1) = (n : Int) + 1 := by rw [IntKind.wrap_i64]; omega
            refine wp_region_held_drew (S := fun w' => w'.cell? ⟨b6, 0, none⟩ = some (.int .i64 a') ∧ w'.cell? ⟨b6, 1, none⟩ = some (.int .i64 b') ∧ w'.cell? ⟨b6, 2, none⟩ = some (.string s') ∧ w'.cell? ⟨b6, 3, none⟩ = some (.int .i64 c') ∧ w'.cell? ⟨b6, 4, none⟩ = some (.int .i64 d') ∧ w'.cell? ⟨b6, 5, none⟩ = some (.slice A' l' q') ∧ w'.cell? ⟨w.heap.size, 0, none⟩ = some (.pointer (some ⟨R, 0, none⟩)) ∧ w'.cell? ⟨w.heap.size + 1, 0, none⟩ = some (.int .i64 n)) (by kernel_rfl) ⟨d0, d1, d2, d3, d4, d5, C2, C3⟩ (fun hS => ?_)
            refine wpAnyH_take (i := 0) (v := ?_) rfl (by kernel_rfl) (by kernel_rfl) (by kernel_rfl) (fun _ _ _ h => h) (Or.inl ⟨by rfl, ?_⟩) hS ?_
            rotate_left
            · intro w6 h6; obtain ⟨i0, i1, i2, i3, i4, i5, i6, i7⟩ := h6; go_simp; try with_reducible rfl
            simp only [Act.put, List.setIfInBounds_toArray]
            refine wpAnyH_take (i := 1) (v := ?_) rfl (by kernel_rfl) (by kernel_rfl) (by kernel_rfl) (fun _ _ _ h => h) (Or.inl ⟨by rfl, ?_⟩) hS ?_
            rotate_left
            · intro w6 h6; obtain ⟨i0, i1, i2, i3, i4, i5, i6, i7⟩ := h6; go_simp; try with_reducible rfl
            simp only [Act.put]
            refine wpAnyH_take (i := 2) (v := ?_) rfl (by kernel_rfl) (by kernel_rfl) (by kernel_rfl) (fun _ _ _ h => h) (Or.inl ⟨by rfl, ?_⟩) hS ?_
            rotate_left
            · intro w6 h6; obtain ⟨i0, i1, i2, i3, i4, i5, i6, i7⟩ := h6; go_simp; try with_reducible rfl
            simp only [Act.put]
            refine wpAnyH_take (i := 3) (v := ?_) rfl (by kernel_rfl) (by kernel_rfl) (by kernel_rfl) (fun _ _ _ h => h) (Or.inl ⟨by rfl, ?_⟩) hS ?_
            rotate_left
            · intro w6 h6; obtain ⟨i0, i1, i2, i3, i4, i5, i6, i7⟩ := h6; go_simp; try with_reducible rfl
            simp only [Act.put]
            refine wpAnyH_take (i := 4) (v := ?_) rfl (by kernel_rfl) (by kernel_rfl) (by kernel_rfl) (fun _ _ _ h => h) (Or.inl ⟨by rfl, ?_⟩) hS ?_
            rotate_left
            · intro w6 h6; obtain ⟨i0, i1, i2, i3, i4, i5, i6, i7⟩ := h6; go_simp; try with_reducible rfl
            simp only [Act.put]
            refine wpAnyH_ready (rs := [5]) (by kernel_rfl) (by simp) ?_
            refine AllReadyH.cons rfl (fun K hK => ?_) AllReadyH.nil
            go_simp
            refine (HC.out _ ?_).mono ?_
            · exact HP.out.up fun _ _ => rfl
            rintro e w5 ⟨rfl, hk⟩
            exact ⟨rfl, (by rw [HQ'.out]; exact ⟨rfl, HS2.out.k.drew.trans hk⟩)⟩
          | ok e3 t3 =>
            have HQ' : Hid (pLoop g n (.mk (symS n tc) 0 [] 0 0 [e2, e3]) t3 = r) := HQ.out
            clear HQ hne1
            go_wp2_with fail
            clear hmf hn5 g0 g1 g2 g3 g4 g5
            have hwr : IntKind.i64.wrap ((n : Int) + 1) = (n : Int) + 1 := by rw [IntKind.wrap_i64]; omega
            go_region_with ((go_at_call 59; ((with_reducible refine (HC.out _ ?_).mono ?_)); (exact HP.out.up fun _ _ => rfl); rintro e w5 ⟨v, rfl, ⟨x0, x1, x2, x3, x4, x5, x6, x7, rfl, hl⟩, hp, hk⟩; obtain ⟨y0, y1, y2, y3, y4, y5, k0, k1, k2, k3, k4, k5, hz5⟩ := box6 (hk.blk (w := wr.drew) HS2.out.h6 (by omega)); have HL5 := Lib.hid hl; have HP5 := Lib.hid hp; have HK5 := Lib.hid hk; clear hk hp hl))
            all_goals
              clear y0 y1 y2 y3 y4 y5 k0 k1 k2 k3 k4 k5 d0 d1 d2 d3 d4 d5 C2 C3 hwr
              have HN := Lib.hid (BinSt.next (op := symS n tc) (w5 := w5) HS2.out ((Keep.refl R wr).drew.trans HK5.out) HL5.out HP5.out _ rfl)
              go_wp2_with fail
              refine (closure_at _ _ _ _ _ _ _ _ HN.out.1 HN.out.2.1 HN.out.2.2.1).mono ?_
              rintro e w7 ⟨rfl, hp7, hk7⟩
              have HS7 := Lib.hid (HN.out.2.2.2 w7 _ hk7 hp7)
              clear hp7 hk7
              go_wp2_with fail
              go_roundg g
              case rel => exact ⟨by omega, _, t3, _, _, _, _, _, _, _, _, rfl, HQ'.out, HS7.out⟩
              case measure => omega

theorem binary_step (f : Nat) (hB : ∀ g, g ≤ f → BinC g) (hU : UnC f) : BinC (f + 1) := by
  intro n R en toks ts w r hn hr hne h
  rw [pBin] at hr
  by_cases h5 : n = 5
  · subst h5
    rw [if_pos rfl] at hr
    exact binary_unary f hU R en toks ts w r hr hne h
  · rw [if_neg h5] at hr
    exact binary_more f hB n R en (by omega) toks ts w r hr hne h

theorem ex_all : ∀ f, ∀ g, g ≤ f → BinC g ∧ UnC g ∧ PrimC g
  | 0, g, hg => by
    obtain rfl : g = 0 := by omega
    exact ⟨fun n R en toks ts w r _ hr hne _ => absurd hr.symm hne, fun R en toks ts w r hr hne _ => absurd hr.symm hne, fun R en toks ts w r hr hne _ => absurd hr.symm hne⟩
  | f + 1, g, hg => by
    by_cases h : g ≤ f
    · exact ex_all f g h
    · obtain rfl : g = f + 1 := by omega
      have ih := ex_all f
      exact ⟨binary_step f (fun g hg => (ih g hg).1) (ih f (Nat.le_refl _)).2.1, unary_step f (ih f (Nat.le_refl _)).2.1 (ih f (Nat.le_refl _)).2.2, prim_step f (expr_step f (ih f (Nat.le_refl _)).1)⟩

/-- What expr does. -/
theorem exp_all (f : Nat) : ExpC f := expr_step f (ex_all f f (Nat.le_refl _)).1
end Go.Proofs.YtdlnpfocmgclmaaDoor
