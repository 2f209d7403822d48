/-
  What expr and unary of a parser of package syntax do, as long as binary, unary and primary do what they ought to at lesser bounds. Conditions: the parser lies at block R.
-/
import Derived.Test.YtdlnpfocmgclmaaDoorWalkF
namespace Go.Proofs.YtdlnpfocmgclmaaDoor
open Go.RowKit

def BinC (f : Nat) : Prop := ∀ (n : Nat) (R en : Nat) (toks ts : List Tok) (w : World) (r : Res Ex), n ≤ 5 → pBin f n ts = r → r ≠ .out → PSt R toks en w ts →
  Calls Tryd.prog 59 #[.pointer (some ⟨R, 0, none⟩), .int .i64 n] w (PP R toks en (VEx w.heap.size) r w)
def UnC (f : Nat) : Prop := ∀ (R en : Nat) (toks ts : List Tok) (w : World) (r : Res Ex), pUn f ts = r → r ≠ .out → PSt R toks en w ts →
  Calls Tryd.prog 63 #[.pointer (some ⟨R, 0, none⟩)] w (PP R toks en (VEx w.heap.size) r w)
def PrimC (f : Nat) : Prop := ∀ (R en : Nat) (toks ts : List Tok) (w : World) (r : Res Ex), pPrim f ts = r → r ≠ .out → PSt R toks en w ts →
  Calls Tryd.prog 67 #[.pointer (some ⟨R, 0, none⟩)] w (PP R toks en (VEx w.heap.size) r w)
def ExpC (f : Nat) : Prop := ∀ (R en : Nat) (toks ts : List Tok) (w : World) (r : Res Ex), pBin f 0 ts = r → r ≠ .out → PSt R toks en w ts →
  Calls Tryd.prog 52 #[.pointer (some ⟨R, 0, none⟩)] w (PP R toks en (VEx w.heap.size) r w)

/-- The block of a result that has not been written yet. -/
abbrev exZ : Obj := .cells #[.int .i64 0, .int .i64 0, .string ⟨#[]⟩, .int .i64 0, .int .i64 0, .slice none 0 0] 34

set_option maxHeartbeats 1000000 in
set_option maxRecDepth 100000 in
theorem expr_step (f : Nat) (hB : BinC f) : ExpC f := by
  intro R en toks ts w r hr hne h
  have hR := h.lt
  have HB := fun w' h' => hB 0 R en toks ts w' r (by omega) hr hne h'
  have H := Lib.hid h
  clear h hB hr
  cases r with
  | out => exact absurd rfl hne
  | fail t =>
    clear hne
    have HB' := Lib.hid HB
    clear HB
    go_enter Tryd.func52, Tryd.ntmps52
    go_wp2_with fail
    refine (HB'.out _ (H.out.more _)).mono ?_
    rintro e w1 ⟨rfl, hk⟩
    go_wp2_with fail
    exact ⟨rfl, rfl, ((Keep.refl R w).alloc _).trans hk⟩
  | ok e t =>
    clear hne
    have HB' := Lib.hid HB
    clear HB
    go_enter Tryd.func52, Tryd.ntmps52
    go_wp2_with fail
    refine (HB'.out _ (H.out.more _)).mono ?_
    rintro e w1 ⟨v, rfl, ⟨a, b, s, c, d, A, l, q, rfl, hl⟩, hp, hk⟩
    obtain ⟨c0, c1, c2, c3, c4, c5, f0, f1, f2, f3, f4, f5, hz⟩ := box6 (hk.blk (new_blk w exZ) (by omega))
    have HF := Lib.hid (fin6 (((Keep.refl R w).alloc _).trans hk) rfl hR hp hl (by simp))
    clear hl hp hk
    go_wp2_with fail
    refine bodyPost_ret (v := .agg #[.int .i64 a, .int .i64 b, .string s, .int .i64 c, .int .i64 d, .slice A l q]) ?_ rfl ?_
    · simp [results, Tryd.results52, go_sem, World.cell?_setCell_same, World.cell?_setCell_other, c0, c1, c2, c3, c4, c5]
    · exact HF.out

theorem one_arg {n0 m : Nat} {w : World} {e : Ex} {op : Int} {a b : Int} {s : ByteArray} {c d : Int} {A : Option Addr} {l q : Nat} (h : ExL (From m) w e [.int .i64 a, .int .i64 b, .string s, .int .i64 c, .int .i64 d, .slice A l q]) (hm : n0 < m) (hw : n0 < w.heap.size) (T : TypeId) :
    ExL (From (n0 + 1)) (w.alloc (.cells #[.int .i64 a, .int .i64 b, .string s, .int .i64 c, .int .i64 d, .slice A l q] T)) (.mk op 0 [] 0 0 [e]) [.int .i64 op, .int .i64 0, .string ⟨#[]⟩, .int .i64 0, .int .i64 0, .slice (some ⟨w.heap.size, 0, none⟩) 1 1] := by
  simp only [ExL]
  exact ⟨_, 1, rfl, Nat.le_refl _, fun _ => ⟨_, _, rfl, hw, row1 h (by omega) T⟩⟩

set_option maxHeartbeats 1000000 in
set_option maxRecDepth 100000 in
theorem unary_step (f : Nat) (hU : UnC f) (hP : PrimC f) : UnC (f + 1) := by
  intro R en toks ts w r hr hne h
  have hR := h.lt
  rw [pUn] at hr
  by_cases h0 : symS 5 ts = 0
  · rw [if_pos h0] at hr
    have HP := fun w' h' => hP R en toks ts w' r hr hne h'
    have HP' := Lib.hid HP
    have H := Lib.hid h
    have H0 := Lib.hid h0
    clear h hU hP hr HP h0
    cases r with
    | out => exact absurd rfl hne
    | fail t =>
      clear hne
      go_enter Tryd.func63, Tryd.ntmps63
      go_wp2_with fail
      refine (symbol_any _ _ _ _ _ _ (H.out.more _)).mono ?_
      rintro e w1 (⟨_, rfl, hb⟩ | ⟨hn, _⟩)
      · have H1 := Lib.hid ((H.out.more _).below hb)
        have HB := Lib.hid hb
        clear hb
        go_wp2_with fail
        refine (HP'.out _ H1.out).mono ?_
        rintro e w2 ⟨rfl, hk⟩
        go_wp2_with fail
        exact ⟨rfl, rfl, (((Keep.refl R w).alloc _).trans (Keep.of_below HB.out)).trans hk⟩
      · exact absurd H0.out hn
    | ok e t =>
      clear hne
      go_enter Tryd.func63, Tryd.ntmps63
      go_wp2_with fail
      refine (symbol_any _ _ _ _ _ _ (H.out.more _)).mono ?_
      rintro e w1 (⟨_, rfl, hb⟩ | ⟨hn, _⟩)
      · have H1 := Lib.hid ((H.out.more _).below hb)
        have HB := Lib.hid hb
        clear hb
        go_wp2_with fail
        refine (HP'.out _ H1.out).mono ?_
        rintro e w2 ⟨v, rfl, ⟨a, b, s, c, d, A, l, q, rfl, hl⟩, hp, hk⟩
        have hz1 := HB.out.size
        simp only [new_size] at hz1
        obtain ⟨c0, c1, c2, c3, c4, c5, f0, f1, f2, f3, f4, f5, hz⟩ := box6 (hk.blk (below_blk HB.out (new_blk w exZ)) (by omega))
        have HF := Lib.hid (fin6 ((((Keep.refl R w).alloc _).trans (Keep.of_below HB.out)).trans hk) rfl hR hp hl (by omega))
        clear hl hp hk
        go_wp2_with fail
        refine bodyPost_ret (v := .agg #[.int .i64 a, .int .i64 b, .string s, .int .i64 c, .int .i64 d, .slice A l q]) ?_ rfl ?_
        · simp [results, Tryd.results63, go_sem, World.cell?_setCell_same, World.cell?_setCell_other, c0, c1, c2, c3, c4, c5]
        · exact HF.out
      · exact absurd H0.out hn
  · rw [if_neg h0] at hr
    have HU' : Hid (∀ w', PSt R toks en w' ts.tail → Calls Tryd.prog 63 #[.pointer (some ⟨R, 0, none⟩)] w' (PP R toks en (VEx w'.heap.size) (pUn f ts.tail) w')) := fun w' h' => hU R en toks ts.tail w' _ rfl (fun e => by rw [e] at hr; exact hne hr.symm) h'
    have H := Lib.hid h
    have H0 := Lib.hid h0
    have HR := Lib.hid hr
    have hop : (symS 5 ts != 0) = true := by simpa using h0
    clear h hU hP hr h0
    obtain ⟨r1, hr1⟩ : ∃ r1, pUn f ts.tail = r1 := ⟨_, rfl⟩
    rw [hr1] at HU' HR
    have hne1 : r1 ≠ .out := fun e => by have := HR.out; rw [e] at this; exact hne this.symm
    obtain ⟨op, hop'⟩ : ∃ op, symS 5 ts = op := ⟨_, rfl⟩
    have HOP := Lib.hid hop'
    rw [hop'] at hop
    clear hr1 hop'
    cases r1 with
    | out => exact absurd rfl hne1
    | fail t =>
      clear hne hne1
      have HQ : Hid (r = .fail t) := HR.out.symm
      clear HR
      go_enter Tryd.func63, Tryd.ntmps63
      go_wp2_with fail
      refine (symbol_any _ _ _ _ _ _ (H.out.more _)).mono ?_
      rintro e w1 (⟨hn, _⟩ | ⟨_, rfl, hp, hk⟩)
      · exact absurd hn H0.out
      · have H1 := Lib.hid hp
        have HK := Lib.hid hk
        rw [HOP.out]
        clear hp hk
        go_wp2_with fail
        refine (HU'.out _ H1.out).mono ?_
        rintro e w2 ⟨rfl, hk⟩
        go_wp2_with fail
        rw [HQ.out]
        exact ⟨rfl, rfl, (((Keep.refl R w).alloc _).trans HK.out).trans hk⟩
    | ok e t =>
      clear hne hne1
      have HQ : Hid (r = .ok (.mk (symS 5 ts) 0 [] 0 0 [e]) t) := HR.out.symm
      rw [HOP.out] at HQ
      clear HR
      go_enter Tryd.func63, Tryd.ntmps63
      go_wp2_with fail
      refine (symbol_any _ _ _ _ _ _ (H.out.more _)).mono ?_
      rintro e w1 (⟨hn, _⟩ | ⟨_, rfl, hp, hk⟩)
      · exact absurd hn H0.out
      · have H1 := Lib.hid hp
        have HK := Lib.hid hk
        rw [HOP.out]
        clear hp hk
        go_wp2_with fail
        refine (HU'.out _ H1.out).mono ?_
        rintro e w2 ⟨v, rfl, ⟨a, b, s, c, d, A, l, q, rfl, hl⟩, hp, hk⟩
        have hz1 := HK.out.size
        simp only [new_size] at hz1
        obtain ⟨c0, c1, c2, c3, c4, c5, f0, f1, f2, f3, f4, f5, hz⟩ := box6 (hk.blk (HK.out.blk (new_blk w exZ) (by omega)) (by omega))
        have HF := Lib.hid (fin6 (((((Keep.refl R w).alloc _).trans HK.out).trans hk).alloc _) rfl hR (hp.more _) (one_arg (n0 := w.heap.size) (op := op) hl (by omega) (by omega) 34) (by omega))
        clear hl hp hk
        go_wp2_with fail
        rw [HQ.out]
        refine bodyPost_ret (v := .agg #[.int .i64 op, .int .i64 0, .string ⟨#[]⟩, .int .i64 0, .int .i64 0, .slice (some ⟨w2.heap.size, 0, none⟩) 1 1]) ?_ rfl ?_
        · simp [results, Tryd.results63, go_sem, World.cell?_setCell_same, World.cell?_setCell_other, c0, c1, c2, c3, c4, c5, hz]
        · have := HF.out
          rw [set6_alloc _ _ _ _ _ _ _ _ _ hz] at this
          exact this
end Go.Proofs.YtdlnpfocmgclmaaDoor
