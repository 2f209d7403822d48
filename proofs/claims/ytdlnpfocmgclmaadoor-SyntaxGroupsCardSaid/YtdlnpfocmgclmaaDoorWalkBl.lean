/-
  What block of a parser of package syntax does, as long as statement does what it ought to at lesser bounds. Conditions: the parser lies at block R.
-/
import Derived.Test.YtdlnpfocmgclmaaDoorWalkSt
import Derived.Test.YtdlnpfocmgclmaaDoorMathQ
import Derived.Maps.AppendAt
namespace Go.Proofs.YtdlnpfocmgclmaaDoor
open Go.RowKit

/-- Statements and their cells. -/
def StAll (S : Nat → Prop) (w : World) : List St → List (List Value) → Prop
  | [], [] => True
  | s :: r, c :: cs => StL S w s c ∧ StAll S w r cs
  | _, _ => False

theorem StAll.still {S S' : Nat → Prop} {w w' : World} (hs : Still S S' w w') : ∀ (l : List St) (css : List (List Value)), StAll S w l css → StAll S' w' l css
  | [], [], _ => trivial
  | _ :: _, [], h => h.elim
  | [], _ :: _, h => h.elim
  | s :: r, c :: cs, h => ⟨StL.still hs s c h.1, StAll.still hs r cs h.2⟩
theorem StAll.snoc {S : Nat → Prop} {w : World} {s : St} {c : List Value} (hs : StL S w s c) : ∀ (l : List St) (css : List (List Value)), StAll S w l css → StAll S w (l ++ [s]) (css ++ [c])
  | [], [], _ => ⟨hs, trivial⟩
  | _ :: _, [], h => h.elim
  | [], _ :: _, h => h.elim
  | _ :: r, _ :: cs, h => ⟨h.1, StAll.snoc hs r cs h.2⟩
theorem StAll.row {S : Nat → Prop} {w : World} {g : Nat} : ∀ (l : List St) (css : List (List Value)) (o : Nat), StAll S w l css → CellsAt w g o css.flatten → StRow S w l g o
  | [], [], o, _, _ => by simp only [StRow]
  | _ :: _, [], _, h, _ => h.elim
  | [], _ :: _, _, h, _ => h.elim
  | s :: r, c :: cs, o, h, hc => by
    have hl := h.1.shape.1
    simp only [StRow]
    refine ⟨⟨c, fun j u hj => hc j u ?_, h.1⟩, StAll.row r cs (o + 18) h.2 fun j u hj => ?_⟩
    · rw [List.flatten_cons, List.getElem?_append_left (List.getElem?_eq_some_iff.1 hj).1]; exact hj
    · have := hc (18 + j) u (by rw [List.flatten_cons, List.getElem?_append_right (by omega), hl]; simpa using hj)
      rw [← Nat.add_assoc] at this; exact this

/-- From n on, but not the block of v's own. -/
def Sv (n : Nat) (v : Value) : Nat → Prop := fun b => n ≤ b ∧ v.ownBlock ≠ some b

theorem own_keep {R : Nat} {w w' : World} {base : Nat} {e : TypeId} {size : Nat} {v : Value} {n : Nat} {xs : List Value} (h : w.ownsRow base e size v n xs) (hk : Keep R w w') (hR : R < base) : w'.ownsRow base e size v n xs := by
  obtain ⟨h1, h2⟩ := h
  refine ⟨h1, ?_⟩
  rcases h2 with h2 | ⟨g, cap, cur, hv, hg, hh, r⟩
  · exact .inl h2
  · exact .inr ⟨g, cap, cur, hv, hg, hk.blk hh (by omega), r⟩

/-- A slice of the call's own, all of whose statements are known, reads as their list. -/
theorem own_sts {w : World} {n0 : Nat} {v : Value} {acc : List St} {css : List (List Value)} (h : w.ownsRow n0 36 18 v acc.length css.flatten) (ha : StAll (Sv n0 v) w acc css) : VSts n0 w acc v := by
  rcases h.2 with ⟨rfl, h0⟩ | ⟨g, cap, cur, rfl, hb, hg, hle, hcap, hsz, htk⟩
  · rw [List.length_eq_zero_iff.1 h0]; exact ⟨none, 0, rfl, Nat.le_refl _, fun h => absurd rfl h⟩
  · refine ⟨_, cap, rfl, hle, fun _ => ⟨g, 0, rfl, hb, ?_⟩⟩
    have hc := h.cells (g := g) rfl
    have ha' : StAll (From n0) w acc css := StAll.still (fun b hb' _ => ⟨hb'.1, rfl⟩) acc css ha
    exact StAll.row acc css 0 ha' fun j u hj => by
      have := hc j u hj
      rwa [show (⟨g, 0, none⟩ : Addr).add j = ⟨g, 0 + j, none⟩ from by unfold Addr.add; split <;> simp_all] at this

theorem infoSt3 : (Tryd.prog.info? 36).map (fun i => (i.zero, i.size, i.bytes)) = some (some (.agg #[.int .i64 0, .string ⟨#[]⟩, .int .i64 0, .int .i64 0, .int .i64 0, .int .i64 0, .string ⟨#[]⟩, .int .i64 0, .int .i64 0, .slice none 0 0, .int .i64 0, .int .i64 0, .string ⟨#[]⟩, .int .i64 0, .int .i64 0, .slice none 0 0, .slice none 0 0, .slice none 0 0]), 18, 232) := by kernel_rfl

/-- The eighteen cells of a statement, one by one. -/
theorem StL.plain {S : Nat → Prop} {w : World} {s : St} {cs : List Value} (h : StL S w s cs) : ∃ (x0 : Int) (x1 : ByteArray) (x2 x3 x4 x5 : Int) (x6 : ByteArray) (x7 x8 : Int) (A1 : Option Addr) (l1 q1 : Nat) (y4 y5 : Int) (y6 : ByteArray) (y7 y8 : Int) (A2 : Option Addr) (l2 q2 : Nat) (A3 : Option Addr) (l3 q3 : Nat) (A4 : Option Addr) (l4 q4 : Nat),
    cs = [.int .i64 x0, .string x1, .int .i64 x2, .int .i64 x3, .int .i64 x4, .int .i64 x5, .string x6, .int .i64 x7, .int .i64 x8, .slice A1 l1 q1, .int .i64 y4, .int .i64 y5, .string y6, .int .i64 y7, .int .i64 y8, .slice A2 l2 q2, .slice A3 l3 q3, .slice A4 l4 q4] := by
  cases s with
  | mk kind name slot size place value body els =>
  simp only [StL] at h
  obtain ⟨cp, cv, A, c, A', c', rfl, h1, h2, _⟩ := h
  cases place
  cases value
  simp only [ExL] at h1 h2
  obtain ⟨B, d, rfl, _⟩ := h1
  obtain ⟨B', d', rfl, _⟩ := h2
  exact ⟨_, _, _, _, _, _, _, _, _, _, _, _, _, _, _, _, _, _, _, _, _, _, _, _, _, _, rfl⟩

/-- The loop's head. -/
def BlkHead (R en n0 : Nat) (toks : List Tok) (r : Res (List St)) (w0 : World) (g : Nat) (v : Value) (wr : World) : Prop :=
  ∃ acc css tc, pStmts g acc tc = r ∧ PSt R toks en wr tc ∧ Keep R w0 wr ∧ wr.ownsRow n0 36 18 v acc.length css.flatten ∧ StAll (Sv n0 v) wr acc css ∧ acc.length + tc.length ≤ 100000

theorem PSt.len2 {R en : Nat} {toks ts : List Tok} {w : World} (h : PSt R toks en w ts) : ts.length ≤ 100000 := by
  obtain ⟨k, h1, _⟩ := h.at'
  have := h.len
  omega

/-- A statement more. -/
theorem BlkHead.next {R en n0 g : Nat} {toks : List Tok} {r : Res (List St)} {w0 wr w2 w3 : World} {v v' : Value} {acc : List St} {css : List (List Value)} {tc t : List Tok} {s : St} {cs : List Value} {o : Obj}
    (hR : R < n0) (hn : n0 ≤ wr.heap.size) (h1 : pStmts g (acc ++ [s]) t = r) (hp : PSt R toks en w2 t) (hk0 : Keep R w0 wr) (ha : StAll (Sv n0 v) wr acc css) (hlen : acc.length + tc.length ≤ 100000) (hlt : t.length < tc.length) (hown0 : wr.ownsRow n0 36 18 v acc.length css.flatten)
    (hk : Keep R wr w2) (hs : StL (From wr.heap.size) w2 s cs) (hb0 : w0.heap.size ≤ n0)
    (hown : w3.ownsRow n0 36 18 v' (acc.length + 1) (css.flatten ++ cs)) (hg : (w2.alloc o).grownBy w3 v.ownBlock) (hob : v'.ownBlock = v.ownBlock ∨ v'.ownBlock = some (w2.heap.size + 1)) :
    BlkHead R en n0 toks r w0 g v' w3 := by
  have hz := hk.size
  have hob2 : ∀ b, v.ownBlock = some b → n0 ≤ b ∧ b < wr.heap.size := fun b hb => by
    rcases hown0.2 with ⟨rfl, _⟩ | ⟨g, cap, cur, rfl, h2, h3, _⟩
    · cases hb
    · simp only [Value.ownBlock, Option.some.injEq] at hb; subst hb; exact ⟨h2, lt_of_block h3⟩
  have hblk : ∀ k, k < w2.heap.size → v.ownBlock ≠ some k → w3.heap[k]? = w2.heap[k]? := fun k hk1 hk2 =>
    (hg.block k (by rw [new_size]; omega) (fun e => hk2 e.symm)).trans (alloc_blk w2 o hk1)
  have hnot : ∀ k, k < w2.heap.size → v.ownBlock ≠ some k → v'.ownBlock ≠ some k := fun k hk1 hk2 h => by
    rcases hob with h' | h'
    · exact hk2 (h' ▸ h)
    · rw [h'] at h; injection h with h; omega
  refine ⟨acc ++ [s], css ++ [cs], t, h1, hp.up fun k hk1 => hblk k (by have := hp.lt; omega) (fun h => by have := (hob2 k h).1; omega), ?_, ?_, ?_, ?_⟩
  · have hk2 := hk0.trans hk
    exact ⟨hg.os.trans hk2.os, hg.tape.trans hk2.tape, hg.output.trans hk2.output, by have := hg.size; rw [new_size] at this; have := hk2.size; omega, fun k hk1 hne =>
      (hblk k (by have := hk2.size; omega) (fun h => by have := (hob2 k h).1; omega)).trans (hk2.block k hk1 hne)⟩
  · rw [List.length_append, List.flatten_append]; simpa using hown
  · refine StAll.snoc ?_ acc css ?_
    · exact StL.still (fun k (hk1 : wr.heap.size ≤ k) hk2 => ⟨⟨by omega, hnot k hk2 (fun h => by have := (hob2 k h).2; omega)⟩, hblk k hk2 (fun h => by have := (hob2 k h).2; omega)⟩) s cs hs
    · exact StAll.still (fun k hk1 hk2 => ⟨⟨hk1.1, hnot k (by omega) hk1.2⟩, (hblk k (by omega) hk1.2).trans (hk.block k hk2 (by have := hk1.1; omega))⟩) acc css ha
  · rw [List.length_append]; simp; omega

set_option maxHeartbeats 4000000 in
set_option maxRecDepth 100000 in
theorem block_step (f : Nat) (hS : ∀ g, g ≤ f → StmC g) : BlkC (f + 1) := by
  intro R en toks ts w r hr hne h
  obtain ⟨i0, hi, hz0, hz1, hz2⟩ := info_parts infoSt3
  have hR := h.lt
  rw [pBlock] at hr
  have HNE := Lib.hid hne
  have H := Lib.hid h
  have HS := Lib.hid hS
  clear hne h hS
  rcases expect_cases [123] ts with hx | hx
  · rw [hx] at hr
    have HQ : Hid (.fail ts = r) := hr
    have HX := Lib.hid hx
    clear hr hx hi hz0 hz1 hz2
    go_enter Tryd.func38, Tryd.ntmps38
    go_wp2_with fail
    refine (expect_any ⟨#[123]⟩ (by simp) _ _ _ _ _ H.out).mono ?_
    rw [show expectS (⟨#[123]⟩ : ByteArray).data.toList ts = .fail ts from HX.out]
    rintro e w1 ⟨rfl, hk⟩
    go_wp2_with fail
    rw [← HQ.out]
    exact ⟨rfl, rfl, hk⟩
  · rw [hx] at hr
    have HR : Hid (pStmts f [] ts.tail = r) := hr
    have HX := Lib.hid hx
    clear hr hx
    go_enter Tryd.func38, Tryd.ntmps38
    go_wp2_with fail
    refine (expect_any ⟨#[123]⟩ (by simp) _ _ _ _ _ H.out).mono ?_
    rw [show expectS (⟨#[123]⟩ : ByteArray).data.toList ts = .ok () ts.tail from HX.out]
    rintro e w1 ⟨v, rfl, hv, hp, hk⟩
    unfold VUnit at hv
    subst hv
    have H1 := Lib.hid hp
    have HK1 := Lib.hid hk
    have hz := hk.size
    clear hp hk
    go_wp2_with fail
    go_loopg [3] f (fun g v wr => g ≤ f ∧ BlkHead R en w1.heap.size toks r w g v wr ∧ w1.heap.size ≤ wr.heap.size)
    case atStart => exact ⟨Nat.le_refl _, ⟨[], [], ts.tail, HR.out, H1.out, HK1.out, World.ownsRow_nil _ _ _ _, trivial, by simpa using H1.out.len2⟩, Nat.le_refl _⟩
    case round =>
      obtain ⟨hgf, ⟨acc, css, tc, hl, hp, hk, ho, ha, hlen⟩, hzr⟩ := hrel
      have HL := Lib.hid hl
      have HP := Lib.hid hp
      have HK := Lib.hid hk
      have HO := Lib.hid ho
      have HA := Lib.hid ha
      have HZ := Lib.hid hzr
      have HLN := Lib.hid hlen
      clear hl hp hk ho ha hzr hlen
      cases gk with
      | zero => exact absurd HL.out.symm HNE.out
      | succ g =>
        by_cases he : txt tc = [125]
        · have HT : Hid (txt tc = (⟨#[125]⟩ : ByteArray).data.toList) := he
          have HN : Hid (tc ≠ []) := fun e => by rw [e] at he; simp [txt] at he
          have HQ : Hid (.ok acc tc.tail = r) := by
            have := HL.out
            rw [pStmts, if_pos he] at this; exact this
          clear he hi hz0 hz1 hz2
          go_wp2_with fail
          refine (accept_yes _ _ _ _ _ _ HP.out HT.out HN.out).mono ?_
          rintro e w2 ⟨rfl, hp, hk⟩
          have HP2 := Lib.hid hp
          have HK2 := Lib.hid hk
          clear hp hk
          go_wp2_with fail
          go_ret
          rw [← HQ.out]
          have hR1 : R < w1.heap.size := by omega
          have hsl : VSts w1.heap.size w2 acc u3 := own_sts (own_keep HO.out HK2.out hR1) (StAll.still (fun k hk1 hk2 => ⟨hk1, HK2.out.block k hk2 (by have := hk1.1; omega)⟩) acc css HA.out)
          exact ⟨_, rfl, StSlice.still hsl (fun k (hk1 : w1.heap.size ≤ k) _ => ⟨show w.heap.size ≤ k by omega, rfl⟩), HP2.out, HK.out.trans HK2.out⟩
        · have HT : Hid (txt tc ≠ (⟨#[125]⟩ : ByteArray).data.toList) := he
          obtain ⟨r1, hr1⟩ : ∃ r1, pStmt g tc = r1 := ⟨_, rfl⟩
          have HQ : Hid (r1.bind (fun s t => pStmts g (acc ++ [s]) t) = r) := by
            have := HL.out
            rw [pStmts, if_neg he, hr1] at this; exact this
          have hne1 : r1 ≠ .out := fun e => by have := HQ.out; rw [e] at this; exact HNE.out this.symm
          have HC : Hid (∀ w', PSt R toks en w' tc → Calls Tryd.prog 44 #[.pointer (some ⟨R, 0, none⟩)] w' (PP R toks en (VSt w'.heap.size) r1 w')) := fun w' h' => HS.out g (by omega) R en toks tc w' r1 hr1 hne1 h'
          have HR1 := Lib.hid hr1
          clear he hr1 HL
          go_wp2_with fail
          refine (accept_no _ _ _ _ _ _ HP.out HT.out).mono ?_
          rintro e w2 ⟨rfl, hb⟩
          have HP2 := Lib.hid (HP.out.below hb)
          have HB2 := Lib.hid hb
          clear hb
          go_wp2_with fail
          refine (HC.out _ HP2.out).mono ?_
          cases r1 with
          | out => exact absurd rfl hne1
          | fail t =>
            rintro e w3 ⟨rfl, hk⟩
            have HQ' : Hid (.fail t = r) := HQ.out
            clear hi hz0 hz1 hz2 HQ hne1
            go_wp2_with fail
            rw [← HQ'.out]
            exact ⟨rfl, rfl, (HK.out.trans (Keep.of_below HB2.out)).trans hk⟩
          | ok s t =>
            rintro e w3 ⟨v3, rfl, ⟨cs, rfl, hs⟩, hp, hk⟩
            obtain ⟨x0, x1, x2, x3, x4, x5, x6, x7, x8, A1, l1, q1, y4, y5, y6, y7, y8, A2, l2, q2, A3, l3, q3, A4, l4, q4, rfl⟩ := hs.plain
            have HS3 := Lib.hid hs
            have HP3 := Lib.hid hp
            have HK3 := Lib.hid ((Keep.of_below HB2.out).trans hk)
            have hR1 : R < w1.heap.size := by omega
            have HO3 := Lib.hid (own_keep HO.out HK3.out hR1)
            have hz3 := HK3.out.size
            have hzz := HZ.out
            have hln := HLN.out
            have HQ' : Hid (pStmts g (acc ++ [s]) t = r) := HQ.out
            clear hs hp hk hne1 HQ
            go_wp2_with (at_builtin; refine wpList_append_own_at _ rfl _ _ 26 rfl w1.heap.size 36 i0 _ 18 232 Tryd.underlying26 hi hz0 hz1 hz2 rfl (by decide) _ _ _ rfl (HO3.out.alloc _) ⟨w3.heap.size, 0, none⟩ 1 1 [.int .i64 x0, .string x1, .int .i64 x2, .int .i64 x3, .int .i64 x4, .int .i64 x5, .string x6, .int .i64 x7, .int .i64 x8, .slice A1 l1 q1, .int .i64 y4, .int .i64 y5, .string y6, .int .i64 y7, .int .i64 y8, .slice A2 l2 q2, .slice A3 l3 q3, .slice A4 l4 q4] rfl rfl ?c1 ?c2 ?c3 ?c4 ?c5 ?_)
            case c1 =>
              intro j u hj
              have := new_cells w3 _ 36 j u hj
              rwa [show (⟨w3.heap.size, 0, none⟩ : Addr).add j = ⟨w3.heap.size, 0 + j, none⟩ from by unfold Addr.add; split <;> simp_all]
            case c2 => exact HS3.out.shape.2
            case c3 => unfold maxLen; omega
            case c4 => omega
            case c5 => rw [new_size]; omega
            intro v' w4 hown hgrow _ hob
            have HN := Lib.hid (BlkHead.next (w0 := w) (r := r) hR1 hzz HQ'.out HP3.out HK.out HA.out hln (pStmt_sh HR1.out) HO.out HK3.out (StL.still (S := From w2.heap.size) (fun k (hk1 : w2.heap.size ≤ k) _ => ⟨show wr.heap.size ≤ k by have := HB2.out.size; omega, rfl⟩) s _ HS3.out) hz hown hgrow hob)
            have HZ4 := Lib.hid (show w1.heap.size ≤ w4.heap.size by have := hgrow.size; rw [new_size] at this; omega)
            clear hown hgrow hob
            go_wp2_with fail
            go_roundg g
            case rel => exact ⟨by omega, HN.out, HZ4.out⟩
            case measure => omega
end Go.Proofs.YtdlnpfocmgclmaaDoor
