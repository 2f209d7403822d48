/-
  What declarations of a parser of package syntax does. Conditions: the parser lies at block R.
-/
import Derived.Test.YtdlnpfocmgclmaaDoorWalkVr
import Derived.Test.YtdlnpfocmgclmaaDoorWalkBl
namespace Go.Proofs.YtdlnpfocmgclmaaDoor
open Go.RowKit

theorem infoVr3 : (Tryd.prog.info? 45).map (fun i => (i.zero, i.size, i.bytes)) = some (some (.agg #[.string ⟨#[]⟩, .int .i64 0, .int .i64 0]), 3, 32) := by kernel_rfl

theorem own_bel {w w' : World} {base : Nat} {e : TypeId} {size : Nat} {v : Value} {n : Nat} {xs : List Value} (h : w.ownsRow base e size v n xs) (hb : Below w.heap.size w w') : w'.ownsRow base e size v n xs :=
  h.kept (row := none) ⟨hb.os, hb.tape, hb.output, hb.size, fun k hk _ => hb.block k hk⟩ (by cases hv : v.ownBlock <;> simp)

def VVrs (n : Nat) (w : World) (l : List Vr) (v : Value) : Prop := VrSlice (From n) w l v

/-- The loop's head. -/
def DecHead (R en : Nat) (toks : List Tok) (r : Res (List Vr)) (w0 : World) (g : Nat) (v : Value) (wr : World) : Prop :=
  ∃ acc tc, pDecls g acc tc = r ∧ PSt R toks en wr tc ∧ Keep R w0 wr ∧ wr.ownsRow w0.heap.size 45 3 v acc.length (acc.flatMap vrCells) ∧ acc.length + tc.length ≤ 100000 ∧ w0.heap.size ≤ wr.heap.size

theorem DecHead.next {R en g : Nat} {toks : List Tok} {r : Res (List Vr)} {w0 w3 w4 : World} {v v' : Value} {acc : List Vr} {tc t : List Tok} {d : Vr} {o : Obj} (hR : R < w0.heap.size) (h1 : pDecls g (acc ++ [d]) t = r) (hp : PSt R toks en w3 t) (hk : Keep R w0 w3)
    (hlen : acc.length + tc.length ≤ 100000) (hlt : t.length < tc.length) (hown0 : w3.ownsRow w0.heap.size 45 3 v acc.length (acc.flatMap vrCells)) (hz : w0.heap.size ≤ w3.heap.size)
    (hown : w4.ownsRow w0.heap.size 45 3 v' (acc.length + 1) (acc.flatMap vrCells ++ [.string (strB d.name), .int .i64 d.size, .int .i64 d.init])) (hg : (w3.alloc o).grownBy w4 v.ownBlock) : DecHead R en toks r w0 g v' w4 := by
  have hob2 : ∀ b, v.ownBlock = some b → w0.heap.size ≤ b := fun b hb => by
    rcases hown0.2 with ⟨rfl, _⟩ | ⟨g, cap, cur, rfl, h2, h3, _⟩
    · cases hb
    · simp only [Value.ownBlock, Option.some.injEq] at hb; subst hb; exact h2
  have hblk : ∀ k, k < w3.heap.size → v.ownBlock ≠ some k → w4.heap[k]? = w3.heap[k]? := fun k hk1 hk2 =>
    (hg.block k (by rw [new_size]; omega) (fun e => hk2 e.symm)).trans (alloc_blk w3 o hk1)
  have hz4 := hg.size
  rw [new_size] at hz4
  refine ⟨acc ++ [d], t, h1, hp.up fun k hk1 => hblk k (by have := hp.lt; omega) (fun h => by have := hob2 k h; omega), ?_, ?_, ?_, by omega⟩
  · exact ⟨hg.os.trans hk.os, hg.tape.trans hk.tape, hg.output.trans hk.output, by omega, fun k hk1 hne => (hblk k (by omega) (fun h => by have := hob2 k h; omega)).trans (hk.block k hk1 hne)⟩
  · rw [List.length_append, List.flatMap_append]; simpa [vrCells] using hown
  · rw [List.length_append]; simp; omega

theorem own_vrs {w : World} {n0 : Nat} {v : Value} {acc : List Vr} (h : w.ownsRow n0 45 3 v acc.length (acc.flatMap vrCells)) : VVrs n0 w acc v := by
  rcases h.2 with ⟨rfl, h0⟩ | ⟨g, cap, cur, rfl, hb, hg, hle, hcap, hsz, htk⟩
  · rw [List.length_eq_zero_iff.1 h0]; exact ⟨none, 0, rfl, Nat.le_refl _, fun h => absurd rfl h⟩
  · refine ⟨_, cap, rfl, hle, fun _ => ⟨g, 0, rfl, hb, fun j u hj => ?_⟩⟩
    have := h.cells (g := g) rfl j u hj
    rwa [show (⟨g, 0, none⟩ : Addr).add j = ⟨g, 0 + j, none⟩ from by unfold Addr.add; split <;> simp_all] at this

set_option maxHeartbeats 4000000 in
set_option maxRecDepth 100000 in
theorem decls_any (f R en : Nat) (toks ts : List Tok) (w : World) (r : Res (List Vr)) (hr : pDecls f [] ts = r) (hne : r ≠ .out) (h : PSt R toks en w ts) :
    Calls Tryd.prog 25 #[.pointer (some ⟨R, 0, none⟩)] w (PP R toks en (VVrs w.heap.size) r w) := by
  obtain ⟨i0, hi, hz0, hz1, hz2⟩ := info_parts infoVr3
  have hR := h.lt
  have HNE := Lib.hid hne
  have H := Lib.hid h
  have HR := Lib.hid hr
  clear hne h hr
  go_enter Tryd.func25, Tryd.ntmps25
  go_wp2_with fail
  go_loopg [3] f (fun g v wr => g ≤ f ∧ DecHead R en toks r w g v wr)
  case atStart => exact ⟨Nat.le_refl _, [], ts, HR.out, H.out, Keep.refl _ _, World.ownsRow_nil _ _ _ _, by simpa using H.out.len2, Nat.le_refl _⟩
  case round =>
    obtain ⟨hgf, acc, tc, hl, hp, hk, ho, hlen, hzr⟩ := hrel
    have HL := Lib.hid hl
    have HP := Lib.hid hp
    have HK := Lib.hid hk
    have HO := Lib.hid ho
    have HZ := Lib.hid hzr
    have HLN := Lib.hid hlen
    clear hl hp hk ho hzr hlen
    cases gk with
    | zero => exact absurd HL.out.symm HNE.out
    | succ g =>
      by_cases h0 : txt tc = [118, 97, 114]
      · have _t := trivial
        have HT0 : Hid (txt tc = (⟨#[118, 97, 114]⟩ : ByteArray).data.toList) := h0
        have HN : Hid (tc ≠ []) := fun e => by rw [e] at h0; simp [txt] at h0
        obtain ⟨r1, hr1⟩ : ∃ r1, pVar tc.tail = r1 := ⟨_, rfl⟩
        have HQ : Hid (r1.bind (fun v t => pDecls g (acc ++ [v]) t) = r) := by
          have := HL.out
          rw [pDecls, if_pos h0, hr1] at this; exact this
        have hne1 : r1 ≠ .out := fun e => by have := HQ.out; rw [e] at this; exact HNE.out this.symm
        have HC : Hid (∀ w', PSt R toks en w' tc.tail → Calls Tryd.prog 34 #[.pointer (some ⟨R, 0, none⟩)] w' (PP R toks en VVr r1 w')) := fun w' h' => variable_any R en toks tc.tail w' r1 hr1 hne1 h'
        have hlt : ∀ v t, r1 = .ok v t → t.length < tc.length := fun v t e => by
          have h1 := pVar_sh (hr1.trans e)
          have h2 := tail_lt HT0.out (by simp)
          omega
        have HLT := Lib.hid hlt
        clear h0 hr1 HL hlt
        go_wp2_with fail

        refine (accept_yes _ _ _ _ _ _ HP.out HT0.out HN.out).mono ?_
        rintro e w2 ⟨rfl, hp, hk⟩
        have HP2 := Lib.hid hp
        have HK2 := Lib.hid (HK.out.trans hk)
        have HO2 := Lib.hid (own_keep HO.out hk hR)
        have HZ2 := Lib.hid (Nat.le_trans HZ.out hk.size)
        clear hp hk
        go_wp2_with fail
        refine (HC.out _ HP2.out).mono ?_
        cases r1 with
        | out => exact absurd rfl hne1
        | fail t =>
          rintro e w3 ⟨rfl, hk⟩
          have HQ' : Hid (.fail t = r) := HQ.out
          clear hi hz0 hz1 hz2 HQ hne1
          go_wp2_with fail
          rw [← HQ'.out]
          exact ⟨rfl, rfl, HK2.out.trans hk⟩
        | ok d t =>
          rintro e w3 ⟨v3, rfl, hv, hp, hk⟩
          unfold VVr vrCells at hv
          subst hv
          have HP3 := Lib.hid hp
          have HK3 := Lib.hid (HK2.out.trans hk)
          have HO3 := Lib.hid (own_keep HO2.out hk hR)
          have hzz := Nat.le_trans HZ2.out hk.size
          have hln := HLN.out
          have hl2 := HLT.out d t rfl
          have HQ' : Hid (pDecls g (acc ++ [d]) t = r) := HQ.out
          clear hp hk hne1 HQ
          go_wp2_with (at_builtin; refine wpList_append_own_at _ rfl _ _ 25 rfl w.heap.size 45 i0 _ 3 32 Tryd.underlying25 hi hz0 hz1 hz2 rfl (by decide) _ _ _ rfl (HO3.out.alloc _) ⟨w3.heap.size, 0, none⟩ 1 1 [.string (strB d.name), .int .i64 d.size, .int .i64 d.init] rfl rfl ?c1 ?c2 ?c3 ?c4 ?c5 ?_)
          case c1 =>
            intro j u hj
            have := new_cells w3 _ 45 j u hj
            rwa [show (⟨w3.heap.size, 0, none⟩ : Addr).add j = ⟨w3.heap.size, 0 + j, none⟩ from by unfold Addr.add; split <;> simp_all]
          case c2 => simp [Value.oneCell']
          case c3 => unfold maxLen; omega
          case c4 => omega
          case c5 => rw [new_size]; omega
          intro v' w4 hown hgrow _ hob
          have HN2 := Lib.hid (DecHead.next (w0 := w) (r := r) hR HQ'.out HP3.out HK3.out hln hl2 HO3.out hzz hown hgrow)
          clear hown hgrow hob
          go_wp2_with fail
          go_roundg g
          case rel => exact ⟨by omega, HN2.out⟩
          case measure => omega

      · have HT0 : Hid (txt tc ≠ (⟨#[118, 97, 114]⟩ : ByteArray).data.toList) := h0
        by_cases h1 : txt tc = [97, 114, 114, 97, 121]
        · have _t := trivial
          have HT1 : Hid (txt tc = (⟨#[97, 114, 114, 97, 121]⟩ : ByteArray).data.toList) := h1
          have HN : Hid (tc ≠ []) := fun e => by rw [e] at h1; simp [txt] at h1
          obtain ⟨r1, hr1⟩ : ∃ r1, pArr tc.tail = r1 := ⟨_, rfl⟩
          have HQ : Hid (r1.bind (fun v t => pDecls g (acc ++ [v]) t) = r) := by
            have := HL.out
            rw [pDecls, if_neg h0, if_pos h1, hr1] at this; exact this
          have hne1 : r1 ≠ .out := fun e => by have := HQ.out; rw [e] at this; exact HNE.out this.symm
          have HC : Hid (∀ w', PSt R toks en w' tc.tail → Calls Tryd.prog 35 #[.pointer (some ⟨R, 0, none⟩)] w' (PP R toks en VVr r1 w')) := fun w' h' => array_any R en toks tc.tail w' r1 hr1 hne1 h'
          have hlt : ∀ v t, r1 = .ok v t → t.length < tc.length := fun v t e => by
            have h1 := pArr_sh (hr1.trans e)
            have h2 := tail_lt HT1.out (by simp)
            omega
          have HLT := Lib.hid hlt
          clear h0 h1 hr1 HL hlt
          go_wp2_with fail
          refine (accept_no _ _ _ _ _ _ HP.out HT0.out).mono ?_
          rintro e w1 ⟨rfl, hb⟩
          have HP1 := Lib.hid (HP.out.below hb)
          have HK1 := Lib.hid (HK.out.trans (Keep.of_below hb))
          have HO1 := Lib.hid (own_bel HO.out hb)
          have HZ1 := Lib.hid (Nat.le_trans HZ.out hb.size)
          clear hb
          go_wp2_with fail
          refine (accept_yes _ _ _ _ _ _ HP1.out HT1.out HN.out).mono ?_
          rintro e w2 ⟨rfl, hp, hk⟩
          have HP2 := Lib.hid hp
          have HK2 := Lib.hid (HK1.out.trans hk)
          have HO2 := Lib.hid (own_keep HO1.out hk hR)
          have HZ2 := Lib.hid (Nat.le_trans HZ1.out hk.size)
          clear hp hk
          go_wp2_with fail
          refine (HC.out _ HP2.out).mono ?_
          cases r1 with
          | out => exact absurd rfl hne1
          | fail t =>
            rintro e w3 ⟨rfl, hk⟩
            have HQ' : Hid (.fail t = r) := HQ.out
            clear hi hz0 hz1 hz2 HQ hne1
            go_wp2_with fail
            rw [← HQ'.out]
            exact ⟨rfl, rfl, HK2.out.trans hk⟩
          | ok d t =>
            rintro e w3 ⟨v3, rfl, hv, hp, hk⟩
            unfold VVr vrCells at hv
            subst hv
            have HP3 := Lib.hid hp
            have HK3 := Lib.hid (HK2.out.trans hk)
            have HO3 := Lib.hid (own_keep HO2.out hk hR)
            have hzz := Nat.le_trans HZ2.out hk.size
            have hln := HLN.out
            have hl2 := HLT.out d t rfl
            have HQ' : Hid (pDecls g (acc ++ [d]) t = r) := HQ.out
            clear hp hk hne1 HQ
            go_wp2_with (at_builtin; refine wpList_append_own_at _ rfl _ _ 25 rfl w.heap.size 45 i0 _ 3 32 Tryd.underlying25 hi hz0 hz1 hz2 rfl (by decide) _ _ _ rfl (HO3.out.alloc _) ⟨w3.heap.size, 0, none⟩ 1 1 [.string (strB d.name), .int .i64 d.size, .int .i64 d.init] rfl rfl ?c1 ?c2 ?c3 ?c4 ?c5 ?_)
            case c1 =>
              intro j u hj
              have := new_cells w3 _ 45 j u hj
              rwa [show (⟨w3.heap.size, 0, none⟩ : Addr).add j = ⟨w3.heap.size, 0 + j, none⟩ from by unfold Addr.add; split <;> simp_all]
            case c2 => simp [Value.oneCell']
            case c3 => unfold maxLen; omega
            case c4 => omega
            case c5 => rw [new_size]; omega
            intro v' w4 hown hgrow _ hob
            have HN2 := Lib.hid (DecHead.next (w0 := w) (r := r) hR HQ'.out HP3.out HK3.out hln hl2 HO3.out hzz hown hgrow)
            clear hown hgrow hob
            go_wp2_with fail
            go_roundg g
            case rel => exact ⟨by omega, HN2.out⟩
            case measure => omega

        · have HT1 : Hid (txt tc ≠ (⟨#[97, 114, 114, 97, 121]⟩ : ByteArray).data.toList) := h1
          have HQ : Hid (.ok acc tc = r) := by
            have := HL.out
            rw [pDecls, if_neg h0, if_neg h1] at this; exact this
          clear h0 h1 HL hi hz0 hz1 hz2
          go_wp2_with fail
          refine (accept_no _ _ _ _ _ _ HP.out HT0.out).mono ?_
          rintro e w1 ⟨rfl, hb⟩
          have HP1 := Lib.hid (HP.out.below hb)
          have HK1 := Lib.hid (HK.out.trans (Keep.of_below hb))
          have HO1 := Lib.hid (own_bel HO.out hb)
          clear hb
          go_wp2_with fail
          refine (accept_no _ _ _ _ _ _ HP1.out HT1.out).mono ?_
          rintro e w2 ⟨rfl, hb⟩
          have HP2 := Lib.hid (HP1.out.below hb)
          have HK2 := Lib.hid (HK1.out.trans (Keep.of_below hb))
          have HO2 := Lib.hid (own_bel HO1.out hb)
          clear hb
          go_wp2_with fail
          try rw [Exit.noGoto_ret]
          go_ret
          rw [← HQ.out]
          exact ⟨_, rfl, own_vrs HO2.out, HP2.out, HK2.out⟩
end Go.Proofs.YtdlnpfocmgclmaaDoor
