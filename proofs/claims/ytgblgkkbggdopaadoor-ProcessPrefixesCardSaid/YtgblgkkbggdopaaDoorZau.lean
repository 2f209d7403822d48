/-
  Texts of a walk, laid together by a program of the prover's own (merge.py). No conditions beyond those that each text names.
-/
import Derived.Test.YtgblgkkbggdopaaDoorZad
import Derived.Test.YtgblgkkbggdopaaDoorZae
import Derived.Deep.RegionLaw
/-
  What Stmts of rollbacknetmake does: statements that are drawn by choices. Conditions: as for Next; at most 10 statements; the depth is from 1 to 100.
-/
namespace Go.Proofs.YtgblgkkbggdopaaDoor
open Go.RowKit

/-- A drawn statement of a depth. -/
def drS : Nat → St → Prop
  | 0, _ => False
  | d + 1, .mk kind nm sl sz place value body els => sl = 0 ∧ sz = 0 ∧
    ((kind = 1 ∧ (∃ k, k < 3 ∧ nm = nmS k) ∧ place = ex0 ∧ drE 3 value ∧ body = [] ∧ els = []) ∨ (kind = 2 ∧ (∃ k, k < 2 ∧ nm = nmA k) ∧ drE 2 place ∧ drE 2 value ∧ body = [] ∧ els = []) ∨
     (kind = 5 ∧ nm = [] ∧ drE 2 place ∧ drE 2 value ∧ body = [] ∧ els = []) ∨ (kind = 6 ∧ nm = [] ∧ place = ex0 ∧ drE 2 value ∧ body = [] ∧ els = []) ∨
     (kind = 3 ∧ nm = [] ∧ place = ex0 ∧ drE 2 value ∧ (body.length ≤ 2 ∧ ∀ s ∈ body, drS d s) ∧ els.length ≤ 1 ∧ ∀ s ∈ els, drS d s) ∨
     (kind = 4 ∧ nm = [] ∧ place = ex0 ∧ drE 2 value ∧ (body.length ≤ 2 ∧ ∀ s ∈ body, drS d s) ∧ els = []))

/-- What Stmts does. -/
def MsPost (B cb most d : Nat) (w : World) (e : Ending) (w' : World) : Prop :=
  ∃ l A n c, e = .returned (.slice A n c) ∧ StSlice (From w.heap.size) w' l (.slice A n c) ∧ l.length ≤ most ∧ (∀ s ∈ l, drS d s) ∧ CodesIn B w' cb ∧ Keep cb w w'
def MsC (d : Nat) : Prop := ∀ (most B cb : Nat) (w : World), most ≤ 10 → CodesIn B w cb → GlAt w → glTop ≤ cb →
  Calls Tryd.prog 56 #[.pointer (some ⟨cb, 0, none⟩), .int .i64 most, .int .i64 d] w (MsPost B cb most d w)

/-- The loop's head: g statements may still come. -/
structure MsHead (B cb n0 most d : Nat) (w0 : World) (g : Nat) (v : Value) (wr : World) (acc : List St) (css : List (List Value)) : Prop where
  len : acc.length + g ≤ most
  dr : ∀ s ∈ acc, drS d s
  c : CodesIn B wr cb
  k : Keep cb w0 wr
  o : wr.ownsRow n0 94 18 v acc.length css.flatten
  a : StAll (Sv n0 v) wr acc css

/-- A statement more. -/
theorem MsHead.next {B cb n0 most d g : Nat} {w0 wr w2 w3 : World} {v v' : Value} {acc : List St} {css : List (List Value)} {s : St} {cs : List Value} {o : Obj} (h : MsHead B cb n0 most d w0 (g + 1) v wr acc css)
    (hR : cb < n0) (hn : n0 ≤ wr.heap.size) (hb0 : w0.heap.size ≤ n0) (hd : drS d s) (hc : CodesIn B w2 cb) (hk : Keep cb wr w2) (hs : StL (From wr.heap.size) w2 s cs)
    (hown : w3.ownsRow n0 94 18 v' (acc.length + 1) (css.flatten ++ cs)) (hg : (w2.alloc o).grownBy w3 v.ownBlock) (hob : v'.ownBlock = v.ownBlock ∨ v'.ownBlock = some (w2.heap.size + 1)) :
    MsHead B cb n0 most d w0 g v' w3 (acc ++ [s]) (css ++ [cs]) := by
  have hz := hk.size
  have hob2 : ∀ b, v.ownBlock = some b → n0 ≤ b ∧ b < wr.heap.size := fun b hb => by
    rcases h.o.2 with ⟨rfl, _⟩ | ⟨g, cap, cur, rfl, h2, h3, _⟩
    · cases hb
    · simp only [Value.ownBlock, Option.some.injEq] at hb; subst hb; exact ⟨h2, lt_of_block h3⟩
  have hblk : ∀ k, k < w2.heap.size → v.ownBlock ≠ some k → w3.heap[k]? = w2.heap[k]? := fun k hk1 hk2 =>
    (hg.block k (by rw [new_size]; omega) (fun e => hk2 e.symm)).trans (alloc_blk w2 o hk1)
  have hnot : ∀ k, k < w2.heap.size → v.ownBlock ≠ some k → v'.ownBlock ≠ some k := fun k hk1 hk2 h => by
    rcases hob with h' | h'
    · exact hk2 (h' ▸ h)
    · rw [h'] at h; injection h with h; omega
  refine ⟨by rw [List.length_append]; have := h.len; simp; omega, fun x hx => ?_, hc.up fun k hk1 => hblk k (by omega) (fun h => by have := (hob2 k h).1; omega), ?_, ?_, ?_⟩
  · rcases List.mem_append.1 hx with hx | hx
    · exact h.dr x hx
    · rw [List.mem_singleton.1 hx]; exact hd
  · have hk2 := h.k.trans hk
    exact ⟨hg.os.trans hk2.os, hg.tape.trans hk2.tape, hg.output.trans hk2.output, by have := hg.size; rw [new_size] at this; have := hk2.size; omega, fun k hk1 hne =>
      (hblk k (by have := hk2.size; omega) (fun h => by have := (hob2 k h).1; omega)).trans (hk2.block k hk1 hne)⟩
  · rw [List.length_append, List.flatten_append]; simpa using hown
  · refine StAll.snoc ?_ acc css ?_
    · exact StL.still (fun k (hk1 : wr.heap.size ≤ k) hk2 => ⟨⟨by omega, hnot k hk2 (fun h => by have := (hob2 k h).2; omega)⟩, hblk k hk2 (fun h => by have := (hob2 k h).2; omega)⟩) s cs hs
    · exact StAll.still (fun k hk1 hk2 => ⟨⟨hk1.1, hnot k (by omega) hk1.2⟩, (hblk k (by omega) hk1.2).trans (hk.block k hk2 (by have := hk1.1; omega))⟩) acc css h.a

theorem ex_low {n m : Nat} {w : World} {e : Ex} {cs : List Value} (h : ExL (From n) w e cs) (hm : m ≤ n) : ExL (From m) w e cs := ExL.still (fun k (h1 : n ≤ k) _ => ⟨Nat.le_trans hm h1, rfl⟩) e cs h
theorem st_low {n m : Nat} {w : World} {l : List St} {v : Value} (h : StSlice (From n) w l v) (hm : m ≤ n) : StSlice (From m) w l v := h.still (fun k (h1 : n ≤ k) _ => ⟨Nat.le_trans hm h1, rfl⟩)
theorem st_keep {R n m : Nat} {w w' : World} {l : List St} {v : Value} (h : StSlice (From n) w l v) (hm : m ≤ n) (hk : Keep R w w') (hR : R < n) : StSlice (From m) w' l v := h.still (fun b (hb : n ≤ b) hlt => ⟨Nat.le_trans hm hb, hk.block b hlt (by omega)⟩)
theorem drew_keep {cb : Nat} {w : World} : Keep cb w w.drew := (Keep.refl cb w).drew
theorem own_drew {cb : Nat} {w : World} {n0 : Nat} {e : TypeId} {size : Nat} {v : Value} {n : Nat} {xs : List Value} (h : w.ownsRow n0 e size v n xs) (hR : cb < n0) : w.drew.ownsRow n0 e size v n xs := own_keep h (drew_keep (cb := cb)) hR

theorem gl_k {cb : Nat} {w w1 : World} (h : GlAt w) (hk : Keep cb w w1) (hgt : glTop ≤ cb) : GlAt w1 := h.keep hk hgt
theorem st_new (w : World) (cs : List Value) (T : TypeId) : ∀ j u, cs[j]? = some u → (w.alloc (.cells cs.toArray T)).cell? ((⟨w.heap.size, 0, none⟩ : Addr).add j) = some u := fun j u hj => by
  rw [Addr.add_lit]; exact new_cells w cs T j u hj

set_option maxHeartbeats 4000000 in
set_option maxRecDepth 100000 in
theorem ms_base : MsC 1 := by
  intro most B cb w hm hc0 hg0 hgt
  have hcb := hc0.lt
  have HC0 := Lib.hid hc0
  have HG := Lib.hid hg0
  have HNX : Hid (∀ w', CodesIn B w' cb → Calls Tryd.prog 24 #[.pointer (some ⟨cb, 0, none⟩), .int .i64 ((most : Int) + 1)] w' fun e w2 => ∃ j : Nat, j < most + 1 ∧ e = .returned (.int .i64 j) ∧ CodesIn B w2 cb ∧ Keep cb w' w2) := fun w' h => by
    rw [show ((most : Int) + 1) = ((most + 1 : Nat) : Int) by omega]
    exact next_keep B cb (most + 1) w' h (by omega) (by omega)
  have MX2 : Hid (∀ B cb w, CodesIn B w cb → GlAt w → glTop ≤ cb → Calls Tryd.prog 66 #[.pointer (some ⟨cb, 0, none⟩), .int .i64 2] w (MxPost B cb 2 w)) := fun B cb w h1 h2 h3 => mx_all 2 (by decide) (by decide) B cb w h1 h2 h3
  have MX3 : Hid (∀ B cb w, CodesIn B w cb → GlAt w → glTop ≤ cb → Calls Tryd.prog 66 #[.pointer (some ⟨cb, 0, none⟩), .int .i64 3] w (MxPost B cb 3 w)) := fun B cb w h1 h2 h3 => mx_all 3 (by decide) (by decide) B cb w h1 h2 h3
  obtain ⟨i0, hi, hz0, hz1, hz2⟩ := info_parts infoSt3
  have HI := Lib.hid hi
  have HI0 := Lib.hid hz0
  have HI1 := Lib.hid hz1
  have HI2 := Lib.hid hz2
  clear hc0 hg0 hi hz0 hz1 hz2
  show Calls Tryd.prog 56 #[.pointer (some ⟨cb, 0, none⟩), .int .i64 most, .int .i64 1] w (MsPost B cb most 1 w)
  go_enter Tryd.func56, Tryd.ntmps56
  go_wp2_with fail
  refine (HNX.out w HC0.out).mono ?_
  rintro e ws ⟨N, hN, rfl, hc, hk⟩
  have HCs := Lib.hid hc
  have HKs := Lib.hid hk
  clear hc hk HNX
  go_wp2_with fail
  go_loopg [7, 8] N (fun g v i wr => i = .int .i64 g ∧ ∃ acc css, MsHead B cb w.heap.size most 1 w g v wr acc css)
  case atStart => exact ⟨rfl, [], [], by simp; omega, fun s hs => (by simp at hs), HCs.out, HKs.out, World.ownsRow_nil _ _ _ _, trivial⟩
  case round =>
    obtain ⟨rfl, acc, css, hh⟩ := hrel
    have HH := Lib.hid hh
    have hzr := hh.k.size
    have hla := hh.len
    clear hh
    cases gk with
    | zero =>
      obtain ⟨A9, c9, hv9⟩ := own_slice HH.out.o
      subst hv9
      go_wp2_with fail
      go_ret
      exact ⟨acc, A9, acc.length, c9, rfl, own_sts HH.out.o HH.out.a, by omega, HH.out.dr, HH.out.c, HH.out.k⟩
    | succ g =>
      obtain ⟨G, hG⟩ : ∃ G : Int, ((g + 1 : Nat) : Int) = G := ⟨_, rfl⟩
      rw [hG]
      have hG0 : 0 < G := by omega
      have hG1 : G - 1 = (g : Int) := by omega
      have hGg : G ≤ 100 := by omega
      clear hG
      go_wp2_with fail
      refine (next_keep B cb 10 wr HH.out.c (by decide) (by decide)).mono ?_
      rintro e w1 ⟨j, hj, rfl, hc, hk⟩
      have HCw1 := Lib.hid hc
      have HGw1 := Lib.hid ((HG.out.keep HH.out.k hgt).keep hk hgt)
      have HKw1 := Lib.hid hk
      have HOw1 := Lib.hid (own_keep HH.out.o hk hcb)
      clear hc hk
      by_cases h0 : j = 0 ∨ j = 1 ∨ j = 2 ∨ j = 7 ∨ j = 8 ∨ j = 9
      · obtain rfl | rfl | rfl | rfl | rfl | rfl := h0
        all_goals
          go_wp2_with fail
          go_region_law (first
            | (go_simp; go_at_call 24; refine (next_keep B cb 3 _ (drew_up HCw1.out) (by decide) (by decide)).mono ?_; rintro e w2 ⟨v, hv, rfl, hc, hk⟩; have HCw2 := Lib.hid hc; have HGw2 := Lib.hid ((HGw1.out.keep drew_keep hgt).keep hk hgt); have HKw2 := Lib.hid ((HKw1.out.trans drew_keep).trans hk); have HOw2 := Lib.hid (own_keep (own_drew HOw1.out hcb) hk hcb); have q2 := HGw2.out.sc v hv; have hv2 : (v : Int) < 3 := (by omega); have HS : Hid (∃ k, k < 3 ∧ nmS v = nmS k) := ⟨v, hv, rfl⟩; obtain ⟨X, hX⟩ : ∃ X, nmS v = X := ⟨_, rfl⟩; rw [hX] at q2 HS; clear hc hk hX)
            | (go_simp; go_at_call 66; ((with_reducible refine (MX3.out B cb w2 HCw2.out HGw2.out hgt).mono ?_)); rintro e w3 ⟨xe, xv, rfl, ⟨x0, x1, x2, x3, x4, xA, xl, xq, rfl, hl⟩, hdr, hc, hk⟩; have HCw3 := Lib.hid hc; have HGw3 := Lib.hid (HGw2.out.keep hk hgt); have HKw3 := Lib.hid (HKw2.out.trans hk); have HOw3 := Lib.hid (own_keep HOw2.out hk hcb); have HLx := Lib.hid (ex_low (m := wr.heap.size) hl HKw2.out.size); have HDx := Lib.hid hdr; have hkw3 := Lib.hid hk; have q3 := hk.cell q2 (by have : glTop ≤ cb := hgt; unfold glTop at this; omega); clear hc hk hl hdr)
            | (refine step_append_own_at rfl (.tmp 41) (.tmp 49) 27 rfl w.heap.size 94 i0 _ 18 232 Tryd.underlying27 HI.out HI0.out HI1.out HI2.out rfl (by decide) u7 acc.length css.flatten (by simp [Act.eval]) (HOw3.out.alloc _) ⟨w3.heap.size, 0, none⟩ 1 1 [.int .i64 1, .string (strB X), .int .i64 0, .int .i64 0, .int .i64 0, .int .i64 0, .string ⟨#[]⟩, .int .i64 0, .int .i64 0, .slice none 0 0, .int .i64 x0, .int .i64 x1, .string x2, .int .i64 x3, .int .i64 x4, .slice xA xl xq, .slice none 0 0, .slice none 0 0] (by simp [Act.eval]) rfl (st_new _ _ _) (by simp [Value.oneCell']) (by unfold maxLen; omega) (by omega) (by rw [new_size]; have := HKw3.out.size; omega) ?_; intro v9 w9 hown hgrow hob; rw [new_size] at hob; have HOW := Lib.hid hown; have HGR := Lib.hid hgrow; have HOB := Lib.hid hob; clear hown hgrow hob))
          all_goals
            clear q2 q3
            have HN := Lib.hid (MsHead.next (s := (.mk 1 X 0 0 ex0 xe [] [])) HH.out hcb hzr (Nat.le_refl _) (by simp only [drS]; exact ⟨trivial, trivial, .inl ⟨trivial, HS.out, trivial, HDx.out, trivial, trivial⟩⟩) HCw3.out HKw3.out (st_mk (kind := 1) (name := X) (ex0_at _ _) HLx.out (sts_nil _ _) (sts_nil _ _)) HOW.out HGR.out HOB.out)
            go_wp2_with fail
            go_roundg g
            case rel => exact ⟨by go_num, _, _, HN.out⟩
            case measure => omega
      by_cases h1 : j = 3
      · obtain rfl := h1
        all_goals
          go_wp2_with fail
          go_region_law (first
            | (go_simp; go_at_call 24; refine (next_keep B cb 2 _ (drew_up HCw1.out) (by decide) (by decide)).mono ?_; rintro e w2 ⟨v, hv, rfl, hc, hk⟩; have HCw2 := Lib.hid hc; have HGw2 := Lib.hid ((HGw1.out.keep drew_keep hgt).keep hk hgt); have HKw2 := Lib.hid ((HKw1.out.trans drew_keep).trans hk); have HOw2 := Lib.hid (own_keep (own_drew HOw1.out hcb) hk hcb); have q2 := HGw2.out.ar v hv; have hv2 : (v : Int) < 2 := (by omega); have HS : Hid (∃ k, k < 2 ∧ nmA v = nmA k) := ⟨v, hv, rfl⟩; obtain ⟨X, hX⟩ : ∃ X, nmA v = X := ⟨_, rfl⟩; rw [hX] at q2 HS; clear hc hk hX)
            | (go_simp; go_at_call 66; ((with_reducible refine (MX2.out B cb w3 HCw3.out HGw3.out hgt).mono ?_)); rintro e w4 ⟨ye, yv, rfl, ⟨y0, y1, y2, y3, y4, yA, yl, yq, rfl, hl⟩, hdr, hc, hk⟩; have HCw4 := Lib.hid hc; have HGw4 := Lib.hid (HGw3.out.keep hk hgt); have HKw4 := Lib.hid (HKw3.out.trans hk); have HOw4 := Lib.hid (own_keep HOw3.out hk hcb); have HLy := Lib.hid (ex_low (m := wr.heap.size) hl HKw3.out.size); have HDy := Lib.hid hdr; have hkw4 := Lib.hid hk; have q4 := hk.cell q3 (by have : glTop ≤ cb := hgt; unfold glTop at this; omega); clear hc hk hl hdr)
            | (go_simp; go_at_call 66; ((with_reducible refine (MX2.out B cb w2 HCw2.out HGw2.out hgt).mono ?_)); rintro e w3 ⟨xe, xv, rfl, ⟨x0, x1, x2, x3, x4, xA, xl, xq, rfl, hl⟩, hdr, hc, hk⟩; have HCw3 := Lib.hid hc; have HGw3 := Lib.hid (HGw2.out.keep hk hgt); have HKw3 := Lib.hid (HKw2.out.trans hk); have HOw3 := Lib.hid (own_keep HOw2.out hk hcb); have HLx := Lib.hid (ex_low (m := wr.heap.size) hl HKw2.out.size); have HDx := Lib.hid hdr; have hkw3 := Lib.hid hk; have q3 := hk.cell q2 (by have : glTop ≤ cb := hgt; unfold glTop at this; omega); clear hc hk hl hdr)
            | (refine step_append_own_at rfl (.tmp 54) (.tmp 64) 27 rfl w.heap.size 94 i0 _ 18 232 Tryd.underlying27 HI.out HI0.out HI1.out HI2.out rfl (by decide) u7 acc.length css.flatten (by simp [Act.eval]) (HOw4.out.alloc _) ⟨w4.heap.size, 0, none⟩ 1 1 [.int .i64 2, .string (strB X), .int .i64 0, .int .i64 0, .int .i64 x0, .int .i64 x1, .string x2, .int .i64 x3, .int .i64 x4, .slice xA xl xq, .int .i64 y0, .int .i64 y1, .string y2, .int .i64 y3, .int .i64 y4, .slice yA yl yq, .slice none 0 0, .slice none 0 0] (by simp [Act.eval]) rfl (st_new _ _ _) (by simp [Value.oneCell']) (by unfold maxLen; omega) (by omega) (by rw [new_size]; have := HKw4.out.size; omega) ?_; intro v9 w9 hown hgrow hob; rw [new_size] at hob; have HOW := Lib.hid hown; have HGR := Lib.hid hgrow; have HOB := Lib.hid hob; clear hown hgrow hob))
          all_goals
            clear q2 q3 q4
            have HN := Lib.hid (MsHead.next (s := (.mk 2 X 0 0 xe ye [] [])) HH.out hcb hzr (Nat.le_refl _) (by simp only [drS]; exact ⟨trivial, trivial, .inr (.inl ⟨trivial, HS.out, HDx.out, HDy.out, trivial, trivial⟩)⟩) HCw4.out HKw4.out (st_mk (kind := 2) (name := X) (HLx.out.keep (Nat.le_refl _) hkw4.out (by omega)) HLy.out (sts_nil _ _) (sts_nil _ _)) HOW.out HGR.out HOB.out)
            go_wp2_with fail
            go_roundg g
            case rel => exact ⟨by go_num, _, _, HN.out⟩
            case measure => omega
      by_cases h2 : j = 4 ∨ j = 5
      · obtain rfl | rfl := h2
        all_goals
          go_wp2_with fail
          refine (MX2.out B cb w1 HCw1.out HGw1.out hgt).mono ?_
          rintro e w2 ⟨xe, xv, rfl, ⟨x0, x1, x2, x3, x4, xA, xl, xq, rfl, hl⟩, hdr, hc, hk⟩
          have HCw2 := Lib.hid hc
          have HGw2 := Lib.hid (HGw1.out.keep hk hgt)
          have HKw2 := Lib.hid (HKw1.out.trans hk)
          have HOw2 := Lib.hid (own_keep HOw1.out hk hcb)
          have HLx := Lib.hid (ex_low (m := wr.heap.size) hl HKw1.out.size)
          have HDx := Lib.hid hdr
          have hkw2 := Lib.hid hk
          clear hc hk hl hdr
          go_wp2_with fail
          refine (MX2.out B cb w2 HCw2.out HGw2.out hgt).mono ?_
          rintro e w3 ⟨ye, yv, rfl, ⟨y0, y1, y2, y3, y4, yA, yl, yq, rfl, hl⟩, hdr, hc, hk⟩
          have HCw3 := Lib.hid hc
          have HGw3 := Lib.hid (HGw2.out.keep hk hgt)
          have HKw3 := Lib.hid (HKw2.out.trans hk)
          have HOw3 := Lib.hid (own_keep HOw2.out hk hcb)
          have HLy := Lib.hid (ex_low (m := wr.heap.size) hl HKw2.out.size)
          have HDy := Lib.hid hdr
          have hkw3 := Lib.hid hk
          clear hc hk hl hdr
          go_wp2_with (at_builtin; refine wpList_append_own_at _ rfl _ _ 27 rfl w.heap.size 94 i0 _ 18 232 Tryd.underlying27 HI.out HI0.out HI1.out HI2.out rfl (by decide) _ _ _ rfl (HOw3.out.alloc _) ⟨w3.heap.size, 0, none⟩ 1 1 [.int .i64 5, .string ⟨#[]⟩, .int .i64 0, .int .i64 0, .int .i64 x0, .int .i64 x1, .string x2, .int .i64 x3, .int .i64 x4, .slice xA xl xq, .int .i64 y0, .int .i64 y1, .string y2, .int .i64 y3, .int .i64 y4, .slice yA yl yq, .slice none 0 0, .slice none 0 0] rfl rfl (st_new _ _ _) (by simp [Value.oneCell']) (by unfold maxLen; omega) (by omega) (by rw [new_size]; have := HKw3.out.size; omega) ?_)
          intro v9 w9 hown hgrow _ hob
          have HOW := Lib.hid hown
          have HGR := Lib.hid hgrow
          have HOB := Lib.hid hob
          clear hown hgrow hob
          have HN := Lib.hid (MsHead.next (s := (.mk 5 [] 0 0 xe ye [] [])) HH.out hcb hzr (Nat.le_refl _) (by simp only [drS]; exact ⟨trivial, trivial, .inr (.inr (.inl ⟨trivial, trivial, HDx.out, HDy.out, trivial, trivial⟩))⟩) HCw3.out HKw3.out (st_mk (kind := 5) (name := []) (HLx.out.keep (Nat.le_refl _) hkw3.out (by omega)) HLy.out (sts_nil _ _) (sts_nil _ _)) HOW.out HGR.out HOB.out)
          go_wp2_with fail
          go_roundg g
          case rel => exact ⟨by go_num, _, _, HN.out⟩
          case measure => omega
      by_cases h3 : j = 6
      · obtain rfl := h3
        all_goals
          go_wp2_with fail
          refine (MX2.out B cb w1 HCw1.out HGw1.out hgt).mono ?_
          rintro e w2 ⟨xe, xv, rfl, ⟨x0, x1, x2, x3, x4, xA, xl, xq, rfl, hl⟩, hdr, hc, hk⟩
          have HCw2 := Lib.hid hc
          have HGw2 := Lib.hid (HGw1.out.keep hk hgt)
          have HKw2 := Lib.hid (HKw1.out.trans hk)
          have HOw2 := Lib.hid (own_keep HOw1.out hk hcb)
          have HLx := Lib.hid (ex_low (m := wr.heap.size) hl HKw1.out.size)
          have HDx := Lib.hid hdr
          have hkw2 := Lib.hid hk
          clear hc hk hl hdr
          go_wp2_with (at_builtin; refine wpList_append_own_at _ rfl _ _ 27 rfl w.heap.size 94 i0 _ 18 232 Tryd.underlying27 HI.out HI0.out HI1.out HI2.out rfl (by decide) _ _ _ rfl (HOw2.out.alloc _) ⟨w2.heap.size, 0, none⟩ 1 1 [.int .i64 6, .string ⟨#[]⟩, .int .i64 0, .int .i64 0, .int .i64 0, .int .i64 0, .string ⟨#[]⟩, .int .i64 0, .int .i64 0, .slice none 0 0, .int .i64 x0, .int .i64 x1, .string x2, .int .i64 x3, .int .i64 x4, .slice xA xl xq, .slice none 0 0, .slice none 0 0] rfl rfl (st_new _ _ _) (by simp [Value.oneCell']) (by unfold maxLen; omega) (by omega) (by rw [new_size]; have := HKw2.out.size; omega) ?_)
          intro v9 w9 hown hgrow _ hob
          have HOW := Lib.hid hown
          have HGR := Lib.hid hgrow
          have HOB := Lib.hid hob
          clear hown hgrow hob
          have HN := Lib.hid (MsHead.next (s := (.mk 6 [] 0 0 ex0 xe [] [])) HH.out hcb hzr (Nat.le_refl _) (by simp only [drS]; exact ⟨trivial, trivial, .inr (.inr (.inr (.inl ⟨trivial, trivial, trivial, HDx.out, trivial, trivial⟩)))⟩) HCw2.out HKw2.out (st_mk (kind := 6) (name := []) (ex0_at _ _) HLx.out (sts_nil _ _) (sts_nil _ _)) HOW.out HGR.out HOB.out)
          go_wp2_with fail
          go_roundg g
          case rel => exact ⟨by go_num, _, _, HN.out⟩
          case measure => omega
      omega

set_option maxHeartbeats 4000000 in
set_option maxRecDepth 100000 in
theorem ms_step (d : Nat) (hd1 : 1 ≤ d) (hd : d ≤ 100) (ih : MsC d) : MsC (d + 1) := by
  intro most B cb w hm hc0 hg0 hgt
  have hcb := hc0.lt
  have HC0 := Lib.hid hc0
  have HG := Lib.hid hg0
  have HNX : Hid (∀ w', CodesIn B w' cb → Calls Tryd.prog 24 #[.pointer (some ⟨cb, 0, none⟩), .int .i64 ((most : Int) + 1)] w' fun e w2 => ∃ j : Nat, j < most + 1 ∧ e = .returned (.int .i64 j) ∧ CodesIn B w2 cb ∧ Keep cb w' w2) := fun w' h => by
    rw [show ((most : Int) + 1) = ((most + 1 : Nat) : Int) by omega]
    exact next_keep B cb (most + 1) w' h (by omega) (by omega)
  have MX2 : Hid (∀ B cb w, CodesIn B w cb → GlAt w → glTop ≤ cb → Calls Tryd.prog 66 #[.pointer (some ⟨cb, 0, none⟩), .int .i64 2] w (MxPost B cb 2 w)) := fun B cb w h1 h2 h3 => mx_all 2 (by decide) (by decide) B cb w h1 h2 h3
  have MX3 : Hid (∀ B cb w, CodesIn B w cb → GlAt w → glTop ≤ cb → Calls Tryd.prog 66 #[.pointer (some ⟨cb, 0, none⟩), .int .i64 3] w (MxPost B cb 3 w)) := fun B cb w h1 h2 h3 => mx_all 3 (by decide) (by decide) B cb w h1 h2 h3
  obtain ⟨i0, hi, hz0, hz1, hz2⟩ := info_parts infoSt3
  have HI := Lib.hid hi
  have HI0 := Lib.hid hz0
  have HI1 := Lib.hid hz1
  have HI2 := Lib.hid hz2
  clear hc0 hg0 hi hz0 hz1 hz2
  have IH2 : Hid (∀ B cb w, CodesIn B w cb → GlAt w → glTop ≤ cb → Calls Tryd.prog 56 #[.pointer (some ⟨cb, 0, none⟩), .int .i64 2, .int .i64 d] w (MsPost B cb 2 d w)) := fun B cb w h1 h2 h3 => ih 2 B cb w (by decide) h1 h2 h3
  have IH1 : Hid (∀ B cb w, CodesIn B w cb → GlAt w → glTop ≤ cb → Calls Tryd.prog 56 #[.pointer (some ⟨cb, 0, none⟩), .int .i64 1, .int .i64 d] w (MsPost B cb 1 d w)) := fun B cb w h1 h2 h3 => ih 1 B cb w (by decide) h1 h2 h3
  clear ih
  obtain ⟨D, hD⟩ : ∃ D : Int, ((d + 1 : Nat) : Int) = D := ⟨_, rfl⟩
  rw [hD]
  have hD1 : 1 < D := by omega
  have hDs : D - 1 = (d : Int) := by omega
  have hD2 : D ≤ 101 := by omega
  clear hD
  go_enter Tryd.func56, Tryd.ntmps56
  go_wp2_with fail
  refine (HNX.out w HC0.out).mono ?_
  rintro e ws ⟨N, hN, rfl, hc, hk⟩
  have HCs := Lib.hid hc
  have HKs := Lib.hid hk
  clear hc hk HNX
  go_wp2_with fail
  go_loopg [7, 8] N (fun g v i wr => i = .int .i64 g ∧ ∃ acc css, MsHead B cb w.heap.size most (d + 1) w g v wr acc css)
  case atStart => exact ⟨rfl, [], [], by simp; omega, fun s hs => (by simp at hs), HCs.out, HKs.out, World.ownsRow_nil _ _ _ _, trivial⟩
  case round =>
    obtain ⟨rfl, acc, css, hh⟩ := hrel
    have HH := Lib.hid hh
    have hzr := hh.k.size
    have hla := hh.len
    clear hh
    cases gk with
    | zero =>
      obtain ⟨A9, c9, hv9⟩ := own_slice HH.out.o
      subst hv9
      go_wp2_with fail
      go_ret
      exact ⟨acc, A9, acc.length, c9, rfl, own_sts HH.out.o HH.out.a, by omega, HH.out.dr, HH.out.c, HH.out.k⟩
    | succ g =>
      obtain ⟨G, hG⟩ : ∃ G : Int, ((g + 1 : Nat) : Int) = G := ⟨_, rfl⟩
      rw [hG]
      have hG0 : 0 < G := by omega
      have hG1 : G - 1 = (g : Int) := by omega
      have hGg : G ≤ 100 := by omega
      clear hG
      go_wp2_with fail
      refine (next_keep B cb 10 wr HH.out.c (by decide) (by decide)).mono ?_
      rintro e w1 ⟨j, hj, rfl, hc, hk⟩
      have HCw1 := Lib.hid hc
      have HGw1 := Lib.hid ((HG.out.keep HH.out.k hgt).keep hk hgt)
      have HKw1 := Lib.hid hk
      have HOw1 := Lib.hid (own_keep HH.out.o hk hcb)
      clear hc hk
      by_cases h0 : j = 0 ∨ j = 1 ∨ j = 2
      · obtain rfl | rfl | rfl := h0
        all_goals
          go_wp2_with fail
          go_region_law (first
            | (go_simp; go_at_call 24; refine (next_keep B cb 3 _ (drew_up HCw1.out) (by decide) (by decide)).mono ?_; rintro e w2 ⟨v, hv, rfl, hc, hk⟩; have HCw2 := Lib.hid hc; have HGw2 := Lib.hid ((HGw1.out.keep drew_keep hgt).keep hk hgt); have HKw2 := Lib.hid ((HKw1.out.trans drew_keep).trans hk); have HOw2 := Lib.hid (own_keep (own_drew HOw1.out hcb) hk hcb); have q2 := HGw2.out.sc v hv; have hv2 : (v : Int) < 3 := (by omega); have HS : Hid (∃ k, k < 3 ∧ nmS v = nmS k) := ⟨v, hv, rfl⟩; obtain ⟨X, hX⟩ : ∃ X, nmS v = X := ⟨_, rfl⟩; rw [hX] at q2 HS; clear hc hk hX)
            | (go_simp; go_at_call 66; ((with_reducible refine (MX3.out B cb w2 HCw2.out HGw2.out hgt).mono ?_)); rintro e w3 ⟨xe, xv, rfl, ⟨x0, x1, x2, x3, x4, xA, xl, xq, rfl, hl⟩, hdr, hc, hk⟩; have HCw3 := Lib.hid hc; have HGw3 := Lib.hid (HGw2.out.keep hk hgt); have HKw3 := Lib.hid (HKw2.out.trans hk); have HOw3 := Lib.hid (own_keep HOw2.out hk hcb); have HLx := Lib.hid (ex_low (m := wr.heap.size) hl HKw2.out.size); have HDx := Lib.hid hdr; have hkw3 := Lib.hid hk; have q3 := hk.cell q2 (by have : glTop ≤ cb := hgt; unfold glTop at this; omega); clear hc hk hl hdr)
            | (refine step_append_own_at rfl (.tmp 41) (.tmp 49) 27 rfl w.heap.size 94 i0 _ 18 232 Tryd.underlying27 HI.out HI0.out HI1.out HI2.out rfl (by decide) u7 acc.length css.flatten (by simp [Act.eval]) (HOw3.out.alloc _) ⟨w3.heap.size, 0, none⟩ 1 1 [.int .i64 1, .string (strB X), .int .i64 0, .int .i64 0, .int .i64 0, .int .i64 0, .string ⟨#[]⟩, .int .i64 0, .int .i64 0, .slice none 0 0, .int .i64 x0, .int .i64 x1, .string x2, .int .i64 x3, .int .i64 x4, .slice xA xl xq, .slice none 0 0, .slice none 0 0] (by simp [Act.eval]) rfl (st_new _ _ _) (by simp [Value.oneCell']) (by unfold maxLen; omega) (by omega) (by rw [new_size]; have := HKw3.out.size; omega) ?_; intro v9 w9 hown hgrow hob; rw [new_size] at hob; have HOW := Lib.hid hown; have HGR := Lib.hid hgrow; have HOB := Lib.hid hob; clear hown hgrow hob))
          all_goals
            clear q2 q3
            have HN := Lib.hid (MsHead.next (s := (.mk 1 X 0 0 ex0 xe [] [])) HH.out hcb hzr (Nat.le_refl _) (by simp only [drS]; exact ⟨trivial, trivial, .inl ⟨trivial, HS.out, trivial, HDx.out, trivial, trivial⟩⟩) HCw3.out HKw3.out (st_mk (kind := 1) (name := X) (ex0_at _ _) HLx.out (sts_nil _ _) (sts_nil _ _)) HOW.out HGR.out HOB.out)
            go_wp2_with fail
            go_roundg g
            case rel => exact ⟨by go_num, _, _, HN.out⟩
            case measure => omega
      by_cases h1 : j = 3
      · obtain rfl := h1
        all_goals
          go_wp2_with fail
          go_region_law (first
            | (go_simp; go_at_call 24; refine (next_keep B cb 2 _ (drew_up HCw1.out) (by decide) (by decide)).mono ?_; rintro e w2 ⟨v, hv, rfl, hc, hk⟩; have HCw2 := Lib.hid hc; have HGw2 := Lib.hid ((HGw1.out.keep drew_keep hgt).keep hk hgt); have HKw2 := Lib.hid ((HKw1.out.trans drew_keep).trans hk); have HOw2 := Lib.hid (own_keep (own_drew HOw1.out hcb) hk hcb); have q2 := HGw2.out.ar v hv; have hv2 : (v : Int) < 2 := (by omega); have HS : Hid (∃ k, k < 2 ∧ nmA v = nmA k) := ⟨v, hv, rfl⟩; obtain ⟨X, hX⟩ : ∃ X, nmA v = X := ⟨_, rfl⟩; rw [hX] at q2 HS; clear hc hk hX)
            | (go_simp; go_at_call 66; ((with_reducible refine (MX2.out B cb w3 HCw3.out HGw3.out hgt).mono ?_)); rintro e w4 ⟨ye, yv, rfl, ⟨y0, y1, y2, y3, y4, yA, yl, yq, rfl, hl⟩, hdr, hc, hk⟩; have HCw4 := Lib.hid hc; have HGw4 := Lib.hid (HGw3.out.keep hk hgt); have HKw4 := Lib.hid (HKw3.out.trans hk); have HOw4 := Lib.hid (own_keep HOw3.out hk hcb); have HLy := Lib.hid (ex_low (m := wr.heap.size) hl HKw3.out.size); have HDy := Lib.hid hdr; have hkw4 := Lib.hid hk; have q4 := hk.cell q3 (by have : glTop ≤ cb := hgt; unfold glTop at this; omega); clear hc hk hl hdr)
            | (go_simp; go_at_call 66; ((with_reducible refine (MX2.out B cb w2 HCw2.out HGw2.out hgt).mono ?_)); rintro e w3 ⟨xe, xv, rfl, ⟨x0, x1, x2, x3, x4, xA, xl, xq, rfl, hl⟩, hdr, hc, hk⟩; have HCw3 := Lib.hid hc; have HGw3 := Lib.hid (HGw2.out.keep hk hgt); have HKw3 := Lib.hid (HKw2.out.trans hk); have HOw3 := Lib.hid (own_keep HOw2.out hk hcb); have HLx := Lib.hid (ex_low (m := wr.heap.size) hl HKw2.out.size); have HDx := Lib.hid hdr; have hkw3 := Lib.hid hk; have q3 := hk.cell q2 (by have : glTop ≤ cb := hgt; unfold glTop at this; omega); clear hc hk hl hdr)
            | (refine step_append_own_at rfl (.tmp 54) (.tmp 64) 27 rfl w.heap.size 94 i0 _ 18 232 Tryd.underlying27 HI.out HI0.out HI1.out HI2.out rfl (by decide) u7 acc.length css.flatten (by simp [Act.eval]) (HOw4.out.alloc _) ⟨w4.heap.size, 0, none⟩ 1 1 [.int .i64 2, .string (strB X), .int .i64 0, .int .i64 0, .int .i64 x0, .int .i64 x1, .string x2, .int .i64 x3, .int .i64 x4, .slice xA xl xq, .int .i64 y0, .int .i64 y1, .string y2, .int .i64 y3, .int .i64 y4, .slice yA yl yq, .slice none 0 0, .slice none 0 0] (by simp [Act.eval]) rfl (st_new _ _ _) (by simp [Value.oneCell']) (by unfold maxLen; omega) (by omega) (by rw [new_size]; have := HKw4.out.size; omega) ?_; intro v9 w9 hown hgrow hob; rw [new_size] at hob; have HOW := Lib.hid hown; have HGR := Lib.hid hgrow; have HOB := Lib.hid hob; clear hown hgrow hob))
          all_goals
            clear q2 q3 q4
            have HN := Lib.hid (MsHead.next (s := (.mk 2 X 0 0 xe ye [] [])) HH.out hcb hzr (Nat.le_refl _) (by simp only [drS]; exact ⟨trivial, trivial, .inr (.inl ⟨trivial, HS.out, HDx.out, HDy.out, trivial, trivial⟩)⟩) HCw4.out HKw4.out (st_mk (kind := 2) (name := X) (HLx.out.keep (Nat.le_refl _) hkw4.out (by omega)) HLy.out (sts_nil _ _) (sts_nil _ _)) HOW.out HGR.out HOB.out)
            go_wp2_with fail
            go_roundg g
            case rel => exact ⟨by go_num, _, _, HN.out⟩
            case measure => omega
      by_cases h2 : j = 4 ∨ j = 5
      · obtain rfl | rfl := h2
        all_goals
          go_wp2_with fail
          refine (MX2.out B cb w1 HCw1.out HGw1.out hgt).mono ?_
          rintro e w2 ⟨xe, xv, rfl, ⟨x0, x1, x2, x3, x4, xA, xl, xq, rfl, hl⟩, hdr, hc, hk⟩
          have HCw2 := Lib.hid hc
          have HGw2 := Lib.hid (HGw1.out.keep hk hgt)
          have HKw2 := Lib.hid (HKw1.out.trans hk)
          have HOw2 := Lib.hid (own_keep HOw1.out hk hcb)
          have HLx := Lib.hid (ex_low (m := wr.heap.size) hl HKw1.out.size)
          have HDx := Lib.hid hdr
          have hkw2 := Lib.hid hk
          clear hc hk hl hdr
          go_wp2_with fail
          refine (MX2.out B cb w2 HCw2.out HGw2.out hgt).mono ?_
          rintro e w3 ⟨ye, yv, rfl, ⟨y0, y1, y2, y3, y4, yA, yl, yq, rfl, hl⟩, hdr, hc, hk⟩
          have HCw3 := Lib.hid hc
          have HGw3 := Lib.hid (HGw2.out.keep hk hgt)
          have HKw3 := Lib.hid (HKw2.out.trans hk)
          have HOw3 := Lib.hid (own_keep HOw2.out hk hcb)
          have HLy := Lib.hid (ex_low (m := wr.heap.size) hl HKw2.out.size)
          have HDy := Lib.hid hdr
          have hkw3 := Lib.hid hk
          clear hc hk hl hdr
          go_wp2_with (at_builtin; refine wpList_append_own_at _ rfl _ _ 27 rfl w.heap.size 94 i0 _ 18 232 Tryd.underlying27 HI.out HI0.out HI1.out HI2.out rfl (by decide) _ _ _ rfl (HOw3.out.alloc _) ⟨w3.heap.size, 0, none⟩ 1 1 [.int .i64 5, .string ⟨#[]⟩, .int .i64 0, .int .i64 0, .int .i64 x0, .int .i64 x1, .string x2, .int .i64 x3, .int .i64 x4, .slice xA xl xq, .int .i64 y0, .int .i64 y1, .string y2, .int .i64 y3, .int .i64 y4, .slice yA yl yq, .slice none 0 0, .slice none 0 0] rfl rfl (st_new _ _ _) (by simp [Value.oneCell']) (by unfold maxLen; omega) (by omega) (by rw [new_size]; have := HKw3.out.size; omega) ?_)
          intro v9 w9 hown hgrow _ hob
          have HOW := Lib.hid hown
          have HGR := Lib.hid hgrow
          have HOB := Lib.hid hob
          clear hown hgrow hob
          have HN := Lib.hid (MsHead.next (s := (.mk 5 [] 0 0 xe ye [] [])) HH.out hcb hzr (Nat.le_refl _) (by simp only [drS]; exact ⟨trivial, trivial, .inr (.inr (.inl ⟨trivial, trivial, HDx.out, HDy.out, trivial, trivial⟩))⟩) HCw3.out HKw3.out (st_mk (kind := 5) (name := []) (HLx.out.keep (Nat.le_refl _) hkw3.out (by omega)) HLy.out (sts_nil _ _) (sts_nil _ _)) HOW.out HGR.out HOB.out)
          go_wp2_with fail
          go_roundg g
          case rel => exact ⟨by go_num, _, _, HN.out⟩
          case measure => omega
      by_cases h3 : j = 6
      · obtain rfl := h3
        all_goals
          go_wp2_with fail
          refine (MX2.out B cb w1 HCw1.out HGw1.out hgt).mono ?_
          rintro e w2 ⟨xe, xv, rfl, ⟨x0, x1, x2, x3, x4, xA, xl, xq, rfl, hl⟩, hdr, hc, hk⟩
          have HCw2 := Lib.hid hc
          have HGw2 := Lib.hid (HGw1.out.keep hk hgt)
          have HKw2 := Lib.hid (HKw1.out.trans hk)
          have HOw2 := Lib.hid (own_keep HOw1.out hk hcb)
          have HLx := Lib.hid (ex_low (m := wr.heap.size) hl HKw1.out.size)
          have HDx := Lib.hid hdr
          have hkw2 := Lib.hid hk
          clear hc hk hl hdr
          go_wp2_with (at_builtin; refine wpList_append_own_at _ rfl _ _ 27 rfl w.heap.size 94 i0 _ 18 232 Tryd.underlying27 HI.out HI0.out HI1.out HI2.out rfl (by decide) _ _ _ rfl (HOw2.out.alloc _) ⟨w2.heap.size, 0, none⟩ 1 1 [.int .i64 6, .string ⟨#[]⟩, .int .i64 0, .int .i64 0, .int .i64 0, .int .i64 0, .string ⟨#[]⟩, .int .i64 0, .int .i64 0, .slice none 0 0, .int .i64 x0, .int .i64 x1, .string x2, .int .i64 x3, .int .i64 x4, .slice xA xl xq, .slice none 0 0, .slice none 0 0] rfl rfl (st_new _ _ _) (by simp [Value.oneCell']) (by unfold maxLen; omega) (by omega) (by rw [new_size]; have := HKw2.out.size; omega) ?_)
          intro v9 w9 hown hgrow _ hob
          have HOW := Lib.hid hown
          have HGR := Lib.hid hgrow
          have HOB := Lib.hid hob
          clear hown hgrow hob
          have HN := Lib.hid (MsHead.next (s := (.mk 6 [] 0 0 ex0 xe [] [])) HH.out hcb hzr (Nat.le_refl _) (by simp only [drS]; exact ⟨trivial, trivial, .inr (.inr (.inr (.inl ⟨trivial, trivial, trivial, HDx.out, trivial, trivial⟩)))⟩) HCw2.out HKw2.out (st_mk (kind := 6) (name := []) (ex0_at _ _) HLx.out (sts_nil _ _) (sts_nil _ _)) HOW.out HGR.out HOB.out)
          go_wp2_with fail
          go_roundg g
          case rel => exact ⟨by go_num, _, _, HN.out⟩
          case measure => omega
      by_cases h4 : j = 7 ∨ j = 8
      · obtain rfl | rfl := h4
        all_goals
          go_wp2_with fail
          refine (MX2.out B cb w1 HCw1.out HGw1.out hgt).mono ?_
          rintro e w2 ⟨xe, xv, rfl, ⟨x0, x1, x2, x3, x4, xA, xl, xq, rfl, hl⟩, hdr, hc, hk⟩
          have HCw2 := Lib.hid hc
          have HGw2 := Lib.hid (HGw1.out.keep hk hgt)
          have HKw2 := Lib.hid (HKw1.out.trans hk)
          have HOw2 := Lib.hid (own_keep HOw1.out hk hcb)
          have HLx := Lib.hid (ex_low (m := wr.heap.size) hl HKw1.out.size)
          have HDx := Lib.hid hdr
          have hkw2 := Lib.hid hk
          clear hc hk hl hdr
          go_wp2_with fail
          refine (IH2.out B cb w2 HCw2.out HGw2.out hgt).mono ?_
          rintro e w3 ⟨bs, bA, bn, bc, rfl, hl, hln, hdr, hc, hk⟩
          have HCw3 := Lib.hid hc
          have HGw3 := Lib.hid (HGw2.out.keep hk hgt)
          have HKw3 := Lib.hid (HKw2.out.trans hk)
          have HOw3 := Lib.hid (own_keep HOw2.out hk hcb)
          have HLb := Lib.hid (st_low (m := wr.heap.size) hl HKw2.out.size)
          have HNb := Lib.hid hln
          have HDb := Lib.hid hdr
          have hkw3 := Lib.hid hk
          clear hc hk hl hln hdr
          go_wp2_with fail
          refine (IH1.out B cb w3 HCw3.out HGw3.out hgt).mono ?_
          rintro e w4 ⟨fs, fA, fn, fc, rfl, hl, hln, hdr, hc, hk⟩
          have HCw4 := Lib.hid hc
          have HGw4 := Lib.hid (HGw3.out.keep hk hgt)
          have HKw4 := Lib.hid (HKw3.out.trans hk)
          have HOw4 := Lib.hid (own_keep HOw3.out hk hcb)
          have HLf := Lib.hid (st_low (m := wr.heap.size) hl HKw3.out.size)
          have HNf := Lib.hid hln
          have HDf := Lib.hid hdr
          have hkw4 := Lib.hid hk
          clear hc hk hl hln hdr
          go_wp2_with (at_builtin; refine wpList_append_own_at _ rfl _ _ 27 rfl w.heap.size 94 i0 _ 18 232 Tryd.underlying27 HI.out HI0.out HI1.out HI2.out rfl (by decide) _ _ _ rfl (HOw4.out.alloc _) ⟨w4.heap.size, 0, none⟩ 1 1 [.int .i64 3, .string ⟨#[]⟩, .int .i64 0, .int .i64 0, .int .i64 0, .int .i64 0, .string ⟨#[]⟩, .int .i64 0, .int .i64 0, .slice none 0 0, .int .i64 x0, .int .i64 x1, .string x2, .int .i64 x3, .int .i64 x4, .slice xA xl xq, .slice bA bn bc, .slice fA fn fc] rfl rfl (st_new _ _ _) (by simp [Value.oneCell']) (by unfold maxLen; omega) (by omega) (by rw [new_size]; have := HKw4.out.size; omega) ?_)
          intro v9 w9 hown hgrow _ hob
          have HOW := Lib.hid hown
          have HGR := Lib.hid hgrow
          have HOB := Lib.hid hob
          clear hown hgrow hob
          have HN := Lib.hid (MsHead.next (s := (.mk 3 [] 0 0 ex0 xe bs fs)) HH.out hcb hzr (Nat.le_refl _) (by simp only [drS]; exact ⟨trivial, trivial, .inr (.inr (.inr (.inr (.inl ⟨trivial, trivial, trivial, HDx.out, ⟨HNb.out, HDb.out⟩, HNf.out, HDf.out⟩))))⟩) HCw4.out HKw4.out (st_mk (kind := 3) (name := []) (ex0_at _ _) ((HLx.out.keep (Nat.le_refl _) hkw3.out (by omega)).keep (Nat.le_refl _) hkw4.out (by omega)) (st_keep HLb.out (Nat.le_refl _) hkw4.out (by omega)) HLf.out) HOW.out HGR.out HOB.out)
          go_wp2_with fail
          go_roundg g
          case rel => exact ⟨by go_num, _, _, HN.out⟩
          case measure => omega
      by_cases h5 : j = 9
      · obtain rfl := h5
        all_goals
          go_wp2_with fail
          refine (MX2.out B cb w1 HCw1.out HGw1.out hgt).mono ?_
          rintro e w2 ⟨xe, xv, rfl, ⟨x0, x1, x2, x3, x4, xA, xl, xq, rfl, hl⟩, hdr, hc, hk⟩
          have HCw2 := Lib.hid hc
          have HGw2 := Lib.hid (HGw1.out.keep hk hgt)
          have HKw2 := Lib.hid (HKw1.out.trans hk)
          have HOw2 := Lib.hid (own_keep HOw1.out hk hcb)
          have HLx := Lib.hid (ex_low (m := wr.heap.size) hl HKw1.out.size)
          have HDx := Lib.hid hdr
          have hkw2 := Lib.hid hk
          clear hc hk hl hdr
          go_wp2_with fail
          refine (IH2.out B cb w2 HCw2.out HGw2.out hgt).mono ?_
          rintro e w3 ⟨bs, bA, bn, bc, rfl, hl, hln, hdr, hc, hk⟩
          have HCw3 := Lib.hid hc
          have HGw3 := Lib.hid (HGw2.out.keep hk hgt)
          have HKw3 := Lib.hid (HKw2.out.trans hk)
          have HOw3 := Lib.hid (own_keep HOw2.out hk hcb)
          have HLb := Lib.hid (st_low (m := wr.heap.size) hl HKw2.out.size)
          have HNb := Lib.hid hln
          have HDb := Lib.hid hdr
          have hkw3 := Lib.hid hk
          clear hc hk hl hln hdr
          go_wp2_with (at_builtin; refine wpList_append_own_at _ rfl _ _ 27 rfl w.heap.size 94 i0 _ 18 232 Tryd.underlying27 HI.out HI0.out HI1.out HI2.out rfl (by decide) _ _ _ rfl (HOw3.out.alloc _) ⟨w3.heap.size, 0, none⟩ 1 1 [.int .i64 4, .string ⟨#[]⟩, .int .i64 0, .int .i64 0, .int .i64 0, .int .i64 0, .string ⟨#[]⟩, .int .i64 0, .int .i64 0, .slice none 0 0, .int .i64 x0, .int .i64 x1, .string x2, .int .i64 x3, .int .i64 x4, .slice xA xl xq, .slice bA bn bc, .slice none 0 0] rfl rfl (st_new _ _ _) (by simp [Value.oneCell']) (by unfold maxLen; omega) (by omega) (by rw [new_size]; have := HKw3.out.size; omega) ?_)
          intro v9 w9 hown hgrow _ hob
          have HOW := Lib.hid hown
          have HGR := Lib.hid hgrow
          have HOB := Lib.hid hob
          clear hown hgrow hob
          have HN := Lib.hid (MsHead.next (s := (.mk 4 [] 0 0 ex0 xe bs [])) HH.out hcb hzr (Nat.le_refl _) (by simp only [drS]; exact ⟨trivial, trivial, .inr (.inr (.inr (.inr (.inr ⟨trivial, trivial, trivial, HDx.out, ⟨HNb.out, HDb.out⟩, trivial⟩))))⟩) HCw3.out HKw3.out (st_mk (kind := 4) (name := []) (ex0_at _ _) (HLx.out.keep (Nat.le_refl _) hkw3.out (by omega)) HLb.out (sts_nil _ _)) HOW.out HGR.out HOB.out)
          go_wp2_with fail
          go_roundg g
          case rel => exact ⟨by go_num, _, _, HN.out⟩
          case measure => omega
      omega

theorem ms_all : ∀ d, d ≤ 100 → 1 ≤ d → MsC d
  | 0, _, h => absurd h (by decide)
  | 1, _, _ => ms_base
  | d + 2, hd, _ => ms_step (d + 1) (by omega) (by omega) (ms_all (d + 1) (by omega) (by omega))
end Go.Proofs.YtgblgkkbggdopaaDoor
