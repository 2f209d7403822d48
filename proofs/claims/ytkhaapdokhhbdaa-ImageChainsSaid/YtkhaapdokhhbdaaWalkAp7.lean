/-
  What Apply of package image returns: the cells with the pages replaced, as a list of its own, or nothing and an error. Conditions: at most 1000000 cells.
-/
import Derived.Test.YtkhaapdokhhbdaaWalkRd7
import Derived.Laws.CopyOwn
namespace Go.Proofs.Ytkhaapdokhhbdaa
open Go.RowKit

theorem sizeInt1 : (Try.prog.info? 3).map (·.size) = some 1 := by kernel_rfl
theorem appS_range {zs : List Int} {p : Pg} {r : List Pg} (h : p.1 < 0 ∨ (cntS zs.length : Int) ≤ p.1) : appS zs (p :: r) = ([], 3) := by rw [appS, if_pos h]
theorem appS_shape {zs : List Int} {p : Pg} {r : List Pg} (h : ¬ (p.1 < 0 ∨ (cntS zs.length : Int) ≤ p.1)) (h2 : p.2.length ≠ (pgS zs p.1.toNat).length) : appS zs (p :: r) = ([], 7) := by rw [appS, if_neg h, if_pos h2]
theorem appS_put {zs : List Int} {p : Pg} {r : List Pg} (h : ¬ (p.1 < 0 ∨ (cntS zs.length : Int) ≤ p.1)) (h2 : p.2.length = (pgS zs p.1.toNat).length) : appS zs (p :: r) = appS (putS zs p.1.toNat p.2) r := by rw [appS, if_neg h, if_neg (by simpa using h2)]
theorem drop_at {ps : List Pg} {k : Nat} {p : Pg} (h : ps[k]? = some p) : ps.drop k = p :: ps.drop (k + 1) := by
  have hlt := (List.getElem?_eq_some_iff.1 h).1
  rw [List.drop_eq_getElem_cons hlt]
  rw [List.getElem?_eq_getElem hlt] at h
  injection h with h
  rw [h]
/-- What Apply gives. -/
def ApPost (w : World) (r : List Int × Int) (e : Ending) (w' : World) : Prop := ∃ A c, e = .returned (.tuple #[.slice A r.1.length c, .int .i64 r.2]) ∧ ZsAt w' r.1 A r.1.length ∧ Below w.heap.size w w'
theorem ApPost.of {w w' : World} {r : List Int × Int} {A : Option Addr} {n c : Nat} {x : Int} {zs : List Int} (hr : (zs, x) = r) (hz : ZsAt w' zs A n) (hb : Below w.heap.size w w') : ApPost w r (.returned (.tuple #[.slice A n c, .int .i64 x])) w' := by
  subst hr
  obtain ⟨rfl, h2⟩ := hz
  exact ⟨A, c, rfl, ⟨rfl, h2⟩, hb⟩
theorem take_splice (cur : List Value) (n off : Nat) (cs : List Value) (h : off + cs.length ≤ n) : (splice cur off cs).take n = (cur.take n).take off ++ cs ++ (cur.take n).drop (off + cs.length) := by
  unfold splice
  by_cases hc : off ≤ cur.length
  · rw [List.take_append, List.take_append, List.length_take, Nat.min_eq_left hc, List.take_of_length_le (l := cur.take off) (by simp; omega), List.take_of_length_le (l := cs) (by omega), List.take_take, Nat.min_eq_left (by omega), List.take_drop, List.append_assoc]
    congr 3
    rw [show off + cs.length + (n - off - cs.length) = n by omega]
  · have e : cur.take off = cur := List.take_of_length_le (by omega)
    have e2 : cur.drop (off + cs.length) = [] := List.drop_eq_nil_of_le (by omega)
    have e3 : cur.take n = cur := List.take_of_length_le (by omega)
    rw [e, e2, e3, e, e2, List.append_nil, List.append_nil, List.take_append, e3]
    by_cases hn : cur.length + cs.length ≤ n
    · rw [List.take_of_length_le (by omega)]
    · omega
theorem own_put {w5 : World} {base g n c j : Nat} {cur : List Value} {zs pc : List Int} (hbg : base ≤ g) (h5 : w5.heap[g]? = some (.cells (splice cur (4 * j) (pc.map (Value.int .i64))).toArray 3 (0, 0)))
    (hnc : n ≤ c) (hcm : c ≤ maxLen) (hcl : cur.length = c) (htk : cur.take n = zs.map (Value.int .i64)) (hj : 4 * j + pc.length ≤ n) (hzl : zs.length = n) :
    w5.ownsRow base 3 1 (.slice (some ⟨g, 0, none⟩) n c) n ((putS zs j pc).map (Value.int .i64)) := by
  have e : (splice cur (4 * j) (pc.map (Value.int .i64))).take n = (putS zs j pc).map (Value.int .i64) := by
    rw [take_splice _ _ _ _ (by simpa using hj), htk, putS, List.map_append, List.map_append, List.map_take, List.map_drop, List.length_map]
  refine ⟨?_, .inr ⟨g, c, _, rfl, hbg, h5, hnc, hcm, ?_, ?_⟩⟩
  · rw [← e, List.length_take, length_splice _ _ _ (by simp; omega), hcl]; omega
  · rw [List.size_toArray, length_splice _ _ _ (by simp; omega), hcl]; omega
  · rw [Nat.mul_one]; exact e

set_option maxHeartbeats 2000000 in
set_option maxRecDepth 100000 in
theorem apply_any {S : Nat → Prop} (xs : List Int) (ps : List Pg) (A B : Option Addr) (n m c d : Nat) (w : World) (h1 : ZsAt w xs A n) (h2 : PgAt S w ps B m) (hn : n ≤ 1000000) :
    Calls Try.prog 20 #[.slice A n c, .slice B m d] w (ApPost w (appS xs ps)) := by
  have HX := Lib.hid h1
  have HY := Lib.hid h2
  have HXL := Lib.hid h1.1
  have hii : (m : Int) ≤ 9223372036854775807 := by have := h2.2.1; omega
  have HM := Lib.hid h2.1
  have HN6 : cntS n ≤ 1000000 := by unfold cntS; omega
  obtain ⟨N, hN⟩ : ∃ N, cntS n = N := ⟨_, rfl⟩
  have HNN := Lib.hid hN
  have HCN : Hid (∀ W (G : Option Addr) c, Calls Try.prog 17 #[.slice G n c] W fun e w' => e = .returned (.int .i64 (N : Nat)) ∧ w' = W) := fun W G c => by rw [← HNN.out]; exact count_any G n c W hn
  have HCL := Lib.hid (clone_zs xs A n c w h1 (by omega))
  obtain ⟨R, hR⟩ : ∃ R, appS xs ps = R := ⟨_, rfl⟩
  rw [hR]
  have HR := Lib.hid hR
  clear h1 h2 hN hR
  go_enter Try.func20, Try.ntmps20
  go_wp2_with fail
  refine HCL.out.mono ?_
  rintro e w1 ⟨G, gc, rfl, hown, hb⟩
  have HO := Lib.hid hown
  have HB1 := Lib.hid hb
  clear hown hb HCL
  go_wp2_with fail
  go_loopg [14] m (fun g i wr => ∃ (k : Nat) (zs : List Int), k + g = m ∧ i = .int .i64 k ∧ Hid (zs.length = n ∧ appS zs (ps.drop k) = R) ∧ Hid (wr.ownsRow w.heap.size 3 1 (.slice G n gc) n (zs.map (Value.int .i64))) ∧ Hid (Below w.heap.size w wr))
  case atStart => exact ⟨0, xs, by omega, rfl, ⟨HXL.out.symm, by simpa using HR.out⟩, HO.out, HB1.out⟩
  case round =>
    obtain ⟨k, zs, hkg, rfl, HS, HOW, HB⟩ := hrel
    cases gk with
    | zero =>
      have hkn : k = m := by omega
      subst hkn
      have hnl : ¬ (k : Int) < (k : Int) := by omega
      have HQ : Hid (ApPost w R (.returned (.tuple #[.slice G n gc, .int .i64 0])) wr) := by
        refine ApPost.of (zs := zs) ?_ (ZsAt.own HOW.out (by omega)) HB.out
        have := HS.out.2
        rw [List.drop_eq_nil_of_le (by have := HM.out; omega)] at this
        exact this
      clear hkg
      go_wp2_with fail
      go_ret2
      exact HQ.out
    | succ g =>
      have hlt : k < m := by omega
      have hlt' : (k : Int) < (m : Int) := by omega
      have hk0 : (0 : Int) ≤ (k : Int) := by omega
      have HG := Lib.hid hkg
      obtain ⟨b1, o1, p, A1, c1, rfl, hp, f1, f2, _, hz1⟩ := (HY.out.belowS HB.out).get hlt
      obtain ⟨pn, pc⟩ := p
      simp only at f1 f2 hz1
      have HD := Lib.hid (drop_at hp)
      have HZ := Lib.hid hz1.at
      obtain ⟨l1, hl1⟩ : ∃ x, pc.length = x := ⟨_, rfl⟩
      rw [hl1] at f2 HZ
      have HL1 := Lib.hid hl1
      have HSR : Hid (appS zs ((pn, pc) :: ps.drop (k + 1)) = R) := by show _ = _; rw [← HD.out]; exact HS.out.2
      have HZL := Lib.hid HS.out.1
      have HCT : Hid (cntS zs.length = N) := by show _ = _; rw [HZL.out]; exact HNN.out
      clear hkg hp hz1 hl1 HD
      by_cases hlo : pn < 0
      · have HQ : Hid (∀ W, Below wr.heap.size wr W → ApPost w R (.returned (.tuple #[.slice none 0 0, .int .i64 3])) W) := fun W hb => ApPost.of (zs := []) (by rw [← HSR.out, appS_range (.inl hlo)]) (zs_nil W) (HB.out.trans (hb.mono HB.out.size))
        go_upto_region 5 with fail
        go_quiet (fail)
        go_wp2_with fail
        go_ret2
        exact HQ.out _ (below_drewN ((Below.refl _ _).alloc (Nat.le_refl _) _) _)
      · by_cases hhi : (N : Int) ≤ pn
        · have HQ : Hid (∀ W, Below wr.heap.size wr W → ApPost w R (.returned (.tuple #[.slice none 0 0, .int .i64 3])) W) := fun W hb => ApPost.of (zs := []) (by rw [← HSR.out, appS_range (.inr (by rw [HCT.out]; exact hhi))]) (zs_nil W) (HB.out.trans (hb.mono HB.out.size))
          go_upto_region 5 with fail
          go_quiet ((go_at_call 17; exact Calls.quiet_of_same (HCN.out _ _ _)))
          go_wp2_with fail
          go_ret2
          exact HQ.out _ (below_drewN ((Below.refl _ _).alloc (Nat.le_refl _) _) _)
        · obtain ⟨j, rfl⟩ := Int.eq_ofNat_of_zero_le (show 0 ≤ pn by omega)
          have hjN : j < N := by omega
          have hjn : 4 * j < n := by have := HNN.out; unfold cntS at this; omega
          obtain ⟨_, ⟨_, hz0⟩ | ⟨g0, cap, cur, he, hbg, hblk, hnc, hcm, hcs, htk⟩⟩ := HOW.out
          · omega
          injection he with he1 _ he3
          subst he1 he3
          have HBK : Hid (∀ W, Below wr.heap.size wr W → W.heap[g0]? = some (.cells cur.toList.toArray 3 (0, 0))) := fun W hb => by
            rw [hb.block g0 (lt_of_block hblk), hblk]
          have HCU : Hid (∀ W, Calls Try.prog 27 #[.slice (some ⟨g0, 0, none⟩) n gc, .int .i64 j] W fun e w' => e = .returned (.slice (some ⟨g0, 4 * j, none⟩) (min 4 (n - 4 * j)) (min 4 (n - 4 * j))) ∧ w' = W) := fun W => by
            have := cut_any g0 0 n gc j W hn hnc hjn
            rwa [Nat.zero_add] at this
          have HPL : Hid ((pgS zs j).length = min 4 (n - 4 * j)) := by show _ = _; rw [pgS_len, HZL.out]
          have hLn : 4 * j + min 4 (n - 4 * j) ≤ n := by omega
          obtain ⟨L, hL⟩ : ∃ L, min 4 (n - 4 * j) = L := ⟨_, rfl⟩
          rw [hL] at HCU HPL hLn
          have hL4 : L ≤ 4 := by omega
          have hlo' : ¬ ((j : Int) < 0) := hlo
          have HNR : Hid (¬ ((j : Int) < 0 ∨ (cntS zs.length : Int) ≤ j)) := fun h => by rw [HCT.out] at h; omega
          have HCS : Hid (cur.toList.length = gc) := by show _ = _; rw [Array.length_toList]; omega
          have HTK : Hid (cur.toList.take n = zs.map (Value.int .i64)) := by show _ = _; rw [Nat.mul_one] at htk; exact htk
          have HBG := Lib.hid hbg
          have HNC := Lib.hid hnc
          have HCM := Lib.hid hcm
          clear hL hblk hcs htk hbg hnc hcm hjn
          by_cases hls : l1 = L
          · subst hls
            have hll : ((l1 : Int) != (l1 : Int)) = false := by simp
            have HSRC : Hid (∀ W, Below wr.heap.size wr W → 0 < l1 → ∃ ad, A1 = some ad ∧ ∀ i v, (pc.map (Value.int .i64))[i]? = some v → W.cell? (ad.add i) = some v) := fun W hb h0 => by
              have hz := HZ.out.below hb
              obtain ⟨b, o, rfl⟩ := hz.addr h0
              exact ⟨_, rfl, zs_cells hz⟩
            have HNX : Hid (∀ W : World, W.heap[g0]? = some (.cells (splice cur.toList (4 * j) (pc.map (Value.int .i64))).toArray 3 (0, 0)) → (putS zs j pc).length = n ∧ appS (putS zs j pc) (ps.drop (k + 1)) = R ∧ W.ownsRow w.heap.size 3 1 (.slice (some ⟨g0, 0, none⟩) n gc) n ((putS zs j pc).map (Value.int .i64))) := fun W hW => by
              refine ⟨?_, ?_, own_put HBG.out hW HNC.out HCM.out HCS.out HTK.out (by rw [HL1.out]; exact hLn) HZL.out⟩
              · rw [putS_len (by rw [HL1.out, HPL.out]) (by rw [HZL.out]; omega), HZL.out]
              · have := appS_put (p := ((j : Int), pc)) (r := ps.drop (k + 1)) HNR.out (by show pc.length = (pgS zs (Int.toNat (j : Int))).length; rw [HL1.out, Int.toNat_natCast, HPL.out])
                rw [← HSR.out, this, Int.toNat_natCast]
            have HCL : Hid ((pc.map (Value.int .i64)).length = l1) := by show _ = _; rw [List.length_map, HL1.out]
            go_upto_region 5 with fail
            go_quiet ((go_at_call 17; exact Calls.quiet_of_same (HCN.out _ _ _)))
            go_wp2_with fail
            refine (HCU.out _).mono ?_
            rintro e w3 ⟨rfl, hw3⟩
            have HB3 : Hid (Below wr.heap.size wr w3) := by show Below _ _ _; rw [hw3]; exact below_drewN ((Below.refl _ _).alloc (Nat.le_refl _) _) _
            have hx : w3.heap[wr.heap.size]? = some (.cells #[.int .i64 j, .slice A1 l1 c1] 37 (0, 0)) := by rw [hw3]; exact below_blk (below_drewN (Below.refl _ _) _) (new_blk wr _)
            have q0 : w3.cell? ⟨wr.heap.size, 0, none⟩ = some (.int .i64 j) := by rw [Lib.cell_of_heap hx]; rfl
            have q1 : w3.cell? ⟨wr.heap.size, 1, none⟩ = some (.slice A1 l1 c1) := by rw [Lib.cell_of_heap hx]; rfl
            clear hw3 hx
            go_wp2_with (refine wpList_copy_splice rfl (.tmp 38) (.tmp 40) 22 22 rfl 3 Try.underlying22 sizeInt1 (some ⟨g0, 4 * j, none⟩) A1 l1 l1 l1 c1 rfl rfl g0 (4 * j) cur.toList 3 (HBK.out _ HB3.out) (pc.map (Value.int .i64)) (by rw [HCL.out]; show _ = min l1 l1; simp) (fun h0 => by rw [HCL.out] at h0; obtain ⟨ad, rfl, h⟩ := HSRC.out _ HB3.out h0; exact ⟨rfl, ad, rfl, h⟩) (by rw [HCL.out, HCS.out]; have := HNC.out; omega) (ints_one _) w.heap.size w (HB.out.trans (HB3.out.mono HB.out.size)) HBG.out ?_; intro w5 h5 hb5; have HNX5 := Lib.hid (HNX.out w5 h5.out); have HB5 := Lib.hid hb5; clear h5 hb5)
            go_roundg g
            case rel => exact ⟨k + 1, putS zs j pc, by have := HG.out; omega, by go_num, ⟨HNX5.out.1, HNX5.out.2.1⟩, HNX5.out.2.2, HB5.out⟩
            case measure => omega
          · have hll : ((l1 : Int) != (L : Int)) = true := by rw [bne_iff_ne]; omega
            have HQ : Hid (∀ W, Below wr.heap.size wr W → ApPost w R (.returned (.tuple #[.slice none 0 0, .int .i64 7])) W) := fun W hb => ApPost.of (zs := []) (by rw [← HSR.out, appS_shape HNR.out (by show pc.length ≠ (pgS zs (Int.toNat (j : Int))).length; rw [HL1.out, Int.toNat_natCast, HPL.out]; exact hls)]) (zs_nil W) (HB.out.trans (hb.mono HB.out.size))
            go_upto_region 5 with fail
            go_quiet ((go_at_call 17; exact Calls.quiet_of_same (HCN.out _ _ _)))
            go_wp2_with fail
            refine (HCU.out _).mono ?_
            rintro e w3 ⟨rfl, rfl⟩
            go_wp2_with fail
            go_ret2
            exact HQ.out _ (below_drewN ((Below.refl _ _).alloc (Nat.le_refl _) _) _)
end Go.Proofs.Ytkhaapdokhhbdaa
