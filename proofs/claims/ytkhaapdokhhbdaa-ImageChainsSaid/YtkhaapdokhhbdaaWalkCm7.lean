/-
  What Compose of package image returns: the composition of two lists of pages, as a list of its own. Conditions: at most 1000 pages each; the numbers are ints, and a page's cells take at most 2^47 bytes.
-/
import Derived.Test.YtkhaapdokhhbdaaWalkMm7
namespace Go.Proofs.Ytkhaapdokhhbdaa
open Go.RowKit Go.Maps Go.Sort

theorem cellUp {w W : World} (hb : Below w.heap.size w W) {b o : Nat} {v : Value} (h : w.cell? ⟨b, o, none⟩ = some v) : W.cell? ⟨b, o, none⟩ = some v :=
  (hb.cell (p := ⟨b, o, none⟩) (World.block_lt_of_cell? w _ h)).trans h
theorem grown_of {w W : World} (h : Below w.heap.size w W) : w.grownBy W none := ⟨h.os, h.tape, h.output, h.size, fun k hk _ => h.block k hk⟩
theorem keep_of {w W : World} {b : Nat} (h : w.grownBy W (some b)) : Keep b w W := ⟨h.os, h.tape, h.output, h.size, fun k hk hne => h.block k hk fun e => hne (by injection e)⟩
def preL (a b : List (Int × Value)) : Nat → List (Int × Value) | 0 => [] | 1 => a | _ => a ++ b
/-- What holds of the pages: their numbers are ints, their cells can be copied. -/
def Wee (ps : List Pg) : Prop := ∀ p ∈ ps, (-9223372036854775808 ≤ p.1 ∧ p.1 ≤ 9223372036854775807) ∧ p.2.length * 8 ≤ 140737488355328
theorem keyInt {a : Int} (h : -9223372036854775808 ≤ a ∧ a ≤ 9223372036854775807) : keyOf Try.prog 3 (.int .i64 a) = some (.int .i64 a) :=
  keyOf_int_mk Try.underlying3 (WalkArith.wf_i64 (by omega))
theorem OwnPg.base {b b' : Nat} {w : World} {v : Value} {ps : List Pg} (h : OwnPg b (Off (fun k => b ≤ k) v) w v ps) (hb : b' ≤ b) : OwnPg b' (Off (fun k => b' ≤ k) v) w v ps := by
  obtain ⟨ss, hr, ha⟩ := h
  exact ⟨ss, own_base hr hb, ha.still fun k hk _ => ⟨⟨Nat.le_trans hb hk.1, hk.2⟩, rfl⟩⟩
theorem pairCells {w : World} {T : TypeId} {fr : Nat × Nat} {n : Nat} {u v : Value} (h : w.heap[n]? = some (.cells #[u, v] T fr)) : w.cell? ⟨n, 0, none⟩ = some u ∧ w.cell? ⟨n, 1, none⟩ = some v := ⟨by rw [Lib.cell_of_heap h]; rfl, by rw [Lib.cell_of_heap h]; rfl⟩

set_option maxHeartbeats 4000000 in
set_option maxRecDepth 100000 in
theorem compose_any {S S' : Nat → Prop} (xs ys L : List Pg) (A B : Option Addr) (n m c d : Nat) (w : World) (h1 : PgAt S w xs A n) (h2 : PgAt S' w ys B m) (hn : n ≤ 1000) (hm : m ≤ 1000) (hw : Wee (xs ++ ys)) (hL : IsComp L (xs ++ ys)) :
    Calls Try.prog 23 #[.slice A n c, .slice B m d] w (PgPost w.heap.size w L) := by
  obtain ⟨sx, hx⟩ := PgIn.of h1
  obtain ⟨sy, hy⟩ := PgIn.of h2
  obtain ⟨i0, hi, hz0, hz1, hz2⟩ := info_parts infoPg
  have HI := Lib.hid hi
  have HI0 := Lib.hid hz0
  have HI1 := Lib.hid hz1
  have HI2 := Lib.hid hz2
  have HX := Lib.hid hx
  have HY := Lib.hid hy
  have HW := Lib.hid hw
  have HL := Lib.hid hL
  have HALL := Lib.hid (hx.all.app hy.all)
  have HVA := Lib.hid (vals_app xs ys sx sy hx.all.len)
  have HLX := Lib.hid ((vals_len xs sx hx.all.len).trans hx.len.symm)
  have HLY := Lib.hid ((vals_len ys sy hy.all.len).trans hy.len.symm)
  have hmm := @run_makeMap Try.prog
  clear hi hz0 hz1 hz2 h1 h2 hx hy hw hL
  obtain ⟨b, hb0⟩ : ∃ b, w.heap.size = b := ⟨_, rfl⟩
  have HB0 := Lib.hid hb0
  go_enter Try.func23, Try.ntmps23
  go_wp2_with fail
  clear hmm
  obtain ⟨w2, hw2⟩ : ∃ w2, (w.alloc (.map #[] 0)).alloc (.cells #[.slice A n c, .slice B m d] 29) = w2 := ⟨_, rfl⟩
  have HX2 : Hid (w2.heap[b + 1]? = some (.cells #[.slice A n c, .slice B m d] 29 (0, 0))) := by
    show _ = _
    rw [← hw2, ← hb0]
    have := new_blk (w.alloc (.map #[] 0)) (.cells #[.slice A n c, .slice B m d] 29)
    rwa [new_size] at this
  have HB2 : Hid (Below w.heap.size w w2) := hw2 ▸ (((Below.refl _ _).alloc (Nat.le_refl _) _).alloc (by rw [new_size]; omega) _)
  have HS2 : Hid (w2.heap.size = b + 2) := by show _ = _; rw [← hw2, ← hb0, new_size, new_size]
  have HM2 : Hid (w2.ownsMap Try.prog 3 heldE b 0 (mapD [])) := by
    show World.ownsMap _ _ _ _ _ _ _
    rw [← hw2, ← hb0]
    exact (World.ownsMap_made w Try.prog 3 heldE).alloc _
  simp only [hw2]
  clear hw2 hb0
  obtain ⟨PX, hPX⟩ : ∃ x, vals xs sx = x := ⟨_, rfl⟩
  obtain ⟨PY, hPY⟩ : ∃ x, vals ys sy = x := ⟨_, rfl⟩
  rw [hPX] at HVA HLX
  rw [hPY] at HVA HLY
  have HPX := Lib.hid hPX
  have HPY := Lib.hid hPY
  clear hPX hPY
  go_loopg [18] 2 (fun g i wr => ∃ k : Nat, k + g = 2 ∧ i = .int .i64 k ∧ Hid (wr.ownsMap Try.prog 3 heldE b (preL PX PY k).length (mapD (preL PX PY k))) ∧ Hid (Keep b w2 wr))
  case atStart => exact ⟨0, by omega, rfl, HM2.out, Keep.refl _ _⟩
  case round =>
    obtain ⟨k, hkg, rfl, HOW, HK⟩ := hrel
    have HBW : Hid (Below w.heap.size w wr) := HB2.out.trans (HK.out.below (by rw [HB0.out, HS2.out]; omega) (by rw [HB0.out]; omega))
    cases gk with
    | zero =>
      have hk2 : k = 2 := by omega
      subst hk2
      have hpe : preL PX PY 2 = PX ++ PY := rfl
      have hpl : (preL PX PY 2).length ≤ 2000 := by rw [hpe, List.length_append, HLX.out, HLY.out]; omega
      have hsz := HOW.out.size_le
      have HSC := Lib.hid (sortedCall b _ (mapD (preL PX PY 2)) wr HOW.out (by unfold maxLen; omega) (by omega))
      have HVL2 : Hid (∀ n, (lastS (xs ++ ys) n = none ∧ lastV (PX ++ PY) n = none) ∨ ∃ c A k, lastS (xs ++ ys) n = some c ∧ lastV (PX ++ PY) n = some (.slice A c.length k) ∧ c.length ≤ k ∧ ZsS (fun b => b < w.heap.size) w c A) := fun n => by
        have := vals_last HALL.out n
        rw [HVA.out] at this
        exact this
      have HSK : Hid (∀ ss : List Int, ss.Perm (intKeys (mapD (preL PX PY 2))) → ss.mergeSort (fun x y => decide (x ≤ y)) = L.map Prod.fst) := fun ss hs => sorted_keys HL.out (fun n => by
        rcases HVL2.out n with ⟨e1, e2⟩ | ⟨c, A, k, e1, e2, _⟩
        · rw [hpe, e1, e2]; rfl
        · rw [hpe, e1, e2]; rfl) HOW.out hs
      have hww : w.heap.size ≤ wr.heap.size := HBW.out.size
      have HWW := Lib.hid hww
      clear hkg hpl hsz hww
      go_wp2_with fail
      refine (keysCall (some b) _).mono ?_
      rintro e w3 ⟨rfl, rfl⟩
      go_wp2_with fail
      refine HSC.out.mono ?_
      rintro e w5 ⟨v, kk, rfl, hperm, hrow, hb5⟩
      rw [HSK.out kk hperm] at hrow
      have hkl : kk.length = L.length := by
        have := congrArg List.length (HSK.out kk hperm)
        rw [List.length_mergeSort, List.length_map] at this
        exact this
      rw [hkl] at hrow
      obtain ⟨KV, kc, rfl⟩ := own_slice hrow
      have HB5 : Hid (Below wr.heap.size wr w5) := ((Below.refl wr.heap.size wr).alloc (Nat.le_refl _) _).trans (hb5.mono (Nat.le_succ _))
      have HLL : Hid (L.length ≤ 2000) := by
        show _ ≤ _
        rw [← hkl, hperm.length_eq]
        have h := HOW.out.size_le
        have h2 : (intKeys (mapD (preL PX PY 2))).length = Maps.size (mapD (preL PX PY 2)) := by
          obtain ⟨es, hes⟩ := HOW.out.isMap
          rw [hes]; simp [intKeys, Maps.size]
        rw [h2]
        refine Nat.le_trans h ?_
        rw [hpe, List.length_append, HLX.out, HLY.out]; omega
      have HKZ := Lib.hid (ZsAt.own hrow (by have := HLL.out; omega))
      have HM5 := Lib.hid (HOW.out.kept (grown_of HB5.out) (by simp))
      have HBA := Lib.hid (HBW.out.trans (HB5.out.mono HBW.out.size))
      obtain ⟨N, hN⟩ : ∃ N, L.length = N := ⟨_, rfl⟩
      rw [hN] at HKZ
      rw [hN]
      have HN := Lib.hid hN
      have hN2 : N ≤ 2000 := by rw [← hN]; exact HLL.out
      clear hperm hrow hb5 hkl HSC HSK hN HLL hpe
      go_wp2_with fail
      go_loopg [10, 39] N (fun g l i wr => ∃ k : Nat, k + g = N ∧ i = .int .i64 k ∧ Hid (DfHead w5.heap.size w5 wr (L.take k) l))
      case atStart => exact ⟨0, by omega, rfl, ⟨by rw [List.take_zero]; exact OwnPg.made _ _ _, Below.refl _ _, Nat.le_refl _⟩⟩
      case round =>
        obtain ⟨k, hkg, rfl, HD⟩ := hrel
        obtain ⟨ss, hro, hall⟩ := HD.out.own
        obtain ⟨V, vc, rfl⟩ := own_slice hro
        cases gk with
        | zero =>
          have hkn : k = N := by omega
          subst hkn
          have hkk : ¬ (k : Int) < (k : Int) := by omega
          have HQ : Hid (PgPost w.heap.size w L (.returned (.slice V (L.take k).length vc)) wr) := by
            have h1 := HD.out.own
            have h2 := HD.out.below
            rw [List.take_of_length_le (by rw [HN.out]; exact Nat.le_refl _)] at h1 ⊢
            exact ⟨_, rfl, h1.base HBA.out.size, HBA.out.trans (h2.mono HBA.out.size)⟩
          obtain ⟨q, hq⟩ : ∃ x, (L.take k).length = x := ⟨_, rfl⟩
          rw [hq] at HQ
          rw [hq]
          clear hkg hro hall HD hq
          go_wp2_with fail
          go_ret
          exact HQ.out
        | succ g =>
          have hlt : k < N := by omega
          have hlt' : (k : Int) < (N : Int) := by omega
          have hk0 : (0 : Int) ≤ (k : Int) := by omega
          have HG := Lib.hid hkg
          have HB := Lib.hid HD.out.below
          have HBS := Lib.hid HD.out.size
          obtain ⟨⟨pn, pc⟩, hp⟩ : ∃ p, L[k]? = some p := ⟨_, List.getElem?_eq_getElem (by rw [HN.out]; exact hlt)⟩
          have hlast := (HL.out.2 pn pc).1 (List.mem_of_getElem? hp)
          obtain ⟨A1, c1, hlv, hlc, hzs⟩ : ∃ A1 c1, lastV (PX ++ PY) pn = some (.slice A1 pc.length c1) ∧ pc.length ≤ c1 ∧ ZsS (fun b => b < w.heap.size) w pc A1 := by
            rcases HVL2.out pn with ⟨e1, _⟩ | ⟨c, A, k, e1, e2, e3, e4⟩
            · rw [hlast] at e1; cases e1
            · rw [hlast] at e1
              injection e1 with e1
              subst e1
              exact ⟨A, k, e2, e3, e4⟩
          have hwp := HW.out (pn, pc) (lastS_mem hlast)
          simp only at hwp
          obtain ⟨l1, hl1⟩ : ∃ x, pc.length = x := ⟨_, rfl⟩
          have hzat := hzs.at
          rw [hl1] at hlv hwp hzat
          have HZ1 := Lib.hid hzat
          have HKEY := Lib.hid (keyInt hwp.1)
          have h8 := hwp.2
          have HAT : Hid ((mapD (preL PX PY 2)).atKey (.int .i64 pn) (.held (.slice none 0 0)) = .held (.slice A1 l1 c1)) := by
            show _ = _
            rw [mapD_at]
            show (match lastV (PX ++ PY) pn with | some v => _ | none => _) = _
            rw [hlv]
          have HM6 : Hid (∀ W, Below wr.heap.size wr W → W.ownsMap Try.prog 3 heldE b (preL PX PY 2).length (mapD (preL PX PY 2))) := fun W hb => (HM5.out.kept (grown_of (HB.out.trans (hb.mono HBS.out))) (by simp))
          have HBW3 : Hid (∀ W, Below wr.heap.size wr W → Below w.heap.size w W) := fun W hb => HBA.out.trans ((HB.out.trans (hb.mono HBS.out)).mono HBA.out.size)
          obtain ⟨kb, ko, rfl⟩ := HKZ.out.addr (by omega)
          have kz := HKZ.out.below HB.out
          obtain ⟨kb', ko', ke, kcell⟩ := kz.2.2 (by omega)
          injection ke with ke
          injection ke with ke1 ke2 _
          subst ke1 ke2
          have kc1 := kcell k hlt
          have hkg1 : (L.map Prod.fst).getD k 0 = pn := by rw [List.getD_eq_getElem?_getD, List.getElem?_map, hp]; rfl
          rw [hkg1] at kc1
          have HTK : Hid (L.take (k + 1) = L.take k ++ [(pn, pc)]) := by show _ = _; rw [List.take_add_one, hp]; rfl
          have hpl : (L.take k).length = k := by rw [List.length_take, HN.out]; omega
          have HRO : Hid (∀ W, Below wr.heap.size wr W → W.ownsRow w5.heap.size 37 2 (.slice V k vc) k (pgC (L.take k) ss)) := fun W hb => by
            have := own_bel hro hb
            rw [hpl] at this; exact this
          have PUSH : Hid (∀ (w1 w3 : World) (A' : Option Addr) (c' : Nat) (v' : Value), Below wr.heap.size wr w1 → w1.ownsRow wr.heap.size 3 1 (.slice A' l1 c') l1 (pc.map (Value.int .i64)) → w3.ownsRow w5.heap.size 37 2 v' (k + 1) (pgC (L.take k) ss ++ [.int .i64 pn, .slice A' l1 c']) → (w1.alloc (.cells #[.int .i64 pn, .slice A' l1 c'] 37)).grownBy w3 (Value.ownBlock (.slice V k vc)) → (v'.ownBlock = Value.ownBlock (.slice V k vc) ∨ v'.ownBlock = some (w1.alloc (.cells #[.int .i64 pn, .slice A' l1 c'] 37)).heap.size) → DfHead w5.heap.size w5 w3 (L.take (k + 1)) v') := fun w1 w3 A' c' v' hb1 hz hr hg hl => by
            rw [HTK.out]
            rw [hpl] at hro hall
            exact DfHead.push (ps := L.take k) HB.out HBS.out (by rw [hpl]; exact hro) hall hb1 hz (by omega) (by rw [hpl]; exact hr) hg hl
          rw [hpl]
          clear hkg hp hlast hlv hzs hzat hwp hkg1 kcell kz hro hall HD hl1
          go_wp2_with (first
            | (at_lookup; refine wpList_lookup_held _ rfl (.tmp 45) (.tmp 46) rfl b (preL PX PY 2).length (mapD (preL PX PY 2)) (by simp [Act.eval]) (HM6.out _ (Below.refl _ _)) pn (by simp [Act.eval]) HKEY.out (.slice A1 l1 c1) HAT.out ?_))
          refine (clone_zs pc A1 l1 c1 _ (HZ1.out.below (HBW3.out _ (Below.refl _ _))) h8).mono ?_
          rintro e w4 ⟨A', c', rfl, hz4, hb4⟩
          have HB4 := Lib.hid hb4
          have HZ4 := Lib.hid hz4
          clear hz4 hb4
          go_wp2_with (at_builtin; refine wpList_append_own_at _ rfl (.tmp 43) (.tmp 50) 29 rfl w5.heap.size 37 i0 _ 2 32 Try.underlying29 HI.out HI0.out HI1.out HI2.out rfl (by decide) (.slice V k vc) k (pgC (L.take k) ss) (by simp [Act.eval]) (HRO.out _ (HB4.out.alloc HB4.out.size _)) ⟨w4.heap.size, 0, none⟩ 1 1 [.int .i64 pn, .slice A' l1 c'] (by simp [Act.eval]) rfl page_cells (by simp [Value.oneCell']) (by unfold maxLen; omega) (by omega) (by have := HB4.out.size; have := HBS.out; simp only [new_size]; omega) ?_; intro v9 w9 hown9 hgrow9 hnil9 hob9; have HOW9 := Lib.hid hown9; have HGR := Lib.hid hgrow9; have HOB := Lib.hid hob9; clear hown9 hgrow9 hob9 hnil9)
          have HR := Lib.hid (PUSH.out _ _ A' c' v9 HB4.out HZ4.out HOW9.out HGR.out HOB.out)
          go_roundg g
          case rel => exact ⟨k + 1, by have := HG.out; omega, by go_num, HR.out⟩
          case measure => omega
    | succ g =>
      have hlt : k < 2 := by omega
      have HG := Lib.hid hkg
      obtain ⟨ps, ss, V, len, q, hcell, hin, hpre, hlen, hwee⟩ : ∃ (ps : List Pg) (ss : List Sl) (V : Option Addr) (len q : Nat), wr.cell? ⟨b + 1, k, none⟩ = some (.slice V len q) ∧ PgIn w ps ss V len ∧ preL PX PY (k + 1) = preL PX PY k ++ vals ps ss ∧ len ≤ 1000 ∧ Wee ps := by
        obtain ⟨q0, q1⟩ := pairCells (HK.out.blk HX2.out (by omega))
        match k, hlt with
        | 0, _ => exact ⟨xs, sx, A, n, c, q0, HX.out, by rw [HPX.out]; rfl, hn, fun p hp => HW.out p (List.mem_append_left _ hp)⟩
        | 1, _ => exact ⟨ys, sy, B, m, d, q1, HY.out, by rw [HPY.out]; rfl, hm, fun p hp => HW.out p (List.mem_append_right _ hp)⟩
      have hpl : (preL PX PY k).length ≤ 1000 := by
        match k, hlt with
        | 0, _ => exact Nat.zero_le _
        | 1, _ => show PX.length ≤ 1000; rw [HLX.out]; exact hn
      obtain ⟨P, hP⟩ : ∃ P, preL PX PY k = P := ⟨_, rfl⟩
      rw [hP] at HOW hpre hpl
      obtain ⟨P', hP'⟩ : ∃ P', preL PX PY (k + 1) = P' := ⟨_, rfl⟩
      rw [hP'] at hpre
      have HPN : Hid (preL PX PY (k + 1) = P') := hP'
      have HPRE := Lib.hid hpre
      have HIN := Lib.hid hin
      have HWE := Lib.hid hwee
      have hlt' : (k : Int) < 2 := by omega
      have hVL : (vals ps ss).length = len := (vals_len ps ss hin.all.len).trans hin.len.symm
      have HVL := Lib.hid hVL
      obtain ⟨pl, hpl2⟩ : ∃ x, P.length = x := ⟨_, rfl⟩
      rw [hpl2] at HOW hpl
      have HPL := Lib.hid hpl2
      clear hkg hP hP' hpre hin hwee hVL hpl2
      go_wp2_with fail
      go_loopg [24] len (fun g2 i2 wr => ∃ j : Nat, j + g2 = len ∧ i2 = .int .i64 j ∧ Hid (wr.ownsMap Try.prog 3 heldE b (pl + j) (mapD (P ++ (vals ps ss).take j))) ∧ Hid (Keep b w2 wr))
      case atStart => exact ⟨0, by omega, rfl, by rw [List.take_zero, List.append_nil]; exact HOW.out, HK.out⟩
      case round =>
        obtain ⟨j, hjg, rfl, HOW2, HK2⟩ := hrel
        have HBW2 : Hid (Below w.heap.size w wr) := HB2.out.trans (HK2.out.below (by rw [HB0.out, HS2.out]; omega) (by rw [HB0.out]; omega))
        cases gk with
        | zero =>
          have hjl : j = len := by omega
          subst hjl
          have hnl : ¬ (j : Int) < (j : Int) := by omega
          have HOW3 : Hid (wr.ownsMap Try.prog 3 heldE b (preL PX PY (k + 1)).length (mapD (preL PX PY (k + 1)))) := by
            have h := HOW2.out
            rw [List.take_of_length_le (by rw [HVL.out]; exact Nat.le_refl _), ← HPRE.out] at h
            rw [HPN.out, show P'.length = pl + j by rw [HPRE.out, List.length_append, HPL.out, HVL.out]]
            exact h
          clear hjg
          go_wp2_with fail
          go_roundg g
          case rel => exact ⟨k + 1, by have := HG.out; omega, by go_num, HOW3.out, HK2.out⟩
          case measure => omega
        | succ g2 =>
          have hjl : j < len := by omega
          have hjl' : (j : Int) < (len : Int) := by omega
          have hj0 : (0 : Int) ≤ (j : Int) := by omega
          have HG2 := Lib.hid hjg
          obtain ⟨b1, o1, p, s, rfl, hp, hs, f1, f2⟩ := HIN.out.get hjl
          have hva := vals_at ps ss j p s hp hs
          have hwp := HWE.out p (List.mem_of_getElem? hp)
          obtain ⟨pn, pc⟩ := p
          obtain ⟨A1, c1⟩ := s
          simp only at f1 f2 hva hwp
          obtain ⟨l1, hl1⟩ : ∃ x, pc.length = x := ⟨_, rfl⟩
          rw [hl1] at f2 hva
          have HKEY := Lib.hid (keyInt hwp.1)
          have HTK : Hid ((vals ps ss).take (j + 1) = (vals ps ss).take j ++ [(pn, .slice A1 l1 c1)]) := by
            show _ = _
            rw [List.take_add_one, hva]; rfl
          have f1 := cellUp HBW2.out f1
          have f2 := cellUp HBW2.out f2
          have HOWW : Hid (∀ W, Below wr.heap.size wr W → W.ownsMap Try.prog 3 heldE b (pl + j) (mapD (P ++ (vals ps ss).take j))) := fun W hb => HOW2.out.kept (grown_of hb) (by simp)
          have HNX : Hid (∀ W W9 : World, Below wr.heap.size wr W → W9.ownsMap Try.prog 3 heldE b (pl + j + 1) ((mapD (P ++ (vals ps ss).take j)).put (.int .i64 pn) (.held (.slice A1 l1 c1))) → W.grownBy W9 (some b) → W9.ownsMap Try.prog 3 heldE b (pl + (j + 1)) (mapD (P ++ (vals ps ss).take (j + 1))) ∧ Keep b w2 W9) := fun W W9 hb h1 h2 => by
            refine ⟨?_, (HK2.out.trans (Keep.of_below hb)).trans (keep_of h2)⟩
            rw [HTK.out, ← List.append_assoc, mapD_snoc]
            exact h1
          clear hjg hp hs hva hwp hl1
          go_wp2_with (at_mapUpdate; refine wpList_mapUpdate_own _ rfl (.tmp 28) (.tmp 30) (.tmp 32) 54 rfl 3 22 mLaw Try.underlying54 heldE b (pl + j) (mapD (P ++ (vals ps ss).take j)) (by simp [Act.eval]) (HOWW.out _ ((Below.refl _ _).alloc (Nat.le_refl _) _)) (by unfold maxLen; omega) (.int .i64 pn) (.slice A1 l1 c1) (.int .i64 pn) (by simp [Act.eval]) (by simp [Act.eval]) HKEY.out (.held (.slice A1 l1 c1)) [] rfl ?_; intro w9 hown9 hgrow9; have HN9 := Lib.hid (HNX.out _ w9 ((Below.refl _ _).alloc (Nat.le_refl _) _) hown9 hgrow9); clear hown9 hgrow9)
          go_roundg g2
          case rel => exact ⟨j + 1, by have := HG2.out; omega, by go_num, HN9.out.1, HN9.out.2⟩
          case measure => omega
end Go.Proofs.Ytkhaapdokhhbdaa
