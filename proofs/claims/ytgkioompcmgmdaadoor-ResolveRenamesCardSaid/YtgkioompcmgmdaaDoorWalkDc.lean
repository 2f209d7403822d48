/-
  What declare of package resolve returns: the places of declarations by their names, and the initial values of all cells. Conditions: names have at most 4096 bytes; sizes are of their type.
-/
import Derived.Test.YtgkioompcmgmdaaDoorWalkLk
import Derived.Test.YtgkioompcmgmdaaDoorWalkZs
import Derived.Test.YtgkioompcmgmdaaDoorWalkRp
namespace Go.Proofs.YtgkioompcmgmdaaDoor
open Go.RowKit
open Go.Maps (Keyed string_keyed)

theorem rcells_exact (nm : ByteArray) (sz it : Int) (w : World) : Calls Tryd.prog 29 #[.agg #[.string nm, .int .i64 sz, .int .i64 it]] w fun e w' => e = .returned (.int .i64 (max sz 1)) ∧ w' = w.alloc (.cells #[.string nm, .int .i64 sz, .int .i64 it] 43) := by
  go_enter Tryd.func29, Tryd.ntmps29
  go_wp2_with fail
  all_goals (go_ret; exact ⟨ret_int (by omega), rfl⟩)

/-! ### The map of places -/
theorem keyStrP : Keyed Tryd.prog 9 := string_keyed Tryd.underlying9
/-- An element of the map reads as itself. -/
def RvP (v : Value) : Option (DataW Value × List MemPlace) := some (.held v, [])
/-- A place. -/
def plV (x : Int × Int) : Value := .agg #[.int .i64 x.1, .int .i64 x.2]
theorem zeroPl (w : World) : (zeroValue 83).run Tryd.prog w = .ok (plV (0, 0)) w := by kernel_rfl
theorem key_ofP (s : List UInt8) (hs : s.length ≤ 4096) : keyOf Tryd.prog 9 (.string (strB s)) = some (.string s) := by
  have := Go.WideMaps.keyOf_string_mk Tryd.underlying9 (s := strB s) (by rw [str_size]; unfold maxLen; omega)
  rw [str_data] at this; exact this
/-- What the map holds. -/
def PlIs (D : DataW Value) (f : Pl) : Prop := ∀ s zd, D.atKey (.string s) zd = match f s with | none => zd | some x => .held (plV x)
theorem PlIs.zero : PlIs (.map []) pl0 := fun _ _ => rfl
theorem PlIs.put {w : World} {b n : Nat} {D : DataW Value} {f : Pl} (h : PlIs D f) (ho : w.ownsMap Tryd.prog 9 RvP b n D) (nm : List UInt8) (x : Int × Int) : PlIs (D.put (.string nm) (.held (plV x))) (f.upd nm x) := fun s zd => by
  have hm : Go.Maps.IsMap D := by obtain ⟨es, clock, _, _, _, rfl⟩ := ho; exact ⟨_, rfl⟩
  unfold Pl.upd
  by_cases e : s = nm
  · subst e
    rw [if_pos rfl]
    exact Go.Maps.atKey_put_same hm (by trivial) _ _
  · rw [if_neg e, Go.Maps.atKey_put_other (fun h => by injection h with h; exact e h)]
    exact h s zd
theorem look_pl {w : World} {b n : Nat} {D : DataW Value} {f : Pl} (h : w.ownsMap Tryd.prog 9 RvP b n D) (hf : PlIs D f) (s : List UInt8) (hs : s.length ≤ 4096) :
    (Instr.lookup 61 (.map (some b)) (.string (strB s)) true).run Tryd.prog w = .ok (.tuple #[plV ((f s).getD (0, 0)), .bool (f s).isSome]) w := by
  obtain ⟨es, clock, hb, F, _, rfl⟩ := h
  rcases Go.Maps.fit_look true keyStrP Tryd.underlying61 (zeroPl w) hb F (key_ofP s hs) with ⟨hrun, _, hat⟩ | ⟨e0, y, _, _, hrun, hRv, hat, _⟩
  · have h0 := (hf s .nil).symm.trans (hat .nil)
    have h1 := (hf s (.held (plV (0, 0)))).symm.trans (hat (.held (plV (0, 0))))
    cases hs' : f s with
    | none => rw [hrun]; rfl
    | some x => rw [hs'] at h0; cases h0
  · simp only [RvP, Option.some.injEq] at hRv
    subst hRv
    have h0 := (hf s .nil).symm.trans (hat .nil)
    cases hs' : f s with
    | none => rw [hs'] at h0; cases h0
    | some x =>
      rw [hs'] at h0
      have e : plV x = e0.val := DataW.held.inj h0
      rw [hrun, ← e]; rfl

theorem map_below {b n : Nat} {w w' : World} {D : DataW Value} (h : w.ownsMap Tryd.prog 9 RvP b n D) (hb : Below w.heap.size w w') : w'.ownsMap Tryd.prog 9 RvP b n D := by
  obtain ⟨es, clock, hbb, F, hs, hD⟩ := h
  exact ⟨es, clock, below_blk hb hbb, F, hs, hD⟩
theorem map_blk {b n : Nat} {w w' : World} {D : DataW Value} (h : w.ownsMap Tryd.prog 9 RvP b n D) (hb : w'.heap[b]? = w.heap[b]?) : w'.ownsMap Tryd.prog 9 RvP b n D := by
  obtain ⟨es, clock, hbb, F, hs, hD⟩ := h
  exact ⟨es, clock, hb.trans hbb, F, hs, hD⟩

theorem seenS_drop {l : List Vr} {k : Nat} {v : Vr} (h : l[k]? = some v) (f : Pl) : seenS (l.drop k) f = if (f v.name).isSome then none else seenS (l.drop (k + 1)) (f.upd v.name (0, 0)) := by
  have hlt := (List.getElem?_eq_some_iff.1 h).1
  have hv : l[k] = v := (List.getElem?_eq_some_iff.1 h).2
  rw [List.drop_eq_getElem_cons hlt, hv]
  rfl
theorem valsS_drop {l : List Vr} {k : Nat} {v : Vr} (h : l[k]? = some v) (acc : List Int) (f : Pl) : valsS (l.drop k) acc f = if 32 - (acc.length : Int) < cellsN v then none else valsS (l.drop (k + 1)) (acc ++ List.replicate (cellsN v).toNat v.init) (f.upd v.name (acc.length, v.size)) := by
  have hlt := (List.getElem?_eq_some_iff.1 h).1
  have hv : l[k] = v := (List.getElem?_eq_some_iff.1 h).2
  rw [List.drop_eq_getElem_cons hlt, hv]
  rfl

theorem rp_two (w : World) (a b : Obj) : Below w.heap.size w (((w.alloc a).alloc b).drew) := (((Below.refl _ _).alloc (Nat.le_refl _) a).alloc (by rw [new_size]; omega) b).drew
theorem rp_cell1 (w : World) (u : Value) (T : TypeId) (x : Obj) : (((w.alloc (.cells #[u] T)).alloc x).drew).cell? ⟨w.heap.size, 0, none⟩ = some u := by
  have h : (((w.alloc (.cells #[u] T)).alloc x).drew).heap[w.heap.size]? = some (.cells #[u] T (0, 0)) := (alloc_blk _ x (by rw [new_size]; omega)).trans (new_blk w _)
  rw [Lib.cell_of_heap h]; rfl
theorem rp_cell2 (w : World) (u : Value) (T : TypeId) (x : Obj) : (((w.alloc x).alloc (.cells #[u] T)).drew).cell? ⟨w.heap.size + 1, 0, none⟩ = some u := by
  have h : (((w.alloc x).alloc (.cells #[u] T)).drew).heap[w.heap.size + 1]? = some (.cells #[u] T (0, 0)) := by
    have := new_blk (w.alloc x) (.cells #[u] T)
    rwa [new_size] at this
  rw [Lib.cell_of_heap h]; rfl

/-- What declare returns. -/
def DcPost (R : Int × List Int × Pl) (w : World) (e : Ending) (w' : World) : Prop :=
  Below w.heap.size w w' ∧ ((R.1 = 0 ∧ ∃ b n D v, e = .returned (.tuple #[.map (some b), v, .int .i64 0]) ∧ w.heap.size ≤ b ∧ w'.ownsMap Tryd.prog 9 RvP b n D ∧ PlIs D R.2.2 ∧ w'.ownsRow (w.heap.size + 1) 3 1 v R.2.1.length (R.2.1.map (Value.int .i64))) ∨
    (R.1 ≠ 0 ∧ e = .returned (.tuple #[.map none, .slice none 0 0, .int .i64 R.1])))

set_option maxHeartbeats 4000000 in
set_option maxRecDepth 100000 in
theorem declare_any (l : List Vr) (hnm : ∀ v ∈ l, v.name.length ≤ 4096) (hn : l.length ≤ 100000) (S : Nat → Prop) (w : World) (A : Option Addr) (n c : Nat) (hl : VrSlice S w l (.slice A n c)) :
    Calls Tryd.prog 21 #[.slice A n c] w (DcPost (declS l) w) := by
  have HL := Lib.hid hl
  have hnl : n = l.length := by obtain ⟨_, _, e, _⟩ := hl; injection e
  have HN := Lib.hid hnl
  have HNM := Lib.hid hnm
  have hn1 : n ≤ 100000 := by omega
  obtain ⟨R, hR⟩ : ∃ R, declS l = R := ⟨_, rfl⟩
  rw [hR]
  unfold declS at hR
  have HR := Lib.hid hR
  clear hl hnl hn hR hnm
  by_cases h16 : 16 < n
  · have HQ : Hid ((4, [], pl0) = R) := by have := HR.out; rw [if_pos (by rw [← HN.out]; exact h16)] at this; exact this
    have h16' : (16 : Int) < (n : Int) := by omega
    clear h16 HR
    go_enter Tryd.func21, Tryd.ntmps21
    go_wp2_with fail
    refine bodyPost_ret (v := .tuple #[.map none, .slice none 0 0, .int .i64 4]) (by simp [results, Tryd.results21, go_sem]) rfl ?_
    rw [← HQ.out]
    exact ⟨Below.refl _ _, .inr ⟨by decide, rfl⟩⟩
  · have HQ : Hid ((match seenS l pl0 with | none => (2, [], pl0) | some f => match valsS l [] f with | none => (4, [], pl0) | some (a, g) => (0, a, g)) = R) := by have := HR.out; rw [if_neg (by rw [← HN.out]; exact h16)] at this; exact this
    have h16' : (n : Int) ≤ 16 := by omega
    clear h16 HR
    have hmm := @run_makeMap Tryd.prog
    go_enter Tryd.func21, Tryd.ntmps21
    go_wp2_with fail
    clear hmm
    go_loopg [19] n (fun g i wr => ∃ (k n0 : Nat) (D : DataW Value) (f : Pl), k + g = n ∧ i = .int .i64 k ∧ n0 ≤ k ∧ Hid (seenS (l.drop k) f = seenS l pl0) ∧ Hid (wr.ownsMap Tryd.prog 9 RvP w.heap.size n0 D) ∧ Hid (PlIs D f) ∧ Hid (Below w.heap.size w wr))
    case atStart => exact ⟨0, 0, .map [], pl0, by omega, rfl, Nat.le_refl _, rfl, World.ownsMap_made _ _ _ _, PlIs.zero, (Below.refl _ _).alloc (Nat.le_refl _) _⟩
    case round =>
      obtain ⟨k, n0, D, f, hkg, rfl, hn0, HS, HO, HD, HB⟩ := hrel
      cases gk with
      | zero =>
        have hge : n ≤ k := by omega
        have HF : Hid (seenS l pl0 = some f) := by
          show _ = _
          rw [← HS.out, List.drop_eq_nil_of_le (by have := HN.out; omega)]; rfl
        have HQ1 : Hid ((match valsS l [] f with | none => (4, [], pl0) | some (a, g) => (0, a, g)) = R) := by have := HQ.out; rw [HF.out] at this; exact this
        have hn02 : n0 ≤ 100000 := by omega
        clear hkg HQ HF HS hn0
        go_wp2_with fail
        obtain ⟨bz, hbz⟩ : ∃ x, decide (k < n) = x := ⟨_, rfl⟩
        rw [hbz]
        clear hbz
        go_loopg [10, 38] n (fun g v i wr => ∃ (k n0 : Nat) (D : DataW Value) (f2 : Pl) (acc : List Int), k + g = n ∧ i = .int .i64 k ∧ n0 + g ≤ 200000 ∧ acc.length ≤ 32 ∧ Hid (valsS (l.drop k) acc f2 = valsS l [] f) ∧ Hid (wr.ownsMap Tryd.prog 9 RvP w.heap.size n0 D) ∧ Hid (PlIs D f2) ∧ Hid (wr.ownsRow (w.heap.size + 1) 3 1 v acc.length (acc.map (Value.int .i64))) ∧ Hid (Below w.heap.size w wr))
        case atStart => exact ⟨0, n0, D, f, [], by omega, rfl, by omega, by simp, rfl, HO, HD, World.ownsRow_nil _ _ _ _, HB⟩
        case round =>
          obtain ⟨k, n0, D, f2, acc, hkg, rfl, hn0, hacc, HV, HO, HD, HW, HB⟩ := hrel
          obtain ⟨A1, c1, rfl⟩ := own_slice HW.out
          cases gk with
          | zero =>
            have hge2 : n ≤ k := by omega
            have HQ2 : Hid ((0, acc, f2) = R) := by
              have h1 : valsS l [] f = some (acc, f2) := by rw [← HV.out, List.drop_eq_nil_of_le (by have := HN.out; omega)]; rfl
              have := HQ1.out; rw [h1] at this; exact this
            clear hkg
            go_wp2_with fail
            refine bodyPost_ret (v := .tuple #[.map (some w.heap.size), .slice A1 acc.length c1, .int .i64 0]) (by simp [results, Tryd.results21, go_sem]) rfl ?_
            rw [← HQ2.out]
            exact ⟨HB.out, .inl ⟨rfl, w.heap.size, n0, D, _, rfl, Nat.le_refl _, HO.out, HD.out, HW.out⟩⟩
          | succ g =>
            have hlt : k < n := by omega
            have HG := Lib.hid hkg
            clear hkg
            obtain ⟨v, hv⟩ : ∃ v, l[k]? = some v := ⟨_, List.getElem?_eq_getElem (by have := HN.out; omega)⟩
            have hst := valsS_drop hv acc f2
            rw [HV.out] at hst
            have hvn := HNM.out v (List.mem_of_getElem? hv)
            obtain ⟨-, -, b, o, rfl, -, hbb, d0, d1, d2⟩ := HL.out.get hv
            have hw : ∀ j u, w.cell? ⟨b, j, none⟩ = some u → wr.cell? ⟨b, j, none⟩ = some u := fun j u hu => (HB.out.cell (p := ⟨b, j, none⟩) hbb).trans hu
            replace d0 := hw _ _ d0
            replace d1 := hw _ _ d1
            replace d2 := hw _ _ d2
            obtain ⟨vn, vs, vi⟩ := v
            simp only at d0 d1 d2 hst hvn
            rw [show cellsN ⟨vn, vs, vi⟩ = max vs 1 from rfl] at hst
            obtain ⟨mx, hmx⟩ := Int.eq_ofNat_of_zero_le (show 0 ≤ max vs 1 by omega)
            have hm1 : 1 ≤ mx := by omega
            have HC := Lib.hid (fun W => rcells_exact (strB vn) vs vi W)
            rw [hmx] at hst HC
            rw [Int.toNat_natCast] at hst
            obtain ⟨L, hL⟩ : ∃ L, acc.length = L := ⟨_, rfl⟩
            have HLL := Lib.hid hL
            rw [hL] at hst hacc HW ⊢
            clear hw hv hmx hL
            by_cases hov : 32 - (L : Int) < (mx : Int)
            · rw [if_pos hov] at hst
              have HQ2 : Hid ((4, [], pl0) = R) := by have := HQ1.out; rw [hst] at this; exact this
              clear hst
              go_wp2_with fail
              refine (HC.out _).mono ?_
              rintro e w4 ⟨rfl, rfl⟩
              clear HC
              go_wp2_with fail
              refine bodyPost_ret (v := .tuple #[.map none, .slice none 0 0, .int .i64 4]) (by simp [results, Tryd.results21, go_sem]) rfl ?_
              rw [← HQ2.out]
              exact ⟨(HB.out.alloc HB.out.size _).alloc (by rw [new_size]; have := HB.out.size; omega) _, .inr ⟨by decide, rfl⟩⟩
            · rw [if_neg hov] at hst
              have HST := Lib.hid hst
              have hov1 : (mx : Int) ≤ 32 - (L : Int) := by omega
              have HKEY := Lib.hid (key_ofP vn hvn)
              have hmb := HO.out.lt
              clear hst hvn hov
              go_wp2_with fail
              refine (HC.out _).mono ?_
              rintro e w4 ⟨rfl, rfl⟩
              go_wp2_with (at_mapUpdate; refine wpList_mapUpdate_own _ rfl _ _ _ 61 rfl 9 83 keyStrP Tryd.underlying61 RvP w.heap.size n0 D rfl (map_below HO.out (((Below.refl _ _).alloc (Nat.le_refl _) _).alloc (by rw [new_size]; omega) _)) (by unfold maxLen; omega) _ _ (.string vn) rfl rfl HKEY.out (.held (plV (L, vs))) [] rfl ?_; intro w6 hown6 hg6)
              have hZ : ((wr.alloc (.cells #[.string (strB vn), .int .i64 vs, .int .i64 vi] 43)).alloc (.cells #[.string (strB vn), .int .i64 vs, .int .i64 vi] 43)).heap.size = wr.heap.size + 1 + 1 := by rw [new_size, new_size]
              have HX6 : Hid (w6.heap[wr.heap.size]? = some (.cells #[.string (strB vn), .int .i64 vs, .int .i64 vi] 43 (0, 0))) :=
                (hg6.block _ (by rw [hZ]; omega) (fun e => by injection e with e; omega)).trans ((alloc_blk _ _ (by rw [new_size]; omega)).trans (new_blk wr _))
              have HO6 := Lib.hid hown6
              have HD6 := Lib.hid (HD.out.put HO.out vn ((L : Int), vs))
              have HB6 : Hid (Below w.heap.size w w6) := by
                have h1 := (HB.out.alloc HB.out.size (.cells #[.string (strB vn), .int .i64 vs, .int .i64 vi] 43)).alloc (by rw [new_size]; omega) (.cells #[.string (strB vn), .int .i64 vs, .int .i64 vi] 43)
                exact h1.trans ⟨hg6.os, hg6.tape, hg6.output, hg6.size, fun j hj => hg6.block j (by rw [hZ]; omega) (fun e => by injection e with e; omega)⟩
              have HW6 : Hid (w6.ownsRow (w.heap.size + 1) 3 1 (.slice A1 L c1) L (acc.map (Value.int .i64))) := by
                refine ((HW.out.alloc _).alloc _).kept hg6 ?_
                cases hob : (Value.slice A1 L c1).ownBlock with
                | none => exact .inl rfl
                | some j => exact .inr (fun e => by injection e with e; have := HW.out.lt j hob; omega)
              have hz6 : wr.heap.size < w6.heap.size := lt_of_block HX6.out
              obtain ⟨nb, hnb⟩ : ∃ x, wr.heap.size = x := ⟨_, rfl⟩
              rw [hnb] at HX6 hz6 hmb ⊢
              have q0 : w6.cell? ⟨nb, 0, none⟩ = some (.string (strB vn)) := by rw [Lib.cell_of_heap HX6.out]; rfl
              have q1 : w6.cell? ⟨nb, 1, none⟩ = some (.int .i64 vs) := by rw [Lib.cell_of_heap HX6.out]; rfl
              have q2 : w6.cell? ⟨nb, 2, none⟩ = some (.int .i64 vi) := by rw [Lib.cell_of_heap HX6.out]; rfl
              clear hown6 hg6 d0 d1 d2 hnb hZ HO HD HW HX6 HV hmb
              obtain ⟨i0, hi, hz0, hz1, hz2⟩ := info_parts infoInt
              have HI := Lib.hid hi
              have HI0 := Lib.hid hz0
              have HI1 := Lib.hid hz1
              have HI2 := Lib.hid hz2
              clear hi hz0 hz1 hz2
              have hmx32 : mx ≤ 32 := by omega
              have HRP : Hid (∀ W blk, W.cell? ⟨blk, 0, none⟩ = some (.int .i64 vi) → Below w6.heap.size w6 W → Calls Tryd.prog 35 #[.slice (some ⟨blk, 0, none⟩) 1 1, .int .i64 mx] W fun e w' => ∃ g, e = .returned (.slice (some ⟨g, 0, none⟩) mx mx) ∧ Below w6.heap.size w6 w' ∧ ∀ j u, (List.replicate mx (Value.int .i64 vi))[j]? = some u → w'.cell? ((⟨g, 0, none⟩ : Addr).add j) = some u) :=
                fun W blk h1 h2 => (repeat_any vi mx blk 0 W hm1 (by omega) h1).mono fun e w' ⟨g, h3, _, h5, h6⟩ => ⟨g, h3, h2.trans (h6.mono h2.size), fun j u hj => by
                  rw [Addr.add_lit, Nat.zero_add, Lib.cell_of_heap h5, List.getElem?_toArray]; exact hj⟩
              go_region_law (first
                | (go_simp; go_at_call 29; refine (HC.out _).mono ?_; rintro e w7 ⟨rfl, rfl⟩)
                | (go_simp; go_at_call 35; refine (HRP.out _ _ (by first | exact rp_cell1 _ _ _ _ | exact rp_cell2 _ _ _ _) (rp_two _ _ _)).mono ?_; rintro e w8 ⟨g8, rfl, hb8, hnews⟩; have HB8 := Lib.hid hb8; have HNW := Lib.hid hnews; clear hb8 hnews)
                | (refine step_append_own_at rfl (.tmp 56) (.tmp 62) 33 rfl (w.heap.size + 1) 3 i0 _ 1 8 Tryd.underlying33 HI.out HI0.out HI1.out HI2.out rfl (by decide) (.slice A1 L c1) L (acc.map (Value.int .i64)) (by simp [Act.eval]) (own_bel HW6.out HB8.out) ⟨g8, 0, none⟩ mx mx (List.replicate mx (.int .i64 vi)) (by simp [Act.eval]) (by rw [List.length_replicate, Nat.mul_one]) HNW.out (rpOne vi mx) (by unfold maxLen; omega) (by omega) (by have := HB8.out.size; have := HB6.out.size; have := HO6.out.lt; omega) ?_; intro v9 w9 hown9 hgrow9 hob9; have HOW := Lib.hid hown9; have HGR := Lib.hid hgrow9; clear hown9 hgrow9 hob9))
              all_goals
                have HO9 : Hid (w9.ownsMap Tryd.prog 9 RvP w.heap.size (n0 + 1) (D.put (.string vn) (.held (plV (L, vs))))) :=
                  map_blk (map_below HO6.out HB8.out) (HGR.out.block _ (Nat.lt_of_lt_of_le HO6.out.lt HB8.out.size) (own_no HW6.out))
                have HW9 : Hid (w9.ownsRow (w.heap.size + 1) 3 1 v9 (acc ++ List.replicate mx vi).length ((acc ++ List.replicate mx vi).map (Value.int .i64))) := by
                  have := HOW.out
                  rw [List.length_append, List.length_replicate, HLL.out, List.map_append, List.map_replicate]
                  exact this
                have HB9 : Hid (Below w.heap.size w w9) := (HB6.out.trans (HB8.out.mono HB6.out.size)).trans ⟨HGR.out.os, HGR.out.tape, HGR.out.output, HGR.out.size, fun j hj => HGR.out.block j (Nat.lt_of_lt_of_le hj (Nat.le_trans HB6.out.size HB8.out.size)) (own_no' HW6.out (by omega))⟩
                clear q0 q1 q2
                go_wp2_with fail
                go_roundg g
                case rel => exact ⟨k + 1, n0 + 1, _, _, acc ++ List.replicate mx vi, by have := HG.out; omega, by go_num, by omega, by rw [List.length_append, List.length_replicate, HLL.out]; omega, HST.out.symm, HO9, HD6, HW9, HB9⟩
                case measure => omega
      | succ g =>
        have hlt : k < n := by omega
        have HG := Lib.hid hkg
        clear hkg
        obtain ⟨v, hv⟩ : ∃ v, l[k]? = some v := ⟨_, List.getElem?_eq_getElem (by have := HN.out; omega)⟩
        have hst := seenS_drop hv f
        rw [HS.out] at hst
        have hvn := HNM.out v (List.mem_of_getElem? hv)
        obtain ⟨-, -, b, o, rfl, -, hbb, d0, d1, d2⟩ := HL.out.get hv
        have hw : ∀ j u, w.cell? ⟨b, j, none⟩ = some u → wr.cell? ⟨b, j, none⟩ = some u := fun j u hu => (HB.out.cell (p := ⟨b, j, none⟩) hbb).trans hu
        replace d0 := hw _ _ d0
        replace d1 := hw _ _ d1
        replace d2 := hw _ _ d2
        obtain ⟨vn, vs, vi⟩ := v
        simp only at d0 d1 d2 hst hvn
        clear hw hv
        have hmb := HO.out.lt
        have hlk := look_pl (map_blk (w' := wr.alloc (.cells #[.string (strB vn), .int .i64 vs, .int .i64 vi] 43)) HO.out (alloc_blk wr _ hmb)) HD.out vn hvn
        have HKEY := Lib.hid (key_ofP vn hvn)
        obtain ⟨x, hx⟩ : ∃ x, (f vn).getD (0, 0) = x := ⟨_, rfl⟩
        obtain ⟨bx, hbx⟩ : ∃ x, (f vn).isSome = x := ⟨_, rfl⟩
        rw [hx, hbx] at hlk
        rw [hbx] at hst
        have HST := Lib.hid hst
        clear hx hbx hst hvn
        obtain ⟨x1, x2⟩ := x
        simp only [plV] at hlk
        cases bx with
        | true =>
          have HQ1 : Hid ((2, [], pl0) = R) := by have := HQ.out; rw [HST.out, if_pos rfl] at this; exact this
          clear HQ HST
          go_wp2_with fail
          refine bodyPost_ret (v := .tuple #[.map none, .slice none 0 0, .int .i64 2]) (by simp [results, Tryd.results21, go_sem]) rfl ?_
          rw [← HQ1.out]
          exact ⟨(HB.out.alloc HB.out.size _).alloc (by rw [new_size]; have := HB.out.size; omega) _, .inr ⟨by decide, rfl⟩⟩
        | false =>
          go_wp2_with (at_mapUpdate; refine wpList_mapUpdate_own _ rfl _ _ _ 61 rfl 9 83 keyStrP Tryd.underlying61 RvP w.heap.size n0 D rfl (map_below HO.out (((Below.refl _ _).alloc (Nat.le_refl _) _).alloc (by rw [new_size]; omega) _)) (by unfold maxLen; omega) _ _ (.string vn) rfl rfl HKEY.out (.held (plV (0, 0))) [] rfl ?_; intro w6 hown6 hg6)
          have HN6 : Hid (seenS (l.drop (k + 1)) (f.upd vn (0, 0)) = seenS l pl0) := by
            show _ = _
            rw [HST.out, if_neg (by simp)]
          have HO6 := Lib.hid hown6
          have HD6 := Lib.hid (HD.out.put HO.out vn (0, 0))
          have HB6 : Hid (Below w.heap.size w w6) := by
            have h1 := (HB.out.alloc HB.out.size (.cells #[.string (strB vn), .int .i64 vs, .int .i64 vi] 43)).alloc (by rw [new_size]; omega) (.cells #[.int .i64 x1, .int .i64 x2] 83)
            exact h1.trans ⟨hg6.os, hg6.tape, hg6.output, hg6.size, fun j hj => hg6.block j (by rw [new_size, new_size]; omega) (fun e => by injection e with e; omega)⟩
          clear hown6 hg6 hlk d0 d1 d2 HST HS
          go_roundg g
          case rel => exact ⟨k + 1, n0 + 1, _, _, by have := HG.out; omega, by go_num, by omega, HN6, HO6, HD6, HB6⟩
          case measure => omega
end Go.Proofs.YtgkioompcmgmdaaDoor
