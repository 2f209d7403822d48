/-
  The walk of the law ResolveLimits. No conditions.
-/
import Derived.Test.YtapdeehioiodoaaDoorWalkA3
namespace Go.Proofs.YtapdeehioiodoaaDoor
open Go.RowKit

/-- An array and a variable. -/
def liA (K : Nat) : List Vr := [⟨[97], 1 + (K : Int), 0⟩, ⟨[120], 0, 0⟩]
/-- Variables with names of two letters. -/
def liV (j : Nat) : List Vr := (List.range j).map fun (i : Nat) => (⟨[118, 97 + i.toUInt8], 0, (i : Int)⟩ : Vr)
theorem liA_res : ∀ K, K < 40 → (resV (liA K)).1 = (if 30 < K then 4 else 0) ∧ (resV (liA K)).2.length = (if 30 < K then 0 else 2 + K) := by decide +kernel
theorem liV_res : ∀ j, j < 20 → (resV (liV j)).1 = (if 16 < j then 4 else 0) ∧ (resV (liV j)).2.length = (if 16 < j then 0 else j) := by decide +kernel
theorem liV_names : ∀ j, j < 20 → ∀ v ∈ liV j, v.name.length ≤ 4096 := by decide +kernel
theorem liV_succ (j : Nat) : liV (j + 1) = liV j ++ [⟨[118, 97 + j.toUInt8], 0, j⟩] := by
  unfold liV
  rw [List.range_succ, List.map_append]
  rfl
theorem liV_len (j : Nat) : (liV j).length = j := by simp [liV]
theorem li_cut : ∀ j, j < 20 → ({ data := #[97, 98, 99, 100, 101, 102, 103, 104, 105, 106, 107, 108, 109, 110, 111, 112, 113, 114, 115, 116] } : ByteArray).extract j (j + 1) = strB [97 + j.toUInt8] := by decide +kernel
theorem li_cat : ∀ j, j < 20 → ({ data := #[118] } : ByteArray) ++ strB [97 + j.toUInt8] = strB [118, 97 + j.toUInt8] := by decide +kernel
theorem rp_one (w : World) (a : Obj) : Below w.heap.size w ((w.alloc a).drew) := ((Below.refl _ _).alloc (Nat.le_refl _) a).drew
theorem rp_cells (w : World) (cs : List Value) (T : TypeId) : ∀ j u, cs[j]? = some u → ((w.alloc (.cells cs.toArray T)).drew).cell? ((⟨w.heap.size, 0, none⟩ : Addr).add j) = some u := fun j u hj => by
  rw [Addr.add_lit]
  exact new_cells w cs T j u hj
theorem li_kept {w w9 : World} {b size n : Nat} {o x : Obj} {e : TypeId} {v : Value} {xs : List Value} (h : w.heap[b]? = some o) (hg : ((w.alloc x).drew).grownBy w9 v.ownBlock) (ho : w.ownsRow (b + 1) e size v n xs) : w9.heap[b]? = some o :=
  (hg.block b (by show b < (w.alloc x).heap.size; rw [new_size]; exact Nat.lt_succ_of_lt (lt_of_block h)) (own_no ho)).trans ((alloc_blk w x (lt_of_block h)).trans h)

theorem own_vr {w : World} {base : Nat} {v : Value} {l : List Vr} {n : Nat} (h : w.ownsRow base 42 3 v n (l.flatMap vrCells)) (hn : n = l.length) : ∃ A c, v = .slice A n c ∧ VrSlice (fun _ => True) w l (.slice A n c) := by
  obtain ⟨h1, ⟨rfl, rfl⟩ | ⟨g, cap, cur, rfl, h2, h3, h4, h5, h6, h7⟩⟩ := id h
  · have : l = [] := List.eq_nil_of_length_eq_zero hn.symm
    subst this
    exact ⟨none, 0, rfl, none, 0, rfl, Nat.le_refl _, fun h => absurd rfl h⟩
  · subst hn
    exact ⟨_, _, rfl, _, cap, rfl, h4, fun _ => ⟨g, 0, rfl, trivial, fun j u hj => by
      have := h.cells (g := g) rfl j u hj
      rwa [Addr.add_lit] at this⟩⟩

/-- What Resolve returns for these programs. -/
theorem li_resolve (l : List Vr) (hnm : ∀ v ∈ l, v.name.length ≤ 4096) (hn : l.length ≤ 100000) (er : Int) (L : Nat) (he : (resV l).1 = er) (hL : (resV l).2.length = L) (W : World) (A : Option Addr) (n c : Nat) (hl : VrSlice (fun _ => True) W l (.slice A n c)) :
    Calls Tryd.prog 12 #[.agg #[.slice A n c, .slice none 0 0, .slice none 0 0, .slice none 0 0, .slice none 0 0]] W fun e w' => ∃ A' c', e = .returned (.tuple #[.agg #[.slice A' L c', .slice none 0 0, .slice none 0 0, .slice none 0 0, .slice none 0 0], .int .i64 er]) ∧ Below W.heap.size W w' := by
  refine (resolve_vars l hnm hn (fun _ => True) W A n c hl).mono ?_
  rintro e w' ⟨hb, A', c', rfl, _⟩
  rw [he, hL]
  exact ⟨A', c', rfl, hb⟩

set_option maxHeartbeats 4000000 in
set_option maxRecDepth 100000 in
theorem limits_arrays (a : Nat) (ha : a ≤ 255) (w : World) : Calls Tryd.prog 7 #[.int .u8 a, .bool true] w fun e w' => e = .returned (.bool true) ∧ Below w.heap.size w w' := by
  obtain ⟨K, hK⟩ : ∃ K : Nat, a % 40 = K := ⟨_, rfl⟩
  have hK' : (a : Int) % 40 = (K : Int) := by omega
  have hK40 : K < 40 := by omega
  obtain ⟨r1, r2⟩ := liA_res K hK40
  have HRS : Hid (∀ (er : Int) (L : Nat), (resV (liA K)).1 = er → (resV (liA K)).2.length = L → ∀ (W : World) (b : Nat), W.heap[b]? = some (.cells #[.string { data := #[97] }, .int .i64 (1 + (K : Int)), .int .i64 0, .string { data := #[120] }, .int .i64 0, .int .i64 0] 42 (0, 0)) → Calls Tryd.prog 12 #[.agg #[.slice (some ⟨b, 0, none⟩) 2 2, .slice none 0 0, .slice none 0 0, .slice none 0 0, .slice none 0 0]] W fun e w' => ∃ A' c', e = .returned (.tuple #[.agg #[.slice A' L c', .slice none 0 0, .slice none 0 0, .slice none 0 0, .slice none 0 0], .int .i64 er]) ∧ Below W.heap.size W w') :=
    fun er L he hL W b h => li_resolve (liA K) (fun v hv => by simp [liA] at hv; rcases hv with rfl | rfl <;> simp) (by simp [liA]) er L he hL W (some ⟨b, 0, none⟩) 2 2 (vrs_at (l := liA K) h 2 (by simp [liA]))
  clear hK
  by_cases h30 : 30 < K
  · rw [if_pos h30] at r1 r2
    have HC := Lib.hid (HRS.out 4 0 r1 r2)
    have h31 : (32 : Int) < 2 + (K : Int) := by omega
    clear HRS r1 r2 h30
    go_enter Tryd.func7, Tryd.ntmps7
    go_wp2_with fail
    refine (awake3_any _).mono ?_
    rintro e w1 ⟨rfl, hb⟩
    have HB1 := Lib.hid hb
    clear hb
    go_wp2_with fail
    refine (HC.out _ _ (rv_code w1 _ _)).mono ?_
    rintro e w2 ⟨A', c', rfl, hb⟩
    have HB2 := Lib.hid (HB1.out.trans ((rv_below w1 _ _).trans (hb.mono (by rw [new_size, new_size]; omega)) |>.mono HB1.out.size))
    clear hb HC
    go_wp2_with fail
    go_ret
    exact ⟨rfl, HB2.out.alloc HB2.out.size _⟩
  · rw [if_neg h30] at r1 r2
    have HC := Lib.hid (HRS.out 0 (2 + K) r1 r2)
    have h31 : 2 + (K : Int) ≤ 32 := by omega
    clear HRS r1 r2 h30
    go_enter Tryd.func7, Tryd.ntmps7
    go_wp2_with fail
    refine (awake3_any _).mono ?_
    rintro e w1 ⟨rfl, hb⟩
    have HB1 := Lib.hid hb
    clear hb
    go_wp2_with fail
    refine (HC.out _ _ (rv_code w1 _ _)).mono ?_
    rintro e w2 ⟨A', c', rfl, hb⟩
    have HB2 := Lib.hid (HB1.out.trans ((rv_below w1 _ _).trans (hb.mono (by rw [new_size, new_size]; omega)) |>.mono HB1.out.size))
    clear hb HC
    go_wp2_with fail
    go_ret
    exact ⟨rfl, HB2.out.alloc HB2.out.size _⟩

theorem infoVr : (Tryd.prog.info? 42).map (fun i => (i.zero, i.size, i.bytes)) = some (some (.agg #[.string ⟨#[]⟩, .int .i64 0, .int .i64 0]), 3, 32) := by kernel_rfl

set_option maxHeartbeats 4000000 in
set_option maxRecDepth 100000 in
theorem limits_vars (a : Nat) (ha : a ≤ 255) (w : World) : Calls Tryd.prog 7 #[.int .u8 a, .bool false] w fun e w' => e = .returned (.bool true) ∧ Below w.heap.size w w' := by
  obtain ⟨K, hK⟩ : ∃ K : Nat, a % 40 = K := ⟨_, rfl⟩
  obtain ⟨J, hJ⟩ : ∃ J : Nat, K % 20 = J := ⟨_, rfl⟩
  have hK' : (a : Int) % 40 = (K : Int) := by omega
  have hJ' : (K : Int) % 20 = (J : Int) := by omega
  have hJ20 : J < 20 := by omega
  clear hK hJ
  go_enter Tryd.func7, Tryd.ntmps7
  go_wp2_with fail
  refine (awake3_any _).mono ?_
  rintro e w1 ⟨rfl, hb⟩
  have HB1 := Lib.hid hb
  clear hb
  go_wp2_with fail
  simp only [hK']
  clear hK'
  go_loopg [8] J (fun g i wr => ∃ (j : Nat) (v : Value), j + g = J ∧ i = .int .i64 j ∧ Hid (wr.heap[w1.heap.size]? = some (.cells #[v, .slice none 0 0, .slice none 0 0, .slice none 0 0, .slice none 0 0] 29 (0, 0))) ∧ Hid (wr.ownsRow (w1.heap.size + 1) 42 3 v j ((liV j).flatMap vrCells)) ∧ Hid (Below w.heap.size w wr))
  case atStart => exact ⟨0, .slice none 0 0, by omega, rfl, new_blk w1 _, World.ownsRow_nil _ _ _ _, HB1.out.alloc HB1.out.size _⟩
  case round =>
    obtain ⟨j, v, hjg, rfl, HX, HW, HB⟩ := hrel
    obtain ⟨A1, c1, rfl⟩ := own_slice HW.out
    obtain ⟨d0, d1, d2, d3, d4, f0, f1, f2, f3, f4, hz⟩ := box5 HX.out
    cases gk with
    | zero =>
      have hjJ : j = J := by omega
      subst hjJ
      clear hjg
      obtain ⟨A2, c2, hv, hl⟩ := own_vr HW.out (liV_len j).symm
      injection hv with e1 e2 e3
      subst e1 e3
      obtain ⟨r1, r2⟩ := liV_res j hJ20
      have HRS : Hid (∀ (er : Int) (L : Nat), (resV (liV j)).1 = er → (resV (liV j)).2.length = L → Calls Tryd.prog 12 #[.agg #[.slice A1 j c1, .slice none 0 0, .slice none 0 0, .slice none 0 0, .slice none 0 0]] wr fun e w' => ∃ A' c', e = .returned (.tuple #[.agg #[.slice A' L c', .slice none 0 0, .slice none 0 0, .slice none 0 0, .slice none 0 0], .int .i64 er]) ∧ Below wr.heap.size wr w') :=
        fun er L he hL => li_resolve (liV j) (liV_names j hJ20) (by rw [liV_len]; omega) er L he hL wr A1 j c1 hl
      have hnlt : ¬ j < j := by omega
      by_cases h16 : 16 < j
      · rw [if_pos h16] at r1 r2
        have HC := Lib.hid (HRS.out 4 0 r1 r2)
        have h17 : (16 : Int) < (j : Int) := by omega
        clear HRS r1 r2 h16 hl
        go_wp2_with fail
        refine HC.out.mono ?_
        rintro e w2 ⟨A', c', rfl, hb⟩
        have HB2 := Lib.hid (HB.out.trans (hb.mono HB.out.size))
        clear hb HC d0 d1 d2 d3 d4 f0 f1 f2 f3 f4
        go_wp2_with fail
        go_ret
        exact ⟨rfl, HB2.out.alloc HB2.out.size _⟩
      · rw [if_neg h16] at r1 r2
        have HC := Lib.hid (HRS.out 0 j r1 r2)
        have h17 : (j : Int) ≤ 16 := by omega
        clear HRS r1 r2 h16 hl
        go_wp2_with fail
        refine HC.out.mono ?_
        rintro e w2 ⟨A', c', rfl, hb⟩
        have HB2 := Lib.hid (HB.out.trans (hb.mono HB.out.size))
        clear hb HC d0 d1 d2 d3 d4 f0 f1 f2 f3 f4
        go_wp2_with fail
        go_ret
        exact ⟨rfl, HB2.out.alloc HB2.out.size _⟩
    | succ g =>
      have hlt : (j : Int) < (J : Int) := by omega
      have hj20 : j < 20 := by omega
      have HG := Lib.hid hjg
      clear hjg
      go_wp2_with fail
      have hwr : IntKind.i64.wrap ((j : Int) + 1) = (j : Int) + 1 := by rw [IntKind.wrap_i64]; omega
      have hj0 : 0 ≤ (j : Int) + 1 := by omega
      have hj1 : (j : Int) ≤ (j : Int) + 1 := by omega
      have hj2 : (j : Int) + 1 ≤ 20 := by omega
      have hcut := li_cut j hj20
      have hcat := li_cat j hj20
      obtain ⟨X1, hX1⟩ : ∃ x, strB [97 + j.toUInt8] = x := ⟨_, rfl⟩
      obtain ⟨Y1, hY1⟩ : ∃ x, strB [118, 97 + j.toUInt8] = x := ⟨_, rfl⟩
      have hsz : X1.size = 1 := by rw [← hX1, str_size]; rfl
      rw [hX1] at hcut hcat
      rw [hY1] at hcat
      have HY1 := Lib.hid hY1
      obtain ⟨i0, hi, hz0, hz1, hz2⟩ := info_parts infoVr
      have HI := Lib.hid hi
      have HI0 := Lib.hid hz0
      have HI1 := Lib.hid hz1
      have HI2 := Lib.hid hz2
      clear d1 d2 d3 d4 f1 f2 f3 f4 hX1 hY1 hi hz0 hz1 hz2
      go_region_law (refine step_append_own_at rfl (.tmp 33) (.tmp 41) 26 rfl (w1.heap.size + 1) 42 i0 _ 3 32 Tryd.underlying26 HI.out HI0.out HI1.out HI2.out rfl (by decide) (.slice A1 j c1) j ((liV j).flatMap vrCells) (by simp [Act.eval]) (own_bel HW.out (rp_one wr _)) ⟨wr.heap.size, 0, none⟩ 1 1 [.string Y1, .int .i64 0, .int .i64 j] (by simp [Act.eval]) rfl (rp_cells wr _ _) (by simp [Value.oneCell']) (by unfold maxLen; omega) (by omega) (by show _ ≤ (wr.alloc _).heap.size; rw [new_size]; omega) ?_; intro v9 w9 hown9 hgrow9 hob9; obtain ⟨A3, c3, rfl⟩ := own_slice hown9; have HX9 := Lib.hid (li_kept HX.out hgrow9 HW.out); have e0 : w9.cell? ⟨w1.heap.size, 0, none⟩ = some (.slice A1 j c1) := by { rw [Lib.cell_of_heap HX9.out]; rfl }; have e1 : w9.frozen? ⟨w1.heap.size, 0, none⟩ = false := Lib.frozen_of_heap HX9.out 0; have HOW := Lib.hid hown9; have HGR := Lib.hid hgrow9; clear hown9 hgrow9 hob9)
      all_goals
        have HX10 : Hid ((w9.setCell ⟨w1.heap.size, 0, none⟩ (.slice A3 (j + 1) c3)).heap[w1.heap.size]? = some (.cells #[.slice A3 (j + 1) c3, .slice none 0 0, .slice none 0 0, .slice none 0 0, .slice none 0 0] 29 (0, 0))) := blk_set HX9.out 0 (.slice A3 (j + 1) c3)
        have HW10 : Hid ((w9.setCell ⟨w1.heap.size, 0, none⟩ (.slice A3 (j + 1) c3)).ownsRow (w1.heap.size + 1) 42 3 (.slice A3 (j + 1) c3) (j + 1) ((liV (j + 1)).flatMap vrCells)) := by
          rw [liV_succ, List.flatMap_append]
          have h1 := own_blk (w' := w9.setCell ⟨w1.heap.size, 0, none⟩ (.slice A3 (j + 1) c3)) HOW.out (Nat.le_refl _) (fun g h1 h2 => Below.heap_setCell _ _ _ _ (by show g ≠ w1.heap.size; omega))
          rw [← HY1.out] at h1
          exact h1
        have HB10 : Hid (Below w.heap.size w (w9.setCell ⟨w1.heap.size, 0, none⟩ (.slice A3 (j + 1) c3))) := by
          have hz9 := HB1.out.size
          have h1 := (rp_one wr (.cells #[.string Y1, .int .i64 0, .int .i64 j] 42)).mono HB.out.size
          have h2 := HB.out.trans h1
          have h3 : Below w.heap.size w w9 := h2.trans ⟨HGR.out.os, HGR.out.tape, HGR.out.output, HGR.out.size, fun k hk => HGR.out.block k (Nat.lt_of_lt_of_le hk h2.size) (own_no' HW.out (by omega))⟩
          exact h3.setCell (p := ⟨w1.heap.size, 0, none⟩) hz9 _
        clear d0 f0 e0 e1 hcut hcat
        go_wp2_with fail
        go_roundg g
        case rel => exact ⟨j + 1, _, by have := HG.out; omega, by go_num, HX10, HW10, HB10⟩
        case measure => omega
end Go.Proofs.YtapdeehioiodoaaDoor
