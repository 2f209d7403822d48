/-
  The walk of the law ImageLocal. Conditions: its arguments are a list of ints and two ints.
-/
import Derived.Test.YtkhaapdokhhbdaaWalkAn
import Derived.Test.YtkhaapdokhhbdaaWalkAw7
import Derived.Test.YtkhaapdokhhbdaaWalkMod
namespace Go.Proofs.Ytkhaapdokhhbdaa
open Go.RowKit

theorem set_same {xs : List Int} {k : Nat} {v : Int} (h : xs.getD k 0 = v) (hk : k < xs.length) : xs.set k v = xs := by
  rw [List.getD_eq_getElem?_getD, List.getElem?_eq_getElem hk] at h
  have h' : xs[k] = v := by simpa using h
  rw [← h']
  exact List.set_getElem_self hk
theorem ZsAt.cell {w : World} {zs : List Int} {b o n k : Nat} (h : ZsAt w zs (some ⟨b, o, none⟩) n) (hk : k < n) : w.cell? ⟨b, o + k, none⟩ = some (.int .i64 (zs.getD k 0)) := by
  obtain ⟨b', o', e, hi⟩ := h.2.2 (by omega)
  injection e with e
  injection e with e1 e2 _
  subst e1 e2
  exact hi k hk

set_option maxHeartbeats 4000000 in
set_option maxRecDepth 100000 in
theorem imageLocal_any (xs : List Int) (A : Option Addr) (l c : Nat) (x v : Int) (w : World) (hz : ZsAt w xs A l) (hlc : l ≤ c) :
    Calls Try.prog 8 #[.slice A l c, .int .i64 x, .int .i64 v] w fun e w' => e = .returned (.bool true) ∧ Below w.heap.size w w' := by
  obtain ⟨j0, hj, hj0, hj1, hj2⟩ := info_parts info_ints
  have HJ := Lib.hid hj
  have HJ0 := Lib.hid hj0
  have HJ1 := Lib.hid hj1
  have HJ2 := Lib.hid hj2
  have HZ := Lib.hid hz
  have HL := Lib.hid hz.1
  clear hj hj0 hj1 hj2 hz
  by_cases h200 : 200 < l
  · have h1 : ((l : Int) == 0) = false := beq_eq_false_iff_ne.2 (by omega)
    have h2 : (200 : Int) < (l : Int) := by omega
    clear h200
    go_enter Try.func8, Try.ntmps8
    go_wp2_with fail
    refine (awake7_any _).mono ?_
    rintro e w1 ⟨rfl, hb⟩
    have HB1 := Lib.hid hb
    clear hb
    go_wp2_with fail
    go_ret
    exact ⟨rfl, HB1.out⟩
  by_cases h0 : l = 0
  · subst h0
    go_enter Try.func8, Try.ntmps8
    go_wp2_with fail
    refine (awake7_any _).mono ?_
    rintro e w1 ⟨rfl, hb⟩
    have HB1 := Lib.hid hb
    clear hb
    go_wp2_with fail
    go_ret
    exact ⟨rfl, HB1.out⟩
  have h1 : ((l : Int) == 0) = false := beq_eq_false_iff_ne.2 (by omega)
  have h2 : ¬ (200 : Int) < (l : Int) := by omega
  have hl2 : l ≤ 200 := by omega
  have HL0 := Lib.hid h0
  clear h200 h0
  go_enter Try.func8, Try.ntmps8
  go_wp2_with fail
  refine (awake7_any _).mono ?_
  rintro e w1 ⟨rfl, hb⟩
  have HB1 := Lib.hid hb
  have HZ1 := Lib.hid (HZ.out.below hb)
  clear hb
  go_wp2_with fail
  refine (mod_any x l _ (by have := HL0.out; omega) (by omega)).mono ?_
  rintro e w2 ⟨k, hk, rfl, rfl⟩
  obtain ⟨b, o, rfl⟩ := HZ1.out.addr (by omega)
  go_wp2_with (at_builtin; refine wpList_append_rw rfl _ (.tmp 24) 22 rfl w2.heap.size 3 j0 _ 1 8 Try.underlying22 HJ.out HJ0.out HJ1.out HJ2.out rfl (by decide) (.slice none 0 0) 0 [] (by simp [Act.eval]) (World.ownsRow_nil _ _ _ _) (some ⟨b, o, none⟩) l c (xs.map (Value.int .i64)) (by simp [Act.eval]) HZ1.out.rw (fun e => by cases e) (ints_one _) (by unfold maxLen; omega) (by omega) (Nat.le_refl _) ?_; intro v8 w8 hown8 hgrow8 hob8; simp only [Nat.zero_add, List.nil_append] at hown8; obtain ⟨G, gc, rfl⟩ := own_slice hown8; obtain ⟨g, rfl, hbg, hnc, hcell, hfz⟩ := own_cell hown8 hk; have HB9 := Lib.hid ((below_nil hgrow8).setCell (p := ⟨g, k, none⟩) hbg (.int .i64 v)); have HO9 := Lib.hid (own_set (k := k) hown8 v); have HNC := Lib.hid hnc; clear hown8 hgrow8 hob8 hbg hnc)
  have HDC := Lib.hid (diff_any xs (xs.set k v) (some ⟨b, o, none⟩) (some ⟨g, 0, none⟩) l l c gc (w8.setCell ⟨g, k, none⟩ (.int .i64 v)) (HZ1.out.below HB9.out) (ZsAt.own HO9.out (by omega)) hlc HNC.out (by omega) (by omega))
  have hsz : w2.heap.size ≤ (w8.setCell ⟨g, k, none⟩ (.int .i64 v)).heap.size := HB9.out.size
  have HSZ := Lib.hid hsz
  obtain ⟨X, hX⟩ : ∃ X, xs.getD k 0 = X := ⟨_, rfl⟩
  rw [hX] at hcell
  have HX := Lib.hid hX
  have HK := Lib.hid hk
  clear hsz hX hk
  by_cases hv : v = X
  · subst hv
    rw [show xs.set k v = xs from set_same HX.out (by rw [← HL.out]; exact HK.out), diff_self] at HDC
    go_wp2_with fail
    refine HDC.out.mono ?_
    intro e w9 hp
    obtain ⟨A9, c9, rfl, hb⟩ := hp.none
    have HB := Lib.hid (HB9.out.trans (hb.mono HSZ.out))
    have f1 := ZsAt.cell (HZ1.out.below HB.out) HK.out
    rw [HX.out] at f1
    have HBB := Lib.hid (HB1.out.trans (HB.out.mono HB1.out.size))
    clear hp hb hcell hfz
    go_wp2_with fail
    go_ret
    exact ⟨rfl, HBB.out⟩
  · have hvx : (v == X) = false := beq_eq_false_iff_ne.2 hv
    have hk4 : ((k / 4 : Nat) : Int) = (k : Int) / 4 := by omega
    obtain ⟨r, hr⟩ : ∃ r, k % 4 = r := ⟨_, rfl⟩
    have hr' : (k : Int) % 4 = (r : Int) := by omega
    have HD1 := diff_one xs k v (by rw [← HL.out]; exact HK.out) (by rw [HX.out]; exact fun e => hv e.symm)
    rw [hk4] at HD1
    have HPS := Lib.hid (pg_set_at xs k v (by rw [← HL.out]; exact HK.out))
    have HPL := Lib.hid (pgS_len (xs.set k v) (k / 4))
    rw [hr] at HPS
    obtain ⟨pc, hpc⟩ : ∃ pc, pgS (xs.set k v) (k / 4) = pc := ⟨_, rfl⟩
    rw [hpc] at HD1 HPS HPL
    rw [HD1] at HDC
    have hrl : r < pc.length := by rw [HPL.out, List.length_set, ← HL.out]; have := HK.out; omega
    have hrl' : (r : Int) < (pc.length : Int) := by omega
    have hl4 : (pc.length : Int) ≤ 4 := by have := HPL.out; omega
    obtain ⟨L, hL⟩ : ∃ L, pc.length = L := ⟨_, rfl⟩
    rw [hL] at hrl hrl' hl4
    have HLL := Lib.hid hL
    have HR := Lib.hid hr
    have HV := Lib.hid hv
    clear HD1 hpc hk4 hL hr hv HPL
    go_wp2_with fail
    refine HDC.out.mono ?_
    intro e w9 hp
    obtain ⟨b9, cap9, A9, c9, rfl, hcap, d0, d1, hlc9, hz9, hb⟩ := hp.one
    have HB := Lib.hid (HB9.out.trans (hb.mono HSZ.out))
    have f1 := ZsAt.cell (HZ1.out.below HB.out) HK.out
    rw [HX.out] at f1
    have HBB := Lib.hid (HB1.out.trans (HB.out.mono HB1.out.size))
    rw [HLL.out] at d1 hlc9 hz9
    obtain ⟨b5, o5, rfl⟩ := hz9.addr (by omega)
    have d2 := ZsAt.cell hz9 hrl
    rw [HPS.out] at d2
    clear hp hb hcell hfz hz9
    go_wp2_with fail
    go_ret
    exact ⟨rfl, HBB.out⟩
end Go.Proofs.Ytkhaapdokhhbdaa
