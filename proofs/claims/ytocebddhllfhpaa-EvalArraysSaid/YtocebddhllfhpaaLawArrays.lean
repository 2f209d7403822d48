/-
  The walk of the law EvalArrays. Conditions: its arguments are two bytes, an int and a list of ints.
-/
import Derived.Test.YtocebddhllfhpaaEvAw
import Derived.Test.YtocebddhllfhpaaWalkMod
namespace Go.Proofs.Ytocebddhllfhpaa
open Go.RowKit

set_option maxHeartbeats 4000000 in
set_option maxRecDepth 100000 in
theorem evalArrays_any (zs : List Int) (A : Option Addr) (l c : Nat) (slot size index : Int) (h1 : 0 ≤ slot ∧ slot ≤ 255) (h2 : 0 ≤ size ∧ size ≤ 255) (w : World) (hz : ZsAt w zs A l) :
    Calls Try.prog 5 #[.slice A l c, .int .u8 slot, .int .u8 size, .int .i64 index] w fun e w' => e = .returned (.bool true) ∧ Below w.heap.size w w' := by
  have HZ := Lib.hid hz
  clear hz
  obtain ⟨s0, s1⟩ := h1
  obtain ⟨t0, t1⟩ := h2
  by_cases h40 : 40 < l
  · have h40' : (40 : Int) < (l : Int) := by omega
    clear h40
    go_enter Try.func5, Try.ntmps5
    go_wp2_with fail
    refine (awake4_any _).mono ?_
    rintro e w1 ⟨rfl, hb⟩
    have HB1 := Lib.hid hb
    clear hb
    go_wp2_with fail
    go_ret
    exact ⟨rfl, HB1.out⟩
  · have h40' : (l : Int) ≤ 40 := by omega
    clear h40
    obtain ⟨s, hs⟩ : ∃ s, slot % 12 = s := ⟨_, rfl⟩
    obtain ⟨n, hn⟩ : ∃ n, size % 12 = n := ⟨_, rfl⟩
    have hs0 : 0 ≤ s ∧ s < 12 := by omega
    have hn0 : 0 ≤ n ∧ n < 12 := by omega
    obtain ⟨a0, a1⟩ := hs0
    obtain ⟨S, rfl⟩ := Int.eq_ofNat_of_zero_le a0
    obtain ⟨b0, b1⟩ := hn0
    go_enter Try.func5, Try.ntmps5
    go_wp2_with fail
    refine (awake4_any _).mono ?_
    rintro e w1 ⟨rfl, hb⟩
    have HB1 := Lib.hid hb
    clear hb
    go_wp2_with fail
    refine (mod_any index 16 _ (by decide) (by decide)).mono ?_
    rintro e w2 ⟨k, hk, rfl, rfl⟩
    have hk' : (k : Int) < 16 := by omega
    go_upto_region 8 with fail
    obtain ⟨i, hi⟩ : ∃ i : Int, (k : Int) - 2 = i := ⟨_, rfl⟩
    have i0 : -2 ≤ i := by omega
    have i1 : i < 14 := by omega
    rw [hi]
    clear hi hk hk' hs hn
    obtain ⟨V, hV⟩ : ∃ V, elmS zs S n i = V := ⟨_, rfl⟩
    have HV : Hid (∀ (W : World) (bb : Nat), Below w2.heap.size w2 W → W.heap[bb]? = some (.cells #[.int .i64 1, .int .i64 i, .string ⟨#[]⟩, .int .i64 0, .int .i64 0, .slice none 0 0] 33 (0, 0)) → Calls Try.prog 11 #[.agg #[.int .i64 3, .int .i64 0, .string ⟨#[]⟩, .int .i64 S, .int .i64 n, .slice (some ⟨bb, 0, none⟩) 1 1], .slice A l c, .agg #[.int .i64 0, .int .i64 0, .int .i64 0, .int .i64 0]] W fun e w' => e = .returned (.int .i64 V) ∧ Below W.heap.size W w') := fun W bb hb hbb => by
      have h := value_any zs ⟨0, 0, 0, 0⟩ (.mk 3 0 [] S n [.mk 1 i [] 0 0 []]) (fun _ => True) W 3 0 ⟨#[]⟩ S n (some ⟨bb, 0, none⟩) 1 1 A l c (by
        simp only [ExL]
        refine ⟨_, 1, rfl, Nat.le_refl _, fun _ => ⟨bb, 0, rfl, trivial, ?_⟩⟩
        simp only [ExRow, ExL, and_true]
        refine ⟨_, fun j u hj => ?_, none, 0, rfl, Nat.le_refl _, fun h => absurd rfl h⟩
        rw [Lib.cell_of_heap hbb]
        simpa [exCells, strB] using hj) ((HZ.out.below HB1.out).below hb)
      have hvv : valS zs ⟨0, 0, 0, 0⟩ (.mk 3 0 [] S n [.mk 1 i [] 0 0 []]) = V := by simp [valS, argS, hV]
      rw [hvv] at h
      exact h
    have HZ2 := Lib.hid (HZ.out.below HB1.out)
    have hl : l = zs.length := HZ.out.1
    by_cases hc : 0 ≤ i ∧ i < n ∧ (S : Int) + i < l
    · obtain ⟨c0, c1, c2⟩ := hc
      obtain ⟨j, rfl⟩ := Int.eq_ofNat_of_zero_le c0
      have hv : V = zs.getD (S + j) 0 := by
        rw [← hV]
        unfold elmS celS
        rw [if_neg (by omega), IntWalk.wrap64_in _ (by omega), if_neg (by omega), show ((S : Int) + (j : Int)).toNat = S + j by omega]
      obtain ⟨bb, o, rfl, hcell⟩ := HZ2.out.2.2 (by omega)
      have cc := hcell (S + j) (by omega)
      rw [← hv] at cc
      clear hcell hV hv hl
      go_wp2_with fail
      refine (HV.out _ w2.heap.size (((Below.refl _ _).alloc (Nat.le_refl _) _).alloc (by rw [new_size]; omega) _) ((alloc_blk _ _ (by rw [new_size]; omega)).trans (new_blk w2 _))).mono ?_
      rintro e w3 ⟨rfl, hb⟩
      have HB3 := Lib.hid (((HB1.out.alloc HB1.out.size _).alloc (by rw [new_size]; have := HB1.out.size; omega) _).trans (hb.mono (by rw [new_size, new_size]; have := HB1.out.size; omega)))
      clear hb
      go_wp2_with fail
      go_ret
      exact ⟨rfl, HB3.out⟩
    · have hv : V = 0 := by
        rw [← hV]
        unfold elmS celS
        by_cases h1 : i < 0 ∨ n ≤ i
        · rw [if_pos h1]
        · rw [if_neg h1, IntWalk.wrap64_in _ (by omega), if_pos (by omega)]
      subst hv
      clear hV hl
      by_cases h1 : i < 0
      · clear hc
        go_wp2_with fail
        refine (HV.out _ w2.heap.size (((Below.refl _ _).alloc (Nat.le_refl _) _).alloc (by rw [new_size]; omega) _) ((alloc_blk _ _ (by rw [new_size]; omega)).trans (new_blk w2 _))).mono ?_
        rintro e w3 ⟨rfl, hb⟩
        have HB3 := Lib.hid (((HB1.out.alloc HB1.out.size _).alloc (by rw [new_size]; have := HB1.out.size; omega) _).trans (hb.mono (by rw [new_size, new_size]; have := HB1.out.size; omega)))
        clear hb
        go_wp2_with fail
        go_ret
        exact ⟨rfl, HB3.out⟩
      · by_cases h2 : n ≤ i
        · clear hc
          go_wp2_with fail
          refine (HV.out _ w2.heap.size (((Below.refl _ _).alloc (Nat.le_refl _) _).alloc (by rw [new_size]; omega) _) ((alloc_blk _ _ (by rw [new_size]; omega)).trans (new_blk w2 _))).mono ?_
          rintro e w3 ⟨rfl, hb⟩
          have HB3 := Lib.hid (((HB1.out.alloc HB1.out.size _).alloc (by rw [new_size]; have := HB1.out.size; omega) _).trans (hb.mono (by rw [new_size, new_size]; have := HB1.out.size; omega)))
          clear hb
          go_wp2_with fail
          go_ret
          exact ⟨rfl, HB3.out⟩
        · have h3 : (l : Int) ≤ (S : Int) + i := by omega
          have h4 : 0 ≤ i := by omega
          have h5 : i < n := by omega
          clear hc h1 h2
          go_wp2_with fail
          refine (HV.out _ w2.heap.size (((Below.refl _ _).alloc (Nat.le_refl _) _).alloc (by rw [new_size]; omega) _) ((alloc_blk _ _ (by rw [new_size]; omega)).trans (new_blk w2 _))).mono ?_
          rintro e w3 ⟨rfl, hb⟩
          have HB3 := Lib.hid (((HB1.out.alloc HB1.out.size _).alloc (by rw [new_size]; have := HB1.out.size; omega) _).trans (hb.mono (by rw [new_size, new_size]; have := HB1.out.size; omega)))
          clear hb
          go_wp2_with fail
          go_ret
          exact ⟨rfl, HB3.out⟩
end Go.Proofs.Ytocebddhllfhpaa
