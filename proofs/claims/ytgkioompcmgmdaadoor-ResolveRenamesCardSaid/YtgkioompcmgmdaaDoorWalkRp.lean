/-
  What slices.Repeat returns for a list of one number: as many of it as are asked for, in a new block. Conditions: from 1 to 100000 are asked for.
-/
import Derived.Test.YtgkioompcmgmdaaDoorWalkZb
import Derived.Test.YtgkioompcmgmdaaDoorMathK
import Derived.Test.YtgkioompcmgmdaaDoorShelf
import Derived.Laws.CopyOwn
import Derived.OwnWalk
import Derived.Deep.RegionLaw
namespace Go.Proofs.YtgkioompcmgmdaaDoor
open Go.RowKit

theorem infoInt : (Tryd.prog.info? 3).map (fun i => (i.zero, i.size, i.bytes)) = some (some (.int .i64 0), 1, 8) := by kernel_rfl
theorem sizeInt1 : (Tryd.prog.info? 3).map (·.size) = some 1 := by kernel_rfl

/-- The first n of m cells are v, the others 0. -/
def rpCells (v : Int) (n m : Nat) : List Value := List.replicate n (.int .i64 v) ++ List.replicate (m - n) (.int .i64 0)
theorem rpCells_len (v : Int) (n m : Nat) (h : n ≤ m) : (rpCells v n m).length = m := by simp [rpCells]; omega
theorem rpCells_splice (v : Int) (n m k : Nat) (h : n + k ≤ m) : splice (rpCells v n m) n (List.replicate k (.int .i64 v)) = rpCells v (n + k) m := by
  unfold splice rpCells
  rw [List.take_left' (by simp), List.length_replicate, List.drop_append, List.drop_eq_nil_of_le (by simp), List.drop_replicate, List.nil_append, List.length_replicate, ← List.append_assoc, List.replicate_append_replicate]
  congr 2
  omega
theorem rpCells_one (v : Int) (n m j : Nat) (h : j < n) : (rpCells v n m)[j]? = some (.int .i64 v) := by
  unfold rpCells
  rw [List.getElem?_append_left (by simpa using h), List.getElem?_replicate, if_pos h]
theorem rpOne (v : Int) (k : Nat) : ∀ u ∈ List.replicate k (Value.int .i64 v), u.oneCell' = true := fun u hu => by
  rw [List.eq_of_mem_replicate hu]; rfl

theorem mul_small (c : Nat) (hc : c ≤ 100000) (w : World) : Calls Tryd.prog 47 #[.int .u64 1, .int .u64 c] w fun e w' => e = .returned (.tuple #[.int .u64 0, .int .u64 c]) ∧ w' = w := by
  refine (Tryd.bits_Mul 1 c (by omega) (by omega) w).mono ?_
  rintro e w' ⟨rfl, rfl⟩
  refine ⟨?_, rfl⟩
  rw [Nat.one_mul, Nat.div_eq_of_lt (by omega), Nat.mod_eq_of_lt (by omega)]
  rfl

set_option maxHeartbeats 1000000 in
set_option maxRecDepth 100000 in
theorem repeat_any (v : Int) (c b o : Nat) (w : World) (h1 : 1 ≤ c) (hc : c ≤ 100000) (hx : w.cell? ⟨b, o, none⟩ = some (.int .i64 v)) :
    Calls Tryd.prog 35 #[.slice (some ⟨b, o, none⟩) 1 1, .int .i64 c] w fun e w' =>
      ∃ g, e = .returned (.slice (some ⟨g, 0, none⟩) c c) ∧ w.heap.size ≤ g ∧ w'.heap[g]? = some (.cells (List.replicate c (.int .i64 v)).toArray 3 (0, 0)) ∧ Below w.heap.size w w' := by
  have hM := mul_small c hc
  have HX := Lib.hid hx
  obtain ⟨i, hi, hz0, hz1, hz2⟩ := info_parts infoInt
  have HI := Lib.hid hi
  have HZ0 := Lib.hid hz0
  have HZ1 := Lib.hid hz1
  have HZ2 := Lib.hid hz2
  clear hx hi hz0 hz1 hz2
  go_enter Tryd.func35, Tryd.ntmps35
  go_wp2_with fail
  refine (hM _).mono ?_
  rintro e w1 ⟨rfl, rfl⟩
  go_wp2_with (refine wpList_make_full _ rfl (.tmp 29) (.tmp 29) 33 rfl w1.heap.size 3 i _ 1 Tryd.underlying33 HI.out HZ0.out HZ1.out .i64 .i64 _ _ c rfl rfl rfl rfl (by rw [HZ2.out]; omega) (by unfold maxLen; omega) (Nat.le_refl _) ?_)
  intro w2 hown hg2
  obtain ⟨_, hx2⟩ := hown
  have hblk : w2.heap[w1.heap.size]? = some (.cells (rpCells v 0 c).toArray 3 (0, 0)) := by
    rcases hx2 with ⟨h, _⟩ | ⟨g, cap, cur, he, _, hh, _, _, hs, ht⟩
    · cases h
    · injection he with e1 e2 e3
      injection e1 with e1
      injection e1 with e1
      subst e1 e3
      rw [hh]
      have : cur = (rpCells v 0 c).toArray := by
        apply Array.ext'
        rw [Nat.mul_one] at hs ht
        rw [List.take_of_length_le (by simp; omega)] at ht
        rw [ht]
        simp [rpCells, madeCells, Nat.mod_one, List.map_const']
      rw [this]
  have hlt : b < w1.heap.size := World.block_lt_of_cell? w1 _ HX.out
  have HX2 := Lib.hid (hg2.cell HX.out (by simp))
  have HB2 : Hid (Below w1.heap.size w1 w2) := ⟨hg2.os, hg2.tape, hg2.output, hg2.size, fun k hk => hg2.block k hk (by simp)⟩
  clear hx2 hg2
  go_wp2_with (refine wpList_copy_splice rfl (.tmp 31) (.tmp 32) 33 33 rfl 3 Tryd.underlying33 sizeInt1 (some ⟨w1.heap.size, 0, none⟩) (some ⟨b, o, none⟩) c c 1 1 rfl rfl w1.heap.size 0 (rpCells v 0 c) 3 hblk (List.replicate 1 (.int .i64 v)) (by show _ = min 1 c; simp; omega) (fun _ => ⟨rfl, ⟨b, o, none⟩, rfl, fun j u hj => by
      have : j = 0 := by have := (List.getElem?_eq_some_iff.1 hj).1; simpa using this
      subst this
      simp at hj
      subst hj
      simpa [Addr.add] using HX2.out⟩) (by rw [rpCells_len _ _ _ (Nat.zero_le _)]; simp; omega) (rpOne v 1) w1.heap.size w1 HB2.out (Nat.le_refl _) ?_)
  intro w4 h4 hb4
  have HB4 := Lib.hid hb4
  have HC4 : Hid (w4.heap[w1.heap.size]? = some (.cells (rpCells v 1 c).toArray 3 (0, 0))) := by
    have e := rpCells_splice v 0 c 1 (by omega)
    rw [Nat.zero_add] at e
    rw [← e]
    exact h4.out
  clear h4 hb4 HB2 HX2 hblk hlt
  obtain ⟨g, hg⟩ : ∃ g, w1.heap.size = g := ⟨_, rfl⟩
  have HG := Lib.hid hg
  rw [hg] at HC4 ⊢
  clear hg
  go_wp2_with fail
  go_loopg [8] (c - 1) (fun gk nv wr => ∃ n : Nat, n + gk = c ∧ 1 ≤ n ∧ nv = .int .i64 n ∧ Hid (wr.heap[g]? = some (.cells (rpCells v n c).toArray 3 (0, 0))) ∧ Hid (Below w1.heap.size w1 wr))
  case atStart => exact ⟨1, by omega, by omega, rfl, HC4, HB4⟩
  case round =>
    obtain ⟨n, hng, hn1, rfl, HC, HB⟩ := hrel
    by_cases hnc : n = c
    · subst hnc
      clear hng
      go_wp2_with fail
      go_ret
      exact ⟨g, rfl, by have := HG.out; omega, by rw [← show rpCells v n n = List.replicate n (.int .i64 v) by simp [rpCells]]; exact HC.out, HB.out⟩
    · have hlt : (n : Int) < (c : Int) := by omega
      have HNG := Lib.hid hng
      clear hng
      obtain ⟨m, hm⟩ : ∃ m, min n (c - n) = m := ⟨_, rfl⟩
      have hm1 : 1 ≤ m := by omega
      have hm2 : m ≤ n := by omega
      have hm3 : n + m ≤ c := by omega
      obtain ⟨X1, hX1⟩ : ∃ X, List.replicate m (Value.int .i64 v) = X := ⟨_, rfl⟩
      obtain ⟨X2, hX2⟩ : ∃ X, rpCells v n c = X := ⟨_, rfl⟩
      have hl1 : X1.length = m := by rw [← hX1]; simp
      have hl2 : X2.length = c := by rw [← hX2]; exact rpCells_len v n c (by omega)
      have ho1 : ∀ u ∈ X1, u.oneCell' = true := by rw [← hX1]; exact rpOne v m
      have hsrc : ∀ (w' : World), w'.heap[g]? = some (.cells X2.toArray 3 (0, 0)) → ∀ j u, X1[j]? = some u → w'.cell? ((⟨g, 0, none⟩ : Addr).add j) = some u := fun w' h j u hj => by
        have hjm : j < m := by rw [← hl1]; exact (List.getElem?_eq_some_iff.1 hj).1
        rw [← hX1, List.getElem?_replicate, if_pos hjm] at hj
        rw [Addr.add_lit, Nat.zero_add, Lib.cell_of_heap h]
        simp only [List.getElem?_toArray]
        rw [← hX2, rpCells_one v n c j (by omega)]
        exact hj
      have hsp : Hid (splice X2 n X1 = rpCells v (n + m) c) := by rw [← hX1, ← hX2]; exact rpCells_splice v n c m hm3
      have HSR := Lib.hid hsrc
      have HO1 := Lib.hid ho1
      have hmm : Hid (X1.length = Nat.min n (c - n)) := by rw [hl1]; exact hm.symm
      rw [hX2] at HC
      have hcn : ¬ c = n := fun e => hnc e.symm
      have hle : (n : Int) ≤ (c : Int) := by omega
      clear hX1 hX2 hsrc ho1 hm hnc
      go_wp2_with fail
      go_region_law (refine step_copy_splice rfl (.tmp 41) (.tmp 44) 33 33 rfl 3 Tryd.underlying33 sizeInt1 (some ⟨g, n, none⟩) (some ⟨g, 0, none⟩) (c - n) (c - n) n c (by simp [Act.eval, Act.put]) (by simp [Act.eval, Act.put]) g n X2 3 HC.out X1 hmm.out (fun _ => ⟨rfl, ⟨g, 0, none⟩, rfl, HSR.out _ HC.out⟩) (by rw [hl1, hl2]; omega) HO1.out w1.heap.size w1 HB.out.drew (by have := HG.out; omega) ?_; intro w5 h5 hb5)
      have hwr : IntKind.i64.wrap ((n : Int) + (m : Int)) = (n : Int) + (m : Int) := by rw [IntKind.wrap_i64]; omega
      have HW := Lib.hid hwr
      have H5 : Hid (w5.heap[g]? = some (.cells (rpCells v (n + m) c).toArray 3 (0, 0))) := by rw [← hsp.out]; exact h5.out
      have HB5 := Lib.hid hb5
      clear h5 hb5
      rw [hwr]
      clear hwr
      go_wp2_with fail
      go_roundg (c - (n + m))
      case rel => exact ⟨n + m, by omega, by omega, congrArg (Value.int .i64) (by omega), H5, HB5⟩
      case measure => have := HNG.out; omega
end Go.Proofs.YtgkioompcmgmdaaDoor
