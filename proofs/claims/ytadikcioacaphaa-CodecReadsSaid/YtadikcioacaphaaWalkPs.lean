/-
  What putNumbers of package codec returns: the bytes of numbers behind others. Conditions: all bytes together number at most 2^47; the list of numbers lies beside the bytes.
-/
import Derived.Test.YtadikcioacaphaaWalkPn
namespace Go.Proofs.Ytadikcioacaphaa
open Go.RowKit

theorem bytL_append (a b : List Int) : bytL (a ++ b) = bytL a ++ bytL b := by
  induction a with
  | nil => rfl
  | cons x a ih => simp [bytL, ih]
theorem bytL_take (zs : List Int) {k : Nat} (h : k < zs.length) : bytL (zs.take (k + 1)) = bytL (zs.take k) ++ bytZ (zs.getD k 0) := by
  rw [List.take_succ_eq_append_getElem h, bytL_append, List.getD_eq_getElem?_getD, List.getElem?_eq_getElem h]
  simp [bytL]
theorem bytL_le (zs : List Int) (k : Nat) : (bytL (zs.take k)).length ≤ (bytL zs).length := by
  conv => rhs; rw [← List.take_append_drop k zs]
  rw [bytL_append, List.length_append]
  omega
theorem getD_in {zs : List Int} (h : ∀ z ∈ zs, I64 z) {k : Nat} (hk : k < zs.length) : I64 (zs.getD k 0) := by
  rw [List.getD_eq_getElem?_getD, List.getElem?_eq_getElem hk]
  exact h _ (List.getElem_mem hk)
theorem RwAt.int {w : World} {zs : List Int} {A : Option Addr} {n : Nat} (h : RwAt w 1 (zs.map (Value.int .i64)) A n) {k : Nat} (hk : k < n) : ∃ b o, A = some ⟨b, o, none⟩ ∧ w.cell? ⟨b, o + k, none⟩ = some (.int .i64 (zs.getD k 0)) := by
  obtain ⟨b, o, hA, hc⟩ := h.2 (by omega)
  have hl := h.1
  rw [List.length_map, Nat.mul_one] at hl
  refine ⟨b, o, hA, hc k _ ?_⟩
  rw [List.getElem?_map, List.getD_eq_getElem?_getD, List.getElem?_eq_getElem (by omega)]
  rfl

set_option maxHeartbeats 1000000 in
set_option maxRecDepth 100000 in
theorem putNumbers_any (base : Nat) (bs : List Nat) (v : Value) (zs : List Int) (A : Option Addr) (n c : Nat) (w : World) (hb : Buf base w v bs) (hz : RwAt w 1 (zs.map (Value.int .i64)) A n) (ha : Away base v A) (hi : ∀ z ∈ zs, I64 z) (hbase : base ≤ w.heap.size) (hl : (bs ++ bytL zs).length ≤ 140737488355328) (hn : n ≤ 1000000) :
    Calls Try.prog 54 #[v, .slice A n c] w (BufPost base v (bs ++ bytL zs) w) := by
  have HN : Hid (zs.length = n) := by have := hz.1; rw [List.length_map] at this; show _ = _; omega
  have HST : Hid (BufSt base v w w v (bs ++ bytL (zs.take 0))) := BufSt.start (by simpa [bytL] using hb) hbase
  have HL := Lib.hid hl
  have HZ := Lib.hid hz
  have HA := Lib.hid ha
  have HI := Lib.hid hi
  clear hb hz ha hi hbase hl
  go_enter Try.func54, Try.ntmps54
  go_wp2_with fail
  go_loopg [0, 9] n (fun g b i wr => ∃ k : Nat, k + g = n ∧ i = .int .i64 k ∧ Hid (BufSt base v w wr b (bs ++ bytL (zs.take k))))
  case atStart => exact ⟨0, by omega, rfl, HST⟩
  case round =>
    obtain ⟨k, hkg, rfl, HP⟩ := hrel
    cases gk with
    | zero =>
      have hkn : k = n := by omega
      subst hkn
      have hkk : ¬ (k : Int) < (k : Int) := by omega
      have hq := HP.out.post
      rw [List.take_of_length_le (by rw [HN.out]; exact Nat.le_refl _)] at hq
      have HQ := Lib.hid hq
      clear hq
      clear hkg
      go_wp2_with fail
      go_ret
      exact HQ.out
    | succ g =>
      have hlt : (k : Int) < (n : Int) := by omega
      obtain ⟨b, o, rfl, hcell⟩ := (HZ.out.grew (by decide) HP.out.grew HA.out).int (k := k) (by omega)
      obtain ⟨z, hzz⟩ : ∃ z, zs.getD k 0 = z := ⟨_, rfl⟩
      rw [hzz] at hcell
      have HZZ := Lib.hid hzz
      have hbw := World.block_lt_of_cell? wr _ hcell
      have HTK : Hid (bytL (zs.take (k + 1)) = bytL (zs.take k) ++ bytZ z) := by rw [← hzz]; exact bytL_take zs (by rw [HN.out]; omega)
      have HZI : Hid (I64 z) := by rw [← hzz]; exact getD_in HI.out (by rw [HN.out]; omega)
      have HLL : Hid (((bs ++ bytL (zs.take k)) ++ bytZ z).length ≤ 140737488355328) := by
        have h1 := HL.out
        have h2 := bytL_le zs (k + 1)
        rw [HTK.out] at h2
        simp only [List.length_append] at h1 h2
        show _ ≤ _
        simp only [List.length_append]
        omega
      have HG := Lib.hid hkg
      clear hzz hkg
      go_wp2_with fail
      refine (putNumber_any base _ _ z _ HP.out.buf HZI.out HP.out.size HLL.out).mono ?_
      intro e w9 hp
      obtain ⟨v9, rfl, hs9⟩ := HP.out.step hp
      have HS9 : Hid (BufSt base v w w9 v9 (bs ++ bytL (zs.take (k + 1)))) := by show BufSt _ _ _ _ _ _; rw [HTK.out, ← List.append_assoc]; exact hs9
      clear hp hs9
      go_wp2_with fail
      go_roundg g
      case rel => exact ⟨k + 1, by have := HG.out; omega, by go_num, HS9⟩
      case measure => omega
end Go.Proofs.Ytadikcioacaphaa
