/-
  What putList of package codec returns for numbers, events, sends and outputs: the bytes of their number and of the numbers of all of them, behind others (gens80.py writes this text). Conditions: all bytes together number at most 2^47; at most 2^40 elements.
-/
import Derived.Test.YtadikcioacaphaaWalkPd
namespace Go.Proofs.Ytadikcioacaphaa
open Go.RowKit

/-- Element i of elements of k numbers. -/
def rowS (k : Nat) (zs : List Int) (i : Nat) : List Int := (zs.drop (k * i)).take k
theorem rowS_len {k i : Nat} {zs : List Int} (h : k * i + k ≤ zs.length) : (rowS k zs i).length = k := by simp [rowS]; omega
theorem take_rowS (k i : Nat) (zs : List Int) : zs.take (k * (i + 1)) = zs.take (k * i) ++ rowS k zs i := by
  rw [Nat.mul_add, Nat.mul_one, List.take_add]; rfl
theorem rowS_in {k i : Nat} {zs : List Int} (h : ∀ z ∈ zs, I64 z) : ∀ z ∈ rowS k zs i, I64 z := fun z hz => h z (List.mem_of_mem_drop (List.mem_of_mem_take hz))
theorem RwAt.rowZ {w : World} {zs : List Int} {A : Option Addr} {n k : Nat} (h : RwAt w k (zs.map (Value.int .i64)) A n) (i : Nat) (hi : i < n) : ∃ b o, A = some ⟨b, o, none⟩ ∧ (∀ j x, (rowS k zs i)[j]? = some x → w.cell? ⟨b, o + i * k + j, none⟩ = some (.int .i64 x)) ∧ (rowS k zs i).length = k := by
  obtain ⟨b, o, hA, hc⟩ := h.2 (by omega)
  have hl := h.1
  rw [List.length_map] at hl
  have h2 : k * i + k ≤ zs.length := by rw [hl, ← Nat.mul_succ, Nat.mul_comm n]; exact Nat.mul_le_mul_left _ hi
  refine ⟨b, o, hA, fun j x hj => ?_, rowS_len h2⟩
  have hjk : j < k := by
    have := (List.getElem?_eq_some_iff.1 hj).1
    rw [rowS_len h2] at this; exact this
  unfold rowS at hj
  rw [List.getElem?_take_of_lt hjk, List.getElem?_drop] at hj
  rw [Nat.add_assoc]
  refine hc (i * k + j) _ ?_
  rw [List.getElem?_map, Nat.mul_comm i, hj]; rfl
theorem len1' {l : List Int} (h : l.length = 1) : ∃ a0, l = [a0] := by
  match l, h with
  | [a0], _ => exact ⟨a0, rfl⟩
theorem bytL_one (a : Int) : bytL [a] = bytZ a := by simp [bytL]
theorem put_le {bs : List Nat} {k i n : Nat} {zs : List Int} (hl : (bs ++ bytR n zs).length ≤ 140737488355328) : ((bs ++ bytZ n ++ bytL (zs.take (k * i))) ++ bytL (rowS k zs i)).length ≤ 140737488355328 := by
  have h2 := bytL_le zs (k * (i + 1))
  rw [take_rowS, bytL_append] at h2
  unfold bytR at hl
  simp only [List.length_append] at hl h2 ⊢
  omega
theorem len7' {l : List Int} (h : l.length = 7) : ∃ a0 a1 a2 a3 a4 a5 a6, l = [a0, a1, a2, a3, a4, a5, a6] := by
  match l, h with
  | [a0, a1, a2, a3, a4, a5, a6], _ => exact ⟨a0, a1, a2, a3, a4, a5, a6, rfl⟩
theorem len4' {l : List Int} (h : l.length = 4) : ∃ a0 a1 a2 a3, l = [a0, a1, a2, a3] := by
  match l, h with
  | [a0, a1, a2, a3], _ => exact ⟨a0, a1, a2, a3, rfl⟩
theorem len2' {l : List Int} (h : l.length = 2) : ∃ a0 a1, l = [a0, a1] := by
  match l, h with
  | [a0, a1], _ => exact ⟨a0, a1, rfl⟩

set_option maxHeartbeats 1000000 in
set_option maxRecDepth 100000 in
theorem putInts_any (base : Nat) (bs : List Nat) (v : Value) (zs : List Int) (A : Option Addr) (n c : Nat) (w : World) (hb : Buf base w v bs) (hz : RwAt w 1 (zs.map (Value.int .i64)) A n) (ha : Away base v A) (hi : ∀ z ∈ zs, I64 z) (hbase : base ≤ w.heap.size) (hl : (bs ++ bytR n zs).length ≤ 140737488355328) (hn : n ≤ 1099511627776) :
    Calls Try.prog 55 #[v, .slice A n c, (.func (.func 30) #[] #[])] w (BufPost base v (bs ++ bytR n zs) w) := by
  have HN : Hid (zs.length = 1 * n) := by have := hz.1; rw [List.length_map] at this; show _ = _; omega
  have hst := BufSt.start hb hbase
  have HST0 := Lib.hid hst
  have HL := Lib.hid hl
  have HL0 : Hid ((bs ++ bytZ n).length ≤ 140737488355328) := by unfold bytR at hl; simp only [List.length_append] at hl; show _ ≤ _; simp only [List.length_append]; omega
  have HZ := Lib.hid hz
  have HA := Lib.hid ha
  have HI := Lib.hid hi
  have HNI : Hid (I64 (n : Int)) := by constructor <;> omega
  clear hb hz ha hi hbase hl hst
  go_enter Try.func55, Try.ntmps55
  go_wp2_with fail
  refine (putNumber_any base bs v n _ HST0.out.buf HNI.out HST0.out.size HL0.out).mono ?_
  intro e w1 hp
  obtain ⟨v1, rfl, hs1⟩ := HST0.out.step hp
  have HS1 : Hid (BufSt base v w w1 v1 (bs ++ bytZ n ++ bytL (zs.take (1 * 0)))) := by show BufSt _ _ _ _ _ _; simpa [bytL] using hs1
  clear hp hs1
  go_wp2_with fail
  go_loopg [0, 15] n (fun g b i wr => ∃ k : Nat, k + g = n ∧ i = .int .i64 k ∧ Hid (BufSt base v w wr b (bs ++ bytZ n ++ bytL (zs.take (1 * k)))))
  case atStart => exact ⟨0, by omega, rfl, HS1⟩
  case round =>
    obtain ⟨k, hkg, rfl, HP⟩ := hrel
    cases gk with
    | zero =>
      have hkn : k = n := by omega
      subst hkn
      have hkk : ¬ (k : Int) < (k : Int) := by omega
      have hq := HP.out.post
      rw [List.take_of_length_le (by rw [HN.out]; exact Nat.le_refl _), List.append_assoc] at hq
      have HQ : Hid (BufPost base v (bs ++ bytR k zs) w _ _) := hq
      clear hq hkg
      go_wp2_with fail
      go_ret
      exact HQ.out
    | succ g =>
      have hlt : (k : Int) < (n : Int) := by omega
      obtain ⟨b, o, rfl, hcell, hlen⟩ := (HZ.out.grew (by decide) HP.out.grew HA.out).rowZ k (by omega)
      obtain ⟨a0, hrow⟩ := len1' hlen
      rw [hrow] at hcell
      have HRI : Hid (∀ z ∈ [a0], I64 z) := by have := rowS_in (k := 1) (i := k) HI.out; rw [hrow] at this; exact this
      have HRL := Lib.hid (put_le (k := 1) (i := k) HL.out)
      have HTK : Hid (bytL (zs.take (1 * (k + 1))) = bytL (zs.take (1 * k)) ++ bytL [a0]) := by show _ = _; rw [take_rowS, bytL_append, hrow]
      rw [hrow] at HRL
      have y0 := hcell 0 _ rfl
      simp only [Nat.add_zero, Nat.mul_one] at y0
      have hbw := World.block_lt_of_cell? _ _ y0
      have HG := Lib.hid hkg
      clear hrow hcell hlen hkg
      go_wp2_with fail
      refine (putNumber_any base _ _ a0 _ HP.out.buf (HRI.out a0 (List.mem_cons_self ..)) HP.out.size (by have := HRL.out; rwa [bytL_one] at this)).mono ?_
      intro e w9 hp
      obtain ⟨v9, rfl, hs9⟩ := HP.out.step hp
      have HS9 : Hid (BufSt base v w w9 v9 (bs ++ bytZ n ++ bytL (zs.take (1 * (k + 1))))) := by show BufSt _ _ _ _ _ _; rw [HTK.out, bytL_one, ← List.append_assoc]; exact hs9
      clear hp hs9
      go_wp2_with fail
      go_roundg g
      case rel => exact ⟨k + 1, by have := HG.out; omega, by go_num, HS9⟩
      case measure => omega

set_option maxHeartbeats 1000000 in
set_option maxRecDepth 100000 in
theorem putEvents_any (base : Nat) (bs : List Nat) (v : Value) (zs : List Int) (A : Option Addr) (n c : Nat) (w : World) (hb : Buf base w v bs) (hz : RwAt w 7 (zs.map (Value.int .i64)) A n) (ha : Away base v A) (hi : ∀ z ∈ zs, I64 z) (hbase : base ≤ w.heap.size) (hl : (bs ++ bytR n zs).length ≤ 140737488355328) (hn : n ≤ 1099511627776) :
    Calls Try.prog 56 #[v, .slice A n c, (.func (.func 32) #[] #[])] w (BufPost base v (bs ++ bytR n zs) w) := by
  have HN : Hid (zs.length = 7 * n) := by have := hz.1; rw [List.length_map] at this; show _ = _; omega
  have hst := BufSt.start hb hbase
  have HST0 := Lib.hid hst
  have HL := Lib.hid hl
  have HL0 : Hid ((bs ++ bytZ n).length ≤ 140737488355328) := by unfold bytR at hl; simp only [List.length_append] at hl; show _ ≤ _; simp only [List.length_append]; omega
  have HZ := Lib.hid hz
  have HA := Lib.hid ha
  have HI := Lib.hid hi
  have HNI : Hid (I64 (n : Int)) := by constructor <;> omega
  clear hb hz ha hi hbase hl hst
  go_enter Try.func56, Try.ntmps56
  go_wp2_with fail
  refine (putNumber_any base bs v n _ HST0.out.buf HNI.out HST0.out.size HL0.out).mono ?_
  intro e w1 hp
  obtain ⟨v1, rfl, hs1⟩ := HST0.out.step hp
  have HS1 : Hid (BufSt base v w w1 v1 (bs ++ bytZ n ++ bytL (zs.take (7 * 0)))) := by show BufSt _ _ _ _ _ _; simpa [bytL] using hs1
  clear hp hs1
  go_wp2_with fail
  go_loopg [0, 15] n (fun g b i wr => ∃ k : Nat, k + g = n ∧ i = .int .i64 k ∧ Hid (BufSt base v w wr b (bs ++ bytZ n ++ bytL (zs.take (7 * k)))))
  case atStart => exact ⟨0, by omega, rfl, HS1⟩
  case round =>
    obtain ⟨k, hkg, rfl, HP⟩ := hrel
    cases gk with
    | zero =>
      have hkn : k = n := by omega
      subst hkn
      have hkk : ¬ (k : Int) < (k : Int) := by omega
      have hq := HP.out.post
      rw [List.take_of_length_le (by rw [HN.out]; exact Nat.le_refl _), List.append_assoc] at hq
      have HQ : Hid (BufPost base v (bs ++ bytR k zs) w _ _) := hq
      clear hq hkg
      go_wp2_with fail
      go_ret
      exact HQ.out
    | succ g =>
      have hlt : (k : Int) < (n : Int) := by omega
      obtain ⟨b, o, rfl, hcell, hlen⟩ := (HZ.out.grew (by decide) HP.out.grew HA.out).rowZ k (by omega)
      obtain ⟨a0, a1, a2, a3, a4, a5, a6, hrow⟩ := len7' hlen
      rw [hrow] at hcell
      have HRI : Hid (∀ z ∈ [a0, a1, a2, a3, a4, a5, a6], I64 z) := by have := rowS_in (k := 7) (i := k) HI.out; rw [hrow] at this; exact this
      have HRL := Lib.hid (put_le (k := 7) (i := k) HL.out)
      have HTK : Hid (bytL (zs.take (7 * (k + 1))) = bytL (zs.take (7 * k)) ++ bytL [a0, a1, a2, a3, a4, a5, a6]) := by show _ = _; rw [take_rowS, bytL_append, hrow]
      rw [hrow] at HRL
      have y0 := hcell 0 _ rfl
      have y1 := hcell 1 _ rfl
      have y2 := hcell 2 _ rfl
      have y3 := hcell 3 _ rfl
      have y4 := hcell 4 _ rfl
      have y5 := hcell 5 _ rfl
      have y6 := hcell 6 _ rfl
      simp only [Nat.add_zero] at y0
      have hbw := World.block_lt_of_cell? _ _ y0
      have HG := Lib.hid hkg
      clear hrow hcell hlen hkg
      go_wp2_with fail
      refine (putEvent_any base _ _ a0 a1 a2 a3 a4 a5 a6 _ (HP.out.alloc _).buf HRI.out (HP.out.alloc _).size HRL.out).mono ?_
      intro e w9 hp
      obtain ⟨v9, rfl, hs9⟩ := (HP.out.alloc _).step hp
      have HS9 : Hid (BufSt base v w w9 v9 (bs ++ bytZ n ++ bytL (zs.take (7 * (k + 1))))) := by show BufSt _ _ _ _ _ _; rw [HTK.out, ← List.append_assoc]; exact hs9
      clear hp hs9
      go_wp2_with fail
      go_roundg g
      case rel => exact ⟨k + 1, by have := HG.out; omega, by go_num, HS9⟩
      case measure => omega

set_option maxHeartbeats 1000000 in
set_option maxRecDepth 100000 in
theorem putSends_any (base : Nat) (bs : List Nat) (v : Value) (zs : List Int) (A : Option Addr) (n c : Nat) (w : World) (hb : Buf base w v bs) (hz : RwAt w 4 (zs.map (Value.int .i64)) A n) (ha : Away base v A) (hi : ∀ z ∈ zs, I64 z) (hbase : base ≤ w.heap.size) (hl : (bs ++ bytR n zs).length ≤ 140737488355328) (hn : n ≤ 1099511627776) :
    Calls Try.prog 57 #[v, .slice A n c, (.func (.func 58) #[] #[])] w (BufPost base v (bs ++ bytR n zs) w) := by
  have HN : Hid (zs.length = 4 * n) := by have := hz.1; rw [List.length_map] at this; show _ = _; omega
  have hst := BufSt.start hb hbase
  have HST0 := Lib.hid hst
  have HL := Lib.hid hl
  have HL0 : Hid ((bs ++ bytZ n).length ≤ 140737488355328) := by unfold bytR at hl; simp only [List.length_append] at hl; show _ ≤ _; simp only [List.length_append]; omega
  have HZ := Lib.hid hz
  have HA := Lib.hid ha
  have HI := Lib.hid hi
  have HNI : Hid (I64 (n : Int)) := by constructor <;> omega
  clear hb hz ha hi hbase hl hst
  go_enter Try.func57, Try.ntmps57
  go_wp2_with fail
  refine (putNumber_any base bs v n _ HST0.out.buf HNI.out HST0.out.size HL0.out).mono ?_
  intro e w1 hp
  obtain ⟨v1, rfl, hs1⟩ := HST0.out.step hp
  have HS1 : Hid (BufSt base v w w1 v1 (bs ++ bytZ n ++ bytL (zs.take (4 * 0)))) := by show BufSt _ _ _ _ _ _; simpa [bytL] using hs1
  clear hp hs1
  go_wp2_with fail
  go_loopg [0, 15] n (fun g b i wr => ∃ k : Nat, k + g = n ∧ i = .int .i64 k ∧ Hid (BufSt base v w wr b (bs ++ bytZ n ++ bytL (zs.take (4 * k)))))
  case atStart => exact ⟨0, by omega, rfl, HS1⟩
  case round =>
    obtain ⟨k, hkg, rfl, HP⟩ := hrel
    cases gk with
    | zero =>
      have hkn : k = n := by omega
      subst hkn
      have hkk : ¬ (k : Int) < (k : Int) := by omega
      have hq := HP.out.post
      rw [List.take_of_length_le (by rw [HN.out]; exact Nat.le_refl _), List.append_assoc] at hq
      have HQ : Hid (BufPost base v (bs ++ bytR k zs) w _ _) := hq
      clear hq hkg
      go_wp2_with fail
      go_ret
      exact HQ.out
    | succ g =>
      have hlt : (k : Int) < (n : Int) := by omega
      obtain ⟨b, o, rfl, hcell, hlen⟩ := (HZ.out.grew (by decide) HP.out.grew HA.out).rowZ k (by omega)
      obtain ⟨a0, a1, a2, a3, hrow⟩ := len4' hlen
      rw [hrow] at hcell
      have HRI : Hid (∀ z ∈ [a0, a1, a2, a3], I64 z) := by have := rowS_in (k := 4) (i := k) HI.out; rw [hrow] at this; exact this
      have HRL := Lib.hid (put_le (k := 4) (i := k) HL.out)
      have HTK : Hid (bytL (zs.take (4 * (k + 1))) = bytL (zs.take (4 * k)) ++ bytL [a0, a1, a2, a3]) := by show _ = _; rw [take_rowS, bytL_append, hrow]
      rw [hrow] at HRL
      have y0 := hcell 0 _ rfl
      have y1 := hcell 1 _ rfl
      have y2 := hcell 2 _ rfl
      have y3 := hcell 3 _ rfl
      simp only [Nat.add_zero] at y0
      have hbw := World.block_lt_of_cell? _ _ y0
      have HG := Lib.hid hkg
      clear hrow hcell hlen hkg
      go_wp2_with fail
      refine (putSend_any base _ _ a0 a1 a2 a3 _ (HP.out.alloc _).buf HRI.out (HP.out.alloc _).size HRL.out).mono ?_
      intro e w9 hp
      obtain ⟨v9, rfl, hs9⟩ := (HP.out.alloc _).step hp
      have HS9 : Hid (BufSt base v w w9 v9 (bs ++ bytZ n ++ bytL (zs.take (4 * (k + 1))))) := by show BufSt _ _ _ _ _ _; rw [HTK.out, ← List.append_assoc]; exact hs9
      clear hp hs9
      go_wp2_with fail
      go_roundg g
      case rel => exact ⟨k + 1, by have := HG.out; omega, by go_num, HS9⟩
      case measure => omega

set_option maxHeartbeats 1000000 in
set_option maxRecDepth 100000 in
theorem putOutputs_any (base : Nat) (bs : List Nat) (v : Value) (zs : List Int) (A : Option Addr) (n c : Nat) (w : World) (hb : Buf base w v bs) (hz : RwAt w 2 (zs.map (Value.int .i64)) A n) (ha : Away base v A) (hi : ∀ z ∈ zs, I64 z) (hbase : base ≤ w.heap.size) (hl : (bs ++ bytR n zs).length ≤ 140737488355328) (hn : n ≤ 1099511627776) :
    Calls Try.prog 59 #[v, .slice A n c, (.func (.func 60) #[] #[])] w (BufPost base v (bs ++ bytR n zs) w) := by
  have HN : Hid (zs.length = 2 * n) := by have := hz.1; rw [List.length_map] at this; show _ = _; omega
  have hst := BufSt.start hb hbase
  have HST0 := Lib.hid hst
  have HL := Lib.hid hl
  have HL0 : Hid ((bs ++ bytZ n).length ≤ 140737488355328) := by unfold bytR at hl; simp only [List.length_append] at hl; show _ ≤ _; simp only [List.length_append]; omega
  have HZ := Lib.hid hz
  have HA := Lib.hid ha
  have HI := Lib.hid hi
  have HNI : Hid (I64 (n : Int)) := by constructor <;> omega
  clear hb hz ha hi hbase hl hst
  go_enter Try.func59, Try.ntmps59
  go_wp2_with fail
  refine (putNumber_any base bs v n _ HST0.out.buf HNI.out HST0.out.size HL0.out).mono ?_
  intro e w1 hp
  obtain ⟨v1, rfl, hs1⟩ := HST0.out.step hp
  have HS1 : Hid (BufSt base v w w1 v1 (bs ++ bytZ n ++ bytL (zs.take (2 * 0)))) := by show BufSt _ _ _ _ _ _; simpa [bytL] using hs1
  clear hp hs1
  go_wp2_with fail
  go_loopg [0, 15] n (fun g b i wr => ∃ k : Nat, k + g = n ∧ i = .int .i64 k ∧ Hid (BufSt base v w wr b (bs ++ bytZ n ++ bytL (zs.take (2 * k)))))
  case atStart => exact ⟨0, by omega, rfl, HS1⟩
  case round =>
    obtain ⟨k, hkg, rfl, HP⟩ := hrel
    cases gk with
    | zero =>
      have hkn : k = n := by omega
      subst hkn
      have hkk : ¬ (k : Int) < (k : Int) := by omega
      have hq := HP.out.post
      rw [List.take_of_length_le (by rw [HN.out]; exact Nat.le_refl _), List.append_assoc] at hq
      have HQ : Hid (BufPost base v (bs ++ bytR k zs) w _ _) := hq
      clear hq hkg
      go_wp2_with fail
      go_ret
      exact HQ.out
    | succ g =>
      have hlt : (k : Int) < (n : Int) := by omega
      obtain ⟨b, o, rfl, hcell, hlen⟩ := (HZ.out.grew (by decide) HP.out.grew HA.out).rowZ k (by omega)
      obtain ⟨a0, a1, hrow⟩ := len2' hlen
      rw [hrow] at hcell
      have HRI : Hid (∀ z ∈ [a0, a1], I64 z) := by have := rowS_in (k := 2) (i := k) HI.out; rw [hrow] at this; exact this
      have HRL := Lib.hid (put_le (k := 2) (i := k) HL.out)
      have HTK : Hid (bytL (zs.take (2 * (k + 1))) = bytL (zs.take (2 * k)) ++ bytL [a0, a1]) := by show _ = _; rw [take_rowS, bytL_append, hrow]
      rw [hrow] at HRL
      have y0 := hcell 0 _ rfl
      have y1 := hcell 1 _ rfl
      simp only [Nat.add_zero] at y0
      have hbw := World.block_lt_of_cell? _ _ y0
      have HG := Lib.hid hkg
      clear hrow hcell hlen hkg
      go_wp2_with fail
      refine (putOutput_any base _ _ a0 a1 _ (HP.out.alloc _).buf HRI.out (HP.out.alloc _).size HRL.out).mono ?_
      intro e w9 hp
      obtain ⟨v9, rfl, hs9⟩ := (HP.out.alloc _).step hp
      have HS9 : Hid (BufSt base v w w9 v9 (bs ++ bytZ n ++ bytL (zs.take (2 * (k + 1))))) := by show BufSt _ _ _ _ _ _; rw [HTK.out, ← List.append_assoc]; exact hs9
      clear hp hs9
      go_wp2_with fail
      go_roundg g
      case rel => exact ⟨k + 1, by have := HG.out; omega, by go_num, HS9⟩
      case measure => omega
end Go.Proofs.Ytadikcioacaphaa
