/-
  What read of package codec returns for numbers: the value at an offset and the offset behind it, or the error that was thrown. Conditions: at most 2^40 bytes.
-/
import Derived.Test.YtadikcioacaphaaWalkLp8
import Derived.Defers
import Derived.Recover
namespace Go.Proofs.Ytadikcioacaphaa
open Go.RowKit

theorem box1' {w : World} {n : Nat} {c0 : Value} {T : TypeId} {fr : Nat × Nat} (h : w.heap[n]? = some (.cells #[c0] T fr)) : w.cell? ⟨n, 0, none⟩ = some c0 := by rw [Lib.cell_of_heap h]; rfl
/-- A value at an offset. -/
def rdS {α : Type} (f : List Nat → RR α) (bs : List Nat) (k : Int) : RR α := if k < 0 ∨ (bs.length : Int) < k then .err 3 else f (bs.drop k.toNat)
/-- What Int, Event, Det, Pages and State return. -/
def RD {α : Type} (V : World → α → Value → Prop) (zero : Value) (bs : List Nat) (r : RR α) (w : World) (e : Ending) (w' : World) : Prop :=
  match r with
  | .ok a t => ∃ v, e = .returned (.tuple #[v, .int .i64 ((bs.length : Int) - t.length), .int .i64 0]) ∧ V w' a v ∧ t.length ≤ bs.length ∧ Below w.heap.size w w'
  | .err k => e = .returned (.tuple #[zero, .int .i64 0, .int .i64 k]) ∧ Below w.heap.size w w'
/-- A slice of bytes that came in. -/
structure BsIn (B : Nat) (w : World) (bs : List Nat) (A : Option Addr) (n c : Nat) : Prop where
  len : n = bs.length
  cap : n ≤ c
  row : RwAt w 1 (bC bs) A n
  lt : ∀ b o, A = some ⟨b, o, none⟩ → b < B
  nil : A = none → c = 0
  spot : ∀ a, A = some a → a.spot = none
  le : ∀ b ∈ bs, b ≤ 255
  le40 : n ≤ 1099511627776
theorem BsIn.below {B : Nat} {w w' : World} {bs : List Nat} {A : Option Addr} {n c : Nat} (h : BsIn B w bs A n c) (hb : Below B w w') : BsIn B w' bs A n c := by
  refine ⟨h.len, h.cap, ⟨h.row.1, fun h0 => ?_⟩, h.lt, h.nil, h.spot, h.le, h.le40⟩
  obtain ⟨b, o, hA, hc⟩ := h.row.2 h0
  exact ⟨b, o, hA, hc.of_block (hb.block b (h.lt b o hA))⟩
theorem BsIn.rd {B : Nat} {w : World} {bs : List Nat} {A : Option Addr} {n c k : Nat} (h : BsIn B w bs A n c) (hB : B ≤ w.heap.size) (hk : k ≤ n) (T : TypeId) :
    RdSt w.heap.size (w.alloc (.cells #[.slice A n c, .int .i64 (k : Nat)] T)) bs (bs.drop k) := by
  have hn := h.len
  subst hn
  refine ⟨⟨A, c, new_cell w _ T 0 _ rfl, h.cap, ⟨h.row.1, fun h0 => ?_⟩, fun b o e => Nat.lt_of_lt_of_le (h.lt b o e) hB⟩, ⟨k, hk, new_cell w _ T 1 _ rfl, rfl⟩, Lib.frozen_of_heap (new_blk w _) 1, h.le, h.le40⟩
  obtain ⟨b, o, hA, hc⟩ := h.row.2 h0
  exact ⟨b, o, hA, hc.of_block (alloc_blk _ _ (Nat.lt_of_lt_of_le (h.lt b o hA) hB))⟩
theorem rdS_in {α : Type} {f : List Nat → RR α} {bs : List Nat} {k : Nat} (h : k ≤ bs.length) : rdS f bs k = f (bs.drop k) := by
  unfold rdS; rw [if_neg (by omega), Int.toNat_natCast]
theorem rdS_out {α : Type} {f : List Nat → RR α} {bs : List Nat} {k : Int} (h : k < 0 ∨ (bs.length : Int) < k) : rdS f bs k = .err 3 := by
  unfold rdS; rw [if_pos h]

theorem at_drew {w w5 : World} {n : Nat} (h : ∀ i, n ≤ i → w.heap[i]? = w5.heap[i]?) : ∀ i, n ≤ i → w.drew.heap[i]? = w5.heap[i]? := h
theorem any_ok {α : Type} {R f : Nat} {bs rest r : List Nat} {V : World → α → Value → Prop} {S : List Nat → RR α} {a : α} {w : World} {args : Array Value} (h : Calls Try.prog f args w (RP R bs V (S rest) w)) (hn : S rest = .ok a r) :
    Calls Try.prog f args w fun e w' => ∃ v, e = .returned v ∧ V w' a v ∧ RdSt R w' bs r ∧ Keep R w w' := by
  rw [hn] at h
  exact h
theorem any_err {α : Type} {R f : Nat} {bs rest : List Nat} {V : World → α → Value → Prop} {S : List Nat → RR α} {ke : Nat} {w : World} {args : Array Value} (h : Calls Try.prog f args w (RP R bs V (S rest) w)) (hn : S rest = .err ke) :
    Calls Try.prog f args w fun e w' => e = .panicked [thrown ke] ∧ Keep R w w' := by
  rw [hn] at h
  exact h
theorem VList.up {T : TypeId} {k b b' : Nat} {w w' : World} {zs : List Int} {v : Value} (h : VList T k b w zs v) (hb : ∀ i, b ≤ i → w'.heap[i]? = w.heap[i]?) (hle : b' ≤ b) : VList T k b' w' zs v := by
  obtain ⟨n, h1, h2, h3⟩ := h
  exact ⟨n, h1, h2, own_base (own_blk h3 fun i hi => hb i (h3.lt i hi).1) hle⟩
theorem VState.up {b b' : Nat} {w w' : World} {s : S4} {v : Value} (h : VState b w s v) (hb : ∀ i, b ≤ i → w'.heap[i]? = w.heap[i]?) (hle : b' ≤ b) : VState b' w' s v := by
  obtain ⟨x, y, z, t, e, h1, h2, h3, h4⟩ := h
  exact ⟨x, y, z, t, e, h1.up hb hle, h2.up hb hle, h3.up hb hle, h4.up hb hle⟩
theorem VPages.up {b b' : Nat} {w w' : World} {ps : List Pg} {v : Value} (h : VPages b w ps v) (hb : ∀ i, b ≤ i → w'.heap[i]? = w.heap[i]?) (hle : b' ≤ b) : VPages b' w' ps v := by
  obtain ⟨h1, ss, h2, h3⟩ := h
  exact ⟨h1, ss, own_base (own_blk h2 fun i hi => hb i (h2.lt i hi).1) hle, h3.still fun i hi _ => ⟨⟨Nat.le_trans hle hi.1, hi.2⟩, hb i hi.1⟩⟩

set_option maxHeartbeats 1000000 in
set_option maxRecDepth 100000 in
theorem catchI_thrown (b n : Nat) (y : Int) (w : World) (c6 : w.cell? ⟨b, 0, none⟩ = some (.int .i64 y)) (f6 : w.frozen? ⟨b, 0, none⟩ = false) :
    CallsD Try.prog 51 #[.pointer (some ⟨b, 0, none⟩)] (.panicking [thrown n]) w fun e u' w' =>
      e = .returned (.tuple #[]) ∧ u' = .panicking [{ thrown n with recovered := true }] ∧ w' = (w.setCell ⟨b, 0, none⟩ (.int .i64 n)).alloc (.cells #[.int .i64 n] 87) := by
  have h6 : b < w.heap.size := World.block_lt_of_cell? w _ c6
  have hta : ∀ w, (Instr.typeAssert (.iface 87 (.agg #[.int .i64 n])) 20 87 true).run Try.prog w = .ok (.tuple #[.agg #[.int .i64 n], .bool true]) w := fun w => by kernel_rfl
  refine callsD_of_wpS Try.func51 rfl fun c₀ cs hu => ?_
  apply wpS_seq
  apply wpS_region
  simp [wpOpsS, go_sem, recoverD, hu, Try.ntmps51, Exit.thenS, thrown]
  refine wpS_of_wp ?_
  go_wp2_with fail
  cases c₀
  simp_all [bodyPostS, results, Try.results51]

theorem catchI_idle (b : Nat) (w : World) :
    CallsD Try.prog 51 #[.pointer (some ⟨b, 0, none⟩)] .returning w fun e u' w' => e = .returned (.tuple #[]) ∧ u' = .returning ∧ w' = w := by
  refine callsD_of_wpS Try.func51 rfl fun c₀ cs hu => ?_
  apply wpS_seq
  apply wpS_region
  simp [wpOpsS, go_sem, recoverD, hu, Try.ntmps51, Exit.thenS]
  refine wpS_of_wp ?_
  go_wp2_with fail
  cases c₀
  simp_all [bodyPostS, results, Try.results51]

set_option maxHeartbeats 2000000 in
set_option maxRecDepth 100000 in
theorem readI_any (B : Nat) (bs : List Nat) (A : Option Addr) (n c : Nat) (k : Int) (w : World) (h : BsIn B w bs A n c) (hB : B ≤ w.heap.size) :
    Calls Try.prog 26 #[.slice A n c, .int .i64 k, .func (.func 27) #[] #[]] w (RD VInt (.int .i64 0) bs (rdS numS bs k) w) := by
  have hmf : ∀ (fn : Fn) (first cap : Array Value) (w : World), (Instr.makeFunc fn first cap).run Try.prog w = .ok (.func fn first cap) w := fun _ _ _ _ => rfl
  have HLE := Lib.hid h.len
  have hn40 := h.le40
  obtain ⟨nb, hnb⟩ : ∃ x, w.heap.size = x := ⟨_, rfl⟩
  obtain ⟨W, hW⟩ : ∃ x, (w.alloc (.cells #[.int .i64 0] 26)) = x := ⟨_, rfl⟩
  have hb0 : Below w.heap.size w W := by rw [← hW]; exact rp_one1 _ _
  have hzs : W.heap.size = nb + 1 := by rw [← hW, new_size, hnb]
  have HZ0 : Hid (W.heap[nb]? = some (.cells #[.int .i64 0] 26 (0, 0))) := by show _ = _; rw [← hW, ← hnb]; exact new_blk _ _
  have HB0 := Lib.hid hb0
  have HNB := Lib.hid hnb
  have HH := Lib.hid (h.below (hb0.mono hB))
  have HBN : Hid (B ≤ nb + 1) := by show _ ≤ _; omega
  have HZS := Lib.hid hzs
  clear h hb0
  by_cases hout : k < 0 ∨ (n : Int) < k
  · have HQ : Hid (∀ w', Below w.heap.size w w' → RD VInt (.int .i64 0) bs (rdS numS bs k) w (.returned (.tuple #[.int .i64 0, .int .i64 0, .int .i64 3])) w') := fun w' hb => by
      show RD _ _ _ _ _ _ _
      rw [rdS_out (by rw [← HLE.out]; exact hout)]
      exact ⟨rfl, hb⟩
    have d0 := box1' HZ0.out
    have g0 := frz8 HZ0.out 0
    have hzz : nb < W.heap.size := lt_of_block HZ0.out
    have HQ3 := Lib.hid (HQ.out _ (HB0.out.setCell (p := ⟨nb, 0, none⟩) (by show _ ≤ nb; omega) (.int .i64 3)))
    by_cases h0 : k < 0
    · clear hout hB hzs HQ
      go_enter_defers Try.func26, Try.ntmps26
      go_wp2_with fail
      exact ⟨.tuple #[.int .i64 0, .int .i64 0, .int .i64 3], by simp [results, Try.results26, go_sem, World.cell?_setCell_same, d0], HQ3.out⟩
    · have h1 : (n : Int) < k := by omega
      clear hout hB hzs HQ
      go_enter_defers Try.func26, Try.ntmps26
      go_wp2_with fail
      exact ⟨.tuple #[.int .i64 0, .int .i64 0, .int .i64 3], by simp [results, Try.results26, go_sem, World.cell?_setCell_same, d0], HQ3.out⟩
  obtain ⟨kk, rfl⟩ : ∃ kk : Nat, k = (kk : Int) := ⟨k.toNat, by omega⟩
  have hk0 : ¬ (kk : Int) < 0 := by omega
  have hkn : ¬ (n : Int) < (kk : Int) := by omega
  have HRD : Hid (RdSt (nb + 1) (W.alloc (.cells #[.slice A n c, .int .i64 (kk : Nat)] 90)) bs (bs.drop kk)) := by
    have := HH.out.rd (k := kk) (by rw [HZS.out]; exact HBN.out) (by omega) 90
    rwa [hzs] at this
  have HZR := Lib.hid (below_blk (rp_one1 W (.cells #[.slice A n c, .int .i64 (kk : Nat)] 90)) HZ0.out)
  have HBR := Lib.hid (HB0.out.trans ((rp_one1 W (.cells #[.slice A n c, .int .i64 (kk : Nat)] 90)).mono HB0.out.size))
  have HRS : Hid (rdS numS bs (kk : Int) = numS (bs.drop kk)) := rdS_in (by rw [← HLE.out]; omega)
  clear hout hB
  cases hn : numS (bs.drop kk) with
  | err ke =>
    have HN := Lib.hid hn
    have HQ : Hid (∀ w', Below w.heap.size w w' → RD VInt (.int .i64 0) bs (rdS numS bs kk) w (.returned (.tuple #[.int .i64 0, .int .i64 0, .int .i64 ke])) w') := fun w' hb => by
      show RD _ _ _ _ _ _ _
      rw [HRS.out, HN.out]
      exact ⟨rfl, hb⟩
    clear hn
    go_enter_defers Try.func26, Try.ntmps26
    go_wp2_with fail
    try simp only [hzs]
    refine (number_err HRD.out HN.out).mono ?_
    rintro e w5 ⟨rfl, hk⟩
    have hz5 := hk.blk HZR.out (by omega)
    have c5 := box1' hz5
    have f5 := frz8 hz5 0
    have HB5 := Lib.hid (HBR.out.trans (hk.below (B := w.heap.size) HBR.out.size (by omega)))
    clear hz5 hk
    go_wp2_with fail
    refine leaves_cons (f := 51) (args := #[.pointer (some ⟨nb, 0, none⟩)]) (by simp) (by simp [go_sem]) ?_
    refine (catchI_thrown nb ke 0 w5 c5 f5).mono ?_
    rintro e u' w'' ⟨rfl, rfl, rfl⟩
    have hzz : nb < w5.heap.size := World.block_lt_of_cell? _ _ c5
    have HQ3 := Lib.hid (HQ.out _ ((HB5.out.setCell (p := ⟨nb, 0, none⟩) (by show _ ≤ nb; omega) (.int .i64 ke)).alloc (by rw [set_size]; exact HB5.out.size) (.cells #[.int .i64 ke] 87)))
    exact ⟨.tuple #[.int .i64 0, .int .i64 0, .int .i64 ke], by simp [results, Try.results26, go_sem, World.cell?_setCell_same, c5, hzz], HQ3.out⟩
  | ok z r =>
    have HN := Lib.hid hn
    clear hn
    go_enter_defers Try.func26, Try.ntmps26
    go_wp2_with fail
    try simp only [hzs]
    refine (number_ok HRD.out HN.out).mono ?_
    rintro e w5 ⟨rfl, hst, hk⟩
    have hz5 := hk.blk HZR.out (by omega)
    have c5 := box1' hz5
    have f5 := frz8 hz5 0
    obtain ⟨A5, q5, k5, n5, x0, x1, hkn5, hn5, hrl, hRl, hnb5⟩ := hst.at
    have HB5 := Lib.hid (HBR.out.trans (hk.below (B := w.heap.size) HBR.out.size (by omega)))
    have HQ : Hid (∀ w', Below w.heap.size w w' → RD VInt (.int .i64 0) bs (rdS numS bs kk) w (.returned (.tuple #[.int .i64 z, .int .i64 (k5 : Nat), .int .i64 0])) w') := fun w' hb => by
      show RD _ _ _ _ _ _ _
      rw [HRS.out, HN.out]
      exact ⟨_, by rw [show ((bs.length : Int) - r.length) = (k5 : Int) by omega], rfl, by omega, hb⟩
    have hzz : nb < w5.heap.size := World.block_lt_of_cell? _ _ c5
    clear hz5 hk hst hrl hnb5
    go_wp2_with fail
    go_region
    go_wp2_with fail
    refine leaves_cons (f := 51) (args := #[.pointer (some ⟨nb, 0, none⟩)]) (by simp) (by simp [go_sem]) ?_
    refine (catchI_idle nb _).mono ?_
    rintro e u' w'' ⟨rfl, rfl, rfl⟩
    exact ⟨.tuple #[.int .i64 z, .int .i64 k5, .int .i64 0], by simp [results, Try.results26, go_sem, World.cell?_setCell_same, c5], HQ.out _ ((HB5.out.setCell (p := ⟨nb, 0, none⟩) (by show _ ≤ nb; omega) (.int .i64 0)).drew)⟩
end Go.Proofs.Ytadikcioacaphaa
