/-
  What slices.Clip, putNumber and putNumbers of package codec return: the bytes of numbers behind others. Conditions: all bytes together number at most 2^47; the list of numbers lies beside the bytes.
-/
import Derived.Test.YtadikcioacaphaaWalkBf
import Derived.Test.YtadikcioacaphaaWalkBt
namespace Go.Proofs.Ytadikcioacaphaa
open Go.RowKit

set_option maxHeartbeats 400000 in
theorem clip_some (b o n c : Nat) (w : World) (hn : n ≤ c) :
    Calls Try.prog 31 #[.slice (some ⟨b, o, none⟩) n c] w fun e w' => e = .returned (.slice (some ⟨b, o, none⟩) n n) ∧ w' = w := by
  go_enter Try.func31, Try.ntmps31
  go_wp2
  go_ret
  exact ⟨rfl, rfl⟩
set_option maxHeartbeats 400000 in
theorem clip_none (w : World) :
    Calls Try.prog 31 #[.slice none 0 0] w fun e w' => e = .returned (.slice none 0 0) ∧ w' = w := by
  go_enter Try.func31, Try.ntmps31
  go_wp2
  go_ret
  exact ⟨rfl, rfl⟩

/-- On the way of a number: g groups at most are left of u. -/
structure PnSt (base : Nat) (v0 : Value) (bs0 : List Nat) (z : Int) (w0 w : World) (v : Value) (u g : Nat) : Prop where
  st : ∃ bs, BufSt base v0 w0 w v bs ∧ bs ++ btsN g u = bs0 ++ bytZ z
  lt : u < 128 ^ g * 128
  lt64 : u < 18446744073709551616
theorem pn_le {bs0 bs : List Nat} {z : Int} {u g : Nat} (h : bs ++ btsN g u = bs0 ++ bytZ z) (hl : (bs0 ++ bytZ z).length ≤ 140737488355328) : bs.length + 1 ≤ 140737488355328 := by
  have h1 := (btsN_len g u).1
  have h2 := congrArg List.length h
  simp only [List.length_append] at h2 hl
  omega
theorem byte_at (w : World) (x : Nat) (T : TypeId) : (w.alloc (.cells #[.int .u8 (x : Nat)] T)).cell? ⟨w.heap.size, 0, none⟩ = some (.int .u8 (x : Nat)) := new_cell w _ T 0 _ rfl
/-- 'append' of one byte. -/
theorem wpList_append_byte {w : World} {ops : Array Oper} {rest : List Oper} {o : Oper} {a : Act} {Q : Exit → Act → World → Prop} (hg : o.guard = none) (s x : Operand)
    (hop : o.op = Op.call { callee := Callee.builtin Builtin.append, args := #[s, x], argTypes := #[22, 22] })
    (base : Nat) (v0 v : Value) (w0 : World) (bs : List Nat) (hs : a.eval s = v) (b : Nat) (y c : Nat) (hx : a.eval x = .slice (some ⟨b, 0, none⟩) 1 c) (hy : w.cell? ⟨b, 0, none⟩ = some (.int .u8 (y : Nat)))
    (hst : BufSt base v0 w0 w v bs) (hl : bs.length + 1 ≤ 140737488355328)
    (h : ∀ v' w', BufSt base v0 w0 w' v' (bs ++ [y]) → wpList Try.prog ops Q rest (a.put o.dst v') w') :
    wpList Try.prog ops Q (o :: rest) a w := by
  refine wpList_plain hg fun K hK => ?_
  obtain ⟨v', w', hr, ho, hgr, hm⟩ := run_append_buf o.type hst.buf hst.size hl ⟨b, 0, none⟩ c y hy rfl
  unfold Oper.wp execOp
  simp only [hop, resolve, invoke, builtin, Sem.run_bind, Sem.run_pure, Result.andThen_ok, List.map_toArray, List.map_cons, List.map_nil, hs, hx, hr]
  exact hK _ _ (h v' w' (hst.next (.inl ho) hgr hm))

set_option maxHeartbeats 1000000 in
set_option maxRecDepth 100000 in
theorem putNumber_any (base : Nat) (bs : List Nat) (v : Value) (z : Int) (w : World) (hb : Buf base w v bs) (hz : I64 z) (hbase : base ≤ w.heap.size) (hl : (bs ++ bytZ z).length ≤ 140737488355328) :
    Calls Try.prog 30 #[v, .int .i64 z] w (BufPost base v (bs ++ bytZ z) w) := by
  have HB : Hid (PnSt base v bs z w w v (encZ z) 9) := ⟨⟨bs, BufSt.start hb hbase, rfl⟩, Nat.lt_of_lt_of_le (encZ_lt hz) (by decide), encZ_lt hz⟩
  have HL := Lib.hid hl
  have HZ : Hid (I64 z) := hz
  obtain ⟨h1, h2⟩ := hz
  clear hb hl
  by_cases h0 : 0 ≤ z
  · have hq : z / 9223372036854775808 = 0 := by omega
    have hE := enc_pos h0 HZ.out
    go_enter Try.func30, Try.ntmps30
    go_wp2_with fail
    obtain ⟨u0, hu0⟩ : ∃ x, encZ z = x := ⟨_, rfl⟩
    rw [hu0] at HB
    simp only [hu0]
    clear hq hE hu0 h0 h1 h2 hbase
    go_loopg [0, 5] 9 (fun g b t wr => ∃ u : Nat, t = .int .u64 u ∧ Hid (PnSt base v bs z w wr b u g))
    case atStart => exact ⟨u0, rfl, HB⟩
    case round =>
      obtain ⟨u, rfl, HP⟩ := hrel
      obtain ⟨bs1, hst, heq⟩ := HP.out.st
      have hle := pn_le heq HL.out
      have HST := Lib.hid hst
      have HEQ := Lib.hid heq
      have HLE := Lib.hid hle
      have h64 := HP.out.lt64
      clear hst heq hle
      by_cases hu : u < 128
      · have hB : btsN gk u = [u] := by cases gk <;> simp [btsN, hu]
        have HBB := Lib.hid hB
        have hu' : ¬ (128 : Int) ≤ (u : Int) := by omega
        have hm : (u : Int) % 256 = u := by omega
        clear hB hu h64
        go_wp2_with (at_builtin; refine wpList_append_byte rfl (.tmp 23) (.tmp 26) rfl base v _ w bs1 (by simp [Act.eval]) wr.heap.size u 1 (by simp [Act.eval]) (byte_at _ _ _) (HST.out.alloc _) HLE.out ?_; intro v9 w9 hst9; have HS9 := Lib.hid hst9; clear hst9)
        have HQ : Hid (BufPost base v (bs ++ bytZ z) w (.returned v9) w9) := by
          have e := HEQ.out
          rw [HBB.out] at e
          rw [← e]
          exact HS9.out.post
        go_ret
        exact HQ.out
      · have hu' : (128 : Int) ≤ (u : Int) := by omega
        obtain ⟨y, hy⟩ : ∃ y, u % 128 + 128 = y := ⟨_, rfl⟩
        have hO : bits .or .u8 ((u : Int) % 256) 128 = (y : Int) := by
          rw [show (u : Int) % 256 = ((u % 256 : Nat) : Int) by omega, b_or8 _ (by omega), ← hy]
          omega
        have HY := Lib.hid hy
        cases gk with
        | zero => exfalso; have := HP.out.lt; omega
        | succ g =>
        have HBB : Hid (btsN (g + 1) u = y :: btsN g (u / 128)) := by show btsN (g + 1) u = _; unfold btsN; rw [if_neg hu, hy]; cases g <;> rfl
        have HLT : Hid (u / 128 < 128 ^ g * 128) := by have := HP.out.lt; rw [Nat.pow_succ] at this; show _ < _; omega
        clear hy hu
        go_wp2_with (at_builtin; refine wpList_append_byte rfl (.tmp 17) (.tmp 21) rfl base v _ w bs1 (by simp [Act.eval]) wr.heap.size y 1 (by simp [Act.eval]) (byte_at _ _ _) (HST.out.alloc _) HLE.out ?_; intro v9 w9 hst9; have HS9 := Lib.hid hst9; clear hst9)
        have HR : Hid (PnSt base v bs z w w9 v9 (u / 128) g) := ⟨⟨_, HS9.out, by rw [List.append_assoc, List.singleton_append, ← HBB.out]; exact HEQ.out⟩, HLT.out, by omega⟩
        go_roundg g
        case rel => exact ⟨u / 128, by go_num, HR⟩
        case measure => omega
  · have hq : z / 9223372036854775808 = -1 := by omega
    have hE := enc_neg h0 HZ.out
    go_enter Try.func30, Try.ntmps30
    go_wp2_with fail
    obtain ⟨u0, hu0⟩ : ∃ x, encZ z = x := ⟨_, rfl⟩
    rw [hu0] at HB
    simp only [hu0]
    clear hq hE hu0 h0 h1 h2 hbase
    go_loopg [0, 5] 9 (fun g b t wr => ∃ u : Nat, t = .int .u64 u ∧ Hid (PnSt base v bs z w wr b u g))
    case atStart => exact ⟨u0, rfl, HB⟩
    case round =>
      obtain ⟨u, rfl, HP⟩ := hrel
      obtain ⟨bs1, hst, heq⟩ := HP.out.st
      have hle := pn_le heq HL.out
      have HST := Lib.hid hst
      have HEQ := Lib.hid heq
      have HLE := Lib.hid hle
      have h64 := HP.out.lt64
      clear hst heq hle
      by_cases hu : u < 128
      · have hB : btsN gk u = [u] := by cases gk <;> simp [btsN, hu]
        have HBB := Lib.hid hB
        have hu' : ¬ (128 : Int) ≤ (u : Int) := by omega
        have hm : (u : Int) % 256 = u := by omega
        clear hB hu h64
        go_wp2_with (at_builtin; refine wpList_append_byte rfl (.tmp 23) (.tmp 26) rfl base v _ w bs1 (by simp [Act.eval]) wr.heap.size u 1 (by simp [Act.eval]) (byte_at _ _ _) (HST.out.alloc _) HLE.out ?_; intro v9 w9 hst9; have HS9 := Lib.hid hst9; clear hst9)
        have HQ : Hid (BufPost base v (bs ++ bytZ z) w (.returned v9) w9) := by
          have e := HEQ.out
          rw [HBB.out] at e
          rw [← e]
          exact HS9.out.post
        go_ret
        exact HQ.out
      · have hu' : (128 : Int) ≤ (u : Int) := by omega
        obtain ⟨y, hy⟩ : ∃ y, u % 128 + 128 = y := ⟨_, rfl⟩
        have hO : bits .or .u8 ((u : Int) % 256) 128 = (y : Int) := by
          rw [show (u : Int) % 256 = ((u % 256 : Nat) : Int) by omega, b_or8 _ (by omega), ← hy]
          omega
        have HY := Lib.hid hy
        cases gk with
        | zero => exfalso; have := HP.out.lt; omega
        | succ g =>
        have HBB : Hid (btsN (g + 1) u = y :: btsN g (u / 128)) := by show btsN (g + 1) u = _; unfold btsN; rw [if_neg hu, hy]; cases g <;> rfl
        have HLT : Hid (u / 128 < 128 ^ g * 128) := by have := HP.out.lt; rw [Nat.pow_succ] at this; show _ < _; omega
        clear hy hu
        go_wp2_with (at_builtin; refine wpList_append_byte rfl (.tmp 17) (.tmp 21) rfl base v _ w bs1 (by simp [Act.eval]) wr.heap.size y 1 (by simp [Act.eval]) (byte_at _ _ _) (HST.out.alloc _) HLE.out ?_; intro v9 w9 hst9; have HS9 := Lib.hid hst9; clear hst9)
        have HR : Hid (PnSt base v bs z w w9 v9 (u / 128) g) := ⟨⟨_, HS9.out, by rw [List.append_assoc, List.singleton_append, ← HBB.out]; exact HEQ.out⟩, HLT.out, by omega⟩
        go_roundg g
        case rel => exact ⟨u / 128, by go_num, HR⟩
        case measure => omega
end Go.Proofs.Ytadikcioacaphaa
