/-
  What SameBytes, and PutInt of package codec and of the document's answer return (gens90.py writes this text). Conditions: all bytes together number at most 2^47.
-/
import Derived.Test.YtadikcioacaphaaWalkPs
namespace Go.Proofs.Ytadikcioacaphaa
open Go.RowKit

/-- A slice of bytes. -/
def BOut (w : World) (v : Value) (bs : List Nat) : Prop := ∃ A c, v = .slice A bs.length c ∧ bs.length ≤ c ∧ RwAt w 1 (bC bs) A bs.length ∧ (A = none → c = 0) ∧ (∀ a, A = some a → a.spot = none ∧ a.block < w.heap.size) ∧ c ≤ 9223372036854775807
theorem BOut.below {w w' : World} {v : Value} {bs : List Nat} (h : BOut w v bs) (hb : Below w.heap.size w w') : BOut w' v bs := by
  obtain ⟨A, c, e, h1, h2, h3, h4, h5⟩ := h
  exact ⟨A, c, e, h1, h2.below (by decide) hb, h3, fun a ha => ⟨(h4 a ha).1, Nat.lt_of_lt_of_le (h4 a ha).2 hb.size⟩, h5⟩
theorem Buf.out {base : Nat} {w : World} {v : Value} {bs : List Nat} (h : Buf base w v bs) (hb : base ≤ w.heap.size) (hl : bs.length ≤ 140737488355328) : BOut w v bs := by
  rcases h with h | ⟨b, o, rfl, hr, hlt⟩
  · obtain ⟨A, c, rfl⟩ := own_slice h
    refine ⟨A, c, rfl, ?_, RwAt.own h, ?_, fun a ha => ?_, ?_⟩
    · rcases h.2 with ⟨e, h0⟩ | ⟨g, cap, cur, e, _, _, hle, _⟩
      · injection e with _ _ e3; omega
      · injection e with _ _ e3; omega
    · rcases h.2 with ⟨e, h0⟩ | ⟨g, cap, cur, e, _⟩
      · injection e with _ _ e3; intro _; exact e3
      · injection e with e1 _ _; intro h; rw [h] at e1; cases e1
    · rcases h.2 with ⟨e, h0⟩ | ⟨g, cap, cur, e, _, hg, _⟩
      · injection e with e1 _ _; rw [ha] at e1; cases e1
      · injection e with e1 _ _
        rw [ha] at e1
        injection e1 with e1
        subst e1
        exact ⟨rfl, lt_of_block hg⟩
    · rcases h.2 with ⟨e, h0⟩ | ⟨g, cap, cur, e, _, _, _, hcm, _⟩
      · injection e with _ _ e3; omega
      · injection e with _ _ e3; unfold maxLen at hcm; omega
  · exact ⟨_, _, rfl, Nat.le_refl _, hr, fun h => (by cases h), fun a ha => (by cases ha; exact ⟨rfl, Nat.lt_of_lt_of_le hlt hb⟩), by omega⟩
/-- What a call gives that puts bytes. -/
def PO (bs : List Nat) (w : World) (e : Ending) (w' : World) : Prop := ∃ v, e = .returned v ∧ BOut w' v bs ∧ Below w.heap.size w w'
theorem BufPost.out {v : Value} {bs : List Nat} {w w' : World} {e : Ending} (h : BufPost w.heap.size v bs w e w') (hl : bs.length ≤ 140737488355328) : PO bs w e w' := by
  obtain ⟨v', rfl, h1, h2, _⟩ := h
  exact ⟨v', rfl, h1.out h2.size hl, h2.below (Nat.le_refl _)⟩

theorem RwAt.byte' {w : World} {bs : List Nat} {A : Option Addr} {n : Nat} (h : RwAt w 1 (bC bs) A n) {k : Nat} (hk : k < n) : ∃ b o, A = some ⟨b, o, none⟩ ∧ w.cell? ⟨b, o + k, none⟩ = some (.int .u8 (bs.getD k 0 : Nat)) := by
  obtain ⟨b, o, hA, hc⟩ := h.2 (by omega)
  have hl := h.1
  rw [bC_len, Nat.mul_one] at hl
  refine ⟨b, o, hA, hc k _ ?_⟩
  rw [bC, List.getElem?_map, List.getD_eq_getElem?_getD, List.getElem?_eq_getElem (by omega)]
  rfl

set_option maxHeartbeats 1000000 in
set_option maxRecDepth 100000 in
theorem sameBytes_any (bs : List Nat) (v1 v2 : Value) (w : World) (h1 : BOut w v1 bs) (h2 : BOut w v2 bs) (hl : bs.length ≤ 140737488355328) :
    Calls Try.prog 11 #[v1, v2] w fun e w' => e = .returned (.bool true) ∧ Below w.heap.size w w' := by
  obtain ⟨A, c, rfl, _, hA, _⟩ := h1
  obtain ⟨A2, c2, rfl, _, hA2, _⟩ := h2
  obtain ⟨n, hn⟩ : ∃ n, bs.length = n := ⟨_, rfl⟩
  rw [hn] at hA hA2 hl
  simp only [hn]
  have H1 := Lib.hid hA
  have H2 := Lib.hid hA2
  have hne : ((n : Int) != (n : Int)) = false := by simp
  clear hA hA2 hn
  go_enter Try.func11, Try.ntmps11
  go_wp2_with fail
  go_loopg [5] n (fun g i wr => ∃ k : Nat, k + g = n ∧ i = .int .i64 k ∧ Hid (Below w.heap.size w wr))
  case atStart => exact ⟨0, by omega, rfl, Below.refl _ _⟩
  case round =>
    obtain ⟨k, hkg, rfl, HB⟩ := hrel
    cases gk with
    | zero =>
      have hkn : k = n := by omega
      subst hkn
      have hkk : ¬ (k : Int) < (k : Int) := by omega
      clear hkg
      go_wp2_with fail
      go_ret
      exact ⟨rfl, HB.out⟩
    | succ g =>
      have hlt : (k : Int) < (n : Int) := by omega
      have hkn : k < n := by omega
      obtain ⟨b, o, rfl, x1⟩ := (H1.out.below (by decide) HB.out).byte' hkn
      obtain ⟨b2, o2, rfl, x2⟩ := (H2.out.below (by decide) HB.out).byte' hkn
      obtain ⟨x, hx⟩ : ∃ x, bs.getD k 0 = x := ⟨_, rfl⟩
      rw [hx] at x1 x2
      have hb1 := World.block_lt_of_cell? _ _ x1
      have hb2 := World.block_lt_of_cell? _ _ x2
      have hxx : ((x : Int) != (x : Int)) = false := by simp
      have HG := Lib.hid hkg
      clear hx hkg
      go_wp2_with fail
      go_quiet (fail)
      have HR : Hid (Below w.heap.size w (wr.drewN nq)) := HB.out.trans (below_drewN (Below.refl _ _) _)
      clear x1 x2
      go_wp2_with fail
      go_roundg g
      case rel => exact ⟨k + 1, by have := HG.out; omega, by go_num, HR⟩
      case measure => omega

set_option maxHeartbeats 400000 in
set_option maxRecDepth 100000 in
theorem putInt_cod (bs : List Nat) (v : Value) (z : Int) (w : World) (h : BOut w v bs) (hz : I64 z) (hl : (bs ++ bytZ z).length ≤ 140737488355328) :
    Calls Try.prog 12 #[v, .int .i64 z] w (PO (bs ++ bytZ z) w) := by
  obtain ⟨A, c, rfl, hc, hr, hnil, hsp, hc9⟩ := h
  have hbuf : (∃ b o, A = some ⟨b, o, none⟩ ∧ Buf w.heap.size w (.slice (some ⟨b, o, none⟩) bs.length bs.length) bs) ∨ (A = none ∧ c = 0 ∧ bs = [] ∧ Buf w.heap.size w (.slice none 0 0) []) := by
    cases A with
    | some a =>
      obtain ⟨b, o, sp⟩ := a
      have := (hsp _ rfl)
      obtain ⟨h1, h2⟩ := this
      cases h1
      exact .inl ⟨b, o, rfl, .inr ⟨b, o, rfl, hr, h2⟩⟩
    | none =>
      have hm : bs.length = 0 := by
        rcases Nat.eq_zero_or_pos bs.length with h0 | h0
        · exact h0
        · obtain ⟨_, _, e, _⟩ := hr.2 h0
          cases e
      have hb : bs = [] := List.eq_nil_of_length_eq_zero hm
      subst hb
      exact .inr ⟨rfl, hnil rfl, rfl, .inl (World.ownsRow_nil _ _ _ _)⟩
  clear hr hnil hsp
  rcases hbuf with ⟨b, o, rfl, hbuf⟩ | ⟨rfl, rfl, rfl, hbuf⟩
  · have hb9 : w.heap.size ≤ w.heap.size := Nat.le_refl _
    have HP := Lib.hid (putNumber_any w.heap.size bs _ z w hbuf hz hb9 hl)
    have HL := Lib.hid hl
    clear hbuf hz hl hb9
    go_enter Try.func12, Try.ntmps12
    go_wp2_with fail
    refine (clip_some _ _ _ _ _ hc).mono ?_
    rintro e w' ⟨rfl, rfl⟩
    go_wp2_with fail
    refine HP.out.mono ?_
    intro e w9 hp
    obtain ⟨v', rfl, ho⟩ := hp.out HL.out
    have HO := Lib.hid ho
    clear hp ho
    go_wp2_with fail
    go_ret
    exact ⟨_, rfl, HO.out⟩
  · have hb9 : w.heap.size ≤ w.heap.size := Nat.le_refl _
    have HP := Lib.hid (putNumber_any w.heap.size [] _ z w hbuf hz hb9 hl)
    have HL := Lib.hid hl
    clear hbuf hz hl hb9
    go_enter Try.func12, Try.ntmps12
    go_wp2_with fail
    refine (clip_none _).mono ?_
    rintro e w' ⟨rfl, rfl⟩
    go_wp2_with fail
    refine HP.out.mono ?_
    intro e w9 hp
    obtain ⟨v', rfl, ho⟩ := hp.out HL.out
    have HO := Lib.hid ho
    clear hp ho
    go_wp2_with fail
    go_ret
    exact ⟨_, rfl, HO.out⟩

/-- 'append' of bytes to no bytes. -/
theorem wpList_append_bytes {w : World} {ops : Array Oper} {rest : List Oper} {o : Oper} {a : Act} {Q : Exit → Act → World → Prop} (hg : o.guard = none) (s x : Operand)
    (hop : o.op = Op.call { callee := Callee.builtin Builtin.append, args := #[s, x], argTypes := #[22, 22] })
    (bs : List Nat) (hs : a.eval s = .slice none 0 0) (A : Option Addr) (n c : Nat) (hn : n = bs.length) (hx : a.eval x = .slice A n c) (hr : RwAt w 1 (bC bs) A n) (hnil : A = none → c = 0) (hl : n ≤ 140737488355328)
    (h : ∀ v' w', Buf w.heap.size w' v' bs → Below w.heap.size w w' → wpList Try.prog ops Q rest (a.put o.dst v') w') :
    wpList Try.prog ops Q (o :: rest) a w := by
  subst hn
  obtain ⟨i0, hi, hz, h1, h2⟩ := info_parts infoB
  have hown := World.ownsRow_nil w w.heap.size 5 1
  cases A with
  | none =>
    have hm : bs.length = 0 := by
      rcases Nat.eq_zero_or_pos bs.length with h0 | h0
      · exact h0
      · obtain ⟨_, _, e, _⟩ := hr.2 h0
        cases e
    have hc := hnil rfl
    subst hc
    have hb : bs = [] := List.eq_nil_of_length_eq_zero hm
    subst hb
    refine wpList_append_own_none hg s x 22 hop w.heap.size 5 i0 1 Try.underlying22 hi (.slice none 0 0) 0 [] hs hown hx (h _ w (.inl hown) (Below.refl _ _))
  | some ad =>
    refine wpList_append_own_at _ hg s x 22 hop w.heap.size 5 i0 _ 1 1 Try.underlying22 hi hz h1 h2 rfl (by decide) (.slice none 0 0) 0 [] hs hown ad bs.length c (bC bs) hx (by rw [bC_len, Nat.mul_one]) (fun j u hj => ?_) (bC_one bs) (by unfold maxLen; omega) (by omega) (Nat.le_refl _) fun v' w' h2 h3 _ h5 => h v' w' (.inl ?_) ?_
    · have hjl := (List.getElem?_eq_some_iff.1 hj).1
      rw [bC_len] at hjl
      obtain ⟨b, o', e, hc⟩ := hr.2 (by omega)
      cases e
      rw [Addr.add_lit]
      exact hc j u hj
    · simpa using h2
    · exact ⟨h3.os, h3.tape, h3.output, h3.size, fun k hk => h3.block k hk (fun e => by cases e)⟩

set_option maxHeartbeats 2000000 in
set_option maxRecDepth 100000 in
theorem putInt_ref (bs : List Nat) (v : Value) (z : Int) (w : World) (h : BOut w v bs) (hz : I64 z) (hl : (bs ++ bytZ z).length ≤ 140737488355328) :
    Calls Try.prog 13 #[v, .int .i64 z] w (PO (bs ++ bytZ z) w) := by
  obtain ⟨A, c, rfl, hc, hr, hnil, _, _⟩ := h
  obtain ⟨n, hn⟩ : ∃ n, bs.length = n := ⟨_, rfl⟩
  rw [hn] at hr hc
  simp only [hn]
  have HN := Lib.hid hn.symm
  have HR := Lib.hid hr
  have HNIL := Lib.hid hnil
  have HL := Lib.hid hl
  have HZ : Hid (I64 z) := hz
  have hl9 : n ≤ 140737488355328 := by rw [List.length_append, hn] at hl; omega
  obtain ⟨h1, h2⟩ := hz
  clear hr hnil hl hn hc
  by_cases h0 : z < 0
  · have hq : ¬ 0 ≤ z := by omega
    have e1 : IntKind.u64.wrap z = z + 18446744073709551616 := by simp [IntKind.wrap, IntKind.bits, IntKind.signed]; omega
    have e2 : IntKind.u64.wrap ((z + 18446744073709551616) * 2) = (((2 * z + 18446744073709551616).toNat : Nat) : Int) := by simp [IntKind.wrap, IntKind.bits, IntKind.signed]; omega
    obtain ⟨U, hU⟩ : ∃ U, (2 * z + 18446744073709551616).toNat = U := ⟨_, rfl⟩
    have hE : bits .xor .u64 IntKind.u64.max (IntKind.u64.wrap (IntKind.u64.wrap z * 2)) = ((encZ z : Nat) : Int) := by
      rw [e1, e2, show IntKind.u64.max = 18446744073709551615 by decide, b_notM _ (by omega)]
      unfold encZ
      rw [if_neg hq]
      omega
    clear e1 e2 hU hq
    go_enter Try.func13, Try.ntmps13
    go_wp2_with (at_builtin; refine wpList_append_bytes rfl (.const (.slice none 0 0)) (.tmp 14) rfl bs (by simp [Act.eval]) A n c HN.out (by simp [Act.eval]) HR.out HNIL.out hl9 ?_; intro v6 w6 hb6 hbl6; have HB6 := Lib.hid hb6; have HW6 := Lib.hid hbl6; clear hb6 hbl6)
    obtain ⟨u0, hu0⟩ : ∃ x, encZ z = x := ⟨_, rfl⟩
    have HST : Hid (PnSt w.heap.size v6 bs z w6 w6 v6 u0 9) := by
      rw [← hu0]
      exact ⟨⟨bs, BufSt.start HB6.out HW6.out.size, rfl⟩, Nat.lt_of_lt_of_le (encZ_lt HZ.out) (by decide), encZ_lt HZ.out⟩
    simp only [hu0]
    clear hE hu0 h0 h1 h2
    go_loopg [5, 6] 9 (fun g t b wr => ∃ u : Nat, t = .int .u64 u ∧ Hid (PnSt w.heap.size v6 bs z w6 wr b u g))
    case atStart => exact ⟨u0, rfl, HST⟩
    case round =>
      obtain ⟨u, rfl, HP⟩ := hrel
      obtain ⟨bs1, hst, heq⟩ := HP.out.st
      have hle := pn_le heq HL.out
      have HST := Lib.hid hst
      have HEQ := Lib.hid heq
      have HLE := Lib.hid hle
      have h64 := HP.out.lt64
      clear hst heq hle
      by_cases hu : u < 128
      · have hB : btsN gk u = [u] := by cases gk <;> simp [btsN, hu]
        have HBB := Lib.hid hB
        have hu' : ¬ (128 : Int) ≤ (u : Int) := by omega
        have hm : (u : Int) % 256 = u := by omega
        clear hB hu h64
        go_wp2_with (at_builtin; refine wpList_append_byte rfl (.tmp 26) (.tmp 29) rfl w.heap.size v6 _ w6 bs1 (by simp [Act.eval]) wr.heap.size u 1 (by simp [Act.eval]) (byte_at _ _ _) (HST.out.alloc _) HLE.out ?_; intro v9 w9 hst9; have HS9 := Lib.hid hst9; clear hst9)
        have HQ : Hid (PO (bs ++ bytZ z) w (.returned v9) w9) := by
          have e := HEQ.out
          rw [HBB.out] at e
          rw [← e]
          exact ⟨v9, rfl, HS9.out.buf.out HS9.out.size (by rw [e]; exact HL.out), HW6.out.trans (HS9.out.grew.below HW6.out.size)⟩
        go_ret
        exact HQ.out
      · have hu' : (128 : Int) ≤ (u : Int) := by omega
        obtain ⟨y, hy⟩ : ∃ y, u % 128 + 128 = y := ⟨_, rfl⟩
        have hO : bits .or .u8 ((u : Int) % 256) 128 = (y : Int) := by
          rw [show (u : Int) % 256 = ((u % 256 : Nat) : Int) by omega, b_or8 _ (by omega), ← hy]
          omega
        cases gk with
        | zero => exfalso; have := HP.out.lt; omega
        | succ g =>
        have HBB : Hid (btsN (g + 1) u = y :: btsN g (u / 128)) := by show btsN (g + 1) u = _; unfold btsN; rw [if_neg hu, hy]; cases g <;> rfl
        have HLT : Hid (u / 128 < 128 ^ g * 128) := by have := HP.out.lt; rw [Nat.pow_succ] at this; show _ < _; omega
        clear hy hu
        go_wp2_with (at_builtin; refine wpList_append_byte rfl (.tmp 18) (.tmp 22) rfl w.heap.size v6 _ w6 bs1 (by simp [Act.eval]) wr.heap.size y 1 (by simp [Act.eval]) (byte_at _ _ _) (HST.out.alloc _) HLE.out ?_; intro v9 w9 hst9; have HS9 := Lib.hid hst9; clear hst9)
        have HR : Hid (PnSt w.heap.size v6 bs z w6 w9 v9 (u / 128) g) := ⟨⟨_, HS9.out, by rw [List.append_assoc, List.singleton_append, ← HBB.out]; exact HEQ.out⟩, HLT.out, by omega⟩
        go_roundg g
        case rel => exact ⟨u / 128, by go_num, HR⟩
        case measure => omega
  · have hE : z * 2 = ((encZ z : Nat) : Int) := by unfold encZ; rw [if_pos (by omega)]; omega
    go_enter Try.func13, Try.ntmps13
    go_wp2_with (at_builtin; refine wpList_append_bytes rfl (.const (.slice none 0 0)) (.tmp 14) rfl bs (by simp [Act.eval]) A n c HN.out (by simp [Act.eval]) HR.out HNIL.out hl9 ?_; intro v6 w6 hb6 hbl6; have HB6 := Lib.hid hb6; have HW6 := Lib.hid hbl6; clear hb6 hbl6)
    obtain ⟨u0, hu0⟩ : ∃ x, encZ z = x := ⟨_, rfl⟩
    have HST : Hid (PnSt w.heap.size v6 bs z w6 w6 v6 u0 9) := by
      rw [← hu0]
      exact ⟨⟨bs, BufSt.start HB6.out HW6.out.size, rfl⟩, Nat.lt_of_lt_of_le (encZ_lt HZ.out) (by decide), encZ_lt HZ.out⟩
    simp only [hu0]
    clear hE hu0 h0 h1 h2
    go_loopg [5, 6] 9 (fun g t b wr => ∃ u : Nat, t = .int .u64 u ∧ Hid (PnSt w.heap.size v6 bs z w6 wr b u g))
    case atStart => exact ⟨u0, rfl, HST⟩
    case round =>
      obtain ⟨u, rfl, HP⟩ := hrel
      obtain ⟨bs1, hst, heq⟩ := HP.out.st
      have hle := pn_le heq HL.out
      have HST := Lib.hid hst
      have HEQ := Lib.hid heq
      have HLE := Lib.hid hle
      have h64 := HP.out.lt64
      clear hst heq hle
      by_cases hu : u < 128
      · have hB : btsN gk u = [u] := by cases gk <;> simp [btsN, hu]
        have HBB := Lib.hid hB
        have hu' : ¬ (128 : Int) ≤ (u : Int) := by omega
        have hm : (u : Int) % 256 = u := by omega
        clear hB hu h64
        go_wp2_with (at_builtin; refine wpList_append_byte rfl (.tmp 26) (.tmp 29) rfl w.heap.size v6 _ w6 bs1 (by simp [Act.eval]) wr.heap.size u 1 (by simp [Act.eval]) (byte_at _ _ _) (HST.out.alloc _) HLE.out ?_; intro v9 w9 hst9; have HS9 := Lib.hid hst9; clear hst9)
        have HQ : Hid (PO (bs ++ bytZ z) w (.returned v9) w9) := by
          have e := HEQ.out
          rw [HBB.out] at e
          rw [← e]
          exact ⟨v9, rfl, HS9.out.buf.out HS9.out.size (by rw [e]; exact HL.out), HW6.out.trans (HS9.out.grew.below HW6.out.size)⟩
        go_ret
        exact HQ.out
      · have hu' : (128 : Int) ≤ (u : Int) := by omega
        obtain ⟨y, hy⟩ : ∃ y, u % 128 + 128 = y := ⟨_, rfl⟩
        have hO : bits .or .u8 ((u : Int) % 256) 128 = (y : Int) := by
          rw [show (u : Int) % 256 = ((u % 256 : Nat) : Int) by omega, b_or8 _ (by omega), ← hy]
          omega
        cases gk with
        | zero => exfalso; have := HP.out.lt; omega
        | succ g =>
        have HBB : Hid (btsN (g + 1) u = y :: btsN g (u / 128)) := by show btsN (g + 1) u = _; unfold btsN; rw [if_neg hu, hy]; cases g <;> rfl
        have HLT : Hid (u / 128 < 128 ^ g * 128) := by have := HP.out.lt; rw [Nat.pow_succ] at this; show _ < _; omega
        clear hy hu
        go_wp2_with (at_builtin; refine wpList_append_byte rfl (.tmp 18) (.tmp 22) rfl w.heap.size v6 _ w6 bs1 (by simp [Act.eval]) wr.heap.size y 1 (by simp [Act.eval]) (byte_at _ _ _) (HST.out.alloc _) HLE.out ?_; intro v9 w9 hst9; have HS9 := Lib.hid hst9; clear hst9)
        have HR : Hid (PnSt w.heap.size v6 bs z w6 w9 v9 (u / 128) g) := ⟨⟨_, HS9.out, by rw [List.append_assoc, List.singleton_append, ← HBB.out]; exact HEQ.out⟩, HLT.out, by omega⟩
        go_roundg g
        case rel => exact ⟨u / 128, by go_num, HR⟩
        case measure => omega
end Go.Proofs.Ytadikcioacaphaa
